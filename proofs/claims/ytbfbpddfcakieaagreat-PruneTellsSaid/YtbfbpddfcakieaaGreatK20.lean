/- Where everything adds up: counted, and all that is used a right tree; and the other way round. No program in sight. Each node that is laid where a tree is made anew: that it can be laid. What Put and Fill answer. -/
import Derived.Test.YtbfbpddfcakieaaGreatK19
namespace Go.Proofs.YtbfbpddfcakieaaGreat
open Go.RowKit

/-- What is held behind so many rounds. -/
def heldB (c : List HC) (root : Int) : Nat → Nat → Bool
  | 0, k => decide ((k : Int) = root)
  | d + 1, k => heldB c root d k || (List.range c.length).any (fun p => heldB c root d p && decide (0 < (tellC (c.getD p HC.none)).count (k : Int)))
def soundB (c : List HC) (root : Int) : Bool := (List.range c.length).all (fun k => decide ((c.getD k HC.none).ref = rootE root (k : Int) + ((inn c (k : Int) : Nat) : Int)) && (heldB c root 25 k == decide (0 < (c.getD k HC.none).ref)))
theorem sound_iff {c : List HC} {root : Int} : soundB c root = true ↔ RC c (rootE root) ∧ ∀ k (hk : k < c.length), (heldB c root 25 k = true ↔ 0 < c[k].ref) := by
  unfold soundB
  rw [range_all]
  constructor
  · intro h
    refine ⟨fun k hk => ?_, fun k hk => ?_⟩
    · have := h k hk
      rw [Bool.and_eq_true, decide_eq_true_eq, getD_at hk] at this
      exact this.1
    · have := h k hk
      rw [Bool.and_eq_true, getD_at hk, beq_iff_eq] at this
      rw [this.2, decide_eq_true_eq]
  · rintro ⟨h1, h2⟩ k hk
    rw [Bool.and_eq_true, decide_eq_true_eq, getD_at hk, beq_iff_eq]
    refine ⟨h1 k hk, ?_⟩
    rw [Bool.eq_iff_iff, decide_eq_true_eq]
    exact h2 k hk
theorem held_step {c : List HC} {root : Int} {d k : Nat} : heldB c root (d + 1) k = true ↔ heldB c root d k = true ∨ ∃ p, ∃ hp : p < c.length, heldB c root d p = true ∧ (k : Int) ∈ tellC c[p] := by
  rw [heldB, Bool.or_eq_true, List.any_eq_true]
  constructor
  · rintro (h | ⟨p, hp, h⟩)
    · exact .inl h
    · have hpl := List.mem_range.1 hp
      rw [Bool.and_eq_true, decide_eq_true_eq, getD_at hpl] at h
      exact .inr ⟨p, hpl, h.1, List.count_pos_iff.1 h.2⟩
  · rintro (h | ⟨p, hp, h1, h2⟩)
    · exact .inl h
    · refine .inr ⟨p, List.mem_range.2 hp, ?_⟩
      rw [Bool.and_eq_true, decide_eq_true_eq, getD_at hp]
      exact ⟨h1, List.count_pos_iff.2 h2⟩
/-- What a right tree's root tells are right trees, less high by one. -/
theorem tell_tree {c : List HC} {keep : Int} (hr : rightH ⟨c, keep⟩ = true) {p : Nat} (hp : p < c.length) (hb : (bel c 20 (p : Int)).is = true) {k : Nat} (h : (k : Int) ∈ tellC c[p]) : k < c.length ∧ (bel c 20 (k : Int)).is = true ∧ (bel c 20 (k : Int)).high + 1 = (bel c 20 (p : Int)).high := by
  have ht := tells_right hr p hp _ h
  have hk : k < c.length := by omega
  unfold tellC at h
  by_cases h0 : 0 < c[p].ref
  · rw [if_pos h0] at h
    obtain ⟨_, hc⟩ := bel_is (m := 19) hb
    rw [cellT_at hp] at hc
    unfold toldL at h
    rcases hc with ⟨hlf, _⟩ | ⟨hlf, _, hch⟩
    · rw [hlf] at h; simp at h
    · rw [hlf, if_neg (by simp)] at h
      obtain ⟨x, hx, hxe⟩ := List.mem_map.1 h
      have h1 := hch x hx
      rw [hxe] at h1
      have h2 := bel_mono c 19 20 (k : Int) h1.1 (by omega)
      exact ⟨hk, by rw [h2]; exact h1.1, by rw [h2]; exact h1.2.2⟩
  · rw [if_neg h0] at h; simp at h
theorem sound_to {c : List HC} {keep root : Int} (hr : rightH ⟨c, keep⟩ = true) (hb : rightR ⟨c, keep⟩ root = true) (h : soundB c root = true) : RC c (rootE root) ∧ AT c := by
  obtain ⟨h1, h2⟩ := sound_iff.1 h
  refine ⟨h1, fun k hk h0 => ?_⟩
  have hind : ∀ d k, heldB c root d k = true → k < c.length → (bel c 20 (k : Int)).is = true := by
    intro d
    induction d with
    | zero =>
      intro k hk hkl
      have e : (k : Int) = root := by simpa [heldB] using hk
      rcases rightR_iff hb with h' | ⟨_, _, h'⟩
      · omega
      · rw [e]; exact h'
    | succ d ih =>
      intro k hk hkl
      rcases held_step.1 hk with h' | ⟨p, hp, h3, h4⟩
      · exact ih k h' hkl
      · exact (tell_tree hr hp (ih p h3 hp) h4).2.1
  exact hind 25 k ((h2 k hk).2 h0) hk
theorem inn_ex {l : List HC} {k : Int} (h : 1 ≤ inn l k) : ∃ j, ∃ hj : j < l.length, k ∈ tellC l[j] := by
  induction l with
  | nil => simp [inn] at h
  | cons x r ih =>
    by_cases hx : k ∈ tellC x
    · exact ⟨0, by simp, hx⟩
    · have h0 : (tellC x).count k = 0 := List.count_eq_zero.2 hx
      have h1 : 1 ≤ inn r k := by
        unfold inn at h ⊢
        rw [List.map_cons, List.sum_cons, h0] at h
        omega
      obtain ⟨j, hj, h2⟩ := ih h1
      exact ⟨j + 1, by simpa using hj, by simpa using h2⟩
theorem held_mono {c : List HC} {root : Int} {k : Nat} : ∀ {d : Nat} (e : Nat), heldB c root d k = true → heldB c root (d + e) k = true
  | _, 0, h => h
  | _, e + 1, h => held_step.2 (.inl (held_mono e h))
theorem sound_of {c : List HC} {keep p : Int} (hr : rightH ⟨c, keep⟩ = true) (h1 : RC c (rootE p)) (h2 : AT c) : soundB c p = true := by
  refine sound_iff.2 ⟨h1, fun k hk => ⟨fun h => ?_, fun h => ?_⟩⟩
  · have hind : ∀ d k, heldB c p d k = true → ∀ hk : k < c.length, 0 < c[k].ref := by
      intro d
      induction d with
      | zero =>
        intro k hkd hkl
        have e : (k : Int) = p := by simpa [heldB] using hkd
        have h3 := h1 k hkl
        unfold rootE at h3
        rw [if_pos e] at h3
        omega
      | succ d ih =>
        intro k hkd hkl
        rcases held_step.1 hkd with h' | ⟨j, hj, _, h4⟩
        · exact ih k h' hkl
        · have h3 := h1 k hkl
          have h5 := inn_pos hj h4
          unfold rootE at h3
          split at h3 <;> omega
    exact hind 25 k h hk
  · have hind : ∀ (d k : Nat) (hk : k < c.length), 0 < c[k].ref → 20 - (bel c 20 (k : Int)).high ≤ (d : Int) → heldB c p d k = true := by
      intro d
      induction d with
      | zero =>
        intro k hkl h0 hd
        by_cases e : (k : Int) = p
        · simpa [heldB] using e
        · exfalso
          have h3 := h1 k hkl
          unfold rootE at h3
          rw [if_neg e] at h3
          obtain ⟨j, hj, h4⟩ := inn_ex (l := c) (k := (k : Int)) (by omega)
          have hju : 0 < c[j].ref := by
            unfold tellC at h4
            by_cases h5 : 0 < c[j].ref
            · exact h5
            · rw [if_neg h5] at h4; simp at h4
          have h6 := (tell_tree hr hj (h2 j hj hju) h4).2.2
          have h7 := (bel_high c 20 (j : Int)).2
          omega
      | succ d ih =>
        intro k hkl h0 hd
        by_cases e : (k : Int) = p
        · have h3 : heldB c p 0 k = true := by simpa [heldB] using e
          have h4 := held_mono (d + 1) h3
          rw [Nat.zero_add] at h4
          exact h4
        · have h3 := h1 k hkl
          unfold rootE at h3
          rw [if_neg e] at h3
          obtain ⟨j, hj, h4⟩ := inn_ex (l := c) (k := (k : Int)) (by omega)
          have hju : 0 < c[j].ref := by
            unfold tellC at h4
            by_cases h5 : 0 < c[j].ref
            · exact h5
            · rw [if_neg h5] at h4; simp at h4
          have h6 := (tell_tree hr hj (h2 j hj hju) h4).2.2
          exact held_step.2 (.inr ⟨j, hj, ih j hj hju (by omega), h4⟩)
    have h3 := bel_pos c (allR_of hr) 20 (k : Int) (by omega) (by omega) (h2 k hk h)
    exact hind 25 k hk h (by omega)
/-- May it be, and does everything add up? -/
def mayT (h : Hp) (root most : Int) : Bool := mayH h most && rightR h root
def fineB (h : Hp) (root most : Int) : Bool := mayT h root most && soundB h.c root
theorem inn_le (k : Int) : ∀ {l : List HC}, (∀ j (hj : j < l.length), l[j].it.length ≤ 10) → inn l k ≤ 10 * l.length
  | [], _ => by simp [inn]
  | x :: r, h => by
    have h1 := inn_le k (l := r) (fun j hj => h (j + 1) (by simpa using hj))
    have h2 := h 0 (by simp)
    simp only [List.getElem_cons_zero] at h2
    have h3 : (tellC x).count k ≤ 10 := by
      refine Nat.le_trans List.count_le_length ?_
      unfold tellC
      split
      · exact Nat.le_trans (told_len _ _) h2
      · simp
    unfold inn at h1 ⊢
    rw [List.map_cons, List.sum_cons, List.length_cons]
    omega
theorem nd_len {c : List HC} {keep : Int} (hr : rightH ⟨c, keep⟩ = true) : ∀ k (hk : k < c.length), c[k].it.length ≤ 4 := fun k hk => by
  have h := (rightH_iff hr).2 k hk
  by_cases h0 : 0 < c[k].ref
  · exact (cell_ok h h0).1.1.2
  · unfold cellR at h
    by_cases h1 : c[k].ref = 0
    · rw [if_pos h1] at h
      simp only [Bool.and_eq_true, decide_eq_true_eq] at h
      omega
    · rw [if_neg h1] at h
      simp only [Bool.and_eq_true, decide_eq_true_eq] at h
      omega
theorem fine_may {h : Hp} {root most : Int} (hf : fineB h root most = true) : mayH h most = true ∧ rightR h root = true ∧ soundB h.c root = true := by
  unfold fineB mayT at hf
  simp only [Bool.and_eq_true] at hf
  exact ⟨hf.1.1, hf.1.2, hf.2⟩
/-- What is put where everything adds up leaves all adding up. -/
theorem fine_put {c : List HC} {keep root most : Int} {x : It} (hmost : most ≤ 60) (hf : fineB ⟨c, keep⟩ root most = true) (hx : okIt x) (hh : highT c root < 20) (hn : 2 * highT c root + 1 ≤ (c.countP freeC : Nat)) :
    ∃ a, PutR c keep root x (putG c root x).1 (putG c root x).2 a ∧ fineB ⟨(putG c root x).1, keep⟩ (putG c root x).2 most = true := by
  obtain ⟨hm, hrr, hs⟩ := fine_may hf
  obtain ⟨m1, m2, m3⟩ := may_iff hm
  obtain ⟨hrc, hat⟩ := sound_to m3 hrr hs
  have hroot : root = -1 ∨ (0 ≤ root ∧ root < c.length ∧ usedC c root = true ∧ (bel c 20 root).is = true) := by
    rcases rightR_iff hrr with h | ⟨h0, h1, h2⟩
    · left
      unfold rightR at hrr
      rw [Bool.or_eq_true, decide_eq_true_eq] at hrr
      rcases hrr with h' | h'
      · exact h'
      · rw [Bool.and_eq_true] at h'
        have h5 : usedC c root = true := h'.1
        rw [usedC_neg h] at h5
        cases h5
    · right
      obtain ⟨k, rfl⟩ := Int.eq_ofNat_of_zero_le h0
      have hk : k < c.length := by have h1' : (k : Int) < c.length := h1; omega
      have h5 : 0 < (cellT c (k : Int)).ref := (bel_is (m := 19) h2).1
      rw [cellT_at hk] at h5
      exact ⟨h0, h1, by rw [usedC_at hk, decide_eq_true h5], h2⟩
  obtain ⟨a, T⟩ : ∃ a, TopR c keep root x (aboveS c root x).1 (aboveS c root x).2 a := by
    rcases hroot with h | ⟨h0, h1, _, h2⟩
    · have hT : highT c root = 0 := by unfold highT; rw [if_pos (by omega)]
      exact (above_none m3 (fun k hk => (m2 k hk).2) hx (by omega) (by omega)).2
    · have hT : highT c root = (bel c 20 root).high := by unfold highT; rw [if_neg (by omega)]
      exact (above_some m3 (fun k hk => (m2 k hk).2) hx h0 h1 h2 (by omega) (by omega)).2
  have P := put_ok m3 hrc hat T (hroot.imp id (fun h => ⟨h.1, h.2.1, h.2.2.1⟩))
  refine ⟨a, P, ?_⟩
  unfold fineB mayT
  rw [Bool.and_eq_true, Bool.and_eq_true]
  have hnd := nd_len P.right
  refine ⟨⟨?_, rightR_of P.place.1 P.place.2 P.is_⟩, sound_of P.right P.rc P.at_⟩
  refine may_of ?_ P.right
  unfold smallH
  rw [Bool.and_eq_true, decide_eq_true_eq, List.all_eq_true]
  refine ⟨by simp only; rw [P.len]; exact m1, fun y hy => ?_⟩
  obtain ⟨k, hk, rfl⟩ := List.mem_iff_getElem.1 hy
  rw [Bool.and_eq_true, decide_eq_true_eq, decide_eq_true_eq]
  simp only at hk
  refine ⟨by have := hnd k hk; simp only; omega, ?_⟩
  have h1 := P.rc k hk
  have h2 := inn_le (k : Int) (l := (putG c root x).1) (fun j hj => by have := hnd j hj; omega)
  rw [P.len] at h2
  have h3 : rootE (putG c root x).2 (k : Int) ≤ 1 := by unfold rootE; split <;> omega
  simp only
  omega
end Go.Proofs.YtbfbpddfcakieaaGreat
namespace Go.Proofs.YtbfbpddfcakieaaGreat
open Go.RowKit

/-- Rows can be laid, one behind the other. -/
def okS (keep : Int) (leaf : Bool) (held : List Int) : List (List It) → List HC → Prop
  | [], _ => True
  | r :: rs, c => rightH ⟨c, keep⟩ = true ∧ allocE c leaf r = 0 ∧ okS keep leaf held rs (allocL c leaf r held)
theorem lay_oks {keep : Int} (leaf : Bool) (held : List Int) (h : Int) : ∀ (rows : List (List It)) (c : List HC) (e : Int), rightH ⟨c, keep⟩ = true → (∀ k (hk : k < c.length), c[k].ref ≤ 1999990000 - 4 * (rows.length : Int)) → rows.length ≤ 1000 → RowOK c leaf h rows.flatten e →
    (∀ r ∈ rows, 1 ≤ r.length ∧ r.length ≤ 4) → rows.length ≤ c.countP freeC → okS keep leaf held rows c
  | [], c, e, hr, _, _, _, _, _ => trivial
  | r :: rs, c, e, hr, hs, hn, H, hlen, hf => by
    rw [List.flatten_cons] at H
    obtain ⟨Hr, Hs⟩ := rowOK_app H
    obtain ⟨l1, l4⟩ := hlen r List.mem_cons_self
    simp only [List.length_cons] at hf hs hn
    obtain ⟨h0, q, hq, La⟩ := laid held hr (fun k hk => by have := hs k hk; omega) (Hr.good hr l1 l4) (by omega)
    have hal := allR_of hr
    exact ⟨hr, h0, lay_oks leaf held h rs (allocL c leaf r held) e La.right (fun k hk => by
      have hk' : k < c.length := by rw [La.keeps.len] at hk; exact hk
      have h1 := La.refs k hk' hk
      have h2 := hs k hk'
      split at h1 <;> omega) (by omega) (Hs.keeps La.keeps hal) (fun x hx => hlen x (List.mem_cons_of_mem _ hx)) (by have := La.free; omega)⟩
def anewO (keep : Int) : Nat → List HC → Int → It → Prop
  | 0, _, _, _ => True
  | m + 1, c, p, x => if (cellT c p).leaf then okS keep true [] (splitS (withS (cellT c p).it (atI true (cellT c p).it x.1).toNat (if atB (cellT c p).it x.1 then 1 else 0) [x])) c
    else anewO keep m c (childT (cellT c p).it x.1).2 x ∧ okS keep false ((anewS m c (childT (cellT c p).it x.1).2 x).2.map (·.2)) (splitS (withS (cellT c p).it (atI false (cellT c p).it x.1).toNat 1 (anewS m c (childT (cellT c p).it x.1).2 x).2)) (anewS m c (childT (cellT c p).it x.1).2 x).1
theorem anewO_leaf {keep : Int} {c : List HC} {k : Nat} (hk : k < c.length) {m : Nat} {x : It} {e : Int} (hr : rightH ⟨c, keep⟩ = true) (hs : ∀ k (hk : k < c.length), c[k].ref ≤ 1000000) (hx : okIt x) (hb : (bel c 20 (k : Int)).is = true)
    (he : (bel c 20 (k : Int)).hi < e) (hxe : x.1 < e) (hf : 2 * (bel c 20 (k : Int)).high ≤ (c.countP freeC : Nat)) (hlf : c[k].leaf = true) : anewO keep (m + 1) c (k : Int) x := by
  obtain ⟨R, hlo, hli, hnd⟩ := row_of_bel hr hk hb he
  rw [hlf] at R hli
  obtain ⟨hH, hasc, hlt⟩ := R.lf rfl
  rw [conts_leaf] at hli
  have W := with_leaf hnd x hx hlt hxe
  simp only at W
  have hdef : anewO keep (m + 1) c (k : Int) x = okS keep true [] (splitS (withS c[k].it (atI true c[k].it x.1).toNat (if atB c[k].it x.1 then 1 else 0) [x])) c := by
    rw [anewO, cellT_at hk, hlf, if_pos rfl]
  rw [hdef]
  generalize withS c[k].it (atI true c[k].it x.1).toNat (if atB c[k].it x.1 then 1 else 0) [x] = xs at *
  obtain ⟨⟨w1, w5⟩, w2, w3, w4, w6, w7⟩ := W
  obtain ⟨s1, s2, s3, s4⟩ := split_rows w1 w5
  exact lay_oks (keep := keep) true [] 1 (splitS xs) c e hr (fun k hk => by have := hs k hk; omega) (by omega) (by rw [s1]; exact ⟨w3, fun _ => ⟨rfl, w2, w4⟩, fun h => by cases h⟩) s2 (by omega)
theorem anewO_other {keep : Int} {c : List HC} {k : Nat} (hk : k < c.length) {m : Nat} {x : It} {e : Int} (hr : rightH ⟨c, keep⟩ = true) (hs : ∀ k (hk : k < c.length), c[k].ref ≤ 1000000) (hb : (bel c 20 (k : Int)).is = true)
    (he : (bel c 20 (k : Int)).hi < e) (hxe : x.1 < e) (hf : 2 * (bel c 20 (k : Int)).high ≤ (c.countP freeC : Nat)) (hlf : c[k].leaf = false)
    (iho : anewO keep m c (childT c[k].it x.1).2 x) (ih : ∀ e', (bel c 20 (childT c[k].it x.1).2).hi < e' → x.1 < e' → 2 * (bel c 20 (childT c[k].it x.1).2).high ≤ (c.countP freeC : Nat) → ∃ a, AnewR c keep (childT c[k].it x.1).2 x e' (anewS m c (childT c[k].it x.1).2 x).1 (anewS m c (childT c[k].it x.1).2 x).2 a) :
    anewO keep (m + 1) c (k : Int) x := by
  obtain ⟨R, hlo, hli, hnd⟩ := row_of_bel hr hk hb he
  rw [hlf] at R hli
  have hal := allR_of hr
  have hdef : anewO keep (m + 1) c (k : Int) x = (anewO keep m c (childT c[k].it x.1).2 x ∧ okS keep false ((anewS m c (childT c[k].it x.1).2 x).2.map (·.2)) (splitS (withS c[k].it (atI false c[k].it x.1).toNat 1 (anewS m c (childT c[k].it x.1).2 x).2)) (anewS m c (childT c[k].it x.1).2 x).1) := by
    rw [anewO, cellT_at hk, hlf, if_neg (by simp)]
  rw [hdef]
  refine ⟨iho, ?_⟩
  clear iho hdef
  obtain ⟨hi, hle⟩ := at_low hnd x.1
  have hnx := fun hj => at_next hnd x.1 (hi := hj)
  have hch : childT c[k].it x.1 = c[k].it[(atI false c[k].it x.1).toNat] := itD_at hi
  obtain ⟨H, hH⟩ : ∃ H, (bel c 20 (k : Int)).high = H := ⟨_, rfl⟩
  rw [hH] at R hf
  generalize (atI false c[k].it x.1).toNat = i at *
  generalize c[k].it = it at *
  obtain ⟨w, hw⟩ : ∃ w, it[i] = w := ⟨_, rfl⟩
  rw [hw] at hch hle
  rw [hch] at ih ⊢
  have hit : it = it.take i ++ (w :: it.drop (i + 1)) := by
    rw [← hw, ← List.drop_eq_getElem_cons hi, List.take_append_drop]
  have hwith : ∀ L, withS it i 1 L = it.take i ++ L ++ it.drop (i + 1) := fun L => rfl
  have hAl : (it.take i).length = i := by rw [List.length_take]; omega
  have hBl : (it.drop (i + 1)).length = it.length - (i + 1) := by rw [List.length_drop]
  have hl4 := hnd.1.2
  have hAm : ∀ y ∈ it.take i, y ∈ it := fun y hy => List.mem_of_mem_take hy
  have hBn : ∀ d, headK (it.drop (i + 1)) d = if h : i + 1 < it.length then it[i + 1].1 else d := fun d => by
    split
    · rename_i h; rw [List.drop_eq_getElem_cons h]; rfl
    · rw [List.drop_of_length_le (by omega)]; rfl
  have hascI := asc_of hnd
  have hBk : ∀ y ∈ it.drop (i + 1), x.1 < y.1 := fun y hy => by
    obtain ⟨j, hj, rfl⟩ := List.mem_iff_getElem.1 hy
    have hj2 : i + 1 + j < it.length := by omega
    rw [List.getElem_drop]
    have h1 := hnx (by omega)
    rcases Nat.eq_zero_or_pos j with h | h
    · subst h; simpa using h1
    · have := hnd.rise (i + 1 + j) (i + 1) hj2 (by omega); omega
  have hfirst : firstK it = headK (it.take i ++ [w]) 0 := by
    conv => lhs; rw [hit]
    cases it.take i with
    | nil => rfl
    | cons y r => rfl
  have R0 := R
  rw [hit] at R0
  obtain ⟨RA, RB⟩ := rowOK_app R0
  obtain ⟨RW, RBs⟩ := rowOK_app (show RowOK c false H ([w] ++ it.drop (i + 1)) e from RB)
  obtain ⟨⟨hH2, hH20⟩, hwp, hwr⟩ := RW.inn rfl
  have hw1 := hwr 0 (by simp)
  simp only [List.getElem_cons_zero, nextT_zero] at hw1
  obtain ⟨wis, whi, wlo, wlt⟩ := hw1
  have hxB : x.1 < headK (it.drop (i + 1)) e := by
    rcases head_or (l := it.drop (i + 1)) e with ⟨_, h⟩ | ⟨y, r, h1, h⟩
    · rw [h]; exact hxe
    · rw [h]; exact hBk y (by rw [h1]; exact List.mem_cons_self)
  have hBe : headK (it.drop (i + 1)) e ≤ e := by
    rcases head_or (l := it.drop (i + 1)) e with ⟨_, h⟩ | ⟨y, r, h1, h⟩
    · rw [h]; exact Int.le_refl _
    · rw [h]; exact Int.le_of_lt ((RBs.asc hr).2 y (by rw [h1]; exact List.mem_cons_self))
  obtain ⟨a1, I⟩ := ih (headK (it.drop (i + 1)) e) wlt hxB (by omega)
  generalize anewS m c w.2 x = S at *
  obtain ⟨c1, L1⟩ := S
  simp only at I ⊢
  rw [hwith]
  have hr1 := I.right
  have hl1 := allR_of hr1
  have RA1 := RA.keeps I.keeps hal
  have RB1 := RBs.keeps I.keeps hal
  have hLne : ∃ y r, L1 = y :: r := by
    cases L1 with
    | nil => have := I.len.1; simp at this
    | cons y r => exact ⟨y, r, rfl⟩
  have hhead := I.head
  rw [wlo] at hhead
  have RL : RowOK c1 false H L1 (headK (it.drop (i + 1)) e) := by
    refine ⟨fun y hy => ?_, (fun h => by cases h), fun _ => ⟨⟨hH2, hH20⟩, fun y hy => by rw [I.keeps.len]; exact (I.place y hy).2, fun j hj => ?_⟩⟩
    · obtain ⟨j, hj, rfl⟩ := List.mem_iff_getElem.1 hy
      exact key_ok hr1 (I.place _ hy).1 (by rw [I.keeps.len]; exact (I.place _ hy).2) (I.row j hj).1 (I.row j hj).2.2.1
    · obtain ⟨b1, b2, b3, b4⟩ := I.row j hj
      exact ⟨b1, by omega, b3, b4⟩
  have RLB : RowOK c1 false H (L1 ++ it.drop (i + 1)) e := rowOK_join hr1 RL RB1 (fun y hy => by have := (RL.asc hr1).2 y hy; omega)
  have hwx : it.take i ≠ [] → w.1 ≤ x.1 := fun hne => hle (by
    rcases Nat.eq_zero_or_pos i with h | h
    · subst h; simp at hne
    · exact h)
  have RX : RowOK c1 false H (it.take i ++ (L1 ++ it.drop (i + 1))) e := by
    by_cases hne : it.take i = []
    · rw [hne, List.nil_append]; exact RLB
    · have hh : headK (L1 ++ it.drop (i + 1)) e = w.1 := by
        obtain ⟨y, r, hy⟩ := hLne
        have h1 := hhead 0
        rw [if_neg (by have := hwx hne; omega)] at h1
        rw [hy] at h1 ⊢
        exact h1
      refine rowOK_join hr1 (by rw [hh]; exact RA1) RLB (fun y hy => ?_)
      exact ((R.asc hr).2 y (hAm y hy))
  rw [← List.append_assoc] at RX
  obtain ⟨s1, s2, s3, s4⟩ := split_rows (xs := it.take i ++ L1 ++ it.drop (i + 1)) (by rw [List.length_append, List.length_append]; have := I.len.1; omega) (by rw [List.length_append, List.length_append, hAl, hBl]; have := I.len.2; omega)
  have hmany := I.many
  have hfree := I.free
  exact lay_oks (keep := keep) false (L1.map (·.2)) H (splitS (it.take i ++ L1 ++ it.drop (i + 1))) c1 e hr1 (fun k hk => by
    have hk' : k < c.length := by rw [I.keeps.len] at hk; exact hk
    have h1 := I.refs k hk' hk
    have h2 := hs k hk'
    have h3 : (a1 : Int) ≤ 40 := by omega
    split at h1 <;> omega) (by omega) (by rw [s1]; exact RX) s2 (by omega)
theorem anewO_ok {keep : Int} : ∀ (m : Nat) (c : List HC) (p : Int) (x : It) (e : Int), m ≤ 20 → rightH ⟨c, keep⟩ = true → (∀ k (hk : k < c.length), c[k].ref ≤ 1000000) → okIt x → 0 ≤ p → p < c.length → (bel c m p).is = true → (bel c 20 p).hi < e → x.1 < e →
    2 * (bel c 20 p).high ≤ (c.countP freeC : Nat) → anewO keep m c p x
  | 0, _, _, _, _, _, _, _, _, _, _, hb, _, _, _ => (bel_zero hb).elim
  | m + 1, c, p, x, e, hm, hr, hs, hx, h0, h1, hb, he, hxe, hf => by
    obtain ⟨k, rfl⟩ := Int.eq_ofNat_of_zero_le h0
    have hk : k < c.length := by omega
    have hb20 : (bel c 20 (k : Int)).is = true := by rw [bel_mono c (m + 1) 20 _ hb hm]; exact hb
    obtain ⟨hrf, hc⟩ := bel_is hb
    rw [cellT_at hk] at hrf hc
    have hok := cell_ok ((rightH_iff hr).2 k hk) hrf
    rcases hc with ⟨hlf, _⟩ | ⟨hlf, _, hch⟩
    · exact anewO_leaf hk hr hs hx hb20 he hxe hf hlf
    · obtain ⟨hi, _⟩ := at_low hok.1 x.1
      have hcd : childT c[k].it x.1 = c[k].it[(atI false c[k].it x.1).toNat] := itD_at hi
      have hcm : childT c[k].it x.1 ∈ c[k].it := by rw [hcd]; exact List.getElem_mem hi
      obtain ⟨Rw, -, -, -⟩ := row_of_bel hr hk hb20 he
      rw [hlf] at Rw
      have hrow := (Rw.inn rfl).2.2 _ hi
      rw [← hcd] at hrow
      obtain ⟨e', he1, he2⟩ : ∃ e', (bel c 20 (childT c[k].it x.1).2).hi < e' ∧ x.1 < e' := by
        rcases Int.lt_or_le (bel c 20 (childT c[k].it x.1).2).hi x.1 with h | h
        · exact ⟨x.1 + 1, by omega, by omega⟩
        · exact ⟨(bel c 20 (childT c[k].it x.1).2).hi + 1, by omega, by omega⟩
      exact anewO_other hk hr hs hb20 he hxe hf hlf (anewO_ok m c _ x e' (by omega) hr hs hx (hok.2 hlf _ hcm).1 (hok.2 hlf _ hcm).2 (hch _ hcm).1 he1 he2 (by omega)) (fun e' h2 h3 h4 => anew_ok m c _ x e' (by omega) hr hs hx (hok.2 hlf _ hcm).1 (hok.2 hlf _ hcm).2 (hch _ hcm).1 h2 h3 h4)
end Go.Proofs.YtbfbpddfcakieaaGreat
namespace Go.Proofs.YtbfbpddfcakieaaGreat
open Go.RowKit

/-- What Put answers: cells, root, error. -/
def putR (h : Hp) (root : Int) (x : It) (deep : Bool) : List HC × Int × Int :=
  if okIt x then (if highT h.c root = 20 ∨ fitsH h (2 * highT h.c root + 1) deep = false then (h.c, root, 3) else ((putG h.c root x).1, (putG h.c root x).2, 0)) else (h.c, root, 1)
theorem fits_free {l : List HC} {keep n : Int} {deep : Bool} (hk : 0 ≤ keep) (h : fitsH ⟨l, keep⟩ n deep = true) : n ≤ (l.countP freeC : Nat) := by
  unfold fitsH freeH at h
  rw [decide_eq_true_eq] at h
  simp only at h
  split at h <;> omega
theorem may_keep {l : List HC} {keep most : Int} (h : mayH ⟨l, keep⟩ most = true) : 0 ≤ keep ∧ keep ≤ (l.length : Int) := by
  have h3 := (may_iff h).2.2
  unfold rightH at h3
  rw [Bool.and_eq_true, decide_eq_true_eq] at h3
  exact h3.1.2
/-- Items put one by one, up to the first error. -/
def fillR (keep : Int) : List It → List HC → Int → List HC × Int × Int
  | [], c, root => (c, root, 0)
  | x :: r, c, root => if (putR ⟨c, keep⟩ root x false).2.2 = 0 then fillR keep r (putR ⟨c, keep⟩ root x false).1 (putR ⟨c, keep⟩ root x false).2.1 else (c, root, (putR ⟨c, keep⟩ root x false).2.2)
theorem put_zero {h : Hp} {root : Int} {x : It} {deep : Bool} (h0 : (putR h root x deep).2.2 = 0) : okIt x ∧ highT h.c root ≠ 20 ∧ fitsH h (2 * highT h.c root + 1) deep = true ∧ putR h root x deep = ((putG h.c root x).1, (putG h.c root x).2, 0) := by
  unfold putR at h0 ⊢
  split at h0
  · rename_i hx
    split at h0
    · simp at h0
    · rename_i hf
      rw [not_or, Bool.not_eq_false] at hf
      rw [if_pos hx, if_neg (by rw [not_or, Bool.not_eq_false]; exact hf)]
      exact ⟨hx, hf.1, hf.2, rfl⟩
  · simp at h0
theorem fine_next {c : List HC} {keep root most : Int} {x : It} {deep : Bool} (hmost : most ≤ 60) (hf : fineB ⟨c, keep⟩ root most = true) (h0 : (putR ⟨c, keep⟩ root x deep).2.2 = 0) :
    fineB ⟨(putR ⟨c, keep⟩ root x deep).1, keep⟩ (putR ⟨c, keep⟩ root x deep).2.1 most = true := by
  obtain ⟨hx, hh, hn, e⟩ := put_zero h0
  obtain ⟨hm, _, _⟩ := fine_may hf
  have hb : highT c root < 20 := by
    have : highT c root ≤ 20 := by unfold highT; split; · omega
                                   · exact (bel_high c 20 root).2
    have h2 : highT c root ≠ 20 := hh
    omega
  rw [e]
  exact (fine_put hmost hf hx hb (fits_free (may_keep hm).1 hn)).choose_spec.2
theorem fill_step {keep root : Int} {it : List It} {c : List HC} {j : Nat} (hj : j < it.length) : fillR keep (it.drop j) c root = if (putR ⟨c, keep⟩ root it[j] false).2.2 = 0 then fillR keep (it.drop (j + 1)) (putR ⟨c, keep⟩ root it[j] false).1 (putR ⟨c, keep⟩ root it[j] false).2.1 else (c, root, (putR ⟨c, keep⟩ root it[j] false).2.2) := by
  rw [List.drop_eq_getElem_cons hj, fillR]
end Go.Proofs.YtbfbpddfcakieaaGreat
