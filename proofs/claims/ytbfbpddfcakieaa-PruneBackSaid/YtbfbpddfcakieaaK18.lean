/- Each node that is laid where a tree is made anew: that it can be laid. What Put and Fill answer. -/
import Derived.Test.YtbfbpddfcakieaaK17
namespace Go.Proofs.Ytbfbpddfcakieaa
open Go.RowKit

/-- Rows can be laid, one behind the other. -/
def okS (keep : Int) (leaf : Bool) (held : List Int) : List (List It) → List HC → Prop
  | [], _ => True
  | r :: rs, c => rightH ⟨c, keep⟩ = true ∧ allocE c leaf r = 0 ∧ okS keep leaf held rs (allocL c leaf r held)
theorem lay_oks {keep : Int} (leaf : Bool) (held : List Int) (h : Int) : ∀ (rows : List (List It)) (c : List HC) (e : Int), rightH ⟨c, keep⟩ = true → (∀ k (hk : k < c.length), c[k].ref ≤ 1999990000 - 4 * (rows.length : Int)) → rows.length ≤ 1000 → RowOK c leaf h rows.flatten e →
    (∀ r ∈ rows, 1 ≤ r.length ∧ r.length ≤ 4) → rows.length ≤ c.countP freeC → okS keep leaf held rows c
  | [], c, e, hr, _, _, _, _, _ => trivial
  | r :: rs, c, e, hr, hs, hn, H, hlen, hf => by
    rw [List.flatten_cons] at H
    obtain ⟨Hr, Hs⟩ := rowOK_app H
    obtain ⟨l1, l4⟩ := hlen r List.mem_cons_self
    simp only [List.length_cons] at hf hs hn
    obtain ⟨h0, q, hq, La⟩ := laid held hr (fun k hk => by have := hs k hk; omega) (Hr.good hr l1 l4) (by omega)
    have hal := allR_of hr
    exact ⟨hr, h0, lay_oks leaf held h rs (allocL c leaf r held) e La.right (fun k hk => by
      have hk' : k < c.length := by rw [La.keeps.len] at hk; exact hk
      have h1 := La.refs k hk' hk
      have h2 := hs k hk'
      split at h1 <;> omega) (by omega) (Hs.keeps La.keeps hal) (fun x hx => hlen x (List.mem_cons_of_mem _ hx)) (by have := La.free; omega)⟩
def anewO (keep : Int) : Nat → List HC → Int → It → Prop
  | 0, _, _, _ => True
  | m + 1, c, p, x => if (cellT c p).leaf then okS keep true [] (splitS (withS (cellT c p).it (atI true (cellT c p).it x.1).toNat (if atB (cellT c p).it x.1 then 1 else 0) [x])) c
    else anewO keep m c (childT (cellT c p).it x.1).2 x ∧ okS keep false ((anewS m c (childT (cellT c p).it x.1).2 x).2.map (·.2)) (splitS (withS (cellT c p).it (atI false (cellT c p).it x.1).toNat 1 (anewS m c (childT (cellT c p).it x.1).2 x).2)) (anewS m c (childT (cellT c p).it x.1).2 x).1
theorem anewO_leaf {keep : Int} {c : List HC} {k : Nat} (hk : k < c.length) {m : Nat} {x : It} {e : Int} (hr : rightH ⟨c, keep⟩ = true) (hs : ∀ k (hk : k < c.length), c[k].ref ≤ 1000000) (hx : okIt x) (hb : (bel c 20 (k : Int)).is = true)
    (he : (bel c 20 (k : Int)).hi < e) (hxe : x.1 < e) (hf : 2 * (bel c 20 (k : Int)).high ≤ (c.countP freeC : Nat)) (hlf : c[k].leaf = true) : anewO keep (m + 1) c (k : Int) x := by
  obtain ⟨R, hlo, hli, hnd⟩ := row_of_bel hr hk hb he
  rw [hlf] at R hli
  obtain ⟨hH, hasc, hlt⟩ := R.lf rfl
  rw [conts_leaf] at hli
  have W := with_leaf hnd x hx hlt hxe
  simp only at W
  have hdef : anewO keep (m + 1) c (k : Int) x = okS keep true [] (splitS (withS c[k].it (atI true c[k].it x.1).toNat (if atB c[k].it x.1 then 1 else 0) [x])) c := by
    rw [anewO, cellT_at hk, hlf, if_pos rfl]
  rw [hdef]
  generalize withS c[k].it (atI true c[k].it x.1).toNat (if atB c[k].it x.1 then 1 else 0) [x] = xs at *
  obtain ⟨⟨w1, w5⟩, w2, w3, w4, w6, w7⟩ := W
  obtain ⟨s1, s2, s3, s4⟩ := split_rows w1 w5
  exact lay_oks (keep := keep) true [] 1 (splitS xs) c e hr (fun k hk => by have := hs k hk; omega) (by omega) (by rw [s1]; exact ⟨w3, fun _ => ⟨rfl, w2, w4⟩, fun h => by cases h⟩) s2 (by omega)
theorem anewO_other {keep : Int} {c : List HC} {k : Nat} (hk : k < c.length) {m : Nat} {x : It} {e : Int} (hr : rightH ⟨c, keep⟩ = true) (hs : ∀ k (hk : k < c.length), c[k].ref ≤ 1000000) (hb : (bel c 20 (k : Int)).is = true)
    (he : (bel c 20 (k : Int)).hi < e) (hxe : x.1 < e) (hf : 2 * (bel c 20 (k : Int)).high ≤ (c.countP freeC : Nat)) (hlf : c[k].leaf = false)
    (iho : anewO keep m c (childT c[k].it x.1).2 x) (ih : ∀ e', (bel c 20 (childT c[k].it x.1).2).hi < e' → x.1 < e' → 2 * (bel c 20 (childT c[k].it x.1).2).high ≤ (c.countP freeC : Nat) → ∃ a, AnewR c keep (childT c[k].it x.1).2 x e' (anewS m c (childT c[k].it x.1).2 x).1 (anewS m c (childT c[k].it x.1).2 x).2 a) :
    anewO keep (m + 1) c (k : Int) x := by
  obtain ⟨R, hlo, hli, hnd⟩ := row_of_bel hr hk hb he
  rw [hlf] at R hli
  have hal := allR_of hr
  have hdef : anewO keep (m + 1) c (k : Int) x = (anewO keep m c (childT c[k].it x.1).2 x ∧ okS keep false ((anewS m c (childT c[k].it x.1).2 x).2.map (·.2)) (splitS (withS c[k].it (atI false c[k].it x.1).toNat 1 (anewS m c (childT c[k].it x.1).2 x).2)) (anewS m c (childT c[k].it x.1).2 x).1) := by
    rw [anewO, cellT_at hk, hlf, if_neg (by simp)]
  rw [hdef]
  refine ⟨iho, ?_⟩
  clear iho hdef
  obtain ⟨hi, hle⟩ := at_low hnd x.1
  have hnx := fun hj => at_next hnd x.1 (hi := hj)
  have hch : childT c[k].it x.1 = c[k].it[(atI false c[k].it x.1).toNat] := itD_at hi
  obtain ⟨H, hH⟩ : ∃ H, (bel c 20 (k : Int)).high = H := ⟨_, rfl⟩
  rw [hH] at R hf
  generalize (atI false c[k].it x.1).toNat = i at *
  generalize c[k].it = it at *
  obtain ⟨w, hw⟩ : ∃ w, it[i] = w := ⟨_, rfl⟩
  rw [hw] at hch hle
  rw [hch] at ih ⊢
  have hit : it = it.take i ++ (w :: it.drop (i + 1)) := by
    rw [← hw, ← List.drop_eq_getElem_cons hi, List.take_append_drop]
  have hwith : ∀ L, withS it i 1 L = it.take i ++ L ++ it.drop (i + 1) := fun L => rfl
  have hAl : (it.take i).length = i := by rw [List.length_take]; omega
  have hBl : (it.drop (i + 1)).length = it.length - (i + 1) := by rw [List.length_drop]
  have hl4 := hnd.1.2
  have hAm : ∀ y ∈ it.take i, y ∈ it := fun y hy => List.mem_of_mem_take hy
  have hBn : ∀ d, headK (it.drop (i + 1)) d = if h : i + 1 < it.length then it[i + 1].1 else d := fun d => by
    split
    · rename_i h; rw [List.drop_eq_getElem_cons h]; rfl
    · rw [List.drop_of_length_le (by omega)]; rfl
  have hascI := asc_of hnd
  have hBk : ∀ y ∈ it.drop (i + 1), x.1 < y.1 := fun y hy => by
    obtain ⟨j, hj, rfl⟩ := List.mem_iff_getElem.1 hy
    have hj2 : i + 1 + j < it.length := by omega
    rw [List.getElem_drop]
    have h1 := hnx (by omega)
    rcases Nat.eq_zero_or_pos j with h | h
    · subst h; simpa using h1
    · have := hnd.rise (i + 1 + j) (i + 1) hj2 (by omega); omega
  have hfirst : firstK it = headK (it.take i ++ [w]) 0 := by
    conv => lhs; rw [hit]
    cases it.take i with
    | nil => rfl
    | cons y r => rfl
  have R0 := R
  rw [hit] at R0
  obtain ⟨RA, RB⟩ := rowOK_app R0
  obtain ⟨RW, RBs⟩ := rowOK_app (show RowOK c false H ([w] ++ it.drop (i + 1)) e from RB)
  obtain ⟨⟨hH2, hH20⟩, hwp, hwr⟩ := RW.inn rfl
  have hw1 := hwr 0 (by simp)
  simp only [List.getElem_cons_zero, nextT_zero] at hw1
  obtain ⟨wis, whi, wlo, wlt⟩ := hw1
  have hxB : x.1 < headK (it.drop (i + 1)) e := by
    rcases head_or (l := it.drop (i + 1)) e with ⟨_, h⟩ | ⟨y, r, h1, h⟩
    · rw [h]; exact hxe
    · rw [h]; exact hBk y (by rw [h1]; exact List.mem_cons_self)
  have hBe : headK (it.drop (i + 1)) e ≤ e := by
    rcases head_or (l := it.drop (i + 1)) e with ⟨_, h⟩ | ⟨y, r, h1, h⟩
    · rw [h]; exact Int.le_refl _
    · rw [h]; exact Int.le_of_lt ((RBs.asc hr).2 y (by rw [h1]; exact List.mem_cons_self))
  obtain ⟨a1, I⟩ := ih (headK (it.drop (i + 1)) e) wlt hxB (by omega)
  generalize anewS m c w.2 x = S at *
  obtain ⟨c1, L1⟩ := S
  simp only at I ⊢
  rw [hwith]
  have hr1 := I.right
  have hl1 := allR_of hr1
  have RA1 := RA.keeps I.keeps hal
  have RB1 := RBs.keeps I.keeps hal
  have hLne : ∃ y r, L1 = y :: r := by
    cases L1 with
    | nil => have := I.len.1; simp at this
    | cons y r => exact ⟨y, r, rfl⟩
  have hhead := I.head
  rw [wlo] at hhead
  have RL : RowOK c1 false H L1 (headK (it.drop (i + 1)) e) := by
    refine ⟨fun y hy => ?_, (fun h => by cases h), fun _ => ⟨⟨hH2, hH20⟩, fun y hy => by rw [I.keeps.len]; exact (I.place y hy).2, fun j hj => ?_⟩⟩
    · obtain ⟨j, hj, rfl⟩ := List.mem_iff_getElem.1 hy
      exact key_ok hr1 (I.place _ hy).1 (by rw [I.keeps.len]; exact (I.place _ hy).2) (I.row j hj).1 (I.row j hj).2.2.1
    · obtain ⟨b1, b2, b3, b4⟩ := I.row j hj
      exact ⟨b1, by omega, b3, b4⟩
  have RLB : RowOK c1 false H (L1 ++ it.drop (i + 1)) e := rowOK_join hr1 RL RB1 (fun y hy => by have := (RL.asc hr1).2 y hy; omega)
  have hwx : it.take i ≠ [] → w.1 ≤ x.1 := fun hne => hle (by
    rcases Nat.eq_zero_or_pos i with h | h
    · subst h; simp at hne
    · exact h)
  have RX : RowOK c1 false H (it.take i ++ (L1 ++ it.drop (i + 1))) e := by
    by_cases hne : it.take i = []
    · rw [hne, List.nil_append]; exact RLB
    · have hh : headK (L1 ++ it.drop (i + 1)) e = w.1 := by
        obtain ⟨y, r, hy⟩ := hLne
        have h1 := hhead 0
        rw [if_neg (by have := hwx hne; omega)] at h1
        rw [hy] at h1 ⊢
        exact h1
      refine rowOK_join hr1 (by rw [hh]; exact RA1) RLB (fun y hy => ?_)
      exact ((R.asc hr).2 y (hAm y hy))
  rw [← List.append_assoc] at RX
  obtain ⟨s1, s2, s3, s4⟩ := split_rows (xs := it.take i ++ L1 ++ it.drop (i + 1)) (by rw [List.length_append, List.length_append]; have := I.len.1; omega) (by rw [List.length_append, List.length_append, hAl, hBl]; have := I.len.2; omega)
  have hmany := I.many
  have hfree := I.free
  exact lay_oks (keep := keep) false (L1.map (·.2)) H (splitS (it.take i ++ L1 ++ it.drop (i + 1))) c1 e hr1 (fun k hk => by
    have hk' : k < c.length := by rw [I.keeps.len] at hk; exact hk
    have h1 := I.refs k hk' hk
    have h2 := hs k hk'
    have h3 : (a1 : Int) ≤ 40 := by omega
    split at h1 <;> omega) (by omega) (by rw [s1]; exact RX) s2 (by omega)
theorem anewO_ok {keep : Int} : ∀ (m : Nat) (c : List HC) (p : Int) (x : It) (e : Int), m ≤ 20 → rightH ⟨c, keep⟩ = true → (∀ k (hk : k < c.length), c[k].ref ≤ 1000000) → okIt x → 0 ≤ p → p < c.length → (bel c m p).is = true → (bel c 20 p).hi < e → x.1 < e →
    2 * (bel c 20 p).high ≤ (c.countP freeC : Nat) → anewO keep m c p x
  | 0, _, _, _, _, _, _, _, _, _, _, hb, _, _, _ => (bel_zero hb).elim
  | m + 1, c, p, x, e, hm, hr, hs, hx, h0, h1, hb, he, hxe, hf => by
    obtain ⟨k, rfl⟩ := Int.eq_ofNat_of_zero_le h0
    have hk : k < c.length := by omega
    have hb20 : (bel c 20 (k : Int)).is = true := by rw [bel_mono c (m + 1) 20 _ hb hm]; exact hb
    obtain ⟨hrf, hc⟩ := bel_is hb
    rw [cellT_at hk] at hrf hc
    have hok := cell_ok ((rightH_iff hr).2 k hk) hrf
    rcases hc with ⟨hlf, _⟩ | ⟨hlf, _, hch⟩
    · exact anewO_leaf hk hr hs hx hb20 he hxe hf hlf
    · obtain ⟨hi, _⟩ := at_low hok.1 x.1
      have hcd : childT c[k].it x.1 = c[k].it[(atI false c[k].it x.1).toNat] := itD_at hi
      have hcm : childT c[k].it x.1 ∈ c[k].it := by rw [hcd]; exact List.getElem_mem hi
      obtain ⟨Rw, -, -, -⟩ := row_of_bel hr hk hb20 he
      rw [hlf] at Rw
      have hrow := (Rw.inn rfl).2.2 _ hi
      rw [← hcd] at hrow
      obtain ⟨e', he1, he2⟩ : ∃ e', (bel c 20 (childT c[k].it x.1).2).hi < e' ∧ x.1 < e' := by
        rcases Int.lt_or_le (bel c 20 (childT c[k].it x.1).2).hi x.1 with h | h
        · exact ⟨x.1 + 1, by omega, by omega⟩
        · exact ⟨(bel c 20 (childT c[k].it x.1).2).hi + 1, by omega, by omega⟩
      exact anewO_other hk hr hs hb20 he hxe hf hlf (anewO_ok m c _ x e' (by omega) hr hs hx (hok.2 hlf _ hcm).1 (hok.2 hlf _ hcm).2 (hch _ hcm).1 he1 he2 (by omega)) (fun e' h2 h3 h4 => anew_ok m c _ x e' (by omega) hr hs hx (hok.2 hlf _ hcm).1 (hok.2 hlf _ hcm).2 (hch _ hcm).1 h2 h3 h4)
end Go.Proofs.Ytbfbpddfcakieaa
namespace Go.Proofs.Ytbfbpddfcakieaa
open Go.RowKit

/-- What Put answers: cells, root, error. -/
def putR (h : Hp) (root : Int) (x : It) (deep : Bool) : List HC × Int × Int :=
  if okIt x then (if highT h.c root = 20 ∨ fitsH h (2 * highT h.c root + 1) deep = false then (h.c, root, 3) else ((putG h.c root x).1, (putG h.c root x).2, 0)) else (h.c, root, 1)
theorem fits_free {l : List HC} {keep n : Int} {deep : Bool} (hk : 0 ≤ keep) (h : fitsH ⟨l, keep⟩ n deep = true) : n ≤ (l.countP freeC : Nat) := by
  unfold fitsH freeH at h
  rw [decide_eq_true_eq] at h
  simp only at h
  split at h <;> omega
theorem may_keep {l : List HC} {keep most : Int} (h : mayH ⟨l, keep⟩ most = true) : 0 ≤ keep ∧ keep ≤ (l.length : Int) := by
  have h3 := (may_iff h).2.2
  unfold rightH at h3
  rw [Bool.and_eq_true, decide_eq_true_eq] at h3
  exact h3.1.2
/-- Items put one by one, up to the first error. -/
def fillR (keep : Int) : List It → List HC → Int → List HC × Int × Int
  | [], c, root => (c, root, 0)
  | x :: r, c, root => if (putR ⟨c, keep⟩ root x false).2.2 = 0 then fillR keep r (putR ⟨c, keep⟩ root x false).1 (putR ⟨c, keep⟩ root x false).2.1 else (c, root, (putR ⟨c, keep⟩ root x false).2.2)
theorem put_zero {h : Hp} {root : Int} {x : It} {deep : Bool} (h0 : (putR h root x deep).2.2 = 0) : okIt x ∧ highT h.c root ≠ 20 ∧ fitsH h (2 * highT h.c root + 1) deep = true ∧ putR h root x deep = ((putG h.c root x).1, (putG h.c root x).2, 0) := by
  unfold putR at h0 ⊢
  split at h0
  · rename_i hx
    split at h0
    · simp at h0
    · rename_i hf
      rw [not_or, Bool.not_eq_false] at hf
      rw [if_pos hx, if_neg (by rw [not_or, Bool.not_eq_false]; exact hf)]
      exact ⟨hx, hf.1, hf.2, rfl⟩
  · simp at h0
theorem fine_next {c : List HC} {keep root most : Int} {x : It} {deep : Bool} (hmost : most ≤ 60) (hf : fineB ⟨c, keep⟩ root most = true) (h0 : (putR ⟨c, keep⟩ root x deep).2.2 = 0) :
    fineB ⟨(putR ⟨c, keep⟩ root x deep).1, keep⟩ (putR ⟨c, keep⟩ root x deep).2.1 most = true := by
  obtain ⟨hx, hh, hn, e⟩ := put_zero h0
  obtain ⟨hm, _, _⟩ := fine_may hf
  have hb : highT c root < 20 := by
    have : highT c root ≤ 20 := by unfold highT; split; · omega
                                   · exact (bel_high c 20 root).2
    have h2 : highT c root ≠ 20 := hh
    omega
  rw [e]
  exact (fine_put hmost hf hx hb (fits_free (may_keep hm).1 hn)).choose_spec.2
theorem fill_step {keep root : Int} {it : List It} {c : List HC} {j : Nat} (hj : j < it.length) : fillR keep (it.drop j) c root = if (putR ⟨c, keep⟩ root it[j] false).2.2 = 0 then fillR keep (it.drop (j + 1)) (putR ⟨c, keep⟩ root it[j] false).1 (putR ⟨c, keep⟩ root it[j] false).2.1 else (c, root, (putR ⟨c, keep⟩ root it[j] false).2.2) := by
  rw [List.drop_eq_getElem_cons hj, fillR]
end Go.Proofs.Ytbfbpddfcakieaa
