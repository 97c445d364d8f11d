/- A node, made anew without a key: the plain theory. -/
import Derived.Test.YtbfbpddfcakieaaGreatK23
import Derived.Test.YtbfbpddfcakieaaGreatK20
namespace Go.Proofs.YtbfbpddfcakieaaGreat
open Go.RowKit

theorem nextT_le (xs : List It) (j : Nat) {e e' : Int} (he : e ≤ e') : nextT xs j e ≤ nextT xs j e' := by
  unfold nextT; split
  · exact Int.le_refl _
  · exact he
theorem nextT_one {xs : List It} (h : xs.length ≤ 1) (j : Nat) (e : Int) : nextT xs j e = e := by unfold nextT; rw [if_neg (by omega)]
theorem RowOK.weaken {c : List HC} {leaf : Bool} {h : Int} {xs : List It} {e e' : Int} (H : RowOK c leaf h xs e) (he : e ≤ e') : RowOK c leaf h xs e' :=
  ⟨H.ok, fun hl => ⟨(H.lf hl).1, (H.lf hl).2.1, fun y hy => Int.lt_of_lt_of_le ((H.lf hl).2.2 y hy) he⟩, fun hl => ⟨(H.inn hl).1, (H.inn hl).2.1, fun j hj => by
    obtain ⟨b1, b2, b3, b4⟩ := (H.inn hl).2.2 j hj
    exact ⟨b1, b2, b3, Int.lt_of_lt_of_le b4 (nextT_le xs j he)⟩⟩⟩
/-- Items as a row, if there is one. -/
def rowD (xs : List It) : List (List It) := if xs.length = 0 then [] else [xs]
theorem rowD_rows {xs : List It} (h4 : xs.length ≤ 4) : (rowD xs).flatten = xs ∧ (∀ r ∈ rowD xs, 1 ≤ r.length ∧ r.length ≤ 4) ∧ (rowD xs).length ≤ 1 := by
  unfold rowD
  by_cases h : xs.length = 0
  · rw [if_pos h, List.eq_nil_of_length_eq_zero h]; simp
  · rw [if_neg h]
    refine ⟨by simp, fun r hr => ?_, by simp⟩
    simp only [List.mem_cons, List.not_mem_nil, or_false] at hr
    subst hr; omega
def delS : Nat → List HC → Int → Int → List HC × List It
  | 0, c, _, _ => (c, [])
  | m + 1, c, p, key => if (cellT c p).leaf then layS true [] (rowD (withS (cellT c p).it (atI true (cellT c p).it key).toNat 1 [])) c
    else layS false ((delS m c (childT (cellT c p).it key).2 key).2.map (·.2)) (rowD (withS (cellT c p).it (atI false (cellT c p).it key).toNat 1 (delS m c (childT (cellT c p).it key).2 key).2)) (delS m c (childT (cellT c p).it key).2 key).1
structure DelR (c : List HC) (keep : Int) (p : Int) (key : Int) (e : Int) (c' : List HC) (L : List It) (a : Nat) : Prop where
  right : rightH ⟨c', keep⟩ = true
  keeps : Keeps c c'
  len : L.length ≤ 1
  place : ∀ y ∈ L, 0 ≤ y.2 ∧ y.2 < c.length
  row : ∀ y ∈ L, (bel c' 20 y.2).is = true ∧ (bel c' 20 y.2).high = (bel c 20 p).high ∧ (bel c' 20 y.2).lo = y.1 ∧ (bel c' 20 y.2).hi < e
  mem : ∀ z, z ∈ L.flatMap (fun y => listB c' 20 y.2) ↔ z ∈ listB c 20 p ∧ z.1 ≠ key
  free : c'.countP freeC + a = c.countP freeC
  many : (a : Int) ≤ (bel c 20 p).high
  refs : ∀ k (hk : k < c.length) (hk' : k < c'.length), c'[k].ref ≤ (if 0 < c[k].ref then c[k].ref else 1) + 4 * (a : Int)
  new : ∀ k (hk : k < c.length) (hk' : k < c'.length), 0 < c'[k].ref → ¬ 0 < c[k].ref → (bel c' 20 (k : Int)).is = true
  fresh : ∀ y ∈ L, usedC c y.2 = false
  rc : ∀ E, RC c E → RC c' (fun k => E k + (((L.map (·.2)).count k : Nat) : Int))
theorem without_mem {it : List It} (h : NdR it) {key : Int} (hb : atB it key = true) (z : It) : z ∈ withS it (atC it key) 1 [] ↔ z ∈ it ∧ z.1 ≠ key := by
  obtain ⟨k, hk, hke⟩ := atB_ex hb
  have hat := atC_at h hk hke
  rw [hat]
  have hit : it = it.take k ++ (it[k] :: it.drop (k + 1)) := by rw [← List.drop_eq_getElem_cons hk, List.take_append_drop]
  have ha := asc_of h
  rw [hit] at ha
  have ha2 := List.pairwise_append.1 ha
  have ha3 := List.pairwise_cons.1 ha2.2.1
  unfold withS
  rw [List.append_nil, List.mem_append]
  conv => rhs; rw [hit]
  rw [List.mem_append, List.mem_cons]
  constructor
  · rintro (h1 | h1)
    · exact ⟨.inl h1, by have := ha2.2.2 z h1 _ List.mem_cons_self; omega⟩
    · exact ⟨.inr (.inr h1), by have := ha3.1 z h1; omega⟩
  · rintro ⟨h1 | h1 | h1, h2⟩
    · exact .inl h1
    · subst h1; exact absurd hke h2
    · exact .inr h1
theorem del_leaf {keep : Int} {c : List HC} {k : Nat} (hk : k < c.length) {m : Nat} {key : Int} {e : Int} (hr : rightH ⟨c, keep⟩ = true) (hs : ∀ k (hk : k < c.length), c[k].ref ≤ 1000000) (hb : (bel c 20 (k : Int)).is = true)
    (he : (bel c 20 (k : Int)).hi < e) (hf : (bel c 20 (k : Int)).high ≤ (c.countP freeC : Nat)) (hin : ∃ z ∈ listB c 20 (k : Int), z.1 = key) (hlf : c[k].leaf = true) : (∃ a, DelR c keep (k : Int) key e (delS (m + 1) c (k : Int) key).1 (delS (m + 1) c (k : Int) key).2 a) ∧ okS keep true [] (rowD (withS c[k].it (atC c[k].it key) 1 [])) c ∧ delS (m + 1) c (k : Int) key = layS true [] (rowD (withS c[k].it (atC c[k].it key) 1 [])) c ∧ atB c[k].it key = true := by
  obtain ⟨R, hlo, hli, hnd⟩ := row_of_bel hr hk hb he
  rw [hlf] at R hli
  obtain ⟨hH, hasc, hlt⟩ := R.lf rfl
  rw [conts_leaf] at hli
  have hab : atB c[k].it key = true := by
    obtain ⟨z, hz, hzk⟩ := hin
    rw [hli] at hz
    unfold atB
    rw [List.any_eq_true]
    exact ⟨z, hz, decide_eq_true hzk⟩
  have hdef : delS (m + 1) c (k : Int) key = layS true [] (rowD (withS c[k].it (atC c[k].it key) 1 [])) c := by
    rw [delS, cellT_at hk, hlf, if_pos rfl, atI_leaf, Int.toNat_natCast]
  have hm := without_mem hnd hab
  have h4 : (withS c[k].it (atC c[k].it key) 1 []).length ≤ 4 := by
    have := hnd.1.2
    unfold withS
    rw [List.append_nil, List.length_append, List.length_take, List.length_drop]
    omega
  have hasc2 : Asc (withS c[k].it (atC c[k].it key) 1 []) := by
    unfold withS
    rw [List.append_nil]
    have h := hasc
    rw [← List.take_append_drop (atC c[k].it key) c[k].it] at h
    have h1 := List.pairwise_append.1 h
    refine List.pairwise_append.2 ⟨h1.1, ?_, fun a ha b hb => h1.2.2 a ha b ?_⟩
    · have e1 : c[k].it.drop (atC c[k].it key + 1) = (c[k].it.drop (atC c[k].it key)).drop 1 := by rw [List.drop_drop]
      rw [e1]
      exact h1.2.1.drop
    · have e1 : c[k].it.drop (atC c[k].it key + 1) = (c[k].it.drop (atC c[k].it key)).drop 1 := by rw [List.drop_drop]
      rw [e1] at hb
      exact List.mem_of_mem_drop hb
  refine ⟨?_, ?_, hdef, hab⟩
  rw [hdef]
  all_goals
    generalize withS c[k].it (atC c[k].it key) 1 [] = xs at *
    obtain ⟨s1, s2, s3⟩ := rowD_rows h4
    have RX : RowOK c true 1 (rowD xs).flatten e := by rw [s1]; exact ⟨fun y hy => R.ok y ((hm y).1 hy).1, fun _ => ⟨rfl, hasc2, fun y hy => hlt y ((hm y).1 hy).1⟩, fun h => by cases h⟩
  · have La := lay_rows (keep := keep) true [] 1 (rowD xs) c e hr (fun k hk => by have := hs k hk; omega) (by omega) RX s2 (by omega)
    rw [s1] at La
    refine ⟨(rowD xs).length, La.right, La.keeps, by rw [La.len]; exact s3, La.place, fun y hy => ?_, fun z => ?_, La.free, by omega, La.refs, La.new, La.fresh, fun E hE => ?_⟩
    · obtain ⟨j, hj, rfl⟩ := List.mem_iff_getElem.1 hy
      have := La.row j hj
      rw [nextT_one (by rw [La.len]; exact s3)] at this
      rw [hH]; exact this
    · rw [La.conts_, conts_leaf, hli]; exact hm z
    · refine rc_congr (La.rc E hE) (fun k _ => ?_)
      have : inL [] (k : Int) = false := rfl
      rw [this]
      simp
  · exact lay_oks (keep := keep) true [] 1 (rowD xs) c e hr (fun k hk => by have := hs k hk; omega) (by omega) RX s2 (by omega)
theorem del_other {keep : Int} {c : List HC} {k : Nat} (hk : k < c.length) {m : Nat} {key : Int} {e : Int} (hr : rightH ⟨c, keep⟩ = true) (hs : ∀ k (hk : k < c.length), c[k].ref ≤ 1000000) (hb : (bel c 20 (k : Int)).is = true)
    (he : (bel c 20 (k : Int)).hi < e) (hf : (bel c 20 (k : Int)).high ≤ (c.countP freeC : Nat)) (hin : ∃ z ∈ listB c 20 (k : Int), z.1 = key) (hlf : c[k].leaf = false)
    (ih : ∀ e', (bel c 20 (childT c[k].it key).2).hi < e' → (∃ z ∈ listB c 20 (childT c[k].it key).2, z.1 = key) → (bel c 20 (childT c[k].it key).2).high ≤ (c.countP freeC : Nat) → ∃ a, DelR c keep (childT c[k].it key).2 key e' (delS m c (childT c[k].it key).2 key).1 (delS m c (childT c[k].it key).2 key).2 a) :
    (∃ a, DelR c keep (k : Int) key e (delS (m + 1) c (k : Int) key).1 (delS (m + 1) c (k : Int) key).2 a) ∧ okS keep false ((delS m c (childT c[k].it key).2 key).2.map (·.2)) (rowD (withS c[k].it (atI false c[k].it key).toNat 1 (delS m c (childT c[k].it key).2 key).2)) (delS m c (childT c[k].it key).2 key).1 ∧
    delS (m + 1) c (k : Int) key = layS false ((delS m c (childT c[k].it key).2 key).2.map (·.2)) (rowD (withS c[k].it (atI false c[k].it key).toNat 1 (delS m c (childT c[k].it key).2 key).2)) (delS m c (childT c[k].it key).2 key).1 ∧ (∃ z ∈ listB c 20 (childT c[k].it key).2, z.1 = key) := by
  obtain ⟨R, hlo, hli, hnd⟩ := row_of_bel hr hk hb he
  rw [hlf] at R hli
  have hal := allR_of hr
  have hdef : delS (m + 1) c (k : Int) key = layS false ((delS m c (childT c[k].it key).2 key).2.map (·.2)) (rowD (withS c[k].it (atI false c[k].it key).toNat 1 (delS m c (childT c[k].it key).2 key).2)) (delS m c (childT c[k].it key).2 key).1 := by
    rw [delS, cellT_at hk, hlf, if_neg (by simp)]
  rw [hdef]
  obtain ⟨hi, hle⟩ := at_low hnd key
  have hnx := fun hj => at_next hnd key (hi := hj)
  have hch : childT c[k].it key = c[k].it[(atI false c[k].it key).toNat] := itD_at hi
  obtain ⟨H, hH⟩ : ∃ H, (bel c 20 (k : Int)).high = H := ⟨_, rfl⟩
  rw [hH] at R hf
  generalize (atI false c[k].it key).toNat = i at *
  generalize c[k].it = it at *
  obtain ⟨w, hw⟩ : ∃ w, it[i] = w := ⟨_, rfl⟩
  rw [hw] at hch hle
  rw [hch] at ih ⊢
  have hit : it = it.take i ++ (w :: it.drop (i + 1)) := by
    rw [← hw, ← List.drop_eq_getElem_cons hi, List.take_append_drop]
  have hwith : ∀ L, withS it i 1 L = it.take i ++ L ++ it.drop (i + 1) := fun L => rfl
  have hAl : (it.take i).length = i := by rw [List.length_take]; omega
  have hBl : (it.drop (i + 1)).length = it.length - (i + 1) := by rw [List.length_drop]
  have hl4 := hnd.1.2
  have hAm : ∀ y ∈ it.take i, y ∈ it := fun y hy => List.mem_of_mem_take hy
  have hBn : ∀ d, headK (it.drop (i + 1)) d = if h : i + 1 < it.length then it[i + 1].1 else d := fun d => by
    split
    · rename_i h; rw [List.drop_eq_getElem_cons h]; rfl
    · rw [List.drop_of_length_le (by omega)]; rfl
  have hascI := asc_of hnd
  have hBk : ∀ y ∈ it.drop (i + 1), key < y.1 := fun y hy => by
    obtain ⟨j, hj, rfl⟩ := List.mem_iff_getElem.1 hy
    have hj2 : i + 1 + j < it.length := by omega
    rw [List.getElem_drop]
    have h1 := hnx (by omega)
    rcases Nat.eq_zero_or_pos j with h | h
    · subst h; simpa using h1
    · have := hnd.rise (i + 1 + j) (i + 1) hj2 (by omega); omega
  have hfirst : firstK it = headK (it.take i ++ [w]) 0 := by
    conv => lhs; rw [hit]
    cases it.take i with
    | nil => rfl
    | cons y r => rfl
  have R0 := R
  rw [hit] at R0
  obtain ⟨RA, RB⟩ := rowOK_app R0
  obtain ⟨RW, RBs⟩ := rowOK_app (show RowOK c false H ([w] ++ it.drop (i + 1)) e from RB)
  obtain ⟨⟨hH2, hH20⟩, hwp, hwr⟩ := RW.inn rfl
  have hw1 := hwr 0 (by simp)
  simp only [List.getElem_cons_zero, nextT_zero] at hw1
  obtain ⟨wis, whi, wlo, wlt⟩ := hw1
  have hBe : headK (it.drop (i + 1)) e ≤ e := by
    rcases head_or (l := it.drop (i + 1)) e with ⟨_, h⟩ | ⟨y, r, h1, h⟩
    · rw [h]; exact Int.le_refl _
    · rw [h]; exact Int.le_of_lt ((RBs.asc hr).2 y (by rw [h1]; exact List.mem_cons_self))
  have hwx : it.take i ≠ [] → w.1 ≤ key := fun hne => hle (by
    rcases Nat.eq_zero_or_pos i with h | h
    · subst h; simp at hne
    · exact h)
  have hcons : conts c false (w :: it.drop (i + 1)) = listB c 20 w.2 ++ conts c false (it.drop (i + 1)) := by
    rw [conts_other, conts_other, List.flatMap_cons]
  have hA : ∀ z, z ∈ conts c false (it.take i) → z.1 ≠ key := fun z hz => by
    rw [conts_other] at hz
    obtain ⟨y, hy, hz⟩ := List.mem_flatMap.1 hz
    obtain ⟨_, g3, g4⟩ := RA.inn rfl
    obtain ⟨j, hj, rfl⟩ := List.mem_iff_getElem.1 hy
    obtain ⟨b1, b2, b3, b4⟩ := g4 j hj
    have hsp := listB_spans c hal 20 _ (RA.ok _ hy).2.1 (g3 _ hy) b1
    have h1 := hsp.le z hz
    have h2 : nextT (it.take i) j (headK (w :: it.drop (i + 1)) e) ≤ w.1 := by
      unfold nextT
      split
      · rename_i h
        rw [itD_at h]
        exact Int.le_of_lt ((RA.asc hr).2 _ (List.getElem_mem h))
      · exact Int.le_refl _
    have h3 := hwx (fun e => by rw [e] at hj; simp at hj)
    omega
  have hB : ∀ z, z ∈ conts c false (it.drop (i + 1)) → z.1 ≠ key := fun z hz => by
    rw [conts_other] at hz
    obtain ⟨y, hy, hz⟩ := List.mem_flatMap.1 hz
    obtain ⟨_, g3, g4⟩ := RBs.inn rfl
    obtain ⟨j, hj, rfl⟩ := List.mem_iff_getElem.1 hy
    obtain ⟨b1, b2, b3, b4⟩ := g4 j hj
    have hsp := listB_spans c hal 20 _ (RBs.ok _ hy).2.1 (g3 _ hy) b1
    have h1 := hsp.ge z hz
    have h2 := hBk _ hy
    omega
  have hin2 : ∃ z ∈ listB c 20 w.2, z.1 = key := by
    obtain ⟨z, hz, hzk⟩ := hin
    rw [hli, hit, conts_app, hcons, List.mem_append, List.mem_append] at hz
    rcases hz with h | h | h
    · exact absurd hzk (hA z h)
    · exact ⟨z, h, hzk⟩
    · exact absurd hzk (hB z h)
  obtain ⟨a1, I⟩ := ih (headK (it.drop (i + 1)) e) wlt hin2 (by omega)
  refine (fun (hh : _ ∧ _) => ⟨hh.1, hh.2, rfl, hin2⟩) ?_
  generalize delS m c w.2 key = S at *
  obtain ⟨c1, L1⟩ := S
  simp only at I ⊢
  rw [hwith]
  have hr1 := I.right
  have hl1 := allR_of hr1
  have RA1 := RA.keeps I.keeps hal
  have RB1 := RBs.keeps I.keeps hal
  have hL1 := I.len
  have hlw : ∀ y ∈ L1, w.1 ≤ y.1 := fun y hy => by
    obtain ⟨b1, b2, b3, b4⟩ := I.row y hy
    obtain ⟨p0, p1⟩ := I.place y hy
    obtain ⟨z, r, hz, hz1⟩ := (listB_spans c1 hl1 20 y.2 p0 (by rw [I.keeps.len]; exact p1) b1).head
    have hzm := (I.mem z).1 (List.mem_flatMap.2 ⟨y, hy, by rw [hz]; exact List.mem_cons_self⟩)
    have hw0 : 0 ≤ w.2 ∧ w.2 < c.length := ⟨(R.ok w (by rw [hit]; simp)).2.1, hwp w (by simp)⟩
    have := (listB_spans c hal 20 w.2 hw0.1 hw0.2 wis).ge z hzm.1
    omega
  have RL : RowOK c1 false H L1 (headK (it.drop (i + 1)) e) := by
    refine ⟨fun y hy => ?_, (fun h => by cases h), fun _ => ⟨⟨hH2, hH20⟩, fun y hy => by rw [I.keeps.len]; exact (I.place y hy).2, fun j hj => ?_⟩⟩
    · exact key_ok hr1 (I.place _ hy).1 (by rw [I.keeps.len]; exact (I.place _ hy).2) (I.row y hy).1 (I.row y hy).2.2.1
    · obtain ⟨b1, b2, b3, b4⟩ := I.row _ (List.getElem_mem hj)
      rw [nextT_one hL1]
      exact ⟨b1, by omega, b3, b4⟩
  have RLB : RowOK c1 false H (L1 ++ it.drop (i + 1)) e := rowOK_join hr1 RL RB1 (fun y hy => by have := (RL.asc hr1).2 y hy; omega)
  have hw0 : 0 ≤ w.2 ∧ w.2 < c.length := ⟨(R.ok w (by rw [hit]; simp)).2.1, hwp w (by simp)⟩
  have hwh : w.1 ≤ headK (L1 ++ it.drop (i + 1)) e := by
    rcases head_or (l := L1 ++ it.drop (i + 1)) e with ⟨h0, h⟩ | ⟨y, r, h1, h⟩
    · rw [h]
      have h2 := bel_lohi hr hw0.1 hw0.2 wis
      have h3 : it.drop (i + 1) = [] := (List.append_eq_nil_iff.1 h0).2
      rw [h3] at wlt
      have h4 : (bel c 20 w.2).hi < e := wlt
      omega
    · rw [h]
      have hy : y ∈ L1 ++ it.drop (i + 1) := by rw [h1]; exact List.mem_cons_self
      rcases List.mem_append.1 hy with hy | hy
      · exact hlw y hy
      · have h2 := bel_lohi hr hw0.1 hw0.2 wis
        cases L1 with
        | nil =>
          rw [List.nil_append] at h1
          rw [h1] at wlt
          have h4 : (bel c 20 w.2).hi < y.1 := wlt
          omega
        | cons v s =>
          rw [List.cons_append] at h1
          cases h1
          exact hlw _ List.mem_cons_self
  have RX : RowOK c1 false H (it.take i ++ (L1 ++ it.drop (i + 1))) e := rowOK_join hr1 ((show RowOK c1 false H (it.take i) w.1 from RA1).weaken hwh) RLB (fun y hy => (R.asc hr).2 y (hAm y hy))
  rw [← List.append_assoc] at RX
  have h4 : (it.take i ++ L1 ++ it.drop (i + 1)).length ≤ 4 := by rw [List.length_append, List.length_append, hAl, hBl]; omega
  obtain ⟨s1, s2, s3⟩ := rowD_rows h4
  have hmany := I.many
  have hfree := I.free
  have hbd : ∀ k (hk : k < c1.length), c1[k].ref ≤ 1999990000 - 4 * ((rowD (it.take i ++ L1 ++ it.drop (i + 1))).length : Int) := fun k hk => by
    have hk' : k < c.length := by rw [I.keeps.len] at hk; exact hk
    have h1 := I.refs k hk' hk
    have h2 := hs k hk'
    have h3 : (a1 : Int) ≤ 40 := by omega
    split at h1 <;> omega
  refine ⟨?_, lay_oks (keep := keep) false (L1.map (·.2)) H (rowD (it.take i ++ L1 ++ it.drop (i + 1))) c1 e hr1 hbd (by omega) (by rw [s1]; exact RX) s2 (by omega)⟩
  have La := lay_rows (keep := keep) false (L1.map (·.2)) H (rowD (it.take i ++ L1 ++ it.drop (i + 1))) c1 e hr1 hbd (by omega) (by rw [s1]; exact RX) s2 (by omega)
  rw [s1] at La
  refine ⟨a1 + (rowD (it.take i ++ L1 ++ it.drop (i + 1))).length, La.right, I.keeps.trans La.keeps, by rw [La.len]; exact s3, fun y hy => by have := La.place y hy; rw [I.keeps.len] at this; exact this, fun y hy => ?_, fun z => ?_, ?_, by omega, fun k hk hk' => ?_, fun k hk hk' h0 h1 => ?_, fun y hy => ?_, fun E hE => ?_⟩
  · obtain ⟨j, hj, rfl⟩ := List.mem_iff_getElem.1 hy
    have := La.row j hj
    rw [nextT_one (by rw [La.len]; exact s3)] at this
    rw [hH]; exact this
  · rw [La.conts_, conts_app, conts_app, conts_keeps I.keeps hal RA, conts_keeps I.keeps hal RBs, hli]
    conv => rhs; rw [hit, conts_app]
    have hL1c : conts c1 false L1 = L1.flatMap (fun y => listB c1 20 y.2) := conts_other _ _
    rw [hcons, hL1c]
    simp only [List.mem_append]
    rw [I.mem z]
    constructor
    · rintro ((h | h) | h)
      · exact ⟨.inl h, hA z h⟩
      · exact ⟨.inr (.inl h.1), h.2⟩
      · exact ⟨.inr (.inr h), hB z h⟩
    · rintro ⟨h | h | h, hne⟩
      · exact .inl (.inl h)
      · exact .inl (.inr ⟨h, hne⟩)
      · exact .inr h
  · have := La.free; omega
  · have hk1 : k < c1.length := by rw [I.keeps.len]; exact hk
    have h1 := I.refs k hk hk1
    have h2 := La.refs k hk1 hk'
    by_cases h0 : 0 < c[k].ref
    · rw [if_pos h0] at h1 ⊢
      rw [if_pos (I.keeps.cell k hk hk1 h0).1] at h2
      omega
    · rw [if_neg h0] at h1 ⊢
      split at h2 <;> omega
  · have hk1 : k < c1.length := by rw [I.keeps.len]; exact hk
    by_cases h2 : 0 < c1[k].ref
    · have h3 := I.new k hk hk1 h2 h1
      rw [(bel_keeps La.keeps hl1 20 (k : Int) (by omega) (by omega) h3).1]
      exact h3
    · exact La.new k hk1 hk' h0 h2
  · cases hu : usedC c y.2
    · rfl
    · have := La.fresh y hy
      rw [I.keeps.used hu] at this
      cases this
  · refine rc_congr (La.rc _ (I.rc E hE)) (fun k hk2 => ?_)
    have hzero : inL (L1.map (·.2)) (k : Int) = true → ∀ s : List It, (∀ y ∈ s, y ∈ it) → (s.map (·.2)).count (k : Int) = 0 := fun h s hs' => by
      rw [List.count_eq_zero]
      intro hm
      obtain ⟨y, hy, he⟩ := List.mem_map.1 hm
      obtain ⟨v, hv, he2⟩ := List.mem_map.1 (inL_iff.1 h)
      have h1 := I.fresh v hv
      rw [he2] at h1
      obtain ⟨j, hj, hje⟩ := List.mem_iff_getElem.1 (hs' y hy)
      obtain ⟨_, g3, g4⟩ := R.inn rfl
      have h2 := (g4 j hj).1
      rw [hje, he] at h2
      have h3 := (bel_is (m := 19) h2).1
      have hkc : k < c.length := by have := g3 y (hs' y hy); rw [he] at this; omega
      rw [cellT_at hkc] at h3
      rw [usedC_at hkc, decide_eq_true h3] at h1
      cases h1
    have htold : toldL false (it.take i ++ L1 ++ it.drop (i + 1)) = (it.take i).map (·.2) ++ L1.map (·.2) ++ (it.drop (i + 1)).map (·.2) := by
      show (it.take i ++ L1 ++ it.drop (i + 1)).map Prod.snd = _
      rw [List.map_append, List.map_append]
    rw [htold, List.count_append, List.count_append]
    cases hin : inL (L1.map (·.2)) (k : Int)
    · have h0 : (L1.map (·.2)).count (k : Int) = 0 := by
        rw [List.count_eq_zero]
        intro hm
        rw [inL_iff.2 hm] at hin
        cases hin
      rw [h0]
      simp
    · rw [hzero hin _ hAm, hzero hin _ (fun y hy => List.mem_of_mem_drop hy)]
      simp
      omega
theorem del_ok {keep : Int} : ∀ (m : Nat) (c : List HC) (p : Int) (key : Int) (e : Int), m ≤ 20 → rightH ⟨c, keep⟩ = true → (∀ k (hk : k < c.length), c[k].ref ≤ 1000000) → 0 ≤ p → p < c.length → (bel c m p).is = true → (bel c 20 p).hi < e → (∃ z ∈ listB c 20 p, z.1 = key) →
    (bel c 20 p).high ≤ (c.countP freeC : Nat) → ∃ a, DelR c keep p key e (delS m c p key).1 (delS m c p key).2 a
  | 0, _, _, _, _, _, _, _, _, _, hb, _, _, _ => (bel_zero hb).elim
  | m + 1, c, p, key, e, hm, hr, hs, h0, h1, hb, he, hin, hf => by
    obtain ⟨k, rfl⟩ := Int.eq_ofNat_of_zero_le h0
    have hk : k < c.length := by omega
    have hb20 : (bel c 20 (k : Int)).is = true := by rw [bel_mono c (m + 1) 20 _ hb hm]; exact hb
    obtain ⟨hrf, hc⟩ := bel_is hb
    rw [cellT_at hk] at hrf hc
    have hok := cell_ok ((rightH_iff hr).2 k hk) hrf
    rcases hc with ⟨hlf, _⟩ | ⟨hlf, _, hch⟩
    · exact (del_leaf hk hr hs hb20 he hf hin hlf).1
    · obtain ⟨hi, _⟩ := at_low hok.1 key
      have hcm : childT c[k].it key ∈ c[k].it := by
        have : childT c[k].it key = c[k].it[(atI false c[k].it key).toNat] := itD_at hi
        rw [this]; exact List.getElem_mem hi
      exact (del_other hk hr hs hb20 he hf hin hlf (fun e' h2 h3 h4 => del_ok m c _ key e' (by omega) hr hs (hok.2 hlf _ hcm).1 (hok.2 hlf _ hcm).2 (hch _ hcm).1 h2 h3 h4)).1
end Go.Proofs.YtbfbpddfcakieaaGreat
