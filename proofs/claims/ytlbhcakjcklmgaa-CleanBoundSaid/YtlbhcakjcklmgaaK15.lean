/- A node, made anew without a key: the plain theory. The root that is gone down from: the plain theory. An item less in a tree: the plain theory. -/
import Derived.Test.YtlbhcakjcklmgaaK14
namespace Go.Proofs.Ytlbhcakjcklmgaa
open Go.RowKit

theorem nextT_le (xs : List It) (j : Nat) {e e' : Int} (he : e ≤ e') : nextT xs j e ≤ nextT xs j e' := by
  unfold nextT; split
  · exact Int.le_refl _
  · exact he
theorem nextT_one {xs : List It} (h : xs.length ≤ 1) (j : Nat) (e : Int) : nextT xs j e = e := by unfold nextT; rw [if_neg (by omega)]
theorem RowOK.weaken {c : List HC} {leaf : Bool} {h : Int} {xs : List It} {e e' : Int} (H : RowOK c leaf h xs e) (he : e ≤ e') : RowOK c leaf h xs e' :=
  ⟨H.ok, fun hl => ⟨(H.lf hl).1, (H.lf hl).2.1, fun y hy => Int.lt_of_lt_of_le ((H.lf hl).2.2 y hy) he⟩, fun hl => ⟨(H.inn hl).1, (H.inn hl).2.1, fun j hj => by
    obtain ⟨b1, b2, b3, b4⟩ := (H.inn hl).2.2 j hj
    exact ⟨b1, b2, b3, Int.lt_of_lt_of_le b4 (nextT_le xs j he)⟩⟩⟩
/-- Items as a row, if there is one. -/
def rowD (xs : List It) : List (List It) := if xs.length = 0 then [] else [xs]
theorem rowD_rows {xs : List It} (h4 : xs.length ≤ 4) : (rowD xs).flatten = xs ∧ (∀ r ∈ rowD xs, 1 ≤ r.length ∧ r.length ≤ 4) ∧ (rowD xs).length ≤ 1 := by
  unfold rowD
  by_cases h : xs.length = 0
  · rw [if_pos h, List.eq_nil_of_length_eq_zero h]; simp
  · rw [if_neg h]
    refine ⟨by simp, fun r hr => ?_, by simp⟩
    simp only [List.mem_cons, List.not_mem_nil, or_false] at hr
    subst hr; omega
def delS : Nat → List HC → Int → Int → List HC × List It
  | 0, c, _, _ => (c, [])
  | m + 1, c, p, key => if (cellT c p).leaf then layS true [] (rowD (withS (cellT c p).it (atI true (cellT c p).it key).toNat 1 [])) c
    else layS false ((delS m c (childT (cellT c p).it key).2 key).2.map (·.2)) (rowD (withS (cellT c p).it (atI false (cellT c p).it key).toNat 1 (delS m c (childT (cellT c p).it key).2 key).2)) (delS m c (childT (cellT c p).it key).2 key).1
structure DelR (c : List HC) (keep : Int) (p : Int) (key : Int) (e : Int) (c' : List HC) (L : List It) (a : Nat) : Prop where
  right : rightH ⟨c', keep⟩ = true
  keeps : Keeps c c'
  len : L.length ≤ 1
  place : ∀ y ∈ L, 0 ≤ y.2 ∧ y.2 < c.length
  row : ∀ y ∈ L, (bel c' 20 y.2).is = true ∧ (bel c' 20 y.2).high = (bel c 20 p).high ∧ (bel c' 20 y.2).lo = y.1 ∧ (bel c' 20 y.2).hi < e
  mem : ∀ z, z ∈ L.flatMap (fun y => listB c' 20 y.2) ↔ z ∈ listB c 20 p ∧ z.1 ≠ key
  free : c'.countP freeC + a = c.countP freeC
  many : (a : Int) ≤ (bel c 20 p).high
  refs : ∀ k (hk : k < c.length) (hk' : k < c'.length), c'[k].ref ≤ (if 0 < c[k].ref then c[k].ref else 1) + 4 * (a : Int)
  new : ∀ k (hk : k < c.length) (hk' : k < c'.length), 0 < c'[k].ref → ¬ 0 < c[k].ref → (bel c' 20 (k : Int)).is = true
  fresh : ∀ y ∈ L, usedC c y.2 = false
  rc : ∀ E, RC c E → RC c' (fun k => E k + (((L.map (·.2)).count k : Nat) : Int))
theorem without_mem {it : List It} (h : NdR it) {key : Int} (hb : atB it key = true) (z : It) : z ∈ withS it (atC it key) 1 [] ↔ z ∈ it ∧ z.1 ≠ key := by
  obtain ⟨k, hk, hke⟩ := atB_ex hb
  have hat := atC_at h hk hke
  rw [hat]
  have hit : it = it.take k ++ (it[k] :: it.drop (k + 1)) := by rw [← List.drop_eq_getElem_cons hk, List.take_append_drop]
  have ha := asc_of h
  rw [hit] at ha
  have ha2 := List.pairwise_append.1 ha
  have ha3 := List.pairwise_cons.1 ha2.2.1
  unfold withS
  rw [List.append_nil, List.mem_append]
  conv => rhs; rw [hit]
  rw [List.mem_append, List.mem_cons]
  constructor
  · rintro (h1 | h1)
    · exact ⟨.inl h1, by have := ha2.2.2 z h1 _ List.mem_cons_self; omega⟩
    · exact ⟨.inr (.inr h1), by have := ha3.1 z h1; omega⟩
  · rintro ⟨h1 | h1 | h1, h2⟩
    · exact .inl h1
    · subst h1; exact absurd hke h2
    · exact .inr h1
theorem del_leaf {keep : Int} {c : List HC} {k : Nat} (hk : k < c.length) {m : Nat} {key : Int} {e : Int} (hr : rightH ⟨c, keep⟩ = true) (hs : ∀ k (hk : k < c.length), c[k].ref ≤ 1000000) (hb : (bel c 20 (k : Int)).is = true)
    (he : (bel c 20 (k : Int)).hi < e) (hf : (bel c 20 (k : Int)).high ≤ (c.countP freeC : Nat)) (hin : ∃ z ∈ listB c 20 (k : Int), z.1 = key) (hlf : c[k].leaf = true) : (∃ a, DelR c keep (k : Int) key e (delS (m + 1) c (k : Int) key).1 (delS (m + 1) c (k : Int) key).2 a) ∧ okS keep true [] (rowD (withS c[k].it (atC c[k].it key) 1 [])) c ∧ delS (m + 1) c (k : Int) key = layS true [] (rowD (withS c[k].it (atC c[k].it key) 1 [])) c ∧ atB c[k].it key = true := by
  obtain ⟨R, hlo, hli, hnd⟩ := row_of_bel hr hk hb he
  rw [hlf] at R hli
  obtain ⟨hH, hasc, hlt⟩ := R.lf rfl
  rw [conts_leaf] at hli
  have hab : atB c[k].it key = true := by
    obtain ⟨z, hz, hzk⟩ := hin
    rw [hli] at hz
    unfold atB
    rw [List.any_eq_true]
    exact ⟨z, hz, decide_eq_true hzk⟩
  have hdef : delS (m + 1) c (k : Int) key = layS true [] (rowD (withS c[k].it (atC c[k].it key) 1 [])) c := by
    rw [delS, cellT_at hk, hlf, if_pos rfl, atI_leaf, Int.toNat_natCast]
  have hm := without_mem hnd hab
  have h4 : (withS c[k].it (atC c[k].it key) 1 []).length ≤ 4 := by
    have := hnd.1.2
    unfold withS
    rw [List.append_nil, List.length_append, List.length_take, List.length_drop]
    omega
  have hasc2 : Asc (withS c[k].it (atC c[k].it key) 1 []) := by
    unfold withS
    rw [List.append_nil]
    have h := hasc
    rw [← List.take_append_drop (atC c[k].it key) c[k].it] at h
    have h1 := List.pairwise_append.1 h
    refine List.pairwise_append.2 ⟨h1.1, ?_, fun a ha b hb => h1.2.2 a ha b ?_⟩
    · have e1 : c[k].it.drop (atC c[k].it key + 1) = (c[k].it.drop (atC c[k].it key)).drop 1 := by rw [List.drop_drop]
      rw [e1]
      exact h1.2.1.drop
    · have e1 : c[k].it.drop (atC c[k].it key + 1) = (c[k].it.drop (atC c[k].it key)).drop 1 := by rw [List.drop_drop]
      rw [e1] at hb
      exact List.mem_of_mem_drop hb
  refine ⟨?_, ?_, hdef, hab⟩
  rw [hdef]
  all_goals
    generalize withS c[k].it (atC c[k].it key) 1 [] = xs at *
    obtain ⟨s1, s2, s3⟩ := rowD_rows h4
    have RX : RowOK c true 1 (rowD xs).flatten e := by rw [s1]; exact ⟨fun y hy => R.ok y ((hm y).1 hy).1, fun _ => ⟨rfl, hasc2, fun y hy => hlt y ((hm y).1 hy).1⟩, fun h => by cases h⟩
  · have La := lay_rows (keep := keep) true [] 1 (rowD xs) c e hr (fun k hk => by have := hs k hk; omega) (by omega) RX s2 (by omega)
    rw [s1] at La
    refine ⟨(rowD xs).length, La.right, La.keeps, by rw [La.len]; exact s3, La.place, fun y hy => ?_, fun z => ?_, La.free, by omega, La.refs, La.new, La.fresh, fun E hE => ?_⟩
    · obtain ⟨j, hj, rfl⟩ := List.mem_iff_getElem.1 hy
      have := La.row j hj
      rw [nextT_one (by rw [La.len]; exact s3)] at this
      rw [hH]; exact this
    · rw [La.conts_, conts_leaf, hli]; exact hm z
    · refine rc_congr (La.rc E hE) (fun k _ => ?_)
      have : inL [] (k : Int) = false := rfl
      rw [this]
      simp
  · exact lay_oks (keep := keep) true [] 1 (rowD xs) c e hr (fun k hk => by have := hs k hk; omega) (by omega) RX s2 (by omega)
theorem del_other {keep : Int} {c : List HC} {k : Nat} (hk : k < c.length) {m : Nat} {key : Int} {e : Int} (hr : rightH ⟨c, keep⟩ = true) (hs : ∀ k (hk : k < c.length), c[k].ref ≤ 1000000) (hb : (bel c 20 (k : Int)).is = true)
    (he : (bel c 20 (k : Int)).hi < e) (hf : (bel c 20 (k : Int)).high ≤ (c.countP freeC : Nat)) (hin : ∃ z ∈ listB c 20 (k : Int), z.1 = key) (hlf : c[k].leaf = false)
    (ih : ∀ e', (bel c 20 (childT c[k].it key).2).hi < e' → (∃ z ∈ listB c 20 (childT c[k].it key).2, z.1 = key) → (bel c 20 (childT c[k].it key).2).high ≤ (c.countP freeC : Nat) → ∃ a, DelR c keep (childT c[k].it key).2 key e' (delS m c (childT c[k].it key).2 key).1 (delS m c (childT c[k].it key).2 key).2 a) :
    (∃ a, DelR c keep (k : Int) key e (delS (m + 1) c (k : Int) key).1 (delS (m + 1) c (k : Int) key).2 a) ∧ okS keep false ((delS m c (childT c[k].it key).2 key).2.map (·.2)) (rowD (withS c[k].it (atI false c[k].it key).toNat 1 (delS m c (childT c[k].it key).2 key).2)) (delS m c (childT c[k].it key).2 key).1 ∧
    delS (m + 1) c (k : Int) key = layS false ((delS m c (childT c[k].it key).2 key).2.map (·.2)) (rowD (withS c[k].it (atI false c[k].it key).toNat 1 (delS m c (childT c[k].it key).2 key).2)) (delS m c (childT c[k].it key).2 key).1 ∧ (∃ z ∈ listB c 20 (childT c[k].it key).2, z.1 = key) := by
  obtain ⟨R, hlo, hli, hnd⟩ := row_of_bel hr hk hb he
  rw [hlf] at R hli
  have hal := allR_of hr
  have hdef : delS (m + 1) c (k : Int) key = layS false ((delS m c (childT c[k].it key).2 key).2.map (·.2)) (rowD (withS c[k].it (atI false c[k].it key).toNat 1 (delS m c (childT c[k].it key).2 key).2)) (delS m c (childT c[k].it key).2 key).1 := by
    rw [delS, cellT_at hk, hlf, if_neg (by simp)]
  rw [hdef]
  obtain ⟨hi, hle⟩ := at_low hnd key
  have hnx := fun hj => at_next hnd key (hi := hj)
  have hch : childT c[k].it key = c[k].it[(atI false c[k].it key).toNat] := itD_at hi
  obtain ⟨H, hH⟩ : ∃ H, (bel c 20 (k : Int)).high = H := ⟨_, rfl⟩
  rw [hH] at R hf
  generalize (atI false c[k].it key).toNat = i at *
  generalize c[k].it = it at *
  obtain ⟨w, hw⟩ : ∃ w, it[i] = w := ⟨_, rfl⟩
  rw [hw] at hch hle
  rw [hch] at ih ⊢
  have hit : it = it.take i ++ (w :: it.drop (i + 1)) := by
    rw [← hw, ← List.drop_eq_getElem_cons hi, List.take_append_drop]
  have hwith : ∀ L, withS it i 1 L = it.take i ++ L ++ it.drop (i + 1) := fun L => rfl
  have hAl : (it.take i).length = i := by rw [List.length_take]; omega
  have hBl : (it.drop (i + 1)).length = it.length - (i + 1) := by rw [List.length_drop]
  have hl4 := hnd.1.2
  have hAm : ∀ y ∈ it.take i, y ∈ it := fun y hy => List.mem_of_mem_take hy
  have hBn : ∀ d, headK (it.drop (i + 1)) d = if h : i + 1 < it.length then it[i + 1].1 else d := fun d => by
    split
    · rename_i h; rw [List.drop_eq_getElem_cons h]; rfl
    · rw [List.drop_of_length_le (by omega)]; rfl
  have hascI := asc_of hnd
  have hBk : ∀ y ∈ it.drop (i + 1), key < y.1 := fun y hy => by
    obtain ⟨j, hj, rfl⟩ := List.mem_iff_getElem.1 hy
    have hj2 : i + 1 + j < it.length := by omega
    rw [List.getElem_drop]
    have h1 := hnx (by omega)
    rcases Nat.eq_zero_or_pos j with h | h
    · subst h; simpa using h1
    · have := hnd.rise (i + 1 + j) (i + 1) hj2 (by omega); omega
  have hfirst : firstK it = headK (it.take i ++ [w]) 0 := by
    conv => lhs; rw [hit]
    cases it.take i with
    | nil => rfl
    | cons y r => rfl
  have R0 := R
  rw [hit] at R0
  obtain ⟨RA, RB⟩ := rowOK_app R0
  obtain ⟨RW, RBs⟩ := rowOK_app (show RowOK c false H ([w] ++ it.drop (i + 1)) e from RB)
  obtain ⟨⟨hH2, hH20⟩, hwp, hwr⟩ := RW.inn rfl
  have hw1 := hwr 0 (by simp)
  simp only [List.getElem_cons_zero, nextT_zero] at hw1
  obtain ⟨wis, whi, wlo, wlt⟩ := hw1
  have hBe : headK (it.drop (i + 1)) e ≤ e := by
    rcases head_or (l := it.drop (i + 1)) e with ⟨_, h⟩ | ⟨y, r, h1, h⟩
    · rw [h]; exact Int.le_refl _
    · rw [h]; exact Int.le_of_lt ((RBs.asc hr).2 y (by rw [h1]; exact List.mem_cons_self))
  have hwx : it.take i ≠ [] → w.1 ≤ key := fun hne => hle (by
    rcases Nat.eq_zero_or_pos i with h | h
    · subst h; simp at hne
    · exact h)
  have hcons : conts c false (w :: it.drop (i + 1)) = listB c 20 w.2 ++ conts c false (it.drop (i + 1)) := by
    rw [conts_other, conts_other, List.flatMap_cons]
  have hA : ∀ z, z ∈ conts c false (it.take i) → z.1 ≠ key := fun z hz => by
    rw [conts_other] at hz
    obtain ⟨y, hy, hz⟩ := List.mem_flatMap.1 hz
    obtain ⟨_, g3, g4⟩ := RA.inn rfl
    obtain ⟨j, hj, rfl⟩ := List.mem_iff_getElem.1 hy
    obtain ⟨b1, b2, b3, b4⟩ := g4 j hj
    have hsp := listB_spans c hal 20 _ (RA.ok _ hy).2.1 (g3 _ hy) b1
    have h1 := hsp.le z hz
    have h2 : nextT (it.take i) j (headK (w :: it.drop (i + 1)) e) ≤ w.1 := by
      unfold nextT
      split
      · rename_i h
        rw [itD_at h]
        exact Int.le_of_lt ((RA.asc hr).2 _ (List.getElem_mem h))
      · exact Int.le_refl _
    have h3 := hwx (fun e => by rw [e] at hj; simp at hj)
    omega
  have hB : ∀ z, z ∈ conts c false (it.drop (i + 1)) → z.1 ≠ key := fun z hz => by
    rw [conts_other] at hz
    obtain ⟨y, hy, hz⟩ := List.mem_flatMap.1 hz
    obtain ⟨_, g3, g4⟩ := RBs.inn rfl
    obtain ⟨j, hj, rfl⟩ := List.mem_iff_getElem.1 hy
    obtain ⟨b1, b2, b3, b4⟩ := g4 j hj
    have hsp := listB_spans c hal 20 _ (RBs.ok _ hy).2.1 (g3 _ hy) b1
    have h1 := hsp.ge z hz
    have h2 := hBk _ hy
    omega
  have hin2 : ∃ z ∈ listB c 20 w.2, z.1 = key := by
    obtain ⟨z, hz, hzk⟩ := hin
    rw [hli, hit, conts_app, hcons, List.mem_append, List.mem_append] at hz
    rcases hz with h | h | h
    · exact absurd hzk (hA z h)
    · exact ⟨z, h, hzk⟩
    · exact absurd hzk (hB z h)
  obtain ⟨a1, I⟩ := ih (headK (it.drop (i + 1)) e) wlt hin2 (by omega)
  refine (fun (hh : _ ∧ _) => ⟨hh.1, hh.2, rfl, hin2⟩) ?_
  generalize delS m c w.2 key = S at *
  obtain ⟨c1, L1⟩ := S
  simp only at I ⊢
  rw [hwith]
  have hr1 := I.right
  have hl1 := allR_of hr1
  have RA1 := RA.keeps I.keeps hal
  have RB1 := RBs.keeps I.keeps hal
  have hL1 := I.len
  have hlw : ∀ y ∈ L1, w.1 ≤ y.1 := fun y hy => by
    obtain ⟨b1, b2, b3, b4⟩ := I.row y hy
    obtain ⟨p0, p1⟩ := I.place y hy
    obtain ⟨z, r, hz, hz1⟩ := (listB_spans c1 hl1 20 y.2 p0 (by rw [I.keeps.len]; exact p1) b1).head
    have hzm := (I.mem z).1 (List.mem_flatMap.2 ⟨y, hy, by rw [hz]; exact List.mem_cons_self⟩)
    have hw0 : 0 ≤ w.2 ∧ w.2 < c.length := ⟨(R.ok w (by rw [hit]; simp)).2.1, hwp w (by simp)⟩
    have := (listB_spans c hal 20 w.2 hw0.1 hw0.2 wis).ge z hzm.1
    omega
  have RL : RowOK c1 false H L1 (headK (it.drop (i + 1)) e) := by
    refine ⟨fun y hy => ?_, (fun h => by cases h), fun _ => ⟨⟨hH2, hH20⟩, fun y hy => by rw [I.keeps.len]; exact (I.place y hy).2, fun j hj => ?_⟩⟩
    · exact key_ok hr1 (I.place _ hy).1 (by rw [I.keeps.len]; exact (I.place _ hy).2) (I.row y hy).1 (I.row y hy).2.2.1
    · obtain ⟨b1, b2, b3, b4⟩ := I.row _ (List.getElem_mem hj)
      rw [nextT_one hL1]
      exact ⟨b1, by omega, b3, b4⟩
  have RLB : RowOK c1 false H (L1 ++ it.drop (i + 1)) e := rowOK_join hr1 RL RB1 (fun y hy => by have := (RL.asc hr1).2 y hy; omega)
  have hw0 : 0 ≤ w.2 ∧ w.2 < c.length := ⟨(R.ok w (by rw [hit]; simp)).2.1, hwp w (by simp)⟩
  have hwh : w.1 ≤ headK (L1 ++ it.drop (i + 1)) e := by
    rcases head_or (l := L1 ++ it.drop (i + 1)) e with ⟨h0, h⟩ | ⟨y, r, h1, h⟩
    · rw [h]
      have h2 := bel_lohi hr hw0.1 hw0.2 wis
      have h3 : it.drop (i + 1) = [] := (List.append_eq_nil_iff.1 h0).2
      rw [h3] at wlt
      have h4 : (bel c 20 w.2).hi < e := wlt
      omega
    · rw [h]
      have hy : y ∈ L1 ++ it.drop (i + 1) := by rw [h1]; exact List.mem_cons_self
      rcases List.mem_append.1 hy with hy | hy
      · exact hlw y hy
      · have h2 := bel_lohi hr hw0.1 hw0.2 wis
        cases L1 with
        | nil =>
          rw [List.nil_append] at h1
          rw [h1] at wlt
          have h4 : (bel c 20 w.2).hi < y.1 := wlt
          omega
        | cons v s =>
          rw [List.cons_append] at h1
          cases h1
          exact hlw _ List.mem_cons_self
  have RX : RowOK c1 false H (it.take i ++ (L1 ++ it.drop (i + 1))) e := rowOK_join hr1 ((show RowOK c1 false H (it.take i) w.1 from RA1).weaken hwh) RLB (fun y hy => (R.asc hr).2 y (hAm y hy))
  rw [← List.append_assoc] at RX
  have h4 : (it.take i ++ L1 ++ it.drop (i + 1)).length ≤ 4 := by rw [List.length_append, List.length_append, hAl, hBl]; omega
  obtain ⟨s1, s2, s3⟩ := rowD_rows h4
  have hmany := I.many
  have hfree := I.free
  have hbd : ∀ k (hk : k < c1.length), c1[k].ref ≤ 1999990000 - 4 * ((rowD (it.take i ++ L1 ++ it.drop (i + 1))).length : Int) := fun k hk => by
    have hk' : k < c.length := by rw [I.keeps.len] at hk; exact hk
    have h1 := I.refs k hk' hk
    have h2 := hs k hk'
    have h3 : (a1 : Int) ≤ 40 := by omega
    split at h1 <;> omega
  refine ⟨?_, lay_oks (keep := keep) false (L1.map (·.2)) H (rowD (it.take i ++ L1 ++ it.drop (i + 1))) c1 e hr1 hbd (by omega) (by rw [s1]; exact RX) s2 (by omega)⟩
  have La := lay_rows (keep := keep) false (L1.map (·.2)) H (rowD (it.take i ++ L1 ++ it.drop (i + 1))) c1 e hr1 hbd (by omega) (by rw [s1]; exact RX) s2 (by omega)
  rw [s1] at La
  refine ⟨a1 + (rowD (it.take i ++ L1 ++ it.drop (i + 1))).length, La.right, I.keeps.trans La.keeps, by rw [La.len]; exact s3, fun y hy => by have := La.place y hy; rw [I.keeps.len] at this; exact this, fun y hy => ?_, fun z => ?_, ?_, by omega, fun k hk hk' => ?_, fun k hk hk' h0 h1 => ?_, fun y hy => ?_, fun E hE => ?_⟩
  · obtain ⟨j, hj, rfl⟩ := List.mem_iff_getElem.1 hy
    have := La.row j hj
    rw [nextT_one (by rw [La.len]; exact s3)] at this
    rw [hH]; exact this
  · rw [La.conts_, conts_app, conts_app, conts_keeps I.keeps hal RA, conts_keeps I.keeps hal RBs, hli]
    conv => rhs; rw [hit, conts_app]
    have hL1c : conts c1 false L1 = L1.flatMap (fun y => listB c1 20 y.2) := conts_other _ _
    rw [hcons, hL1c]
    simp only [List.mem_append]
    rw [I.mem z]
    constructor
    · rintro ((h | h) | h)
      · exact ⟨.inl h, hA z h⟩
      · exact ⟨.inr (.inl h.1), h.2⟩
      · exact ⟨.inr (.inr h), hB z h⟩
    · rintro ⟨h | h | h, hne⟩
      · exact .inl (.inl h)
      · exact .inl (.inr ⟨h, hne⟩)
      · exact .inr h
  · have := La.free; omega
  · have hk1 : k < c1.length := by rw [I.keeps.len]; exact hk
    have h1 := I.refs k hk hk1
    have h2 := La.refs k hk1 hk'
    by_cases h0 : 0 < c[k].ref
    · rw [if_pos h0] at h1 ⊢
      rw [if_pos (I.keeps.cell k hk hk1 h0).1] at h2
      omega
    · rw [if_neg h0] at h1 ⊢
      split at h2 <;> omega
  · have hk1 : k < c1.length := by rw [I.keeps.len]; exact hk
    by_cases h2 : 0 < c1[k].ref
    · have h3 := I.new k hk hk1 h2 h1
      rw [(bel_keeps La.keeps hl1 20 (k : Int) (by omega) (by omega) h3).1]
      exact h3
    · exact La.new k hk1 hk' h0 h2
  · cases hu : usedC c y.2
    · rfl
    · have := La.fresh y hy
      rw [I.keeps.used hu] at this
      cases this
  · refine rc_congr (La.rc _ (I.rc E hE)) (fun k hk2 => ?_)
    have hzero : inL (L1.map (·.2)) (k : Int) = true → ∀ s : List It, (∀ y ∈ s, y ∈ it) → (s.map (·.2)).count (k : Int) = 0 := fun h s hs' => by
      rw [List.count_eq_zero]
      intro hm
      obtain ⟨y, hy, he⟩ := List.mem_map.1 hm
      obtain ⟨v, hv, he2⟩ := List.mem_map.1 (inL_iff.1 h)
      have h1 := I.fresh v hv
      rw [he2] at h1
      obtain ⟨j, hj, hje⟩ := List.mem_iff_getElem.1 (hs' y hy)
      obtain ⟨_, g3, g4⟩ := R.inn rfl
      have h2 := (g4 j hj).1
      rw [hje, he] at h2
      have h3 := (bel_is (m := 19) h2).1
      have hkc : k < c.length := by have := g3 y (hs' y hy); rw [he] at this; omega
      rw [cellT_at hkc] at h3
      rw [usedC_at hkc, decide_eq_true h3] at h1
      cases h1
    have htold : toldL false (it.take i ++ L1 ++ it.drop (i + 1)) = (it.take i).map (·.2) ++ L1.map (·.2) ++ (it.drop (i + 1)).map (·.2) := by
      show (it.take i ++ L1 ++ it.drop (i + 1)).map Prod.snd = _
      rw [List.map_append, List.map_append]
    rw [htold, List.count_append, List.count_append]
    cases hin : inL (L1.map (·.2)) (k : Int)
    · have h0 : (L1.map (·.2)).count (k : Int) = 0 := by
        rw [List.count_eq_zero]
        intro hm
        rw [inL_iff.2 hm] at hin
        cases hin
      rw [h0]
      simp
    · rw [hzero hin _ hAm, hzero hin _ (fun y hy => List.mem_of_mem_drop hy)]
      simp
      omega
theorem del_ok {keep : Int} : ∀ (m : Nat) (c : List HC) (p : Int) (key : Int) (e : Int), m ≤ 20 → rightH ⟨c, keep⟩ = true → (∀ k (hk : k < c.length), c[k].ref ≤ 1000000) → 0 ≤ p → p < c.length → (bel c m p).is = true → (bel c 20 p).hi < e → (∃ z ∈ listB c 20 p, z.1 = key) →
    (bel c 20 p).high ≤ (c.countP freeC : Nat) → ∃ a, DelR c keep p key e (delS m c p key).1 (delS m c p key).2 a
  | 0, _, _, _, _, _, _, _, _, _, hb, _, _, _ => (bel_zero hb).elim
  | m + 1, c, p, key, e, hm, hr, hs, h0, h1, hb, he, hin, hf => by
    obtain ⟨k, rfl⟩ := Int.eq_ofNat_of_zero_le h0
    have hk : k < c.length := by omega
    have hb20 : (bel c 20 (k : Int)).is = true := by rw [bel_mono c (m + 1) 20 _ hb hm]; exact hb
    obtain ⟨hrf, hc⟩ := bel_is hb
    rw [cellT_at hk] at hrf hc
    have hok := cell_ok ((rightH_iff hr).2 k hk) hrf
    rcases hc with ⟨hlf, _⟩ | ⟨hlf, _, hch⟩
    · exact (del_leaf hk hr hs hb20 he hf hin hlf).1
    · obtain ⟨hi, _⟩ := at_low hok.1 key
      have hcm : childT c[k].it key ∈ c[k].it := by
        have : childT c[k].it key = c[k].it[(atI false c[k].it key).toNat] := itD_at hi
        rw [this]; exact List.getElem_mem hi
      exact (del_other hk hr hs hb20 he hf hin hlf (fun e' h2 h3 h4 => del_ok m c _ key e' (by omega) hr hs (hok.2 hlf _ hcm).1 (hok.2 hlf _ hcm).2 (hch _ hcm).1 h2 h3 h4)).1
end Go.Proofs.Ytlbhcakjcklmgaa
namespace Go.Proofs.Ytlbhcakjcklmgaa
open Go.RowKit

theorem hold_up {c : List HC} {k : Nat} (hu : usedC c (k : Int) = true) : moreI c (k : Int) = upL c [(k : Int)] := by
  have h := more_up (l := c) (ps := [(k : Int)]) (fun p hp => by simp only [List.mem_cons, List.not_mem_nil, or_false] at hp; subst hp; exact hu)
  simpa using h
theorem up_one {c : List HC} {k j : Nat} (hj : j < c.length) : (upL c [(k : Int)])[j]'(by rw [upL_len]; exact hj) = ⟨c[j].ref + (if j = k then 1 else 0), c[j].pin, c[j].leaf, c[j].it⟩ := by
  rw [upL_at hj]
  unfold upC
  have : [(k : Int)].count (j : Int) = if j = k then 1 else 0 := by
    rw [List.count_singleton]
    by_cases h : j = k
    · subst h; simp
    · rw [if_neg h, if_neg (by simp; omega)]
  rw [this]
  split <;> rfl
theorem up_keeps {c : List HC} {k : Nat} : Keeps c (upL c [(k : Int)]) := ⟨upL_len _ _, fun j hj hj' h0 => by
  rw [up_one hj]
  refine ⟨?_, rfl, rfl⟩
  show 0 < c[j].ref + (if j = k then 1 else 0)
  split <;> omega⟩
theorem up_rc {c : List HC} {k : Nat} (hk : k < c.length) (h0 : 0 < c[k].ref) {E : Int → Int} (h : RC c E) : RC (upL c [(k : Int)]) (fun j => E j + (if j = (k : Int) then 1 else 0)) := fun j hj => by
  have hj' : j < c.length := by rw [upL_len] at hj; exact hj
  have hin : inn (upL c [(k : Int)]) (j : Int) = inn c (j : Int) := inn_congr (upL_len _ _) (fun i hi hi' => by
    rw [up_one hi]
    unfold tellC
    simp only
    by_cases h : i = k
    · subst h; rw [if_pos rfl, if_pos h0, if_pos (by omega)]
    · rw [if_neg h, Int.add_zero]) (j : Int)
  rw [hin, up_one hj']
  have h1 := h j hj'
  show c[j].ref + (if j = k then 1 else 0) = E (j : Int) + (if (j : Int) = (k : Int) then 1 else 0) + _
  by_cases h : j = k
  · rw [if_pos h, if_pos (by omega)]; omega
  · rw [if_neg h, if_neg (by omega)]; omega
theorem up_free {c : List HC} {k : Nat} (h0 : ∀ hk : k < c.length, 0 < c[k].ref) : (upL c [(k : Int)]).countP freeC = c.countP freeC := by
  have e : (upL c [(k : Int)]).map freeC = c.map freeC := by
    apply List.ext_getElem (by rw [List.length_map, List.length_map, upL_len])
    intro j h1 h2
    have hj : j < c.length := by simpa using h2
    rw [List.getElem_map, List.getElem_map, up_one hj]
    unfold freeC
    simp only
    by_cases h : j = k
    · subst h
      have := h0 hj
      rw [if_pos rfl, decide_eq_false (by omega), decide_eq_false (by omega)]
    · rw [if_neg h, Int.add_zero]
  have h1 := congrArg (fun l => l.countP id) e
  simp only [List.countP_map] at h1
  exact h1
/-- Once more held, if it is held. -/
def holdL (c : List HC) (p : Int) : List HC := if usedC c p then moreI c p else c
theorem hold_c (c : List HC) (keep p : Int) : (holdH ⟨c, keep⟩ p).c = holdL c p := by
  unfold holdH holdL usedH
  split <;> rfl
theorem hold_used {c : List HC} {p : Int} (hu : usedC c p = true) : holdL c p = moreI c p := by unfold holdL; rw [if_pos hu]
/-- P10.1: gone down as long as the root is a cell of one item that is no leaf. -/
def lowS : Nat → List HC → Int → List HC × Int
  | 0, c, p => (c, p)
  | m + 1, c, p => if p < 0 then (c, p) else if (cellT c p).leaf = true ∨ (cellT c p).it.length ≠ 1 then (c, p)
    else lowS m (looseL (c.length + 1) (holdL c ((cellT c p).it.getD 0 (0, 0)).2) p) ((cellT c p).it.getD 0 (0, 0)).2
structure LowR (c : List HC) (keep : Int) (p : Int) (E : Int → Int) (c' : List HC) (q : Int) : Prop where
  right : rightH ⟨c', keep⟩ = true
  len : c'.length = c.length
  place : 0 ≤ q ∧ q < c'.length
  is_ : (bel c' 20 q).is = true
  high : (bel c' 20 q).high ≤ (bel c 20 p).high
  list : listB c' 20 q = listB c 20 p
  free : c'.countP freeC = c.countP freeC
  rc : RC c' (fun k => E k + (if k = q then 1 else 0))
  at_ : AT c'
theorem low_step {keep : Int} {E : Int → Int} (hE : ∀ j, 0 ≤ E j) {c : List HC} {k : Nat} (hk : k < c.length) (hr : rightH ⟨c, keep⟩ = true) (hs : ∀ k (hk : k < c.length), c[k].ref ≤ 1999000000) (hb : (bel c 20 (k : Int)).is = true) (hlf : c[k].leaf = false) (hone : c[k].it.length = 1)
    (hrc : RC c (fun j => E j + (if j = (k : Int) then 1 else 0))) (ha : AT c) : ∃ (w : Nat) (hw : w < c.length), (c[k].it.getD 0 (0, 0)).2 = (w : Int) ∧ usedC c (w : Int) = true ∧ LowR c keep (k : Int) E (looseL (c.length + 1) (moreI c (w : Int)) (k : Int)) (w : Int) ∧ (bel (looseL (c.length + 1) (moreI c (w : Int)) (k : Int)) 20 (w : Int)).high + 1 = (bel c 20 (k : Int)).high ∧
    (∀ j (hj : j < (looseL (c.length + 1) (moreI c (w : Int)) (k : Int)).length) (hj' : j < c.length), (looseL (c.length + 1) (moreI c (w : Int)) (k : Int))[j].ref ≤ (if 0 < c[j].ref then c[j].ref else 0) + 1) := by
  have hal := allR_of hr
  obtain ⟨R, hlo, hli, hnd⟩ := row_of_bel (e := (bel c 20 (k : Int)).hi + 1) hr hk hb (by omega)
  rw [hlf] at R hli
  obtain ⟨x, hx⟩ : ∃ x, c[k].it = [x] := by
    match h : c[k].it, hone with
    | [x], _ => exact ⟨x, rfl⟩
  rw [hx] at R hli
  obtain ⟨hH, hp, hrow⟩ := R.inn rfl
  obtain ⟨b1, b2, b3, b4⟩ := hrow 0 (by simp)
  simp only [List.getElem_cons_zero] at b1 b2 b3 b4
  have hx0 := (R.ok x (by simp)).2.1
  have hx1 := hp x (by simp)
  obtain ⟨w, hw⟩ := Int.eq_ofNat_of_zero_le hx0
  rw [hw] at b1 b2 b3 b4 hx1
  have hwl : w < c.length := by omega
  have hrw := (bel_is (m := 19) b1).1
  rw [cellT_at hwl] at hrw
  have hu : usedC c (w : Int) = true := by rw [usedC_at hwl, decide_eq_true hrw]
  refine ⟨w, hwl, by rw [hx]; exact hw, hu, ?_⟩
  rw [hold_up hu]
  have hr1 : rightH ⟨upL c [(w : Int)], keep⟩ = true := upL_right2 (fun p hp => by simp only [List.mem_cons, List.not_mem_nil, or_false] at hp; subst hp; exact hu) hr (fun k hk => by have := hs k hk; omega) (by simp)
  have hal1 := allR_of hr1
  have hlen := upL_len c [(w : Int)]
  have hrc1 := up_rc hwl hrw hrc
  have hcut := loose_cuts (c.length + 1) (upL c [(w : Int)]) (k : Int)
  have hrg := rc_loose (c.length + 1) (upL c [(w : Int)]) _ k (tells_right hr1) (fun j => by have := hE j; split <;> split <;> omega) (by have := usedN_le (upL c [(w : Int)]); rw [hlen] at this; omega) hrc1 (by rw [hlen]; exact hk) (by have := hE (k : Int); rw [if_pos rfl]; split <;> omega)
  have hrg2 : RC (looseL (c.length + 1) (upL c [(w : Int)]) (k : Int)) (fun j => E j + (if j = (w : Int) then 1 else 0)) := rc_congr hrg (fun j _ => by omega)
  have hE2 : ∀ j, 0 ≤ E j + (if j = (w : Int) then 1 else 0) := fun j => by have := hE j; split <;> omega
  have hl2 : (looseL (c.length + 1) (upL c [(w : Int)]) (k : Int)).length = c.length := by rw [hcut.len, hlen]
  have hw2 : w < (looseL (c.length + 1) (upL c [(w : Int)]) (k : Int)).length := by rw [hl2]; exact hwl
  have hup : usedC (looseL (c.length + 1) (upL c [(w : Int)]) (k : Int)) (w : Int) = true := by
    have h3 : _ = E (w : Int) + (if (w : Int) = (w : Int) then 1 else 0) + _ := hrg2 w hw2
    have := hE (w : Int)
    rw [usedC_at hw2]
    rw [if_pos rfl] at h3
    exact decide_eq_true (by omega)
  have hk1 := bel_keeps (up_keeps (c := c) (k := w)) hal 20 (w : Int) (by omega) (by omega) b1
  have hbc := bel_cuts hcut hal1 hE2 hrg2 20 (w : Int) (by omega) (by rw [hlen]; omega) hup (by rw [hk1.1]; exact b1)
  rw [hk1.1, hk1.2] at hbc
  refine ⟨⟨cuts_right hcut hr1, hl2, ⟨by omega, by rw [hl2]; omega⟩, by rw [hbc.1]; exact b1, by rw [hbc.1]; omega, ?_, ?_, hrg2, fun j hj h2 => ?_⟩, by rw [hbc.1]; exact b2, fun j hj hj' => ?_⟩
  · rw [hbc.2, hli, conts_other, List.flatMap_cons, hw]
    simp
  · rw [cuts_free hcut (fun j hj => (right_ref hr1 j hj).1)]
    exact up_free (fun _ => hrw)
  · have hj1 : j < (upL c [(w : Int)]).length := by rw [hcut.len] at hj; exact hj
    have hj0 : j < c.length := by rw [hlen] at hj1; exact hj1
    have h3 := (hcut.on j hj1 hj h2).1
    have h4 : 0 < c[j].ref := by
      rw [up_one hj0] at h3
      by_cases e : j = w
      · subst e; exact hrw
      · simp only at h3; rw [if_neg e] at h3; omega
    have h5 := ha j hj0 h4
    have h6 := bel_keeps (up_keeps (c := c) (k := w)) hal 20 (j : Int) (by omega) (by omega) h5
    rw [(bel_cuts hcut hal1 hE2 hrg2 20 (j : Int) (by omega) (by omega) (by rw [usedC_at hj, decide_eq_true h2]) (by rw [h6.1]; exact h5)).1, h6.1]
    exact h5
  · have hj1 : j < (upL c [(w : Int)]).length := by rw [hlen]; exact hj'
    by_cases h2 : 0 < (looseL (c.length + 1) (upL c [(w : Int)]) (k : Int))[j].ref
    · obtain ⟨h3, _, _, h4, _⟩ := hcut.on j hj1 hj h2
      rw [up_one hj'] at h3 h4
      simp only at h3 h4
      have h5 : 0 < c[j].ref := by
        by_cases e : j = w
        · subst e; exact hrw
        · rw [if_neg e] at h3; omega
      rw [if_pos h5]
      split at h4 <;> omega
    · split <;> omega
theorem low_ok {keep : Int} {E : Int → Int} (hE : ∀ j, 0 ≤ E j) : ∀ (m : Nat) (c : List HC) (p : Int), rightH ⟨c, keep⟩ = true → (∀ k (hk : k < c.length), c[k].ref ≤ 1990000000 - (m : Int)) → m ≤ 20 → 0 ≤ p → p < c.length → (bel c 20 p).is = true → (bel c 20 p).high ≤ m →
    RC c (fun j => E j + (if j = p then 1 else 0)) → AT c → LowR c keep p E (lowS m c p).1 (lowS m c p).2
  | 0, c, p, hr, _, _, h0, h1, hb, hm, _, _ => by have := bel_pos c (allR_of hr) 20 p h0 h1 hb; omega
  | m + 1, c, p, hr, hs, hm20, h0, h1, hb, hm, hrc, ha => by
    obtain ⟨k, rfl⟩ := Int.eq_ofNat_of_zero_le h0
    have hk : k < c.length := by omega
    rw [lowS, if_neg (by omega), cellT_at hk]
    by_cases hc : c[k].leaf = true ∨ c[k].it.length ≠ 1
    · rw [if_pos hc]
      exact ⟨hr, rfl, ⟨by omega, by omega⟩, hb, Int.le_refl _, rfl, rfl, hrc, ha⟩
    · rw [if_neg hc]
      rw [not_or, Bool.not_eq_true, Decidable.not_not] at hc
      obtain ⟨w, hw, e1, hu, L, hh, hrf⟩ := low_step hE hk hr (fun k hk => by have := hs k hk; omega) hb hc.1 hc.2 hrc ha
      rw [e1, hold_used hu]
      have ih := low_ok hE m _ (w : Int) L.right (fun j hj => by
        have hj' : j < c.length := by rw [L.len] at hj; exact hj
        have h2 := hrf j hj hj'
        have h3 := hs j hj'
        split at h2 <;> omega) (by omega) L.place.1 L.place.2 L.is_ (by omega) L.rc L.at_
      exact ⟨ih.right, ih.len.trans L.len, ih.place, ih.is_, Int.le_trans ih.high L.high, ih.list.trans L.list, ih.free.trans L.free, ih.rc, ih.at_⟩
end Go.Proofs.Ytlbhcakjcklmgaa
namespace Go.Proofs.Ytlbhcakjcklmgaa
open Go.RowKit

def delG (c : List HC) (root key : Int) : List HC × Int :=
  if (delS 20 c root key).2.length = 0 then (looseL (c.length + 1) (delS 20 c root key).1 root, -1)
  else (looseL (c.length + 1) (lowS 20 (delS 20 c root key).1 ((delS 20 c root key).2.getD 0 (0, 0)).2).1 root, (lowS 20 (delS 20 c root key).1 ((delS 20 c root key).2.getD 0 (0, 0)).2).2)
/-- What Del answers: cells, root, error. -/
def delR (h : Hp) (root key : Int) : List HC × Int × Int :=
  if getT h.c root key = none then (h.c, root, 4) else if fitsH h (highT h.c root) true = false then (h.c, root, 3) else ((delG h.c root key).1, (delG h.c root key).2, 0)
theorem fine_of {g : List HC} {keep p most : Int} (hl : (g.length : Int) ≤ most) (hmost : most ≤ 60) (hr : rightH ⟨g, keep⟩ = true) (hb : rightR ⟨g, keep⟩ p = true) (hrc : RC g (rootE p)) (ha : AT g) : fineB ⟨g, keep⟩ p most = true := by
  unfold fineB mayT
  rw [Bool.and_eq_true, Bool.and_eq_true]
  have hnd := nd_len hr
  refine ⟨⟨may_of ?_ hr, hb⟩, sound_of hr hrc ha⟩
  unfold smallH
  rw [Bool.and_eq_true, decide_eq_true_eq, List.all_eq_true]
  refine ⟨hl, fun y hy => ?_⟩
  obtain ⟨k, hk, rfl⟩ := List.mem_iff_getElem.1 hy
  rw [Bool.and_eq_true, decide_eq_true_eq, decide_eq_true_eq]
  simp only at hk
  refine ⟨by have := hnd k hk; simp only; omega, ?_⟩
  have h1 := hrc k hk
  have h2 := inn_le (k : Int) (l := g) (fun j hj => by have := hnd j hj; omega)
  have h3 : rootE p (k : Int) ≤ 1 := by unfold rootE; split <;> omega
  simp only
  omega
/-- A root that is loosed, where something else is held instead. -/
theorem loose_root {c : List HC} {keep : Int} {k : Nat} (hk : k < c.length) (hr : rightH ⟨c, keep⟩ = true) {F : Int → Int} (hF : ∀ j, 0 ≤ F j) (hrc : RC c (fun j => rootE (k : Int) j + F j)) (ha : AT c) :
    rightH ⟨looseL (c.length + 1) c (k : Int), keep⟩ = true ∧ (looseL (c.length + 1) c (k : Int)).length = c.length ∧ RC (looseL (c.length + 1) c (k : Int)) F ∧ AT (looseL (c.length + 1) c (k : Int)) ∧ (looseL (c.length + 1) c (k : Int)).countP freeC = c.countP freeC ∧
    ∀ q : Int, 0 ≤ q → q < c.length → 1 ≤ F q → (bel c 20 q).is = true → bel (looseL (c.length + 1) c (k : Int)) 20 q = bel c 20 q ∧ listB (looseL (c.length + 1) c (k : Int)) 20 q = listB c 20 q := by
  have hal := allR_of hr
  have hcut := loose_cuts (c.length + 1) c (k : Int)
  have hrg := rc_loose (c.length + 1) c _ k (tells_right hr) (fun j => by have := hF j; unfold rootE; split <;> omega) (by have := usedN_le c; omega) hrc hk (by have := hF (k : Int); unfold rootE; rw [if_pos rfl]; omega)
  have hrg2 : RC (looseL (c.length + 1) c (k : Int)) F := rc_congr hrg (fun j _ => by unfold rootE; split <;> omega)
  refine ⟨cuts_right hcut hr, hcut.len, hrg2, fun j hj h2 => ?_, cuts_free hcut (fun j hj => (right_ref hr j hj).1), fun q h0 h1 h2 hb => ?_⟩
  · have hj0 : j < c.length := by rw [hcut.len] at hj; exact hj
    have h5 := ha j hj0 (hcut.on j hj0 hj h2).1
    rw [(bel_cuts hcut hal hF hrg2 20 (j : Int) (by omega) (by omega) (by rw [usedC_at hj, decide_eq_true h2]) h5).1]
    exact h5
  · obtain ⟨j, rfl⟩ := Int.eq_ofNat_of_zero_le h0
    have hj : j < (looseL (c.length + 1) c (k : Int)).length := by rw [hcut.len]; omega
    have h3 : _ = F (j : Int) + _ := hrg2 j hj
    exact bel_cuts hcut hal hF hrg2 20 (j : Int) h0 h1 (by rw [usedC_at hj]; exact decide_eq_true (by omega)) hb
structure DelD (c : List HC) (keep root key most : Int) (g : List HC) (p : Int) : Prop where
  fine : fineB ⟨g, keep⟩ p most = true
  list : listT g p = (listT c root).filter (fun z => decide (z.1 ≠ key))
  high : highT g p ≤ highT c root
  free : (g.countP freeC : Int) ≤ c.countP freeC ∧ (c.countP freeC : Int) ≤ g.countP freeC + highT c root
  len : g.length = c.length
  root : p = -1 ∨ 0 ≤ p
theorem fine_del {c : List HC} {keep root key most : Int} (hmost : most ≤ 60) (hf : fineB ⟨c, keep⟩ root most = true) (hin : ∃ z ∈ listT c root, z.1 = key) (hn : highT c root ≤ (c.countP freeC : Nat)) :
    DelD c keep root key most (delG c root key).1 (delG c root key).2 := by
  obtain ⟨hm, hrr, hs⟩ := fine_may hf
  obtain ⟨m1, m2, m3⟩ := may_iff hm
  obtain ⟨hrc, hat⟩ := sound_to m3 hrr hs
  have hal := allR_of m3
  have hasc := listT_rise m3 hrr
  have h0 : 0 ≤ root := by
    rcases Int.lt_or_le root 0 with h | h
    · obtain ⟨z, hz, _⟩ := hin
      unfold listT at hz
      rw [if_pos h] at hz
      cases hz
    · exact h
  obtain ⟨-, h1, hb⟩ := (rightR_iff hrr).resolve_left (by omega)
  have hT : highT c root = (bel c 20 root).high := by unfold highT; rw [if_neg (by omega)]
  have hL : listT c root = listB c 20 root := by unfold listT; rw [if_neg (by omega)]
  rw [hL] at hin hasc
  rw [hT] at hn
  have hbh := bel_high c 20 root
  obtain ⟨a, D⟩ := del_ok 20 c root key ((bel c 20 root).hi + 1) (Nat.le_refl _) m3 (fun k hk => (m2 k hk).2) h0 h1 hb (by omega) hin hn
  obtain ⟨k, rfl⟩ := Int.eq_ofNat_of_zero_le h0
  have hk : k < c.length := by have h1' : (k : Int) < c.length := h1; omega
  have hlen1 := D.keeps.len
  have hk1 : k < (delS 20 c (k : Int) key).1.length := by rw [hlen1]; exact hk
  have hat1 : AT (delS 20 c (k : Int) key).1 := fun j hj h2 => by
    have hj' : j < c.length := by rw [hlen1] at hj; exact hj
    by_cases h3 : 0 < c[j].ref
    · have h4 := hat j hj' h3
      rw [(bel_keeps D.keeps hal 20 (j : Int) (by omega) (by omega) h4).1]
      exact h4
    · exact D.new j hj' hj h2 h3
  have hrc1 := D.rc _ hrc
  have hfree := D.free
  have hmany := D.many
  unfold delG
  by_cases hl : (delS 20 c (k : Int) key).2.length = 0
  · rw [if_pos hl]
    have hnil := List.eq_nil_of_length_eq_zero hl
    rw [hnil] at hrc1
    have hmem := D.mem
    rw [hnil] at hmem
    obtain ⟨g1, g2, g3, g4, g5, _⟩ := loose_root (F := fun _ => 0) hk1 D.right (fun _ => Int.le_refl _) (rc_congr hrc1 (fun j _ => by simp)) hat1
    rw [hlen1] at g1 g2 g3 g4 g5
    have hg3 : RC (looseL (c.length + 1) (delS 20 c (k : Int) key).1 (k : Int)) (rootE (-1)) := rc_congr g3 (fun j _ => by unfold rootE; rw [if_neg (by omega)])
    have hh0 : highT (looseL (c.length + 1) (delS 20 c (k : Int) key).1 (k : Int)) (-1) = 0 := by unfold highT; rw [if_pos (by omega)]
    refine ⟨fine_of (by rw [g2]; exact m1) hmost g1 (by unfold rightR; simp) hg3 g4, ?_, by rw [hh0, hT]; exact hbh.1, by rw [hT]; simp only; rw [g5]; omega, g2, .inl rfl⟩
    have hl0 : listT (looseL (c.length + 1) (delS 20 c (k : Int) key).1 (k : Int)) (-1) = [] := by unfold listT; rw [if_pos (by omega)]
    rw [hl0, hL]
    symm
    rw [List.filter_eq_nil_iff]
    intro z hz
    have h2 := (hmem z).2
    rw [decide_eq_true_eq]
    intro hne
    have := h2 ⟨hz, hne⟩
    cases this
  · rw [if_neg hl]
    obtain ⟨y, hy⟩ : ∃ y, (delS 20 c (k : Int) key).2 = [y] := by
      have := D.len
      match h : (delS 20 c (k : Int) key).2, hl, this with
      | [y], _, _ => exact ⟨y, rfl⟩
    have hyg : ((delS 20 c (k : Int) key).2.getD 0 (0, 0)) = y := by rw [hy]; rfl
    rw [hyg]
    have hmem := D.mem
    rw [hy] at hmem hrc1
    have hym : y ∈ (delS 20 c (k : Int) key).2 := by rw [hy]; exact List.mem_cons_self
    obtain ⟨r1, r2, r3, r4⟩ := D.row y hym
    obtain ⟨p0, p1⟩ := D.place y hym
    have hE : ∀ j, 0 ≤ rootE (k : Int) j := fun j => by unfold rootE; split <;> omega
    have Lo := low_ok (keep := keep) (E := rootE (k : Int)) hE 20 (delS 20 c (k : Int) key).1 y.2 D.right (fun j hj => by
      have hj' : j < c.length := by rw [hlen1] at hj; exact hj
      have h2 := D.refs j hj' hj
      have h3 := (m2 j hj').2
      split at h2 <;> omega) (by omega) p0 (by rw [hlen1]; exact p1) r1 (by omega) (rc_congr hrc1 (fun j _ => by
        show _ = rootE (k : Int) (j : Int) + ((([y].map (·.2)).count (j : Int) : Nat) : Int)
        rw [List.map_cons, List.map_nil, List.count_singleton]
        by_cases h : (j : Int) = y.2
        · rw [if_pos h, if_pos (by simp [h])]; rfl
        · rw [if_neg h, if_neg (by simp; omega)]; rfl)) hat1
    generalize lowS 20 (delS 20 c (k : Int) key).1 y.2 = S at *
    obtain ⟨c2, q⟩ := S
    simp only at Lo ⊢
    have hlen2 : c2.length = c.length := Lo.len.trans hlen1
    have hk2 : k < c2.length := by rw [hlen2]; exact hk
    have hF : ∀ j, 0 ≤ (if j = q then (1 : Int) else 0) := fun j => by split <;> omega
    obtain ⟨g1, g2, g3, g4, g5, g6⟩ := loose_root (F := fun j => if j = q then 1 else 0) hk2 Lo.right hF Lo.rc Lo.at_
    rw [hlen2] at g1 g2 g3 g4 g5 g6
    have hq0 := Lo.place.1
    have hq1 := Lo.place.2
    obtain ⟨b1, b2⟩ := g6 q hq0 (by rw [hlen2] at hq1; exact hq1) (by rw [if_pos rfl]; omega) Lo.is_
    have hh : highT (looseL (c.length + 1) c2 (k : Int)) q = (bel c2 20 q).high := by unfold highT; rw [if_neg (by omega), b1]
    have hl2 : listT (looseL (c.length + 1) c2 (k : Int)) q = listB c2 20 q := by unfold listT; rw [if_neg (by omega), b2]
    have hrb : rightR ⟨looseL (c.length + 1) c2 (k : Int), keep⟩ q = true := rightR_of hq0 (by rw [g2]; rw [hlen2] at hq1; exact hq1) (by rw [b1]; exact Lo.is_)
    have hlf := Lo.free
    refine ⟨fine_of (by rw [g2]; exact m1) hmost g1 hrb (rc_congr g3 (fun j _ => rfl)) g4, ?_, by rw [hh, hT]; have := Lo.high; omega, by rw [hT, g5, hlf]; omega, g2, .inr hq0⟩
    have hasc2 := listT_rise g1 hrb
    rw [hl2, Lo.list] at hasc2
    rw [hl2, Lo.list, hL]
    refine asc_ext hasc2 (hasc.filter _) (fun z => ?_)
    rw [List.mem_filter, decide_eq_true_eq, ← hmem z]
    simp
end Go.Proofs.Ytlbhcakjcklmgaa
