/- NameOrder, over what package name answers. -/
import Derived.Test.YtpdeagndandnjaaDoorNmQ
namespace Go.Proofs.YtpdeagndandnjaaDoor
set_option maxRecDepth 20000
open Go.RowKit

theorem less_ltB : ∀ (l m : Bs), Op.bytesLess l m = ltB l m
  | [], [] => rfl
  | [], _ :: _ => rfl
  | _ :: _, [] => rfl
  | a :: l, b :: m => by
    rw [Op.bytesLess, ltB, less_ltB l m]
    have h1 : decide (a < b) = decide (a.toNat < b.toNat) := by rw [decide_eq_decide]; exact UInt8.lt_iff_toNat_lt
    have h2 : (a == b) = decide (a = b) := by
      by_cases h : a = b
      · subst h; simp
      · rw [decide_eq_false h]; exact beq_eq_false_iff_ne.2 h
    rw [h1, h2]
/-- What the two numbers say of the two names. -/
structure Ord (s t : ByteArray) (a b : Nat) (lt1 lt2 eq1 ls eqs : Bool) : Prop where
  n1 : decide (s.size < t.size) = lt1
  n2 : (s.size == t.size) = eq1
  n3 : Op.bytesLess s.toList t.toList = ls
  n4 : decide (a < b) = lt2
  n5 : (a == b) = eqs
  n6 : (s.toList == t.toList) = eqs
  right : lt2 = (lt1 || (eq1 && ls))
theorem ord_of {s t : ByteArray} (hs : ofOk (tx s) = true) (ht : ofOk (tx t) = true) : ∃ lt1 lt2 eq1 ls eqs, Ord s t (numL (tx s)) (numL (tx t)) lt1 lt2 eq1 ls eqs := by
  obtain ⟨⟨_, _⟩, h2⟩ := ofOk_iff.1 hs
  obtain ⟨⟨_, _⟩, h3⟩ := ofOk_iff.1 ht
  have hl1 := tx_len s
  have hl2 := tx_len t
  have e1 : Op.bytesLess s.toList t.toList = ltB (tx s) (tx t) := by rw [ByteArray.toList_eq, ByteArray.toList_eq, less_ltB]
  rcases Nat.lt_trichotomy s.size t.size with h | h | h
  · have hn := num_len h2 h3 (by omega)
    have hne : tx s ≠ tx t := fun e => by rw [e] at hl1; omega
    exact ⟨true, true, false, _, false, decide_eq_true h, beq_eq_false_iff_ne.2 (by omega), rfl, decide_eq_true hn, beq_eq_false_iff_ne.2 (by omega), by rw [ByteArray.toList_eq, ByteArray.toList_eq]; exact beq_eq_false_iff_ne.2 hne, by simp⟩
  · obtain ⟨k1, k2⟩ := num_lt h2 h3 (by omega)
    have q1 : decide (s.size < t.size) = false := decide_eq_false (by omega)
    have q2 : (s.size == t.size) = true := by rw [h]; simp
    rcases Nat.lt_trichotomy (numL (tx s)) (numL (tx t)) with g | g | g
    · have hne : tx s ≠ tx t := fun e => by rw [e] at g; omega
      exact ⟨false, true, true, true, false, q1, q2, by rw [e1]; exact k1.1 g, decide_eq_true g, beq_eq_false_iff_ne.2 (by omega), by rw [ByteArray.toList_eq, ByteArray.toList_eq]; exact beq_eq_false_iff_ne.2 hne, rfl⟩
    · have he := k2.1 g
      refine ⟨false, false, true, false, true, q1, q2, ?_, decide_eq_false (by omega), by rw [g]; simp, by rw [ByteArray.toList_eq, ByteArray.toList_eq]; exact beq_iff_eq.2 he, rfl⟩
      rw [e1]
      cases hh : ltB (tx s) (tx t) with
      | false => rfl
      | true => have := k1.2 hh; omega
    · have hne : tx s ≠ tx t := fun e => by rw [e] at g; omega
      refine ⟨false, false, true, false, false, q1, q2, ?_, decide_eq_false (by omega), beq_eq_false_iff_ne.2 (by omega), by rw [ByteArray.toList_eq, ByteArray.toList_eq]; exact beq_eq_false_iff_ne.2 hne, rfl⟩
      rw [e1]
      cases hh : ltB (tx s) (tx t) with
      | false => rfl
      | true => have := k1.2 hh; omega
  · have hn := num_len h3 h2 (by omega)
    have hne : tx s ≠ tx t := fun e => by rw [e] at hl1; omega
    exact ⟨false, false, false, _, false, decide_eq_false (by omega), beq_eq_false_iff_ne.2 (by omega), rfl, decide_eq_false (by omega), beq_eq_false_iff_ne.2 (by omega), by rw [ByteArray.toList_eq, ByteArray.toList_eq]; exact beq_eq_false_iff_ne.2 hne, by simp⟩
theorem of_more {s : ByteArray} (h : ofOk (tx s) = true) : (s.size < 4 ∧ ofN (tx (s ++ ⟨#[99]⟩)) = 27 * numL (tx s) + 3 ∧ ofE (tx (s ++ ⟨#[99]⟩)) = 0) ∨ (s.size = 4 ∧ ofN (tx (s ++ ⟨#[99]⟩)) = 0 ∧ ofE (tx (s ++ ⟨#[99]⟩)) = 1) := by
  obtain ⟨⟨h0, h1⟩, h2⟩ := ofOk_iff.1 h
  have hl := tx_len s
  have e : tx (s ++ ⟨#[99]⟩) = tx s ++ [99] := tx_append _ _
  rw [e]
  by_cases h4 : s.size < 4
  · obtain ⟨g1, g2⟩ := of_good (l := tx s ++ [99]) (ofOk_iff.2 ⟨by simp; omega, fun b hb => by
      rw [List.mem_append] at hb
      rcases hb with hb | hb
      · exact h2 b hb
      · rw [List.mem_singleton.1 hb]; rfl⟩)
    exact .inl ⟨h4, g1.trans (numL_snoc _ _), g2⟩
  · obtain ⟨g1, g2⟩ := of_bad (l := tx s ++ [99]) (of_len (by simp; omega))
    exact .inr ⟨by omega, g1, g2⟩
set_option maxRecDepth 100000 in
set_option maxHeartbeats 3200000 in
theorem norder_any (G : NmOk) (s t : ByteArray) (w : World) :
    Calls Tryd.prog 5 #[.string s, .string t] w fun e w' => e = .returned (.bool true) ∧ Ext w w' := by
  have G1 := Lib.hid (fun w' => G.of s w')
  have G2 := Lib.hid (fun w' => G.of t w')
  by_cases h1 : 4 < s.size
  · have d1 : decide ((4 : Int) < s.size) = true := decide_eq_true (by omega)
    have d2 : decide (4 < s.size) = true := decide_eq_true h1
    go_enter Tryd.func5, Tryd.ntmps5
    go_wp2_with (first
      | (go_at_call 9; refine (G.shown _).mono ?_; rintro e w2 ⟨rfl, hx⟩; have X := Lib.hid hx; clear hx)
      | (go_at_call 10; refine (G.of _ _).mono ?_; rintro e w2 ⟨rfl, hx⟩; have X := Lib.hid (X.out.trans hx); clear hx))
    go_ret
    exact ⟨rfl, X.out⟩
  have d1 : decide ((4 : Int) < s.size) = false := decide_eq_false (by omega)
  have d2 : decide (4 < s.size) = false := decide_eq_false h1
  by_cases h2 : 4 < t.size
  · have d3 : decide ((4 : Int) < t.size) = true := decide_eq_true (by omega)
    have d4 : decide (4 < t.size) = true := decide_eq_true h2
    go_enter Tryd.func5, Tryd.ntmps5
    go_wp2_with (first
      | (go_at_call 9; refine (G.shown _).mono ?_; rintro e w2 ⟨rfl, hx⟩; have X := Lib.hid hx; clear hx)
      | (go_at_call 10; refine (G.of _ _).mono ?_; rintro e w2 ⟨rfl, hx⟩; have X := Lib.hid (X.out.trans hx); clear hx))
    go_ret
    exact ⟨rfl, X.out⟩
  have d3 : decide ((4 : Int) < t.size) = false := decide_eq_false (by omega)
  have d4 : decide (4 < t.size) = false := decide_eq_false h2
  cases hs : ofOk (tx s) with
  | false =>
    obtain ⟨o1, o2⟩ := of_bad hs
    rw [o1, o2] at G1
    go_enter Tryd.func5, Tryd.ntmps5
    go_wp2_with (first
      | (go_at_call 9; refine (G.shown _).mono ?_; rintro e w2 ⟨rfl, hx⟩; have X := Lib.hid hx; clear hx)
      | (go_at_call 10; first
        | (with_reducible refine (G1.out _).mono ?_; rintro e w2 ⟨rfl, hx⟩; have X := Lib.hid (X.out.trans hx); clear hx)
        | (with_reducible refine (G2.out _).mono ?_; rintro e w2 ⟨rfl, hx⟩; have X := Lib.hid (X.out.trans hx); clear hx)))
    go_ret
    exact ⟨rfl, X.out⟩
  | true =>
    obtain ⟨o1, o2⟩ := of_good hs
    have hm := numL_small (l := tx s) (ofOk_iff.1 hs).1.2 (List.all_eq_true.2 (ofOk_iff.1 hs).2)
    have hmore := of_more hs
    rw [o1, o2] at G1
    cases ht : ofOk (tx t) with
    | false =>
      obtain ⟨p1, p2⟩ := of_bad ht
      rw [p1, p2] at G2
      clear hmore
      go_enter Tryd.func5, Tryd.ntmps5
      go_wp2_with (first
        | (go_at_call 9; refine (G.shown _).mono ?_; rintro e w2 ⟨rfl, hx⟩; have X := Lib.hid hx; clear hx)
        | (go_at_call 10; first
          | (with_reducible refine (G1.out _).mono ?_; rintro e w2 ⟨rfl, hx⟩; have X := Lib.hid (X.out.trans hx); clear hx)
          | (with_reducible refine (G2.out _).mono ?_; rintro e w2 ⟨rfl, hx⟩; have X := Lib.hid (X.out.trans hx); clear hx)))
      go_ret
      exact ⟨rfl, X.out⟩
    | true =>
      obtain ⟨p1, p2⟩ := of_good ht
      rw [p1, p2] at G2
      obtain ⟨lt1, lt2, eq1, ls, eqs, ho⟩ := ord_of hs ht
      have G3 := Lib.hid (fun w' => G.of (s ++ ⟨#[99]⟩) w')
      generalize numL (tx s) = a at *
      generalize numL (tx t) = b at *
      obtain ⟨c1, c2, c3, c4, c5, c6, c7⟩ := ho
      have i1 : decide ((s.size : Int) < (t.size : Int)) = lt1 := by rw [← c1, decide_eq_decide]; omega
      have i2 : ((s.size : Int) == (t.size : Int)) = eq1 := by rw [← c2]; exact Bool.eq_iff_iff.2 (by rw [beq_iff_eq, beq_iff_eq]; omega)
      have i4 : decide ((a : Int) < (b : Int)) = lt2 := by rw [← c4, decide_eq_decide]; omega
      have i5 : ((a : Int) == (b : Int)) = eqs := by rw [← c5]; exact Bool.eq_iff_iff.2 (by rw [beq_iff_eq, beq_iff_eq]; omega)
      clear hs ht o1 o2 p1 p2
      rcases hmore with ⟨k1, k2, k3⟩ | ⟨k1, k2, k3⟩
      · rw [k2, k3] at G3
        have e1 : decide ((s.size : Int) < 4) = true := decide_eq_true (by omega)
        have e2 : decide (s.size < 4) = true := decide_eq_true k1
        have e3 : IntKind.i64.wrap (27 * (a : Int) + 3) = 27 * (a : Int) + 3 := by rw [IntKind.wrap_i64]; omega
        have e4 : IntKind.i64.wrap (27 * (a : Int)) = 27 * (a : Int) := by rw [IntKind.wrap_i64]; omega
        have hsz : s.size ≤ 4 := by omega
        clear k1 k2 k3
        cases lt1 <;> cases eq1 <;> cases ls <;> cases eqs <;> subst c7
        all_goals
          go_enter Tryd.func5, Tryd.ntmps5
          go_wp2_with (first
            | (go_at_call 9; refine (G.shown _).mono ?_; rintro e w2 ⟨rfl, hx⟩; have X := Lib.hid hx; clear hx)
            | (go_at_call 10; first
              | (with_reducible refine (G1.out _).mono ?_; rintro e w2 ⟨rfl, hx⟩; have X := Lib.hid (X.out.trans hx); clear hx)
              | (with_reducible refine (G2.out _).mono ?_; rintro e w2 ⟨rfl, hx⟩; have X := Lib.hid (X.out.trans hx); clear hx)
              | (with_reducible refine (G3.out _).mono ?_; rintro e w2 ⟨rfl, hx⟩; have X := Lib.hid (X.out.trans hx); clear hx)))
          go_ret
          exact ⟨rfl, X.out⟩
      · rw [k2, k3] at G3
        have e1 : decide ((s.size : Int) < 4) = false := decide_eq_false (by omega)
        have e2 : decide (s.size < 4) = false := decide_eq_false (by omega)
        have hsz : s.size ≤ 4 := by omega
        clear k1 k2 k3
        cases lt1 <;> cases eq1 <;> cases ls <;> cases eqs <;> subst c7
        all_goals
          go_enter Tryd.func5, Tryd.ntmps5
          go_wp2_with (first
            | (go_at_call 9; refine (G.shown _).mono ?_; rintro e w2 ⟨rfl, hx⟩; have X := Lib.hid hx; clear hx)
            | (go_at_call 10; first
              | (with_reducible refine (G1.out _).mono ?_; rintro e w2 ⟨rfl, hx⟩; have X := Lib.hid (X.out.trans hx); clear hx)
              | (with_reducible refine (G2.out _).mono ?_; rintro e w2 ⟨rfl, hx⟩; have X := Lib.hid (X.out.trans hx); clear hx)
              | (with_reducible refine (G3.out _).mono ?_; rintro e w2 ⟨rfl, hx⟩; have X := Lib.hid (X.out.trans hx); clear hx)))
          go_ret
          exact ⟨rfl, X.out⟩
end Go.Proofs.YtpdeagndandnjaaDoor
