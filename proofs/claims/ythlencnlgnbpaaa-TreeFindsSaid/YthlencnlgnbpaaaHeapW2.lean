/- Walks of leads, places, cell and Right of the reference. -/
import Derived.Test.YthlencnlgnbpaaaHeapW1
namespace Go.Proofs.Ythlencnlgnbpaaa
open Go.RowKit
attribute [local go_sem ↓] Go.wp_at_zero Go.wp_at_succ

theorem all_no {it : List It} {p : It → Bool} {k : Nat} (hk : k < it.length) (h : p it[k] = false) : it.all p = false := by
  rw [List.all_eq_false]; exact ⟨it[k], List.getElem_mem hk, by simp [h]⟩
theorem all_yes {it : List It} {p : It → Bool} (h : ∀ j (hj : j < it.length), p it[j] = true) : it.all p = true := by
  rw [List.all_eq_true]; intro x hx
  obtain ⟨j, hj, rfl⟩ := List.mem_iff_getElem.1 hx
  exact h j hj
set_option maxRecDepth 100000 in
set_option maxHeartbeats 800000 in
theorem ref05places_any (R : Option Addr) (n q : Nat) (keep : Int) (leaf : Bool) (A : Option Addr) (it : List It) (m c : Nat) (w : World) (_hn : n ≤ maxLen) (hm : m = it.length) (hI : Sl w A m c (ivs it)) :
    Calls Try.prog 44 #[.agg #[.slice R n q, .int .i64 keep], .agg #[.bool leaf, .slice A m c]] w fun e w' => e = .returned (.bool (placesC n leaf it)) ∧ Ext w w' := by
  have hml := hI.len
  unfold maxLen at hml
  obtain ⟨W, hW⟩ : ∃ W, (w.alloc (.cells #[.slice R n q, .int .i64 keep] 24)).alloc (.cells #[.bool leaf, .slice A m c] 53) = W := ⟨_, rfl⟩
  obtain ⟨hx, hb0, hb1⟩ := allocs2 hW
  have HX := Lib.hid hx
  have HB0 := Lib.hid hb0
  have HB1 := Lib.hid hb1
  have HI := Lib.hid (hI.ext hx)
  have HM := Lib.hid hm
  clear hx hm hI
  cases leaf
  rotate_left
  · obtain ⟨p0, p1, p2⟩ := hb0.read2
    obtain ⟨b0, b1, b2⟩ := hb1.read2
    clear hb0 hb1
    go_enter Try.func44, Try.ntmps44
    go_wp2_with fail
    go_loop [5] (fun i => i = .int .i64 0) (fun _ => 0)
    case atStart => rfl
    case round =>
      obtain rfl := hrel
      rcases Nat.eq_zero_or_pos m with h0 | h0
      · subst h0
        go_wp2_with fail
        go_ret
        exact ⟨rfl, HX.out⟩
      · have d0 : decide ((0 : Int) < (m : Int)) = true := decide_eq_true (by omega)
        have d1 : decide (0 < m) = true := decide_eq_true h0
        go_wp2_with fail
        go_ret
        exact ⟨rfl, HX.out⟩
  have HL := Lib.hid (show placesC n false it = it.all (fun x => decide (0 ≤ x.2) && decide (x.2 < n)) from rfl)
  go_enter Try.func44, Try.ntmps44
  clear hb0 hb1
  go_wp2_with fail
  generalize hW2 : World.alloc (World.alloc w _) _ = W2 at *
  clear hW2
  subst hW
  go_loopw [5] (fun i wr => ∃ k : Nat, k ≤ m ∧ i = .int .i64 k ∧ Ext W2 wr ∧ ∀ j (hj : j < it.length), j < k → (decide (0 ≤ it[j].2) && decide (it[j].2 < n)) = true) (fun i _ => m - (intOf i).toNat)
  case atStart => exact ⟨0, Nat.zero_le _, rfl, Ext.refl _, fun j hj h => by omega⟩
  case round =>
    obtain ⟨k, hk, rfl, hx, hne⟩ := hrel
    have HNE := Lib.hid hne
    have HXR := Lib.hid hx
    obtain ⟨p0, p1, p2⟩ := (HB0.out.ext hx).read2
    obtain ⟨b0, b1, b2⟩ := (HB1.out.ext hx).read2
    clear hne
    rcases Nat.lt_or_ge k m with hlt | hlt
    · have hkl : k < it.length := by rw [← HM.out]; exact hlt
      obtain ⟨b, off, rfl, _, hc⟩ := (HI.out.ext hx).cells.it hkl
      have hck := (hc k hkl).2
      have hki : (k : Int) < (m : Int) := by omega
      have d0 : decide ((k : Int) < (m : Int)) = true := decide_eq_true hki
      have d1 : decide (k < m) = true := decide_eq_true hlt
      have HF := Lib.hid (fun h => all_no (p := fun x => decide (0 ≤ x.2) && decide (x.2 < n)) hkl h)
      have HK := Lib.hid (fun (h : (decide (0 ≤ it[k].2) && decide (it[k].2 < n)) = true) => (show ∀ j (hj : j < it.length), j < k + 1 → (decide (0 ≤ it[j].2) && decide (it[j].2 < n)) = true from fun j hj hjk => by
        rcases Nat.lt_or_ge j k with h' | h'
        · exact HNE.out j hj h'
        · obtain rfl : j = k := by omega
          exact h))
      clear hc HNE hx
      generalize it[k].2 = V at *
      rcases Int.lt_or_le V 0 with h0 | h0
      · have d2 : decide (V < 0) = true := decide_eq_true h0
        have HE := Lib.hid (HF.out (by rw [decide_eq_false (by omega)]; rfl))
        clear HF HK h0
        go_wp2_with fail
        go_quiet (fail)
        go_wp2
        go_ret
        exact ⟨ret_bool (by rw [HL.out, HE.out]), HX.out.trans (HXR.out.drewN _)⟩
      have d2 : decide (V < 0) = false := decide_eq_false (by omega)
      rcases Int.lt_or_le V n with h1 | h1
      · have d3 : decide ((n : Int) ≤ V) = false := decide_eq_false (by omega)
        have HE := Lib.hid (HK.out (by rw [decide_eq_true h0, decide_eq_true h1]; rfl))
        clear HF HK h0 h1
        go_wp2_with fail
        go_quiet (fail)
        go_wp2
        go_roundw
        case rel => exact ⟨k + 1, by omega, by go_num, HXR.out.drewN _, HE.out⟩
        case measure => simp [intOf]; omega
      · have d3 : decide ((n : Int) ≤ V) = true := decide_eq_true h1
        have HE := Lib.hid (HF.out (by rw [decide_eq_false (show ¬ V < n by omega)]; simp))
        clear HF HK h0 h1
        go_wp2_with fail
        go_quiet (fail)
        go_wp2
        go_ret
        exact ⟨ret_bool (by rw [HL.out, HE.out]), HX.out.trans (HXR.out.drewN _)⟩
    · obtain rfl : k = m := by omega
      have HE := Lib.hid (all_yes (p := fun x => decide (0 ≤ x.2) && decide (x.2 < n)) (fun j hj => HNE.out j hj (by rw [HM.out]; exact hj)))
      have d0 : decide ((k : Int) < (k : Int)) = false := decide_eq_false (by omega)
      clear hlt hx
      go_wp2_with fail
      go_ret
      exact ⟨ret_bool (by rw [HL.out, HE.out]), HX.out.trans HXR.out⟩

theorem Bx.read4 {w : World} {k : Nat} {a b c d : Value} (h : Bx w k #[a, b, c, d]) : w.cell? ⟨k, 0, none⟩ = some a ∧ w.cell? ⟨k, 1, none⟩ = some b ∧ w.cell? ⟨k, 2, none⟩ = some c ∧ w.cell? ⟨k, 3, none⟩ = some d :=
  ⟨h.at 0 _ rfl, h.at 1 _ rfl, h.at 2 _ rfl, h.at 3 _ rfl⟩
set_option maxRecDepth 100000 in
set_option maxHeartbeats 1600000 in
theorem ref05cell_any (R : Option Addr) (n q : Nat) (keep : Int) (x : HC) (A : Option Addr) (m c : Nat) (w : World) (hn : n ≤ maxLen) (hm : m = x.it.length) (hI : Sl w A m c (ivs x.it)) :
    Calls Try.prog 37 #[.agg #[.slice R n q, .int .i64 keep], .agg #[.int .i64 x.ref, .bool x.pin, .bool x.leaf, .slice A m c]] w fun e w' => e = .returned (.bool (cellR n x)) ∧ Ext w w' := by
  obtain ⟨rf, pn, lf, it⟩ := x
  simp only at hm hI ⊢
  obtain ⟨W, hW⟩ : ∃ W, W = (w.alloc (.cells #[.slice R n q, .int .i64 keep] 24)).alloc (.cells #[.int .i64 rf, .bool pn, .bool lf, .slice A m c] 55) := ⟨_, rfl⟩
  obtain ⟨hx, hb0, hb1⟩ := allocs2 hW.symm
  have HX := Lib.hid hx
  have HB0 := Lib.hid hb0
  have HB1 := Lib.hid hb1
  have HR := Lib.hid (fun w' (hx : Ext w w') => ref04Right_any lf A it m c w' hm (hI.ext hx))
  have HP := Lib.hid (fun w' (hx : Ext w w') => ref05places_any R n q keep lf A it m c w' hn hm (hI.ext hx))
  have HCR := Lib.hid (show cellR n ⟨rf, pn, lf, it⟩ = if rf = 0 then !lf && decide (m = 0) else decide (0 < rf) && (decide (rf ≤ 2147483647) && (!pn && (ndR it && placesC n lf it))) by rw [hm]; rfl)
  subst hW
  clear hx hm hI
  obtain ⟨p0, p1, p2⟩ := hb0.read2
  obtain ⟨b0, b1, b2, b3⟩ := hb1.read4
  clear hb0 hb1
  by_cases h0 : rf = 0
  · have e0 : (rf == 0) = true := by simpa using h0
    have HC := Lib.hid (show cellR n ⟨rf, pn, lf, it⟩ = (!lf && decide (m = 0)) by rw [HCR.out, if_pos h0])
    clear h0 HCR
    cases lf
    · rcases Nat.eq_zero_or_pos m with h1 | h1
      · subst h1
        go_enter Try.func37, Try.ntmps37
        go_wp2_with fail
        go_ret
        exact ⟨ret_bool (by rw [HC.out]; rfl), HX.out⟩
      · have e1 : ((m : Int) == 0) = false := by
          have : ¬ (m : Int) = 0 := by omega
          simpa using this
        have HM := Lib.hid (show decide (m = 0) = false from decide_eq_false (by omega))
        go_enter Try.func37, Try.ntmps37
        go_wp2_with fail
        go_ret
        exact ⟨ret_bool (by rw [HC.out, HM.out]; rfl), HX.out⟩
    · go_enter Try.func37, Try.ntmps37
      go_wp2_with fail
      go_ret
      exact ⟨ret_bool (by rw [HC.out]; rfl), HX.out⟩
  have e0 : (rf == 0) = false := by simpa using h0
  have HC := Lib.hid (show cellR n ⟨rf, pn, lf, it⟩ = (decide (0 < rf) && (decide (rf ≤ 2147483647) && (!pn && (ndR it && placesC n lf it)))) by rw [HCR.out, if_neg h0])
  clear HCR h0
  obtain ⟨r1, hr1⟩ : ∃ r, ndR it = r := ⟨_, rfl⟩
  obtain ⟨r2, hr2⟩ : ∃ r, placesC n lf it = r := ⟨_, rfl⟩
  rw [hr1] at HR HC
  rw [hr2] at HP HC
  clear hr1 hr2
  rcases Int.lt_or_le 0 rf with h1 | h1
  rotate_left
  · have d0 : decide (0 < rf) = false := decide_eq_false (by omega)
    clear h1
    rw [d0] at HC
    go_enter Try.func37, Try.ntmps37
    go_wp2_with (go_at_call 43; refine (HR.out _ HX.out).mono ?_; rintro e w1 ⟨rfl, hx⟩; have HX1 := Lib.hid (HX.out.trans hx); clear p0 p1 p2 b0 b1 b2 b3; obtain ⟨p0, p1, p2⟩ := (HB0.out.ext hx).read2; obtain ⟨b0, b1, b2, b3⟩ := (HB1.out.ext hx).read4; clear hx)
    go_ret
    exact ⟨ret_bool (by rw [HC.out]; rfl), HX1.out⟩
  have d0 : decide (0 < rf) = true := decide_eq_true h1
  rw [d0] at HC
  rcases Int.lt_or_le 2147483647 rf with h2 | h2
  · have d1 : decide (rf ≤ 2147483647) = false := decide_eq_false (by omega)
    clear h1 h2
    rw [d1] at HC
    go_enter Try.func37, Try.ntmps37
    go_wp2_with (go_at_call 43; refine (HR.out _ HX.out).mono ?_; rintro e w1 ⟨rfl, hx⟩; have HX1 := Lib.hid (HX.out.trans hx); clear p0 p1 p2 b0 b1 b2 b3; obtain ⟨p0, p1, p2⟩ := (HB0.out.ext hx).read2; obtain ⟨b0, b1, b2, b3⟩ := (HB1.out.ext hx).read4; clear hx)
    go_ret
    exact ⟨ret_bool (by rw [HC.out]; rfl), HX1.out⟩
  have d1 : decide (rf ≤ 2147483647) = true := decide_eq_true h2
  rw [d1] at HC
  clear h1 h2
  cases pn
  rotate_left
  · go_enter Try.func37, Try.ntmps37
    go_wp2_with (go_at_call 43; refine (HR.out _ HX.out).mono ?_; rintro e w1 ⟨rfl, hx⟩; have HX1 := Lib.hid (HX.out.trans hx); clear p0 p1 p2 b0 b1 b2 b3; obtain ⟨p0, p1, p2⟩ := (HB0.out.ext hx).read2; obtain ⟨b0, b1, b2, b3⟩ := (HB1.out.ext hx).read4; clear hx)
    go_ret
    exact ⟨ret_bool (by rw [HC.out]; rfl), HX1.out⟩
  cases r1
  · go_enter Try.func37, Try.ntmps37
    go_wp2_with (go_at_call 43; refine (HR.out _ HX.out).mono ?_; rintro e w1 ⟨rfl, hx⟩; have HX1 := Lib.hid (HX.out.trans hx); clear p0 p1 p2 b0 b1 b2 b3; obtain ⟨p0, p1, p2⟩ := (HB0.out.ext hx).read2; obtain ⟨b0, b1, b2, b3⟩ := (HB1.out.ext hx).read4; clear hx)
    go_ret
    exact ⟨ret_bool (by rw [HC.out]; rfl), HX1.out⟩
  · go_enter Try.func37, Try.ntmps37
    go_wp2_with (first
      | (go_at_call 43; refine (HR.out _ HX.out).mono ?_; rintro e w1 ⟨rfl, hx⟩; have HX1 := Lib.hid (HX.out.trans hx); clear p0 p1 p2 b0 b1 b2 b3; obtain ⟨p0, p1, p2⟩ := (HB0.out.ext hx).read2; obtain ⟨b0, b1, b2, b3⟩ := (HB1.out.ext hx).read4; clear hx)
      | (go_at_call 44; refine (HP.out _ HX1.out).mono ?_; rintro e w2 ⟨rfl, hx⟩; have HX2 := Lib.hid (HX1.out.trans hx); clear hx))
    go_ret
    exact ⟨ret_bool (by rw [HC.out]; rfl), HX2.out⟩
end Go.Proofs.Ythlencnlgnbpaaa
