/- The example of layer 11. -/
import Derived.Test.YtlbhcakjcklmgaaK25
import Derived.Test.YtlbhcakjcklmgaaK08
namespace Go.Proofs.Ytlbhcakjcklmgaa
open Go.RowKit
attribute [local go_sem ↓] Go.wp_at_zero Go.wp_at_succ

theorem ex_right : rightH ⟨exH, 0⟩ = true := by decide
theorem ex_inv1 : InvC 0 exH [(1, 0)] := ⟨ex_right, fun x hx => by
  obtain rfl : x = (1, 0) := by simpa using hx
  exact ⟨by decide, by decide, by decide, fun h => absurd rfl h⟩⟩
theorem ex_inv0 : InvC 0 exH [(0, 0)] := ⟨ex_right, fun x hx => by
  obtain rfl : x = (0, 0) := by simpa using hx
  exact ⟨by decide, by decide, by decide, fun h => absurd rfl h⟩⟩
theorem ex_end : ∀ j, j < 4 → (stepsC j exH [(1, 0)]).2 ≠ [] := fun j hj => by
  match j, hj with
  | 0, _ => simp [stepsC]
  | 1, _ => simp [stepsC, exH_1]
  | 2, _ => simp [stepsC, exH_1, exH_2]
  | 3, _ => simp [stepsC, exH_1, exH_2, exH_3]
theorem shSteps_any (R A : Option Addr) (q d : Nat) (w : World) (hA : HcSl w R 2 q exH) (hL : Sl w A 1 d ([ofT 1 0].map cxv)) :
    Calls Try.prog 13 #[.agg #[.slice R 2 q, .int .i64 0], .slice A 1 d, .int .i64 4] w fun e w' => ∃ S z B y, e = .returned (.tuple #[.agg #[.slice S 2 z, .int .i64 0], .slice B 0 y]) ∧ HcSl w' S 2 z exH4 ∧ Ext w w' := by
  have h := cleanSteps_is R A exH 2 q 1 d 4 4 0 [(1, 0)] w ex_inv1 rfl (by omega) (by omega) (by omega) (by rw [exH_all]) ex_end hA hL
  rw [exH_all] at h
  exact h
theorem shLeft_any (R A : Option Addr) (q d : Nat) (w : World) (hA : HcSl w R 2 q exH) (hL : Sl w A 1 d ([ofT 1 0].map cxv)) :
    Calls Try.prog 8 #[.agg #[.slice R 2 q, .int .i64 0], .slice A 1 d] w fun e w' => e = .returned (.int .i64 4) ∧ Ext w w' :=
  cleanLeft_is R A exH 2 q 1 d 4 0 [(1, 0)] w ex_inv1 rfl (by omega) (by omega) (by rw [exH_all]) ex_end hA hL
theorem sh_beg : ∀ j, j < 1 → (stepsC j exH [(0, 0)]).2 ≠ [] := fun j hj => by
  match j, hj with
  | 0, _ => simp [stepsC]
theorem shStep_any (R A : Option Addr) (q d : Nat) (w : World) (hA : HcSl w R 2 q exH) (hL : Sl w A 1 d ([ofT 0 0].map cxv)) :
    Calls Try.prog 10 #[.agg #[.slice R 2 q, .int .i64 0], .slice A 1 d] w fun e w' => ∃ S z B y, e = .returned (.tuple #[.agg #[.slice S 2 z, .int .i64 0], .slice B 0 y]) ∧ HcSl w' S 2 z exH3 ∧ Ext w w' := by
  have h := cleanStep1_is R A exH 2 q 1 d 1 0 [(0, 0)] w ex_inv0 rfl (by omega) (by omega) (by simp [stepsC, exH_x]) sh_beg hA hL
  rw [show stepsC 1 exH [(0, 0)] = (exH3, []) from by simp [stepsC, exH_x]] at h
  exact h
theorem two_cells {w : World} {S : Option Addr} {z : Nat} {a b : HC} (h : HcSl w S 2 z [a, b]) : ∃ k off, S = some ⟨k, off, none⟩ ∧ w.cell? ⟨k, off + 1, none⟩ = some (.bool a.pin) ∧ w.cell? ⟨k, off + 4 + 1, none⟩ = some (.bool b.pin) ∧ w.cell? ⟨k, off + 4, none⟩ = some (.int .i64 b.ref) ∧ k < w.heap.size := by
  obtain ⟨k, off, rfl, hb, A, c, r0, r1, r2, r3, _⟩ := h.cell (k := 0) (by simp)
  obtain ⟨k2, off2, e, hb2, A2, c2, s0, s1, s2, s3, _⟩ := h.cell (k := 1) (by simp)
  cases e
  exact ⟨k, off, rfl, by simpa using r1, by simpa using s1, by simpa using s0, hb⟩
theorem fN_eq1 : (FloatKind.f64.format.order (fN 1) 4607182418800017408 == some .eq) = true := by rw [fN_one]; decide +kernel
theorem fN_eq0 : (FloatKind.f64.format.order (fN 0) 0 == some .eq) = true := by rw [fN_zero]; decide +kernel
set_option maxRecDepth 100000 in
set_option maxHeartbeats 3200000 in
theorem cleanShown_any (w : World) : Calls Try.prog 5 #[] w fun e w' => e = .returned (.bool true) ∧ Ext w w' := by
  obtain ⟨W, hW⟩ : ∃ W, (((w.alloc (.cells #[.int .i64 1, .int .i64 0] 46)).alloc (.cells #[.int .i64 1, .int .i64 0] 46)).alloc (.cells #[.int .i64 1, .bool false, .bool true, .slice (some ⟨w.heap.size, 0, none⟩) 1 1, .int .i64 1, .bool false, .bool false, .slice (some ⟨w.heap.size + 1, 0, none⟩) 1 1] 38)).alloc (.cells #[.slice (some ⟨w.heap.size + 1 + 1, 0, none⟩) 2 2, .int .i64 0] 24) = W := ⟨_, rfl⟩
  obtain ⟨hx, b0, b1, b2, b3⟩ := allocs4 hW
  have hH : HcSl W (some ⟨w.heap.size + 1 + 1, 0, none⟩) 2 2 exH := by
    refine ⟨rfl, _, b2.slS 2 (by unfold maxLen; omega), rfl, fun i hi => ?_⟩
    have hi : i < 2 := hi
    match i, hi with
    | 0, _ => exact ⟨_, _, rfl, rfl, rfl, rfl, b0.slS 1 (by unfold maxLen; omega)⟩
    | 1, _ => exact ⟨_, _, rfl, rfl, rfl, rfl, b1.slS 1 (by unfold maxLen; omega)⟩
  have HX := Lib.hid hx
  have HB := Lib.hid b3
  have HH := Lib.hid hH
  clear hx b0 b1 b2 b3 hH
  subst hW
  go_enter Try.func5, Try.ntmps5
  go_wp2_with (go_at_call 7; refine stop_here ?_)
  refine stop_on ?_
  generalize hW : World.alloc (World.alloc (World.alloc (World.alloc w _) _) _) _ = W at *
  clear hW
  refine (cleanGive_nil 1 W).mono ?_
  rintro e w1 ⟨A, d, rfl, hA, hx1⟩
  obtain ⟨ba, oa, rfl, hba, hca⟩ := hA.cells.tk (l := [ofT 1 0]) (k := 0) (by simp)
  have hc0 := hca 0 (by simp)
  have HA := Lib.hid hA
  have HX1 := Lib.hid (HX.out.trans hx1)
  have HB1 := Lib.hid (HB.out.ext hx1)
  have HH1 := Lib.hid (HH.out.ext hx1)
  clear hx1 hA hca
  obtain ⟨g0, g1, g2⟩ := HB1.out.read2
  go_wp2_with (go_at_call 13; refine stop_here ?_)
  refine stop_on ?_
  refine (shSteps_any _ _ _ _ w1 HH1.out HA.out).mono ?_
  rintro e w2 ⟨S, z, B, y, rfl, hS, hx2⟩
  have hx3 : Ext w1 (w2.alloc (.cells #[.slice S 2 z, .int .i64 0] 24)) := hx2.alloc _
  have HX3 := Lib.hid (HX1.out.trans hx3)
  have HB3 := Lib.hid (HB1.out.ext hx3)
  have HH3 := Lib.hid (HH1.out.ext hx3)
  have HS3 := Lib.hid (hS.ext ((Ext.refl w2).alloc (.cells #[.slice S 2 z, .int .i64 0] 24)))
  have HG3 := Lib.hid (Bx.new w2 #[.slice S 2 z, .int .i64 0] 24)
  have HA3 := Lib.hid (HA.out.ext hx3)
  have HC3 := Lib.hid ((hx3.cell (p := ⟨ba, oa + 0, none⟩) hba).trans hc0)
  clear hx2 hx3 hS g0 g1 g2 hc0
  obtain ⟨g0, g1, g2⟩ := HB3.out.read2
  go_wp2_with (go_at_call 10; refine stop_here ?_)
  refine stop_on ?_
  have HSZ := Lib.hid (show (w2.alloc (.cells #[.slice S 2 z, .int .i64 0] 24)).heap.size = w2.heap.size + 1 from by simp)
  generalize hW3 : World.alloc w2 _ = w3 at *
  clear hW3
  have hx4 := (Ext.refl w3).alloc (.cells #[.complex .f64 0 0] 48)
  refine (shStep_any _ _ _ _ _ (HH3.out.ext hx4) (show Sl _ (some ⟨w2.heap.size + 1, 0, none⟩) 1 1 ([ofT 0 0].map cxv) from by
    rw [show [ofT 0 0].map cxv = [.complex .f64 0 0] from by simp [ofT, cxv, fN_zero]]
    exact sl_lit' HSZ.out.symm _ 1 _ (by unfold maxLen; omega))).mono ?_
  rintro e w5 ⟨S5, z5, B5, y5, rfl, hS5, hx5⟩
  have hx6 : Ext w3 (w5.alloc (.cells #[.slice S5 2 z5, .int .i64 0] 24)) := (hx4.trans hx5).alloc _
  have HX6 := Lib.hid (HX3.out.trans hx6)
  have HB6 := Lib.hid (HB3.out.ext hx6)
  have HH6 := Lib.hid (HH3.out.ext hx6)
  have HS6 := Lib.hid (HS3.out.ext hx6)
  have HG6 := Lib.hid (HG3.out.ext hx6)
  have HA6 := Lib.hid (HA3.out.ext hx6)
  have HS56 := Lib.hid (hS5.ext ((Ext.refl w5).alloc (.cells #[.slice S5 2 z5, .int .i64 0] 24)))
  have HG56 := Lib.hid (Bx.new w5 #[.slice S5 2 z5, .int .i64 0] 24)
  have hc6 := (hx6.cell (p := ⟨ba, oa + 0, none⟩) (World.block_lt_of_cell? _ _ HC3.out)).trans HC3.out
  rw [Nat.add_zero] at hc6
  clear hx4 hx5 hx6 hS5 g0 g1 g2
  obtain ⟨g0, g1, g2⟩ := HB6.out.read2
  have o1 := fN_eq1
  have o0 := fN_eq0
  go_wp2_with (go_at_call 8; refine stop_here ?_)
  refine stop_on ?_
  generalize hW6 : World.alloc w5 _ = w6 at *
  clear hW6
  refine (shLeft_any _ _ _ _ _ HH6.out HA6.out).mono ?_
  rintro e w7 ⟨rfl, hx7⟩
  have HX7 := Lib.hid (HX6.out.trans hx7)
  obtain ⟨k1, f1, rfl, r1, r2, r3, _⟩ := two_cells (HS6.out.ext hx7)
  obtain ⟨k2, f2, rfl, s1, s2, s3, _⟩ := two_cells (HS56.out.ext hx7)
  obtain ⟨i0, i1, i2⟩ := (HG6.out.ext hx7).read2
  obtain ⟨j0, j1, j2⟩ := (HG56.out.ext hx7).read2
  clear hx7 g0 g1 g2 hc6
  go_wp2_with fail
  go_ret
  exact ⟨rfl, HX7.out⟩
theorem cleanOk : CleanOk where
  shown := cleanShown_any
  give := fun p w _ => cleanGive_nil p w
  left := fun l R A n q t p keep w hr hb h40 _ hA hL => by
    have hb2 := (rightR_iff hb).resolve_left (by omega)
    obtain ⟨h0, h1, h2⟩ := hb2
    have hal := right_all hr
    obtain ⟨⟨c', e1⟩, e2, e3⟩ := left_count hal h0 h1 h2
    have hle := nodup_len l.length _ (nodes_once l hal 20 (p : Int) h0 h1 h2) (fun x hx => by
      obtain ⟨_, _, _, h5, _, _⟩ := node_in l hal 20 (p : Int) h0 h1 h2 x hx
      exact h5)
    exact cleanLeft_is R A l n q 1 t (cntC l 20 (p : Int)) keep [((p : Int), 0)] w ⟨hr, fun x hx => by
      obtain rfl : x = ((p : Int), 0) := by simpa using hx
      exact ⟨h0, h1, by show 0 ≤ 5; omega, fun h => absurd rfl h⟩⟩ rfl (by omega) (by omega) (by rw [e1]) e2 hA hL
  step := fun l R A n q t p keep w hp hr h2 h40 _ hA hL => by
    have hst : stepsC 1 l [((p : Int), 0)] = (looseL (l.length + 1) l (p : Int), []) := by
      simp only [stepsC]
      rw [stepC, if_pos ⟨rfl, .inl (by rw [cellT_at hp]; omega)⟩]
    have h := cleanStep1_is R A l n q 1 t 1 keep [((p : Int), 0)] w ⟨hr, fun x hx => by
      obtain rfl : x = ((p : Int), 0) := by simpa using hx
      exact ⟨by show (0 : Int) ≤ p; omega, by show (p : Int) < l.length; omega, by show 0 ≤ 5; omega, fun h => absurd rfl h⟩⟩ rfl (by omega) (by omega) (by rw [hst]) (fun j hj => by
        match j, hj with
        | 0, _ => simp [stepsC]) hA hL
    rw [hst] at h
    exact h.mono (fun e w' ⟨S, z, B, y, e1, e2, e3⟩ => ⟨S, z, B, y, e1, e2, e3⟩)
end Go.Proofs.Ytlbhcakjcklmgaa
