/- The example of layer 7. -/
import Derived.Test.YthlencnlgnbpaaaTreeA
import Derived.Deep.AppendLies
import Derived.Deep.RegionHeld3
import Derived.Deep.DeepCutAuto
import Derived.Deep.DrawnRows
import Derived.RegionTactic
namespace Go.Proofs.Ythlencnlgnbpaaa
open Go.RowKit
attribute [local go_sem ↓] Go.wp_at_zero Go.wp_at_succ

def exL : List HC := [⟨1, false, true, [(1, 7), (2, 8)]⟩, ⟨1, false, true, [(5, 9)]⟩, ⟨1, false, false, [(1, 0), (5, 1)]⟩]
theorem ex_all : AllR exL := fun
  | 0, _ => (show cellR 3 ⟨1, false, true, [(1, 7), (2, 8)]⟩ = true by decide)
  | 1, _ => (show cellR 3 ⟨1, false, true, [(5, 9)]⟩ = true by decide)
  | 2, _ => (show cellR 3 ⟨1, false, false, [(1, 0), (5, 1)]⟩ = true by decide)
  | k + 3, hk => absurd hk (show ¬ (k + 3 < 3) by omega)
theorem ex_right : rightR ⟨exL, 0⟩ 2 = true := by decide
theorem ex_get5 : getT exL 2 5 = some 9 := by decide
theorem ex_get3 : getT exL 2 3 = none := by decide
theorem ex_scan : scanT exL 2 2 6 = [(2, 8), (5, 9)] := by decide
theorem ex_high : highT exL 2 = 2 := by decide
theorem ex_nodes : nodesT exL 2 = [2, 0, 1] := by decide
theorem ex_right1 : rightR ⟨exL, 0⟩ (-1) = true := by decide
theorem ex_right3 : rightR ⟨exL, 0⟩ 3 = false := by decide
theorem allocs5 {w W : World} {c0 c1 c2 c3 c4 : Array Value} {t0 t1 t2 t3 t4 : TypeId} (h : ((((w.alloc (.cells c0 t0)).alloc (.cells c1 t1)).alloc (.cells c2 t2)).alloc (.cells c3 t3)).alloc (.cells c4 t4) = W) :
    Ext w W ∧ Bx W w.heap.size c0 ∧ Bx W (w.heap.size + 1) c1 ∧ Bx W (w.heap.size + 1 + 1) c2 ∧ Bx W (w.heap.size + 1 + 1 + 1) c3 ∧ Bx W (w.heap.size + 1 + 1 + 1 + 1) c4 := by
  obtain ⟨x, b0, b1, b2, b3⟩ := allocs4 (w := w) (c0 := c0) (t0 := t0) (c1 := c1) (t1 := t1) (c2 := c2) (t2 := t2) (c3 := c3) (t3 := t3) rfl
  subst h
  exact ⟨x.alloc _, b0.ext ((Ext.refl _).alloc _), b1.ext ((Ext.refl _).alloc _), b2.ext ((Ext.refl _).alloc _), b3.ext ((Ext.refl _).alloc _), Bx.new' (by simp) _ _⟩
theorem Bx.sl {w : World} {k : Nat} {cs : Array Value} (h : Bx w k cs) (n : Nat) (hn : n ≤ maxLen) : Sl w (some ⟨k, 0, none⟩) n n cs.toList :=
  ⟨(fun e => by cases e), Nat.le_refl _, hn, fun _ => ⟨k, 0, rfl, h.lt, fun j u hu => by rw [Nat.zero_add]; exact h.at j u (by simpa using hu)⟩⟩
theorem ex_cells {w : World} {a b c d : Nat} (h1 : Bx w a #[.int .i64 1, .int .i64 7, .int .i64 2, .int .i64 8]) (h2 : Bx w b #[.int .i64 5, .int .i64 9]) (h3 : Bx w c #[.int .i64 1, .int .i64 0, .int .i64 5, .int .i64 1])
    (h4 : Bx w d #[.int .i64 1, .bool false, .bool true, .slice (some ⟨a, 0, none⟩) 2 2, .int .i64 1, .bool false, .bool true, .slice (some ⟨b, 0, none⟩) 1 1, .int .i64 1, .bool false, .bool false, .slice (some ⟨c, 0, none⟩) 2 2]) : HcSl w (some ⟨d, 0, none⟩) 3 3 exL :=
  ⟨rfl, _, h4.sl 3 (by unfold maxLen; omega), ((HcAt.one ⟨1, false, true, [(1, 7), (2, 8)]⟩ (h1.sl 2 (by unfold maxLen; omega))).app (HcAt.one ⟨1, false, true, [(5, 9)]⟩ (h2.sl 1 (by unfold maxLen; omega)))).app (HcAt.one ⟨1, false, false, [(1, 0), (5, 1)]⟩ (h3.sl 2 (by unfold maxLen; omega)))⟩
set_option maxRecDepth 100000 in
set_option maxHeartbeats 4000000 in
theorem example_any (w : World) : Calls Try.prog 27 #[] w fun e w' => ∃ b o d, e = .returned (.agg #[.slice (some ⟨b, o, none⟩) 3 d, .int .i64 0]) ∧ HcSl w' (some ⟨b, o, none⟩) 3 d exL ∧ Ext w w' := by
  go_enter Try.func27, Try.ntmps27
  go_wp2_with fail
  generalize hW : World.alloc (World.alloc (World.alloc (World.alloc (World.alloc w _) _) _) _) _ = W
  obtain ⟨hx, b0, b1, b2, b3, b4⟩ := allocs5 hW
  exact ret2_cell (k := w.heap.size) (v := .agg #[.slice (some ⟨w.heap.size + 1 + 1 + 1 + 1, 0, none⟩) 3 3, .int .i64 0]) b0 (fun r0 r1 => by simp [results, Try.results27, go_sem, r0, r1]) rfl ⟨_, _, _, rfl, ex_cells b1 b2 b3 b4, hx⟩
set_option maxRecDepth 100000 in
set_option maxHeartbeats 4000000 in
/-- THE EXAMPLE. -/
theorem shown_any (w : World) : Calls Try.prog 9 #[] w fun e w' => e = .returned (.bool true) ∧ Ext w w' := by
  go_enter Try.func9, Try.ntmps9
  go_wp2_with (go_at_call 27; refine stop_here ?_)
  refine stop_on ?_
  refine (example_any _).mono ?_
  rintro e w1 ⟨b, o, d, rfl, hA, hx⟩
  obtain ⟨W, hW⟩ : ∃ W, w1.alloc (.cells #[.slice (some ⟨b, o, none⟩) 3 d, .int .i64 0] 24) = W := ⟨_, rfl⟩
  have hxW : Ext w1 W := hW ▸ (Ext.refl _).alloc _
  have HX := Lib.hid (hx.trans hxW)
  have HB := Lib.hid (show Bx W w1.heap.size #[.slice (some ⟨b, o, none⟩) 3 d, .int .i64 0] from hW ▸ Bx.new w1 _ _)
  have HA := Lib.hid (hA.ext hxW)
  have HG5 := Lib.hid (fun w' (hx : Ext W w') => show Calls Try.prog 21 #[.agg #[.slice (some ⟨b, o, none⟩) 3 d, .int .i64 0], .int .i64 2, .int .i64 5] w' fun e w2 => e = .returned (.tuple #[.int .i64 9, .int .i64 0]) ∧ Ext w' w2 from by
    have h := treeGet_any (some ⟨b, o, none⟩) exL 3 d 0 0 2 5 w' ex_all (by decide) ex_right (HA.out.ext hx)
    rw [ex_get5] at h; exact h)
  have HG3 := Lib.hid (fun w' (hx : Ext W w') => show Calls Try.prog 21 #[.agg #[.slice (some ⟨b, o, none⟩) 3 d, .int .i64 0], .int .i64 2, .int .i64 3] w' fun e w2 => e = .returned (.tuple #[.int .i64 0, .int .i64 4]) ∧ Ext w' w2 from by
    have h := treeGet_any (some ⟨b, o, none⟩) exL 3 d 0 0 2 3 w' ex_all (by decide) ex_right (HA.out.ext hx)
    rw [ex_get3] at h; exact h)
  have HSC := Lib.hid (fun w' (hx : Ext W w') => show Calls Try.prog 24 #[.agg #[.slice (some ⟨b, o, none⟩) 3 d, .int .i64 0], .int .i64 2, .int .i64 2, .int .i64 6] w' fun e w2 => ∃ S c, e = .returned (.slice S 2 c) ∧ Sl w2 S 2 c (ivs [(2, 8), (5, 9)]) ∧ Ext w' w2 from by
    have h := treeScan_any (some ⟨b, o, none⟩) exL 3 d 0 0 2 2 6 w' ex_all (by decide) ex_right (HA.out.ext hx)
    rw [ex_scan] at h
    refine h.mono ?_
    rintro e w2 ⟨S, s, c, rfl, rfl, h1, h2⟩
    exact ⟨S, c, rfl, h1, h2⟩)
  have HHI := Lib.hid (fun w' (hx : Ext W w') => show Calls Try.prog 15 #[.agg #[.slice (some ⟨b, o, none⟩) 3 d, .int .i64 0], .int .i64 2] w' fun e w2 => e = .returned (.int .i64 2) ∧ Ext w' w2 from by
    have h := treeHigh_any (some ⟨b, o, none⟩) exL 3 d 0 0 2 w' ex_all (by decide) ex_right (HA.out.ext hx)
    rw [ex_high] at h; exact h)
  have HND := Lib.hid (fun w' (hx : Ext W w') => show Calls Try.prog 18 #[.agg #[.slice (some ⟨b, o, none⟩) 3 d, .int .i64 0], .int .i64 2] w' fun e w2 => ∃ S c, e = .returned (.slice S 3 c) ∧ Sl w2 S 3 c (([2, 0, 1] : List Int).map iv) ∧ Ext w' w2 from by
    have h := treeNodes_any (some ⟨b, o, none⟩) exL 3 d 0 0 2 w' ex_all (by decide) ex_right (HA.out.ext hx)
    rw [ex_nodes] at h
    refine h.mono ?_
    rintro e w2 ⟨S, s, c, rfl, rfl, h1, h2⟩
    exact ⟨S, c, rfl, h1, h2⟩)
  have HR2 := Lib.hid (fun w' (hx : Ext W w') => show Calls Try.prog 12 #[.agg #[.slice (some ⟨b, o, none⟩) 3 d, .int .i64 0], .int .i64 2] w' fun e w2 => e = .returned (.bool true) ∧ Ext w' w2 from by
    have h := treeRight_any (some ⟨b, o, none⟩) exL 3 d 0 2 w' ex_all (by decide) (HA.out.ext hx)
    rw [ex_right] at h; exact h)
  have HR1 := Lib.hid (fun w' (hx : Ext W w') => show Calls Try.prog 12 #[.agg #[.slice (some ⟨b, o, none⟩) 3 d, .int .i64 0], .int .i64 (-1)] w' fun e w2 => e = .returned (.bool true) ∧ Ext w' w2 from by
    have h := treeRight_any (some ⟨b, o, none⟩) exL 3 d 0 (-1) w' ex_all (by decide) (HA.out.ext hx)
    rw [ex_right1] at h; exact h)
  have HR3 := Lib.hid (fun w' (hx : Ext W w') => show Calls Try.prog 12 #[.agg #[.slice (some ⟨b, o, none⟩) 3 d, .int .i64 0], .int .i64 3] w' fun e w2 => e = .returned (.bool false) ∧ Ext w' w2 from by
    have h := treeRight_any (some ⟨b, o, none⟩) exL 3 d 0 3 w' ex_all (by decide) (HA.out.ext hx)
    rw [ex_right3] at h; exact h)
  have HIN := Lib.hid (fun S c T w' (h1 : Sl w' S 3 c (([2, 0, 1] : List Int).map iv)) (h2 : Sl w' T 3 3 (([2, 0, 1] : List Int).map iv)) => show Calls Try.prog 17 #[.slice S 3 c, .slice T 3 3] w' fun e w2 => e = .returned (.bool true) ∧ Ext w' w2 from by
    refine (ref07Ints_any S T [2, 0, 1] [2, 0, 1] 3 3 c 3 w' rfl rfl h1 h2).mono ?_
    rintro e w2 ⟨rfl, q, rfl⟩
    exact ⟨by rw [show sameZ [2, 0, 1] [2, 0, 1] = true from by decide], (Ext.refl _).drewN q⟩)
  obtain ⟨b0, b1, b2⟩ := HB.out.read2
  subst hW
  clear hA hx hxW
  go_wp2_with (go_at_call 21; refine stop_here ?_)
  refine stop_on ?_
  refine (HG5.out _ (Ext.refl _)).mono ?_
  rintro e w2 ⟨rfl, hx⟩
  have X2 := Lib.hid hx
  clear hx b0 b1 b2
  obtain ⟨b0, b1, b2⟩ := (HB.out.ext X2.out).read2
  go_wp2_with (go_at_call 21; refine stop_here ?_)
  refine stop_on ?_
  refine (HG3.out _ X2.out).mono ?_
  rintro e w3 ⟨rfl, hx⟩
  have X3 := Lib.hid (X2.out.trans hx)
  clear hx b0 b1 b2
  obtain ⟨b0, b1, b2⟩ := (HB.out.ext X3.out).read2
  go_wp2_with (go_at_call 24; refine stop_here ?_)
  refine stop_on ?_
  refine (HSC.out _ X3.out).mono ?_
  rintro e w4 ⟨S, c, rfl, hS, hx⟩
  have X4 := Lib.hid (X3.out.trans hx)
  obtain ⟨bS, oS, rfl, _, s0, s1⟩ := it_at hS (show 0 < [((2 : Int), (8 : Int)), (5, 9)].length by decide)
  obtain ⟨bS', oS', he, _, s2, s3⟩ := it_at hS (show 1 < [((2 : Int), (8 : Int)), (5, 9)].length by decide)
  cases he
  simp only [Nat.zero_mul, Nat.add_zero, Nat.one_mul, List.getElem_cons_zero, List.getElem_cons_succ] at s0 s1 s2 s3
  clear hx hS b0 b1 b2
  obtain ⟨b0, b1, b2⟩ := (HB.out.ext X4.out).read2
  go_wp2_with (go_at_call 15; refine stop_here ?_)
  refine stop_on ?_
  refine (HHI.out _ X4.out).mono ?_
  rintro e w5 ⟨rfl, hx⟩
  have X5 := Lib.hid (X4.out.trans hx)
  clear hx b0 b1 b2 s0 s1 s2 s3
  obtain ⟨b0, b1, b2⟩ := (HB.out.ext X5.out).read2
  go_wp2_with (go_at_call 13; refine stop_here ?_)
  refine stop_on ?_
  refine (treeNeed_any 2 _ (by omega) (by omega)).mono ?_
  rintro e w6 ⟨rfl, hx⟩
  have X6 := Lib.hid (X5.out.trans hx)
  clear hx b0 b1 b2
  obtain ⟨b0, b1, b2⟩ := (HB.out.ext X6.out).read2
  go_wp2_with (go_at_call 18; refine stop_here ?_)
  refine stop_on ?_
  refine (HND.out _ X6.out).mono ?_
  rintro e w7 ⟨T, c7, rfl, hT, hx⟩
  have X7 := Lib.hid (X6.out.trans hx)
  have HT := Lib.hid hT
  clear hx hT b0 b1 b2
  go_wp2_with (go_at_call 17; refine stop_here ?_)
  refine stop_on ?_
  refine (HIN.out _ _ _ _ (HT.out.ext ((Ext.refl _).alloc _)) (sl_lit w7 3 3 (([2, 0, 1] : List Int).map iv) (by unfold maxLen; omega))).mono ?_
  rintro e w8 ⟨rfl, hx⟩
  have X8 := Lib.hid ((X7.out.alloc _).trans hx)
  clear hx
  obtain ⟨b0, b1, b2⟩ := (HB.out.ext X8.out).read2
  go_wp2_with (go_at_call 12; refine stop_here ?_)
  refine stop_on ?_
  refine (HR2.out _ X8.out).mono ?_
  rintro e w9 ⟨rfl, hx⟩
  have X9 := Lib.hid (X8.out.trans hx)
  clear hx b0 b1 b2
  obtain ⟨b0, b1, b2⟩ := (HB.out.ext X9.out).read2
  go_wp2_with (go_at_call 12; refine stop_here ?_)
  refine stop_on ?_
  refine (HR1.out _ X9.out).mono ?_
  rintro e w10 ⟨rfl, hx⟩
  have X10 := Lib.hid (X9.out.trans hx)
  clear hx b0 b1 b2
  obtain ⟨b0, b1, b2⟩ := (HB.out.ext X10.out).read2
  go_wp2_with (go_at_call 12; refine stop_here ?_)
  refine stop_on ?_
  refine (HR3.out _ X10.out).mono ?_
  rintro e w11 ⟨rfl, hx⟩
  have X11 := Lib.hid (X10.out.trans hx)
  clear hx b0 b1 b2
  go_wp2_with fail
  go_ret
  exact ⟨rfl, HX.out.trans X11.out⟩
end Go.Proofs.Ythlencnlgnbpaaa
