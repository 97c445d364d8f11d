/- Walk of the reference's Pick. -/
import Derived.Test.YthaebcljehmhmaaSlotW6
import Derived.RegionTactic
namespace Go.Proofs.Ythaebcljehmhmaa
open Go.RowKit

theorem par_yes {b : ByteArray} {x : Sup} (h : parS b = some x) : parX b = x ∧ parE b = 0 := by unfold parX parE; rw [h]; exact ⟨rfl, rfl⟩
theorem par_no {b : ByteArray} (h : parS b = none) : parX b = sup0 ∧ parE b = 2 := by unfold parX parE; rw [h]; exact ⟨rfl, rfl⟩
def pickV (a b : ByteArray) : Value := .tuple #[.int .i64 (pickI a b), Sup.v (pickX a b), .int .i64 (pickE a b)]

/-- A function's end whose result lies in a box of three. -/
theorem ret3_cell {P : Program} {fn : Func} {R : Ending → World → Prop} {a : Act} {W : World} {v : Value} {k : Nat} {x y z : Value} (hb : Bx W k #[x, y, z])
    (h : W.cell? ⟨k, 0, none⟩ = some x → W.cell? ⟨k, 1, none⟩ = some y → W.cell? ⟨k, 2, none⟩ = some z → (results fn a.tmps).run P W = .ok v W) (hd : a.defers = []) (hR : R (.returned v) W) : bodyPost P fn R .ret a W :=
  bodyPost_ret (h hb.read3.1 hb.read3.2.1 hb.read3.2.2) hd hR

section
variable (b : ByteArray) (w : World) (hs : b.size ≤ maxLen)
include hs
theorem slotParse_y {g z s : Int} (h : parS b = some ⟨g, z, s⟩) : Calls Try.prog 11 #[.string b] w fun e w' => e = .returned (.tuple #[.agg #[.int .i64 g, .int .i64 z, .int .i64 s], .int .i64 0]) ∧ Ext w w' := by
  have k := slotParse_any b w hs
  rw [(par_yes h).1, (par_yes h).2] at k; exact k
theorem slotParse_n (h : parS b = none) : Calls Try.prog 11 #[.string b] w fun e w' => e = .returned (.tuple #[.agg #[.int .i64 0, .int .i64 0, .int .i64 0], .int .i64 2]) ∧ Ext w w' := by
  have k := slotParse_any b w hs
  rw [(par_no h).1, (par_no h).2] at k; exact k
theorem ref03Parse_y {g z s : Int} (h : parS b = some ⟨g, z, s⟩) : Calls Try.prog 12 #[.string b] w fun e w' => e = .returned (.tuple #[.agg #[.int .i64 g, .int .i64 z, .int .i64 s], .int .i64 0]) ∧ Ext w w' := by
  have k := ref03Parse_any b w hs
  rw [(par_yes h).1, (par_yes h).2] at k; exact k
theorem ref03Parse_n (h : parS b = none) : Calls Try.prog 12 #[.string b] w fun e w' => e = .returned (.tuple #[.agg #[.int .i64 0, .int .i64 0, .int .i64 0], .int .i64 2]) ∧ Ext w w' := by
  have k := ref03Parse_any b w hs
  rw [(par_no h).1, (par_no h).2] at k; exact k
end

set_option maxRecDepth 100000 in
set_option maxHeartbeats 4000000 in
theorem ref03Pick_any (a b : ByteArray) (w : World) (ha : a.size ≤ maxLen) (hb : b.size ≤ maxLen) :
    Calls Try.prog 14 #[.string a, .string b] w fun e w' => e = .returned (pickV a b) ∧ Ext w w' := by
  unfold pickV pickI pickX pickE
  cases hx : parS a with
  | none =>
    cases hy : parS b with
    | none =>
      have HA := Lib.hid (fun w' => ref03Parse_n a w' ha hx)
      have HB := Lib.hid (fun w' => ref03Parse_n b w' hb hy)
      clear hx hy ha hb
      go_enter Try.func14, Try.ntmps14
      go_wp2_with (go_at_call 12; refine stop_here ?_)
      refine stop_on ?_
      refine (HA.out _).mono ?_
      rintro e w1 ⟨rfl, hx⟩
      have HB1 := Lib.hid ((Bx.new w #[.int .i64 0, .int .i64 0, .int .i64 0] 23).ext hx)
      have HX1 := Lib.hid (((Ext.refl w).alloc _).trans hx)
      clear hx
      go_wp2_with (go_at_call 12; refine stop_here ?_)
      refine stop_on ?_
      refine (HB.out _).mono ?_
      rintro e w2 ⟨rfl, hx⟩
      have HC2 := Lib.hid ((Bx.new w1 #[.int .i64 0, .int .i64 0, .int .i64 0] 23).ext hx)
      have HB2 := Lib.hid (HB1.out.ext (((Ext.refl w1).alloc _).trans hx))
      have HX2 := Lib.hid (HX1.out.trans (((Ext.refl w1).alloc _).trans hx))
      clear hx HB1 HX1
      obtain ⟨c0, c1, c2⟩ := HC2.out.read3
      have c3 := HC2.out.lt
      obtain ⟨r0, r1, r2⟩ := HB2.out.read3
      obtain ⟨f0, f1, f2⟩ := HB2.out.free3
      have r3 := HB2.out.lt
      go_wp2_with fail
      refine ret3_cell (k := w.heap.size) (x := .int .i64 0) (y := .int .i64 0) (z := .int .i64 0) (v := .tuple #[.int .i64 0, .agg #[.int .i64 0, .int .i64 0, .int .i64 0], .int .i64 4]) ?hb (fun r0 r1 r2 => by simp [results, Try.results14, go_sem, r0, r1, r2]) rfl ⟨rfl, ?hx⟩
      case hb => first | exact (HB2.out.set3 (.int .i64 0) (.int .i64 0) (.int .i64 0)).ext ((Ext.refl _).alloc _) | exact (HB2.out.set3 (.int .i64 0) (.int .i64 0) (.int .i64 0)).ext ((Ext.refl _).alloc _).drew
      case hx => first | exact (HX2.out.store3 (by omega) (.int .i64 0) (.int .i64 0) (.int .i64 0)).alloc _ | exact ((HX2.out.store3 (by omega) (.int .i64 0) (.int .i64 0) (.int .i64 0)).alloc _).drew
    | some y =>
      obtain ⟨g2, z2, s2⟩ := y
      have HA := Lib.hid (fun w' => ref03Parse_n a w' ha hx)
      have HB := Lib.hid (fun w' => ref03Parse_y b w' hb hy)
      clear hx hy ha hb
      go_enter Try.func14, Try.ntmps14
      go_wp2_with (go_at_call 12; refine stop_here ?_)
      refine stop_on ?_
      refine (HA.out _).mono ?_
      rintro e w1 ⟨rfl, hx⟩
      have HB1 := Lib.hid ((Bx.new w #[.int .i64 0, .int .i64 0, .int .i64 0] 23).ext hx)
      have HX1 := Lib.hid (((Ext.refl w).alloc _).trans hx)
      clear hx
      go_wp2_with (go_at_call 12; refine stop_here ?_)
      refine stop_on ?_
      refine (HB.out _).mono ?_
      rintro e w2 ⟨rfl, hx⟩
      have HC2 := Lib.hid ((Bx.new w1 #[.int .i64 0, .int .i64 0, .int .i64 0] 23).ext hx)
      have HB2 := Lib.hid (HB1.out.ext (((Ext.refl w1).alloc _).trans hx))
      have HX2 := Lib.hid (HX1.out.trans (((Ext.refl w1).alloc _).trans hx))
      clear hx HB1 HX1
      obtain ⟨c0, c1, c2⟩ := HC2.out.read3
      have c3 := HC2.out.lt
      obtain ⟨r0, r1, r2⟩ := HB2.out.read3
      obtain ⟨f0, f1, f2⟩ := HB2.out.free3
      have r3 := HB2.out.lt
      go_wp2_with fail
      go_region
      all_goals (go_wp2_with fail)
      refine ret3_cell (k := w.heap.size) (x := .int .i64 g2) (y := .int .i64 z2) (z := .int .i64 s2) (v := .tuple #[.int .i64 1, .agg #[.int .i64 g2, .int .i64 z2, .int .i64 s2], .int .i64 0]) ?hb (fun r0 r1 r2 => by simp [results, Try.results14, go_sem, r0, r1, r2]) rfl ⟨rfl, ?hx⟩
      case hb => first | exact (HB2.out.set3 (.int .i64 g2) (.int .i64 z2) (.int .i64 s2)).ext ((Ext.refl _).alloc _) | exact (HB2.out.set3 (.int .i64 g2) (.int .i64 z2) (.int .i64 s2)).ext ((Ext.refl _).alloc _).drew
      case hx => first | exact (HX2.out.store3 (by omega) (.int .i64 g2) (.int .i64 z2) (.int .i64 s2)).alloc _ | exact ((HX2.out.store3 (by omega) (.int .i64 g2) (.int .i64 z2) (.int .i64 s2)).alloc _).drew
  | some x =>
    obtain ⟨g1, z1, s1⟩ := x
    cases hy : parS b with
    | none =>
      have HA := Lib.hid (fun w' => ref03Parse_y a w' ha hx)
      have HB := Lib.hid (fun w' => ref03Parse_n b w' hb hy)
      clear hx hy ha hb
      go_enter Try.func14, Try.ntmps14
      go_wp2_with (go_at_call 12; refine stop_here ?_)
      refine stop_on ?_
      refine (HA.out _).mono ?_
      rintro e w1 ⟨rfl, hx⟩
      have HB1 := Lib.hid ((Bx.new w #[.int .i64 0, .int .i64 0, .int .i64 0] 23).ext hx)
      have HX1 := Lib.hid (((Ext.refl w).alloc _).trans hx)
      clear hx
      go_wp2_with (go_at_call 12; refine stop_here ?_)
      refine stop_on ?_
      refine (HB.out _).mono ?_
      rintro e w2 ⟨rfl, hx⟩
      have HC2 := Lib.hid ((Bx.new w1 #[.int .i64 g1, .int .i64 z1, .int .i64 s1] 23).ext hx)
      have HB2 := Lib.hid (HB1.out.ext (((Ext.refl w1).alloc _).trans hx))
      have HX2 := Lib.hid (HX1.out.trans (((Ext.refl w1).alloc _).trans hx))
      clear hx HB1 HX1
      obtain ⟨c0, c1, c2⟩ := HC2.out.read3
      have c3 := HC2.out.lt
      obtain ⟨r0, r1, r2⟩ := HB2.out.read3
      obtain ⟨f0, f1, f2⟩ := HB2.out.free3
      have r3 := HB2.out.lt
      go_wp2_with fail
      go_region
      all_goals (go_wp2_with fail)
      refine ret3_cell (k := w.heap.size) (x := .int .i64 g1) (y := .int .i64 z1) (z := .int .i64 s1) (v := .tuple #[.int .i64 0, .agg #[.int .i64 g1, .int .i64 z1, .int .i64 s1], .int .i64 0]) ?hb (fun r0 r1 r2 => by simp [results, Try.results14, go_sem, r0, r1, r2]) rfl ⟨rfl, ?hx⟩
      case hb => first | exact (HB2.out.set3 (.int .i64 g1) (.int .i64 z1) (.int .i64 s1)).ext ((Ext.refl _).alloc _) | exact (HB2.out.set3 (.int .i64 g1) (.int .i64 z1) (.int .i64 s1)).ext ((Ext.refl _).alloc _).drew
      case hx => first | exact (HX2.out.store3 (by omega) (.int .i64 g1) (.int .i64 z1) (.int .i64 s1)).alloc _ | exact ((HX2.out.store3 (by omega) (.int .i64 g1) (.int .i64 z1) (.int .i64 s1)).alloc _).drew
    | some y =>
      obtain ⟨g2, z2, s2⟩ := y
      have HA := Lib.hid (fun w' => ref03Parse_y a w' ha hx)
      have HB := Lib.hid (fun w' => ref03Parse_y b w' hb hy)
      clear hx hy ha hb
      by_cases hg : g1 < g2
      · simp only [if_pos hg]
        go_enter Try.func14, Try.ntmps14
        go_wp2_with (go_at_call 12; refine stop_here ?_)
        refine stop_on ?_
        refine (HA.out _).mono ?_
        rintro e w1 ⟨rfl, hx⟩
        have HB1 := Lib.hid ((Bx.new w #[.int .i64 0, .int .i64 0, .int .i64 0] 23).ext hx)
        have HX1 := Lib.hid (((Ext.refl w).alloc _).trans hx)
        clear hx
        go_wp2_with (go_at_call 12; refine stop_here ?_)
        refine stop_on ?_
        refine (HB.out _).mono ?_
        rintro e w2 ⟨rfl, hx⟩
        have HC2 := Lib.hid ((Bx.new w1 #[.int .i64 g1, .int .i64 z1, .int .i64 s1] 23).ext hx)
        have HB2 := Lib.hid (HB1.out.ext (((Ext.refl w1).alloc _).trans hx))
        have HX2 := Lib.hid (HX1.out.trans (((Ext.refl w1).alloc _).trans hx))
        clear hx HB1 HX1
        obtain ⟨c0, c1, c2⟩ := HC2.out.read3
        have c3 := HC2.out.lt
        obtain ⟨r0, r1, r2⟩ := HB2.out.read3
        obtain ⟨f0, f1, f2⟩ := HB2.out.free3
        have r3 := HB2.out.lt
        go_wp2_with fail
        go_region
        all_goals (go_wp2_with fail)
        refine ret3_cell (k := w.heap.size) (x := .int .i64 g2) (y := .int .i64 z2) (z := .int .i64 s2) (v := .tuple #[.int .i64 1, .agg #[.int .i64 g2, .int .i64 z2, .int .i64 s2], .int .i64 0]) ?hb (fun r0 r1 r2 => by simp [results, Try.results14, go_sem, r0, r1, r2]) rfl ⟨rfl, ?hx⟩
        case hb => first | exact (HB2.out.set3 (.int .i64 g2) (.int .i64 z2) (.int .i64 s2)).ext ((Ext.refl _).alloc _) | exact (HB2.out.set3 (.int .i64 g2) (.int .i64 z2) (.int .i64 s2)).ext ((Ext.refl _).alloc _).drew
        case hx => first | exact (HX2.out.store3 (by omega) (.int .i64 g2) (.int .i64 z2) (.int .i64 s2)).alloc _ | exact ((HX2.out.store3 (by omega) (.int .i64 g2) (.int .i64 z2) (.int .i64 s2)).alloc _).drew
      · simp only [if_neg hg]
        go_enter Try.func14, Try.ntmps14
        go_wp2_with (go_at_call 12; refine stop_here ?_)
        refine stop_on ?_
        refine (HA.out _).mono ?_
        rintro e w1 ⟨rfl, hx⟩
        have HB1 := Lib.hid ((Bx.new w #[.int .i64 0, .int .i64 0, .int .i64 0] 23).ext hx)
        have HX1 := Lib.hid (((Ext.refl w).alloc _).trans hx)
        clear hx
        go_wp2_with (go_at_call 12; refine stop_here ?_)
        refine stop_on ?_
        refine (HB.out _).mono ?_
        rintro e w2 ⟨rfl, hx⟩
        have HC2 := Lib.hid ((Bx.new w1 #[.int .i64 g1, .int .i64 z1, .int .i64 s1] 23).ext hx)
        have HB2 := Lib.hid (HB1.out.ext (((Ext.refl w1).alloc _).trans hx))
        have HX2 := Lib.hid (HX1.out.trans (((Ext.refl w1).alloc _).trans hx))
        clear hx HB1 HX1
        obtain ⟨c0, c1, c2⟩ := HC2.out.read3
        have c3 := HC2.out.lt
        obtain ⟨r0, r1, r2⟩ := HB2.out.read3
        obtain ⟨f0, f1, f2⟩ := HB2.out.free3
        have r3 := HB2.out.lt
        go_wp2_with fail
        go_region
        all_goals (go_wp2_with fail)
        refine ret3_cell (k := w.heap.size) (x := .int .i64 g1) (y := .int .i64 z1) (z := .int .i64 s1) (v := .tuple #[.int .i64 0, .agg #[.int .i64 g1, .int .i64 z1, .int .i64 s1], .int .i64 0]) ?hb (fun r0 r1 r2 => by simp [results, Try.results14, go_sem, r0, r1, r2]) rfl ⟨rfl, ?hx⟩
        case hb => first | exact (HB2.out.set3 (.int .i64 g1) (.int .i64 z1) (.int .i64 s1)).ext ((Ext.refl _).alloc _) | exact (HB2.out.set3 (.int .i64 g1) (.int .i64 z1) (.int .i64 s1)).ext ((Ext.refl _).alloc _).drew
        case hx => first | exact (HX2.out.store3 (by omega) (.int .i64 g1) (.int .i64 z1) (.int .i64 s1)).alloc _ | exact ((HX2.out.store3 (by omega) (.int .i64 g1) (.int .i64 z1) (.int .i64 s1)).alloc _).drew
end Go.Proofs.Ythaebcljehmhmaa
