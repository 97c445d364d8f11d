/- Walk of the reference's Print. -/
import Derived.Test.YthaebcljehmhmaaSlotW3
namespace Go.Proofs.Ythaebcljehmhmaa
open Go.RowKit

set_option maxRecDepth 100000 in
set_option maxHeartbeats 2000000 in
theorem ref03Print_any (g z s : Int) (w : World) :
    Calls Try.prog 10 #[.agg #[.int .i64 g, .int .i64 z, .int .i64 s]] w fun e w' => e = .returned (.tuple #[.string (supB ⟨g, z, s⟩), .int .i64 (supE ⟨g, z, s⟩)]) ∧ Ext w w' := by
  unfold supB supE
  cases hs : supR ⟨g, z, s⟩
  · have HS := Lib.hid hs
    go_enter Try.func10, Try.ntmps10
    go_wp2_with (go_at_call 18; refine (ref03Right_any _ _ _ _).mono ?_; rintro e w1 ⟨rfl, hx⟩; simp only [HS.out]; have HX := Lib.hid (((Ext.refl w).alloc _).trans hx); clear hx)
    go_ret2
    exact ⟨rfl, HX.out⟩
  · obtain ⟨⟨g1, g2⟩, ⟨z1, z2⟩, s1, s2⟩ := (supR_iff _).1 hs
    simp only at g1 g2 z1 z2 s1 s2
    have HS := Lib.hid hs
    clear hs
    have HP0 := Lib.hid (fun w' => ref01Put_n g w' (by omega) (by omega))
    have HP1 := Lib.hid (fun w' => ref01Put_n z w' (by omega) (by omega))
    have HP2 := Lib.hid (fun w' => ref01Put_n s w' (by omega) (by omega))
    go_enter Try.func10, Try.ntmps10
    go_wp2_with (first
      | (go_at_call 18; refine (ref03Right_any _ _ _ _).mono ?_; rintro e w1 ⟨rfl, hx⟩; simp only [HS.out]; have HX := Lib.hid (((Ext.refl w).alloc _).trans hx); have HB := Lib.hid ((Bx.new w #[.int .i64 g, .int .i64 z, .int .i64 s] 23).ext hx); obtain ⟨r0, r1, r2⟩ := HB.out.read3; have r3 := HB.out.lt; clear hx)
      | (at_builtin; refine stop_here ?_)
      | (go_at_call 22; refine (HP0.out _).mono ?_; rintro e w3 ⟨A', cap', rfl, hS, hx⟩; have HS3 := Lib.hid hS; have HX3 := Lib.hid hx; clear hS hx))
    refine stop_on ?_
    have HO := Lib.hid (show (w1.alloc (.cells #[.int .u8 97, .int .u8 115] 5)).ownsRow w.heap.size 5 1 (.slice (some ⟨w1.heap.size, 0, none⟩) 2 2) 2 (([97, 115] : List UInt8).map bv) from World.ownsRow_lit (base := w.heap.size) (e := 5) (size := 1) w1 #[.int .u8 97, .int .u8 115] 2 HX.out.size (by unfold maxLen; omega) rfl)
    have HB := Lib.hid (HB.out.ext ((Ext.refl w1).alloc (.cells #[.int .u8 97, .int .u8 115] 5)))
    have HX := Lib.hid (HX.out.alloc (.cells #[.int .u8 97, .int .u8 115] 5))
    refine app_bytes _ rfl _ _ rfl w.heap.size _ 2 (([97, 115] : List UInt8)) rfl (own_below HO.out HX3.out) A' 4 cap' (putL g.toNat 4) rfl (putL_length 4 _) HS3.out.1 HS3.out.cells (by omega) (by have := HX.out.size; have := HX3.out.size; omega) ?_
    intro A4 c4 w4 hown hg4
    have HB := Lib.hid ((HB.out.ext HX3.out).grown hg4 (own_ne (u := 97) (own_below HO.out HX3.out) (HB.out.ext HX3.out) rfl))
    have HX := Lib.hid (show Ext w w4 from Below.grown (HX.out.trans HX3.out) hg4 (by have := HX.out.size; have := HX3.out.size; omega) (fun q hq => ((own_below HO.out HX3.out).lt q hq).1))
    have HO := Lib.hid (show w4.ownsRow w.heap.size 5 1 (.slice A4 6 c4) 6 ((supP ⟨g, z, s⟩ 1).map bv) from hown)
    obtain ⟨r0, r1, r2⟩ := HB.out.read3
    have r3 := HB.out.lt
    clear hown hg4 HS3 HX3
    go_wp2_with (first
      | (at_builtin; refine stop_here ?_)
      | (go_at_call 22; refine (HP1.out _).mono ?_; rintro e w3 ⟨A', cap', rfl, hS, hx⟩; have HS3 := Lib.hid hS; have HX3 := Lib.hid hx; clear hS hx))
    refine stop_on ?_
    refine app_bytes _ rfl _ _ rfl w.heap.size _ 6 (supP ⟨g, z, s⟩ 1) rfl (own_below HO.out HX3.out) A' 4 cap' (putL z.toNat 4) rfl (putL_length 4 _) HS3.out.1 HS3.out.cells (by omega) (by have := HX.out.size; have := HX3.out.size; omega) ?_
    intro A4 c4 w4 hown hg4
    have HB := Lib.hid ((HB.out.ext HX3.out).grown hg4 (own_ne (u := 97) (own_below HO.out HX3.out) (HB.out.ext HX3.out) rfl))
    have HX := Lib.hid (show Ext w w4 from Below.grown (HX.out.trans HX3.out) hg4 (by have := HX.out.size; have := HX3.out.size; omega) (fun q hq => ((own_below HO.out HX3.out).lt q hq).1))
    have HO := Lib.hid (show w4.ownsRow w.heap.size 5 1 (.slice A4 10 c4) 10 ((supP ⟨g, z, s⟩ 2).map bv) from hown)
    obtain ⟨r0, r1, r2⟩ := HB.out.read3
    have r3 := HB.out.lt
    clear hown hg4 HS3 HX3
    go_wp2_with (first
      | (at_builtin; refine stop_here ?_)
      | (go_at_call 22; refine (HP2.out _).mono ?_; rintro e w3 ⟨A', cap', rfl, hS, hx⟩; have HS3 := Lib.hid hS; have HX3 := Lib.hid hx; clear hS hx))
    refine stop_on ?_
    refine app_bytes _ rfl _ _ rfl w.heap.size _ 10 (supP ⟨g, z, s⟩ 2) rfl (own_below HO.out HX3.out) A' 4 cap' (putL s.toNat 4) rfl (putL_length 4 _) HS3.out.1 HS3.out.cells (by omega) (by have := HX.out.size; have := HX3.out.size; omega) ?_
    intro A4 c4 w4 hown hg4
    have HB := Lib.hid ((HB.out.ext HX3.out).grown hg4 (own_ne (u := 97) (own_below HO.out HX3.out) (HB.out.ext HX3.out) rfl))
    have HX := Lib.hid (show Ext w w4 from Below.grown (HX.out.trans HX3.out) hg4 (by have := HX.out.size; have := HX3.out.size; omega) (fun q hq => ((own_below HO.out HX3.out).lt q hq).1))
    have HO := Lib.hid (show w4.ownsRow w.heap.size 5 1 (.slice A4 14 c4) 14 ((supP ⟨g, z, s⟩ 3).map bv) from hown)
    obtain ⟨r0, r1, r2⟩ := HB.out.read3
    have r3 := HB.out.lt
    clear hown hg4 HS3 HX3
    have HSL := Lib.hid (own_sl HO.out)
    have HV := Lib.hid (ref01Seal_n A4 (supL ⟨g, z, s⟩) 14 c4 w4 (by rw [supL_length]) (by omega) HSL.out)
    go_wp2_with (go_at_call 23; refine HV.out.mono ?_; rintro e w5 ⟨rfl, hx⟩; have HX4 := Lib.hid (HX.out.trans hx); clear hx)
    go_ret2
    exact ⟨rfl, HX4.out⟩
end Go.Proofs.Ythaebcljehmhmaa
