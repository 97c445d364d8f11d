/- The walk of HeapHolds. -/
import Derived.Test.YtclpeeemnmhdcaaHeapQ
import Derived.Test.YtclpeeemnmhdcaaHeapN
import Derived.Deep.AppendLies
import Derived.Deep.RegionHeld3
import Derived.Deep.DeepCutAuto
import Derived.Deep.DrawnRows
import Derived.RegionTactic
namespace Go.Proofs.Ytclpeeemnmhdcaa
open Go.RowKit
attribute [local go_sem ↓] Go.wp_at_zero Go.wp_at_succ
attribute [local go_sem] beq_self_eq_true bne_self_eq_false

set_option maxRecDepth 100000 in
set_option maxHeartbeats 4000000 in
theorem holds_any (R : Option Addr) (l : List HC) (n q : Nat) (keep p x : Int) (w : World) (hx0 : 0 ≤ x) (hx1 : x < 256) (hA : HcSl w R n q l) :
    Calls Try.prog 7 #[.agg #[.slice R n q, .int .i64 keep], .int .i64 p, .int .u8 x] w fun e w' => e = .returned (.bool true) ∧ Ext w w' := by
  have hx := (Ext.refl w).alloc (.cells #[.slice R n q, .int .i64 keep] 24)
  have HX := Lib.hid hx
  have HB := Lib.hid (Bx.new w #[.slice R n q, .int .i64 keep] 24)
  have HA := Lib.hid hA
  have hn := hA.1
  clear hx hA
  cases hr : mayH ⟨l, keep⟩ 60
  · have Hr := Lib.hid hr
    clear hr hn
    go_enter Try.func7, Try.ntmps7
    go_wp2_with (first
      | (go_at_call 9; refine (shown_any _).mono ?_; rintro e w1 ⟨rfl, hx⟩; have X1 := Lib.hid (HX.out.trans hx); obtain ⟨b0, b1, b2⟩ := (HB.out.ext hx).read2; clear hx)
      | (go_at_call 21; refine (ref05May_is R l n q keep 60 _ (HA.out.ext X1.out) Hr.out).mono ?_; rintro e w2 ⟨rfl, hx⟩; have X2 := Lib.hid (X1.out.trans hx); clear hx))
    go_ret
    exact ⟨rfl, X2.out⟩
  have Hr := Lib.hid hr
  obtain ⟨hl60, hcs, hri⟩ := may_iff hr
  have hbd := may_bd hr
  obtain ⟨u, hu⟩ : ∃ u, usedC l p = u := ⟨_, rfl⟩
  have HU := Lib.hid (fun w' (hx : Ext w w') => ref05Used_any R l n q keep p w' (HA.out.ext hx))
  rw [hu] at HU
  cases u
  · clear hr hn hl60 hcs hri hbd hu
    go_enter Try.func7, Try.ntmps7
    go_wp2_with (first
      | (go_at_call 9; refine (shown_any _).mono ?_; rintro e w1 ⟨rfl, hx⟩; have X1 := Lib.hid (HX.out.trans hx); have B1 := Lib.hid (HB.out.ext hx); obtain ⟨b0, b1, b2⟩ := B1.out.read2; clear hx)
      | (go_at_call 21; refine (ref05May_is R l n q keep 60 _ (HA.out.ext X1.out) Hr.out).mono ?_; rintro e w2 ⟨rfl, hx⟩; have X2 := Lib.hid (X1.out.trans hx); clear b0 b1 b2; obtain ⟨b0, b1, b2⟩ := (B1.out.ext hx).read2; clear hx)
      | (go_at_call 30; refine (HU.out _ X2.out).mono ?_; rintro e w3 ⟨rfl, hx⟩; have X3 := Lib.hid (X2.out.trans hx); clear hx))
    go_ret
    exact ⟨rfl, X3.out⟩
  obtain ⟨k, hk, rfl, hpos⟩ := usedC_iff hu
  have hk6 := (hcs k hk).2
  have hcr := (rightH_iff hri).2 k hk
  obtain ⟨r, hrx⟩ : ∃ r : Nat, x % 20 = (r : Int) := Int.eq_ofNat_of_zero_le (Int.emod_nonneg _ (by omega))
  have hr20 : r < 20 := by have := Int.emod_lt_of_pos x (show (0 : Int) < 20 by omega); omega
  have HRX := Lib.hid hrx
  have m0 : 0 ≤ x % 20 := by omega
  have m1 : x % 20 ≤ 19 := by omega
  have hn60 : n ≤ 60 := by omega
  have hki : (k : Int) < (n : Int) := by omega
  have HHO := Lib.hid (fun (j : Nat) (S : Option Addr) (d : Nat) w' (hj : j < 20) (hS : HcSl w' S n d (plusC l k j)) => (show Calls Try.prog 24 #[.agg #[.slice S n d, .int .i64 keep], .int .i64 k] w' fun e w2 => ∃ S d, e = .returned (.tuple #[.agg #[.slice S n d, .int .i64 keep], .int .i64 0]) ∧ HcSl w2 S n d (plusC l k (j + 1)) ∧ Ext w' w2 from by
    have h := heapHold_any S (plusC l k j) n d keep w' k (plusC_right hri hk hpos (by omega)) (plusC_bd hbd hk (by omega)) hS
    rw [(plusC_hold hk hpos).1, (plusC_hold hk hpos).2] at h
    exact h))
  have HLO := Lib.hid (fun (j : Nat) (S : Option Addr) (d : Nat) w' (hj : j < 20) (hS : HcSl w' S n d (plusC l k (j + 1))) => (show Calls Try.prog 26 #[.agg #[.slice S n d, .int .i64 keep], .int .i64 k] w' fun e w2 => ∃ S d, e = .returned (.tuple #[.agg #[.slice S n d, .int .i64 keep], .int .i64 0]) ∧ HcSl w2 S n d (plusC l k j) ∧ Ext w' w2 from by
    have h := heapLoose_is S (plusC l k (j + 1)) n d keep k w' (plusC_right hri hk hpos (by omega)) (plusC_bd hbd hk (by omega)) hS
    rw [plusC_loose hk hcr hpos] at h
    have e : looseE ⟨plusC l k (j + 1), keep⟩ (k : Int) = 0 := by unfold looseE usedH; simp only [plusC_used hk hpos]; rfl
    rw [e] at h
    exact h))
  have HRI := Lib.hid (fun (S : Option Addr) (d : Nat) w' (hS : HcSl w' S n d (plusC l k r)) => ref05Right_is S (plusC l k r) n d keep w' hS (plusC_right hri hk hpos (by omega)))
  have HZ := Lib.hid (plusC_zero hk)
  have HAT := Lib.hid (fun j => plusC_at (j := j) hk)
  have HLEN := Lib.hid (fun j => plusC_len l k j)
  have HK := Lib.hid hk
  have hpos' := hpos
  clear hr hn hl60 hcs hri hbd hu hcr hrx
  go_enter Try.func7, Try.ntmps7
  go_wp2_with (first
    | (go_at_call 9; refine (shown_any _).mono ?_; rintro e w1 ⟨rfl, hx⟩; have X1 := Lib.hid (HX.out.trans hx); have B1 := Lib.hid (HB.out.ext hx); obtain ⟨b0, b1, b2⟩ := B1.out.read2; clear hx)
    | (go_at_call 21; refine (ref05May_is R l n q keep 60 _ (HA.out.ext X1.out) Hr.out).mono ?_; rintro e w2 ⟨rfl, hx⟩; have X2 := Lib.hid (X1.out.trans hx); have B2 := Lib.hid (B1.out.ext hx); clear b0 b1 b2; obtain ⟨b0, b1, b2⟩ := B2.out.read2; clear hx)
    | (go_at_call 30; refine stop_here ?_))
  refine stop_on ?_
  refine (HU.out _ X2.out).mono ?_
  rintro e w3 ⟨rfl, hx⟩
  have X3 := Lib.hid (X2.out.trans hx)
  have B3 := Lib.hid (B2.out.ext hx)
  clear b0 b1 b2
  obtain ⟨b0, b1, b2⟩ := B3.out.read2
  clear hx
  go_wp2_with fail
  have hx4 : Ext w3 (w3.alloc (.cells #[.slice R n q, .int .i64 keep] 24)) := (Ext.refl w3).alloc _
  have X4 := Lib.hid (X3.out.trans hx4)
  have B4 := Lib.hid (B3.out.ext hx4)
  have G4 := Lib.hid (Bx.new w3 #[.slice R n q, .int .i64 keep] 24)
  have hz : w.heap.size < w3.heap.size := b2
  clear hx4 b0 b1 b2 B1 B2 B3 X1 X2 X3 HB HX
  generalize World.alloc w3 _ = w4 at *
  generalize w3.heap.size = z at *
  go_loopw [9] (fun i wr => ∃ j : Nat, j ≤ r ∧ i = .int .i64 j ∧ ∃ S d, HcSl wr S n d (plusC l k j) ∧ Ext w wr ∧ Bx wr w.heap.size #[.slice R n q, .int .i64 keep] ∧ Bx wr z #[.slice S n d, .int .i64 keep]) (fun i _ => r - (intOf i).toNat)
  case atStart => exact ⟨0, Nat.zero_le _, rfl, R, q, by rw [HZ.out]; exact HA.out.ext X4.out, X4.out, B4.out, G4.out⟩
  case round =>
    obtain ⟨j, hj, rfl, S1, d1, hs, hx, hb0, hb1⟩ := hrel
    have HS := Lib.hid hs
    have HXR := Lib.hid hx
    have HB0 := Lib.hid hb0
    have HB1 := Lib.hid hb1
    obtain ⟨s0, s1, s2⟩ := hb1.read2
    rcases Nat.lt_or_ge j r with hlt | hlt
    · have d0 : decide ((j : Int) < x % 20) = true := decide_eq_true (by have := HRX.out; omega)
      have d0' : (j : Int) < x % 20 := by have := HRX.out; omega
      clear hs hx hb0 hb1
      go_wp2_with (go_at_call 24; refine stop_here ?_)
      refine stop_on ?_
      refine (HHO.out j S1 d1 _ (by omega) HS.out).mono ?_
      rintro e w5 ⟨S5, d5, rfl, hs5, hx5⟩
      have HX5 := Lib.hid (HXR.out.trans hx5)
      have HS5 := Lib.hid hs5
      have HC0 := Lib.hid (HB0.out.ext hx5)
      have hc5 := HB1.out.ext hx5
      have HC1 := Lib.hid hc5
      obtain ⟨s0', s1', s2'⟩ := hc5.read2
      obtain ⟨y0, y1⟩ := hc5.free2
      clear hs5 hx5 hc5 s0 s1 s2
      go_wp2_with fail
      go_roundw
      case rel => exact ⟨j + 1, by omega, by go_num, S5, d5, (HS5.out.boxed2 HC1.out _ _).ext ((Ext.refl _).alloc _), (HX5.out.store2 (k := z) (by omega) _ _).alloc _, ((HC0.out.set_other (p := ⟨z, 0, none⟩) (by simp; omega) _).set_other (p := ⟨z, 1, none⟩) (by simp; omega) _).ext ((Ext.refl _).alloc _), (HC1.out.set2 _ _).ext ((Ext.refl _).alloc _)⟩
      case measure => simp [intOf]; omega
    · obtain rfl : r = j := by omega
      have d0 : decide ((r : Int) < x % 20) = false := decide_eq_false (by have := HRX.out; omega)
      have d0' : ¬ (r : Int) < x % 20 := by have := HRX.out; omega
      obtain ⟨t0, t1, t2⟩ := hb0.read2
      obtain ⟨bg, og, rfl, hbg, Ag, cg, g0, g1, g2, g3, _⟩ := hs.cell (k := k) (by rw [HLEN.out]; exact HK.out)
      rw [HAT.out] at g0
      simp only at g0
      obtain ⟨bh, oh, rfl, hbh, Ah, ch, f0, f1, f2, f3, _⟩ := (HA.out.ext hx).cell HK.out
      have g0' : wr.cell? ⟨bg, og + k * 4, none⟩ = some (.int .i64 (l[k].ref + x % 20)) := by rw [HRX.out]; exact g0
      clear hs hx hb0 hb1 hlt g0 g1 g2 g3 f1 f2 f3
      have hwr : IntKind.i64.wrap (l[k].ref + x % 20) = l[k].ref + x % 20 := by rw [IntKind.wrap_i64]; omega
      have htm : x.tmod 20 = x % 20 := Int.tmod_eq_emod_of_nonneg hx0
      have hwt : IntKind.i64.wrap (x % 20) = x % 20 := by rw [IntKind.wrap_i64]; omega
      generalize l[k].ref = rf at *
      have HCL := Lib.hid (fun w' (hx : Ext wr w') => HRI.out (some ⟨bg, og, none⟩) d1 w' (HS.out.ext hx))
      have hni : ((n : Int) != (n : Int)) = false := by simp
      have hnr : ((rf + x % 20) != (rf + x % 20)) = false := by simp
      have HKP := Lib.hid (fun w' (hx : Ext wr w') => (show w'.cell? ⟨z, 0, none⟩ = some (.slice (some ⟨bg, og, none⟩) n d1) ∧ w'.cell? ⟨z, 1, none⟩ = some (.int .i64 keep) ∧ w'.cell? ⟨w.heap.size, 0, none⟩ = some (.slice (some ⟨bh, oh, none⟩) n q) ∧ w'.cell? ⟨bg, og + k * 4, none⟩ = some (.int .i64 (rf + x % 20)) ∧ w'.cell? ⟨bh, oh + k * 4, none⟩ = some (.int .i64 rf) from ⟨(HB1.out.ext hx).at 0 _ rfl, (HB1.out.ext hx).at 1 _ rfl, (HB0.out.ext hx).at 0 _ rfl, (hx.cell (p := ⟨bg, og + k * 4, none⟩) hbg).trans g0', (hx.cell (p := ⟨bh, oh + k * 4, none⟩) hbh).trans f0⟩))
      go_wp2_with fail
      go_cut [73] from 43 to 73 (fun v wx => v = .bool false ∧ Ext wr wx)
      case first =>
        first
        | go_region_held3 (fun w' => w'.cell? ⟨z, 0, none⟩ = some (.slice (some ⟨bg, og, none⟩) n d1) ∧ w'.cell? ⟨z, 1, none⟩ = some (.int .i64 keep) ∧ w'.cell? ⟨w.heap.size, 0, none⟩ = some (.slice (some ⟨bh, oh, none⟩) n q) ∧ w'.cell? ⟨bg, og + k * 4, none⟩ = some (.int .i64 (rf + x % 20)) ∧ w'.cell? ⟨bh, oh + k * 4, none⟩ = some (.int .i64 rf))
            (first | exact HKP.out _ HX1.out | exact HKP.out _ (Ext.refl wr).drew | exact HKP.out _ (Ext.refl wr))
            (first
            | ((go_at_call 13
                refine (HCL.out _ ?_).mono ?_
                (first | exact (Ext.refl _).drew | exact Ext.refl _)
                rintro e w1 ⟨rfl, hx⟩
                have HX1 := Lib.hid (show Ext wr w1 from by first | exact (Ext.refl _).drew.trans hx | exact hx)
                clear hx)))
        | fail
        all_goals
          go_wp2_with fail
          go_meet
          exact ⟨rfl, HX1.out⟩
      case rest =>
        obtain ⟨rfl, hx⟩ := hcut
        have HX7 := Lib.hid (HXR.out.trans hx)
        have HS7 := Lib.hid (HS.out.ext hx)
        have HD0 := Lib.hid (HB0.out.ext hx)
        have HD1 := Lib.hid (HB1.out.ext hx)
        clear hx t0 t1 t2 s0 s1 s2 f0 g0'
        go_wp2_with fail
        go_loopw [12] (fun i wr => ∃ j : Nat, j ≤ r ∧ i = .int .i64 j ∧ ∃ S d, HcSl wr S n d (plusC l k (r - j)) ∧ Ext w wr ∧ Bx wr w.heap.size #[.slice (some ⟨bh, oh, none⟩) n q, .int .i64 keep] ∧ Bx wr z #[.slice S n d, .int .i64 keep]) (fun i _ => r - (intOf i).toNat)
        case atStart => exact ⟨0, Nat.zero_le _, rfl, _, d1, HS7.out, HX7.out, HD0.out, HD1.out⟩
        case round =>
          obtain ⟨j, hj, rfl, S2, d2, hs, hx, hb0, hb1⟩ := hrel
          have HS2 := Lib.hid hs
          have HXQ := Lib.hid hx
          have HE0 := Lib.hid hb0
          have HE1 := Lib.hid hb1
          obtain ⟨s0, s1, s2⟩ := hb1.read2
          rcases Nat.lt_or_ge j r with hlt | hlt
          · have d1 : decide ((j : Int) < x % 20) = true := decide_eq_true (by have := HRX.out; omega)
            have d1' : (j : Int) < x % 20 := by have := HRX.out; omega
            have ej : r - j = r - (j + 1) + 1 := by omega
            rw [ej] at HS2
            clear hs hx hb0 hb1 ej d0 d0'
            go_wp2_with (go_at_call 26; refine stop_here ?_)
            refine stop_on ?_
            refine (HLO.out (r - (j + 1)) S2 d2 _ (by omega) HS2.out).mono ?_
            rintro e w5 ⟨S5, d5, rfl, hs5, hx5⟩
            have HX5 := Lib.hid (HXQ.out.trans hx5)
            have HS5 := Lib.hid hs5
            have HC0 := Lib.hid (HE0.out.ext hx5)
            have hc5 := HE1.out.ext hx5
            have HC1 := Lib.hid hc5
            obtain ⟨s0', s1', s2'⟩ := hc5.read2
            obtain ⟨y0, y1⟩ := hc5.free2
            clear hs5 hx5 hc5 s0 s1 s2
            go_wp2_with fail
            go_roundw
            case rel => exact ⟨j + 1, by omega, by go_num, S5, d5, (HS5.out.boxed2 HC1.out _ _).ext ((Ext.refl _).alloc _), (HX5.out.store2 (k := z) (by omega) _ _).alloc _, ((HC0.out.set_other (p := ⟨z, 0, none⟩) (by simp; omega) _).set_other (p := ⟨z, 1, none⟩) (by simp; omega) _).ext ((Ext.refl _).alloc _), (HC1.out.set2 _ _).ext ((Ext.refl _).alloc _)⟩
            case measure => simp [intOf]; omega
          · obtain rfl : r = j := by omega
            rw [Nat.sub_self, HZ.out] at HS2
            have HSM := Lib.hid (fun w' (hx : Ext _ w') => ref05Same_eq S2 (some ⟨bh, oh, none⟩) l n d2 q keep w' (HS2.out.ext hx) ((HA.out.ext HXQ.out).ext hx))
            obtain ⟨t0, t1, t2⟩ := hb0.read2
            clear hs hx hb0 hb1 hlt
            go_wp2_with (go_at_call 14; refine (HSM.out _ (Ext.refl _)).mono ?_; rintro e w9 ⟨rfl, hx⟩; have HX9 := Lib.hid (HXQ.out.trans hx); clear hx)
            go_ret
            exact ⟨rfl, HX9.out⟩
end Go.Proofs.Ytclpeeemnmhdcaa
