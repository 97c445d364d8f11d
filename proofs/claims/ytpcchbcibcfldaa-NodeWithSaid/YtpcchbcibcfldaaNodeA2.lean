/- Walk of Print of package node. -/
import Derived.Test.YtpcchbcibcfldaaNodeA1
import Derived.Test.YtpcchbcibcfldaaNodeW3
import Derived.Deep.AppendLies
import Derived.Deep.RegionHeld3
import Derived.Deep.DeepCutAuto
import Derived.Deep.DrawnRows
import Derived.RegionTactic
import Derived.StillTailTactics
namespace Go.Proofs.Ytpcchbcibcfldaa
open Go.RowKit
attribute [local go_sem ↓] Go.wp_at_zero Go.wp_at_succ

set_option maxRecDepth 100000 in
set_option maxHeartbeats 800000 in
theorem nodePrint_any (leaf : Bool) (A : Option Addr) (l : List It) (n c : Nat) (w : World) (hn : n = l.length) (hA : Sl w A n c (ivs l)) :
    Calls Try.prog 11 #[.agg #[.bool leaf, .slice A n c]] w fun e w' => e = .returned (.tuple #[.string (ndB leaf l), .int .i64 (ndE l)]) ∧ Ext w w' := by
  have X0 := Lib.hid ((Ext.refl w).alloc (.cells #[.bool leaf, .slice A n c] 24))
  have B0 := Lib.hid (Bx.new w #[.bool leaf, .slice A n c] 24)
  have HR := Lib.hid (fun w' (hx : Ext w w') => nodeRight_any leaf A l n c w' hn (hA.ext hx))
  obtain ⟨p0, p1, p2⟩ := B0.out.read2
  unfold ndB ndE
  cases hs : ndR l
  · rw [hs] at HR
    clear hs hA hn
    go_enter Try.func11, Try.ntmps11
    go_wp2_with (go_at_call 18; refine (HR.out _ X0.out).mono ?_; rintro e w1 ⟨rfl, hx⟩; have HX := Lib.hid (X0.out.trans hx); clear hx)
    go_ret2
    exact ⟨rfl, HX.out⟩
  · have hN := (ndR_iff l).1 hs
    rw [hs] at HR
    have h4 : n ≤ 4 := by have := hN.1; omega
    have h1 : 1 ≤ n := by have := hN.1; omega
    have HOK := Lib.hid hN.2
    have HA := Lib.hid hA
    have HN := Lib.hid hn
    have hcv : IntKind.u8.wrap (n : Int) = (n : Int) := by rw [IntKind.wrap_u8]; omega
    have HMK := Lib.hid (fun w' => nodeMark_any leaf (.slice A n c) w')
    have HV0 := Lib.hid (ndH_val leaf n h4)
    obtain ⟨mk, hmk⟩ : ∃ mk : Int, (if leaf then 1 else 2 : Int) = mk := ⟨_, rfl⟩
    rw [hmk] at HMK HV0
    clear hs hA hN hn hmk
    go_enter Try.func11, Try.ntmps11
    go_wp2_with (go_at_call 18; refine (HR.out _ X0.out).mono ?_; rintro e w1 ⟨rfl, hx⟩; have HX1 := Lib.hid (X0.out.trans hx); have HB1 := Lib.hid (B0.out.ext hx); clear p0 p1 p2; obtain ⟨b0, b1, b2⟩ := HB1.out.read2; clear hx)
    go_cut [4] from 10 to 17 (fun v wx => ∃ A' c', v = .slice A' 2 c' ∧ wx.ownsRow (w.heap.size + 1) 5 1 (.slice A' 2 c') 2 ((ndH leaf n ++ itsB (l.take 0)).map bv) ∧ Ext w wx ∧ Bx wx w.heap.size #[.bool leaf, .slice A n c])
    case first =>
      go_region_law
        (first
          | ((go_simp
              go_at_call 27
              refine (HMK.out _).mono ?_
              rintro e w2 ⟨rfl, hx⟩
              have HX2 := Lib.hid (HX1.out.trans ((show Ext w1 w2 from by (first | exact (Ext.refl w1).drew.trans hx | exact hx))))
              have HB2 := Lib.hid (HB1.out.ext ((show Ext w1 w2 from by (first | exact (Ext.refl w1).drew.trans hx | exact hx))))
              obtain ⟨c0, c1, c2⟩ := HB2.out.read2
              clear hx)))
      all_goals
        go_wp2_with fail
        go_meet
        refine ⟨_, _, rfl, ?_, HX2.out.alloc _, HB2.out.ext ((Ext.refl _).alloc _)⟩
        rw [List.map_append, HV0.out]
        exact World.ownsRow_lit (base := w.heap.size + 1) (e := 5) (size := 1) w2 #[.int .u8 mk, .int .u8 (n : Int)] 2 (by omega) (by unfold maxLen; omega) rfl
    case rest =>
      obtain ⟨A0, c0, rfl, ho0, hx0, hb0⟩ := hcut
      have HO := Lib.hid ho0
      have HXL := Lib.hid hx0
      have HBL := Lib.hid hb0
      clear ho0 hx0 b0 b1 b2
      obtain ⟨b0, b1, b2⟩ := hb0.read2
      clear hb0 HX1 HB1
      go_wp2_with fail
      clear b0 b1 b2
      go_loopw [4, 20] (fun v i wr => ∃ k : Nat, k ≤ n ∧ i = .int .i64 k ∧ ∃ A' c', v = .slice A' (2 + 8 * k) c' ∧ wr.ownsRow (w.heap.size + 1) 5 1 (.slice A' (2 + 8 * k) c') (2 + 8 * k) ((ndH leaf n ++ itsB (l.take k)).map bv) ∧ Ext w wr ∧ Bx wr w.heap.size #[.bool leaf, .slice A n c]) (fun _ i _ => n - (intOf i).toNat)
      case atStart => exact ⟨0, by omega, rfl, _, _, rfl, HO.out, HXL.out, HBL.out⟩
      case round =>
        obtain ⟨k, hk, rfl, A1, c1, rfl, ho, hx, hb⟩ := hrel
        have HO1 := Lib.hid ho
        have HX1 := Lib.hid hx
        have HB1 := Lib.hid hb
        obtain ⟨b0, b1, b2⟩ := hb.read2
        by_cases hlt : k < n
        · have hkl : k < l.length := by rw [← HN.out]; exact hlt
          obtain ⟨ba, off, rfl, hba, hc⟩ := (HA.out.cells).it hkl
          have HC := Lib.hid hc
          have hcr := (((HA.out.cells).ext hx).it hkl)
          obtain ⟨ba', off', e', _, hc'⟩ := hcr
          cases e'
          obtain ⟨hck, hcv'⟩ := hc' k hkl
          have hki : (k : Int) < (n : Int) := by omega
          have HT := Lib.hid (itsB_take l k hkl)
          obtain ⟨⟨k1, k2⟩, v1, v2⟩ := (HOK.out k hkl).1
          have HV := Lib.hid (fun w' (hx : Ext w w') => show w'.cell? ⟨ba, off + k * 2 + 1, none⟩ = some (.int .i64 l[k].2) from by
            obtain ⟨b2, o2, e2, _, h2⟩ := ((HA.out.cells).ext hx).it hkl
            cases e2; exact (h2 k hkl).2)
          clear ho hx hb hc hc'
          generalize l[k] = q at *
          obtain ⟨K, V⟩ := q
          simp only at hck hcv' k1 k2 v1 v2
          have HP0 := Lib.hid (fun w' => numPut_n K w' (by omega) (by omega))
          have HP1 := Lib.hid (fun w' => numPut_n V w' (by omega) (by omega))
          go_wp2_with (first | (at_builtin; refine stop_here ?_) | (go_at_call 28; refine (HP0.out _).mono ?_; rintro e w3 ⟨A', cap', rfl, hS, hx⟩; have HS3 := Lib.hid hS; have HX3 := Lib.hid (((Ext.refl wr).alloc (.cells #[.int .i64 K, .int .i64 V] 50)).trans hx); have XB3 := Lib.hid ((Bx.new wr #[.int .i64 K, .int .i64 V] 50).ext hx); clear hS hx))
          refine stop_on ?_
          refine app_bytes _ rfl _ _ rfl (w.heap.size + 1) _ (2 + 8 * k) (ndH leaf n ++ itsB (l.take k)) rfl (own_below HO1.out HX3.out) A' 4 cap' (putL K.toNat 4) rfl (putL_length 4 _) HS3.out.1 HS3.out.cells (by omega) (by have := HX3.out.size; omega) ?_
          intro A4 c4 w4 hown hg4
          have HX4 := Lib.hid (show Ext w w4 from Below.grown (HX1.out.trans HX3.out) hg4 (by have := HX1.out.size; have := HX3.out.size; omega) (fun q hq => by have := ((own_below HO1.out HX3.out).lt q hq).1; omega))
          have HB4 := Lib.hid ((HB1.out.ext HX3.out).grown hg4 (own_old (own_below HO1.out HX3.out) (by omega)))
          have HO4 := Lib.hid hown
          have XB4 := Lib.hid (XB3.out.grown hg4 (fun e => by have := (HO1.out.lt _ e).2; omega))
          obtain ⟨x0, x1, x2⟩ := XB4.out.read2
          clear hown hg4 HO1 HX3 HS3 HB1
          go_wp2_with (first | (at_builtin; refine stop_here ?_) | (go_at_call 28; refine (HP1.out _).mono ?_; rintro e w5 ⟨A', cap', rfl, hS, hx⟩; have HS5 := Lib.hid hS; have HX5 := Lib.hid hx; clear hS hx))
          refine stop_on ?_
          refine app_bytes _ rfl _ _ rfl (w.heap.size + 1) _ (2 + 8 * k + 4) (ndH leaf n ++ itsB (l.take k) ++ putL K.toNat 4) rfl (own_below HO4.out HX5.out) A' 4 cap' (putL V.toNat 4) rfl (putL_length 4 _) HS5.out.1 HS5.out.cells (by omega) (by have := HX5.out.size; omega) ?_
          intro A6 c6 w6 hown hg6
          have HX6 := Lib.hid (show Ext w w6 from Below.grown (HX4.out.trans HX5.out) hg6 (by have := HX4.out.size; have := HX5.out.size; omega) (fun q hq => by have := ((own_below HO4.out HX5.out).lt q hq).1; omega))
          have HB6 := Lib.hid ((HB4.out.ext HX5.out).grown hg6 (own_old (own_below HO4.out HX5.out) (by omega)))
          have HO6 := Lib.hid (show w6.ownsRow (w.heap.size + 1) 5 1 (.slice A6 (2 + 8 * (k + 1)) c6) (2 + 8 * (k + 1)) ((ndH leaf n ++ itsB (l.take (k + 1))).map bv) from by
            rw [HT.out, show 2 + 8 * (k + 1) = 2 + 8 * k + 4 + 4 by omega]
            simpa only [List.append_assoc] using hown)
          rw [show 2 + 8 * k + 4 + 4 = 2 + 8 * (k + 1) by omega]
          clear hown hg6 HO4 HX5 HS5 HB4
          go_wp2
          go_roundw
          case rel => exact ⟨k + 1, by omega, by go_num, A6, c6, rfl, HO6.out, HX6.out, HB6.out⟩
          case measure => simp [intOf]; omega
        · obtain rfl : k = n := by omega
          have hnl : l.take k = l := by rw [HN.out, List.take_length]
          have HSL := Lib.hid (own_sl ho)
          rw [hnl] at HSL
          have HV := Lib.hid (numSeal_n A1 (ndL leaf l) (2 + 8 * k) c1 wr (by rw [ndL_length, ← HN.out]; omega) (by omega) (by have h := HSL.out; unfold ndL; rw [← HN.out]; exact h))
          clear ho hx hb hnl
          go_wp2_with (go_at_call 29; refine HV.out.mono ?_; rintro e w3 ⟨rfl, hx⟩; have HX4 := Lib.hid (HX1.out.trans hx); clear hx)
          go_ret2
          exact ⟨rfl, HX4.out⟩
end Go.Proofs.Ytpcchbcibcfldaa
