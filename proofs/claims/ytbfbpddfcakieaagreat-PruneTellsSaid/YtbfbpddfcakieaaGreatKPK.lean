/- The contract of Cut of the reference of layer 10, where all is sound. -/
import Derived.Test.YtbfbpddfcakieaaGreatKPJ
import Derived.Test.YtbfbpddfcakieaaGreatK34
import Derived.Test.YtbfbpddfcakieaaGreatK15
namespace Go.Proofs.YtbfbpddfcakieaaGreat
open Go.RowKit
attribute [local go_sem ↓] Go.wp_at_zero Go.wp_at_succ

set_option maxRecDepth 100000 in
set_option maxHeartbeats 3200000 in
/-- P10.3, of the reference, where all is sound. -/
theorem ref10Cut_any (R : Option Addr) (l : List HC) (n q : Nat) (keep root lo hi most : Int) (m : Nat) (w : World) (hmost : most ≤ 60) (hm1 : m ≤ 1000) (hf : fineB ⟨l, keep⟩ root most = true) (hA : HcSl w R n q l) :
    Calls Tryz.prog 13 #[.agg #[.slice R n q, .int .i64 keep], .int .i64 root, .int .i64 lo, .int .i64 hi, .int .i64 m] w fun e w' => ∃ S d, e = .returned (.tuple #[.agg #[.slice S n d, .int .i64 keep], .int .i64 (cutS keep lo hi m l root).2.1, .int .i64 ((cutS keep lo hi m l root).2.2.1 : Nat), .int .i64 (cutS keep lo hi m l root).2.2.2]) ∧ HcSl w' S n d (cutS keep lo hi m l root).1 ∧ Ext w w' := by
  obtain ⟨W, hW⟩ : ∃ W, W = (w.alloc (.cells #[.slice R n q, .int .i64 keep] 24)).alloc (.cells #[.slice none 0 0, .int .i64 0] 24) := ⟨_, rfl⟩
  obtain ⟨hx, hb0, hb1⟩ := allocs2 hW.symm
  have HX := Lib.hid hx
  have HB0 := Lib.hid hb0
  have HB1 := Lib.hid hb1
  have HA := Lib.hid (hA.ext hx)
  obtain ⟨F, hF⟩ : ∃ F, cutS keep lo hi m l root = F := ⟨_, rfl⟩
  have HJ0 := Lib.hid (show CutJ keep lo hi most m F (scanT l root lo hi) 0 l root from ⟨hf, ⟨Nat.zero_le _, Nat.zero_le _⟩, rfl, by rw [← hF]; rfl⟩)
  rw [hF]
  clear hx hb0 hb1 hA hf hF
  generalize scanT l root lo hi = it at *
  subst hW
  go_enter Tryz.func13, Tryz.ntmps13
  go_wp2_with fail
  generalize hW : World.alloc (World.alloc w _) _ = W at *
  clear hW
  go_loopw [1, 14] (fun r g wr => ∃ (j : Nat) (S : Option Addr) (d : Nat) (cj : List HC) (pj : Int), g = .int .i64 j ∧ r = .int .i64 pj ∧ CutJ keep lo hi most m F it j cj pj ∧ Ext w wr ∧ Bx wr w.heap.size #[.slice S n d, .int .i64 keep] ∧ Bx wr (w.heap.size + 1) #[.slice none 0 0, .int .i64 0] ∧ HcSl wr S n d cj) (fun _ i _ => m - (intOf i).toNat)
  case atStart => exact ⟨0, R, q, l, root, rfl, rfl, HJ0.out, HX.out, HB0.out, HB1.out, HA.out⟩
  case round =>
    obtain ⟨j, S, d1, cj, pj, rfl, rfl, hj, hx, hb0, hb1, hs⟩ := hrel
    have HJ := Lib.hid hj
    have HXR := Lib.hid hx
    have HC0 := Lib.hid hb0
    have HC1 := Lib.hid hb1
    have HS := Lib.hid hs
    have hjm : j ≤ m := hj.le.2
    obtain ⟨p0, p1, p2⟩ := hb0.read2
    obtain ⟨f0, f1⟩ := hb0.free2
    obtain ⟨t0, t1, t2⟩ := hb1.read2
    obtain ⟨y0, y1⟩ := hb1.free2
    have HSC := Lib.hid (fun w' (hx : Ext wr w') => (show Calls Tryz.prog 36 #[.agg #[.slice S n d1, .int .i64 keep], .int .i64 pj, .int .i64 lo, .int .i64 hi] w' fun e w2 => ∃ T s d, e = .returned (.slice T s d) ∧ s = (it.drop j).length ∧ Sl w2 T s d (ivs (it.drop j)) ∧ Ext w' w2 from by
      obtain ⟨hm, hrr, _⟩ := fine_may hj.fine
      have hri := (may_iff hm).2.2
      have h := ref07Scan_any S cj n d1 keep keep pj lo hi w' (allR_of hri) (rightH_iff hri).1.1.2 hrr (hs.ext hx)
      rw [hj.scan] at h
      exact h))
    clear hb0 hb1 hs hx hj
    rcases Nat.lt_or_ge j m with hm | hm
    rotate_left
    · have hst := HJ.out.stop (.inl hm)
      obtain rfl : m = j := by omega
      subst hst
      have d4 : decide ((m : Int) < (m : Int)) = false := decide_eq_false (by omega)
      have d6 : ¬ ((m : Int) < 0) := by omega
      have d7 : (0 : Int) ≤ (m : Int) := by omega
      clear HJ HJ0 hm HSC
      go_wp2_with fail
      refine ret2_cell (k := w.heap.size + 1) (x := .slice S n d1) (y := .int .i64 keep) (v := .tuple #[.agg #[.slice S n d1, .int .i64 keep], .int .i64 pj, .int .i64 m, .int .i64 0]) ?hb4 (fun r0 r1 => by simp [results, Tryz.results13, go_sem, r0, r1]) rfl ?hx4
      case hb4 => exact HC1.out.set2 _ _
      case hx4 => exact ⟨S, d1, rfl, HS.out.boxed2 HC1.out _ _, HXR.out.store2 (by omega) _ _⟩
    have d4 : decide ((j : Int) < (m : Int)) = true := decide_eq_true (by omega)
    have hji : (j : Int) < (m : Int) := by omega
    go_wp2_with (go_at_call 36; refine stop_here ?_)
    refine stop_on ?_
    refine (HSC.out _ (Ext.refl _)).mono ?_
    rintro e w6 ⟨T, s, dd, rfl, hs6, hI6, hx6⟩
    have HX6 := Lib.hid (HXR.out.trans hx6)
    have HD0 := Lib.hid (HC0.out.ext hx6)
    have HD1 := Lib.hid (HC1.out.ext hx6)
    have HS6 := Lib.hid (HS.out.ext hx6)
    clear hx6 p0 p1 p2 f0 f1 t0 t1 t2 y0 y1 HSC
    obtain ⟨p0, p1, p2⟩ := HD0.out.read2
    obtain ⟨f0, f1⟩ := HD0.out.free2
    obtain ⟨t0, t1, t2⟩ := HD1.out.read2
    obtain ⟨y0, y1⟩ := HD1.out.free2
    rw [List.length_drop] at hs6
    rcases Nat.lt_or_ge j it.length with hlt | hlt
    rotate_left
    · have hst := HJ.out.stop (.inr hlt)
      obtain rfl : s = 0 := by omega
      subst hst
      clear HJ HJ0 hs6 hI6 hlt
      go_wp2_with fail
      refine ret2_cell (k := w.heap.size + 1) (x := .slice S n d1) (y := .int .i64 keep) (v := .tuple #[.agg #[.slice S n d1, .int .i64 keep], .int .i64 pj, .int .i64 j, .int .i64 0]) ?hb4 (fun r0 r1 => by simp [results, Tryz.results13, go_sem, r0, r1]) rfl ?hx4
      case hb4 => exact HD1.out.set2 _ _
      case hx4 => exact ⟨S, d1, rfl, HS6.out.boxed2 HD1.out _ _, HX6.out.store2 (by omega) _ _⟩
    have hs0 : ((s : Int) == 0) = false := by rw [beq_eq_false_iff_ne]; omega
    have hs1 : (0 : Int) < (s : Int) := by omega
    have hs2 : 0 < s := by omega
    obtain ⟨b2, o2, rfl, hb2, k0, -⟩ := it_at (k := 0) hI6 (by rw [List.length_drop]; omega)
    rw [show (it.drop j)[0]'(by rw [List.length_drop]; omega) = it[j] from by rw [List.getElem_drop]; simp only [Nat.add_zero]] at k0
    simp only [Nat.zero_mul, Nat.add_zero] at k0
    have HST := Lib.hid (HJ.out.step hmost hm hlt)
    have HDE := Lib.hid (fun w' (hx : Ext w6 w') => ref10Del_any S cj n d1 keep pj it[j].1 most w' hmost (by have hfj := HJ.out.fine; unfold fineB at hfj; rw [Bool.and_eq_true] at hfj; exact hfj.1) (HS6.out.ext hx))
    generalize it[j] = y at *
    obtain ⟨ky, vy⟩ := y
    simp only at k0 HDE HST
    generalize (delR ⟨cj, keep⟩ pj ky) = pr at *
    obtain ⟨c2, r2, e2⟩ := pr
    simp only at HST HDE
    have hal := (Ext.refl w6).alloc (.cells #[.slice none 0 0, .int .i64 0] 24)
    have ka := (hal.cell (p := ⟨b2, o2, none⟩) hb2).trans k0
    obtain ⟨pa0, pa1, pa2⟩ := (HD0.out.ext hal).read2
    have HLT := Lib.hid hm
    clear hal hI6 hs6 hlt hm hjm
    rcases HST.out with ⟨h0, hJ2⟩ | ⟨h0, hc, hr, hF⟩
    · have HJ2 := Lib.hid hJ2
      subst h0
      clear hJ2 HST
      go_wp2_with fail
      go_cut [16, 17, 18] from 36 to 46 (fun v u y wx => ∃ X S' d', v = .pointer (some ⟨X, 0, none⟩) ∧ u = .int .i64 r2 ∧ y = .int .i64 0 ∧ Bx wx X #[.slice S' n d', .int .i64 keep] ∧ HcSl wx S' n d' c2 ∧ Ext w6 wx)
      case first =>
        go_region_law
          (first
            | ((go_simp
                go_at_call 7
                refine (HDE.out _ ?_).mono ?_
                (first | exact (Ext.refl _).drew | exact ((Ext.refl _).drew).alloc _ | exact ((Ext.refl _).alloc _).drew | exact Ext.refl _)
                rintro e w4 ⟨S4, d4, rfl, hs4, hx4⟩
                have E4 := Lib.hid (show Ext w6 w4 from by first | exact (Ext.refl _).drew.trans hx4 | exact (((Ext.refl _).drew).alloc _).trans hx4 | exact (((Ext.refl _).alloc _).drew).trans hx4 | exact hx4)
                have N4 := Lib.hid hs4
                (try (have B4 := Lib.hid (show Bx w4 w6.heap.size #[.slice none 0 0, .int .i64 0] from (Bx.new w6.drew _ _).ext hx4); have f0 := B4.out.free 0; have f1 := B4.out.free 1; have z1 := B4.out.lt; have q0 : w4.cell? ⟨w6.heap.size, 0, none⟩ = some (.slice none 0 0) := B4.out.at 0 _ rfl; have q1 : w4.cell? ⟨w6.heap.size, 1, none⟩ = some (.int .i64 0) := B4.out.at 1 _ rfl))
                clear hs4 hx4)))
        all_goals
          go_wp2_with fail
          go_meet
          first
          | exact ⟨_, S4, d4, rfl, rfl, rfl, Bx.new _ _ _, N4.out.ext ((Ext.refl _).alloc _), E4.out.alloc _⟩
          | exact ⟨_, S4, d4, rfl, rfl, rfl, B4.out.set2 _ _, N4.out.boxed2 B4.out _ _, E4.out.store2 (Nat.le_refl _) _ _⟩
      case rest =>
        obtain ⟨X, S6, d6, rfl, rfl, rfl, hbx, hs4, hx4⟩ := hcut
        have HXC := Lib.hid (HX6.out.trans hx4)
        have HE0 := Lib.hid (HD0.out.ext hx4)
        have HE1 := Lib.hid (HD1.out.ext hx4)
        have HSX := Lib.hid hs4
        clear p0 p1 p2 f0 f1 t0 t1 t2 y0 y1 pa0 pa1 pa2 ka k0 hb2
        obtain ⟨x0, x1, x2⟩ := hbx.read2
        obtain ⟨p0, p1, p2⟩ := HE0.out.read2
        obtain ⟨f0, f1⟩ := HE0.out.free2
        clear hbx hs4 hx4
        go_wp2_with fail
        go_roundw
        case rel => exact ⟨j + 1, S6, d6, c2, r2, by go_num, rfl, HJ2.out, HXC.out.store2 (Nat.le_refl _) _ _, HE0.out.set2 _ _, (HE1.out.set_other (p := ⟨w.heap.size, 0, none⟩) (by simp) _).set_other (p := ⟨w.heap.size, 1, none⟩) (by simp) _, HSX.out.boxed2 HE0.out _ _⟩
        case measure => have := HLT.out; simp [intOf]; omega
    · subst h0
      subst hc
      subst hr
      subst hF
      clear HST HJ HJ0
      go_wp2_with fail
      go_cut [16, 17, 18] from 36 to 46 (fun v u y wx => ∃ X S' d', v = .pointer (some ⟨X, 0, none⟩) ∧ u = .int .i64 r2 ∧ y = .int .i64 3 ∧ Bx wx X #[.slice S' n d', .int .i64 keep] ∧ HcSl wx S' n d' c2 ∧ Ext w6 wx)
      case first =>
        go_region_law
          (first
            | ((go_simp
                go_at_call 7
                refine (HDE.out _ ?_).mono ?_
                (first | exact (Ext.refl _).drew | exact ((Ext.refl _).drew).alloc _ | exact ((Ext.refl _).alloc _).drew | exact Ext.refl _)
                rintro e w4 ⟨S4, d4, rfl, hs4, hx4⟩
                have E4 := Lib.hid (show Ext w6 w4 from by first | exact (Ext.refl _).drew.trans hx4 | exact (((Ext.refl _).drew).alloc _).trans hx4 | exact (((Ext.refl _).alloc _).drew).trans hx4 | exact hx4)
                have N4 := Lib.hid hs4
                (try (have B4 := Lib.hid (show Bx w4 w6.heap.size #[.slice none 0 0, .int .i64 0] from (Bx.new w6.drew _ _).ext hx4); have f0 := B4.out.free 0; have f1 := B4.out.free 1; have z1 := B4.out.lt; have q0 : w4.cell? ⟨w6.heap.size, 0, none⟩ = some (.slice none 0 0) := B4.out.at 0 _ rfl; have q1 : w4.cell? ⟨w6.heap.size, 1, none⟩ = some (.int .i64 0) := B4.out.at 1 _ rfl))
                clear hs4 hx4)))
        all_goals
          go_wp2_with fail
          go_meet
          first
          | exact ⟨_, S4, d4, rfl, rfl, rfl, Bx.new _ _ _, N4.out.ext ((Ext.refl _).alloc _), E4.out.alloc _⟩
          | exact ⟨_, S4, d4, rfl, rfl, rfl, B4.out.set2 _ _, N4.out.boxed2 B4.out _ _, E4.out.store2 (Nat.le_refl _) _ _⟩
      case rest =>
        obtain ⟨X, S6, d6, rfl, rfl, rfl, hbx, hs4, hx4⟩ := hcut
        have HXC := Lib.hid (HX6.out.trans hx4)
        have HE0 := Lib.hid (HD0.out.ext hx4)
        have HE1 := Lib.hid (HD1.out.ext hx4)
        have HSX := Lib.hid (HS6.out.ext hx4)
        clear p0 p1 p2 f0 f1 t0 t1 t2 y0 y1 pa0 pa1 pa2 ka k0 hb2
        obtain ⟨p0, p1, p2⟩ := HE0.out.read2
        obtain ⟨t0, t1, t2⟩ := HE1.out.read2
        obtain ⟨y0, y1⟩ := HE1.out.free2
        clear hbx hs4 hx4
        go_wp2_with fail
        refine ret2_cell (k := w.heap.size + 1) (x := .slice S n d1) (y := .int .i64 keep) (v := .tuple #[.agg #[.slice S n d1, .int .i64 keep], .int .i64 r2, .int .i64 j, .int .i64 3]) ?hb4 (fun r0 r1 => by simp [results, Tryz.results13, go_sem, r0, r1]) rfl ?hx4
        case hb4 => exact HE1.out.set2 _ _
        case hx4 => exact ⟨S, d1, rfl, HSX.out.boxed2 HE1.out _ _, HXC.out.store2 (by omega) _ _⟩
end Go.Proofs.YtbfbpddfcakieaaGreat
