/- The walk of Fill of the reference of layer 9. -/
import Derived.Test.YtkoomcbiddanfaaGreatK37
namespace Go.Proofs.YtkoomcbiddanfaaGreat
open Go.RowKit
attribute [local go_sem ↓] Go.wp_at_zero Go.wp_at_succ

set_option maxRecDepth 100000 in
set_option maxHeartbeats 3200000 in
theorem ref09Fill_any (R : Option Addr) (l : List HC) (n q : Nat) (keep root most : Int) (A : Option Addr) (it : List It) (m c : Nat) (w : World) (hmost : most ≤ 60) (hf : fineB ⟨l, keep⟩ root most = true) (hm : m = it.length) (hmb : m ≤ 90000) (hA : HcSl w R n q l) (hI : Sl w A m c (ivs it)) :
    Calls Tryz.prog 13 #[.agg #[.slice R n q, .int .i64 keep], .int .i64 root, .slice A m c] w fun e w' => ∃ S d, e = .returned (.tuple #[.agg #[.slice S n d, .int .i64 keep], .int .i64 (fillR keep it l root).2.1, .int .i64 (fillR keep it l root).2.2]) ∧ HcSl w' S n d (fillR keep it l root).1 ∧ Ext w w' := by
  obtain ⟨W, hW⟩ : ∃ W, W = (w.alloc (.cells #[.slice R n q, .int .i64 keep] 24)).alloc (.cells #[.slice none 0 0, .int .i64 0] 24) := ⟨_, rfl⟩
  obtain ⟨hx, hb0, hb1⟩ := allocs2 hW.symm
  have HX := Lib.hid hx
  have HB0 := Lib.hid hb0
  have HB1 := Lib.hid hb1
  have HA := Lib.hid (hA.ext hx)
  have HF := Lib.hid hf
  have HM := Lib.hid hm
  have HI := Lib.hid hI
  clear hx hb0 hb1 hA hf hm hI
  subst hW
  go_enter Tryz.func13, Tryz.ntmps13
  go_wp2_with fail
  generalize hW : World.alloc (World.alloc w _) _ = W at *
  clear hW
  go_loopw [1, 9] (fun r i wr => ∃ (j : Nat) (S : Option Addr) (d : Nat) (cj : List HC) (pj : Int), j ≤ m ∧ i = .int .i64 j ∧ r = .int .i64 pj ∧ fillR keep it l root = fillR keep (it.drop j) cj pj ∧ fineB ⟨cj, keep⟩ pj most = true ∧ Ext w wr ∧ Bx wr w.heap.size #[.slice S n d, .int .i64 keep] ∧ Bx wr (w.heap.size + 1) #[.slice none 0 0, .int .i64 0] ∧ HcSl wr S n d cj) (fun _ i _ => m - (intOf i).toNat)
  case atStart => exact ⟨0, R, q, l, root, Nat.zero_le _, rfl, rfl, rfl, HF.out, HX.out, HB0.out, HB1.out, HA.out⟩
  case round =>
    obtain ⟨j, S, d1, cj, pj, hj, rfl, rfl, heq, hfj, hx, hb0, hb1, hs⟩ := hrel
    have HEQ := Lib.hid heq
    have HXR := Lib.hid hx
    have HC0 := Lib.hid hb0
    have HC1 := Lib.hid hb1
    have HS := Lib.hid hs
    obtain ⟨p0, p1, p2⟩ := hb0.read2
    obtain ⟨f0, f1⟩ := hb0.free2
    obtain ⟨t0, t1, t2⟩ := hb1.read2
    obtain ⟨y0, y1⟩ := hb1.free2
    rcases Nat.lt_or_ge j m with hlt | hlt
    · have hjl : j < it.length := by rw [← HM.out]; exact hlt
      have hji : (j : Int) < (m : Int) := by omega
      obtain ⟨b2, off2, rfl, hbl2, k0w, k1w⟩ := it_at HI.out hjl
      have k0 := (hx.cell (p := ⟨b2, off2 + j * 2, none⟩) hbl2).trans k0w
      have k1 := (hx.cell (p := ⟨b2, off2 + j * 2 + 1, none⟩) hbl2).trans k1w
      have HST := Lib.hid (HEQ.out.trans (fill_step hjl))
      have HFN := Lib.hid (fun (h : (putR ⟨cj, keep⟩ pj it[j] false).2.2 = 0) => fine_next (x := it[j]) (deep := false) hmost hfj h)
      have HPU := Lib.hid (fun w' (hx : Ext wr w') => ref09Put_any S cj n d1 keep pj most it[j] false w' hmost (by unfold fineB at hfj; rw [Bool.and_eq_true] at hfj; exact hfj.1) (HS.out.ext hx))
      have hws := hx.size
      clear hb0 hb1 hs heq hfj k0w k1w hx
      generalize it[j] = y at *
      obtain ⟨ky, vy⟩ := y
      simp only at k0 k1 HPU
      generalize (putR ⟨cj, keep⟩ pj (ky, vy) false) = pr at *
      obtain ⟨c2, r2, e2⟩ := pr
      simp only at HST HFN HPU
      have hblr : b2 < wr.heap.size := by omega
      have hal := (Ext.refl wr).alloc (.cells #[.slice none 0 0, .int .i64 0] 24)
      have ra0 := (hal.cell (p := ⟨b2, off2 + j * 2, none⟩) hblr).trans k0
      have ra1 := (hal.cell (p := ⟨b2, off2 + j * 2 + 1, none⟩) hblr).trans k1
      clear hal
      go_wp2_with fail
      go_cut [10, 11, 12] from 13 to 42 (fun v u y wx => ∃ X S' d', v = .pointer (some ⟨X, 0, none⟩) ∧ u = .int .i64 r2 ∧ y = .int .i64 e2 ∧ Bx wx X #[.slice S' n d', .int .i64 keep] ∧ HcSl wx S' n d' c2 ∧ Ext wr wx)
      case first =>
        go_region_law
          (first
            | ((go_simp
                go_at_call 7
                refine (HPU.out _ ?_).mono ?_
                (first | exact (Ext.refl _).drew | exact ((Ext.refl _).drew).alloc _ | exact ((Ext.refl _).alloc _).drew | exact Ext.refl _)
                rintro e w4 ⟨S4, d4, rfl, hs4, hx4⟩
                have E4 := Lib.hid (show Ext wr w4 from by first | exact (Ext.refl _).drew.trans hx4 | exact (((Ext.refl _).drew).alloc _).trans hx4 | exact (((Ext.refl _).alloc _).drew).trans hx4 | exact hx4)
                have N4 := Lib.hid hs4
                (try (have B4 := Lib.hid (show Bx w4 wr.heap.size #[.slice none 0 0, .int .i64 0] from (Bx.new wr.drew _ _).ext hx4); have f0 := B4.out.free 0; have f1 := B4.out.free 1; have z1 := B4.out.lt; have q0 : w4.cell? ⟨wr.heap.size, 0, none⟩ = some (.slice none 0 0) := B4.out.at 0 _ rfl; have q1 : w4.cell? ⟨wr.heap.size, 1, none⟩ = some (.int .i64 0) := B4.out.at 1 _ rfl))
                clear hs4 hx4)))
        all_goals
          go_wp2_with fail
          go_meet
          first
          | exact ⟨_, S4, d4, rfl, rfl, rfl, Bx.new _ _ _, N4.out.ext ((Ext.refl _).alloc _), E4.out.alloc _⟩
          | exact ⟨_, S4, d4, rfl, rfl, rfl, B4.out.set2 _ _, N4.out.boxed2 B4.out _ _, E4.out.store2 (Nat.le_refl _) _ _⟩
      case rest =>
        obtain ⟨X, S5, d5, rfl, rfl, rfl, hbx, hs5, hx5⟩ := hcut
        have HX5 := Lib.hid (HXR.out.trans hx5)
        have HS5 := Lib.hid hs5
        have HE0 := Lib.hid (HC0.out.ext hx5)
        have HE1 := Lib.hid (HC1.out.ext hx5)
        have HSO := Lib.hid (HS.out.ext hx5)
        clear p0 p1 p2 f0 f1 t0 t1 t2 y0 y1 k0 k1 ra0 ra1
        obtain ⟨x0, x1, x2⟩ := hbx.read2
        obtain ⟨p0, p1, p2⟩ := HE0.out.read2
        obtain ⟨f0, f1⟩ := HE0.out.free2
        obtain ⟨t0, t1, t2⟩ := HE1.out.read2
        obtain ⟨y0, y1⟩ := HE1.out.free2
        clear hbx hs5 hx5
        by_cases he : e2 = 0
        · subst he
          rw [if_pos rfl] at HST
          go_wp2_with fail
          go_roundw
          case rel => exact ⟨j + 1, S5, d5, c2, r2, by omega, by go_num, rfl, HST.out, HFN.out rfl, HX5.out.store2 (Nat.le_refl _) _ _, HE0.out.set2 _ _, (HE1.out.set_other (p := ⟨w.heap.size, 0, none⟩) (by simp) _).set_other (p := ⟨w.heap.size, 1, none⟩) (by simp) _, HS5.out.boxed2 HE0.out _ _⟩
          case measure => simp [intOf]; omega
        · have d5e : (e2 == 0) = false := by simpa using he
          rw [if_neg he] at HST
          clear he
          go_wp2_with fail
          refine ret2_cell (k := w.heap.size + 1) (x := .slice S n d1) (y := .int .i64 keep) (v := .tuple #[.agg #[.slice S n d1, .int .i64 keep], .int .i64 pj, .int .i64 e2]) ?hb4 (fun r0 r1 => by simp [results, Tryz.results13, go_sem, r0, r1]) rfl ?hx4
          case hb4 => exact HE1.out.set2 _ _
          case hx4 => rw [HST.out]; exact ⟨S, d1, rfl, HSO.out.boxed2 HE1.out _ _, HX5.out.store2 (by omega) _ _⟩
    · obtain rfl : m = j := by omega
      have hfl : it.drop m = [] := by rw [HM.out, List.drop_length]
      rw [hfl] at heq
      have HEE := Lib.hid (heq.trans rfl : fillR keep it l root = (cj, pj, 0))
      have d4 : decide ((m : Int) < (m : Int)) = false := decide_eq_false (by omega)
      clear hb0 hb1 hs hx hlt hfl heq hfj
      go_wp2_with fail
      refine ret2_cell (k := w.heap.size + 1) (x := .slice S n d1) (y := .int .i64 keep) (v := .tuple #[.agg #[.slice S n d1, .int .i64 keep], .int .i64 pj, .int .i64 0]) ?hb4 (fun r0 r1 => by simp [results, Tryz.results13, go_sem, r0, r1]) rfl ?hx4
      case hb4 => exact HC1.out.set2 _ _
      case hx4 => rw [HEE.out]; exact ⟨S, d1, rfl, HS.out.boxed2 HC1.out _ _, HXR.out.store2 (by omega) _ _⟩
end Go.Proofs.YtkoomcbiddanfaaGreat
