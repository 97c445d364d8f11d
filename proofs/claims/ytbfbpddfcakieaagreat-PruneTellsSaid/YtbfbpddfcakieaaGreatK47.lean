/- The walk of anew of the reference of layer 10, of a node that is no leaf. -/
import Derived.Test.YtbfbpddfcakieaaGreatK46
namespace Go.Proofs.YtbfbpddfcakieaaGreat
open Go.RowKit
attribute [local go_sem ↓] Go.wp_at_zero Go.wp_at_succ

theorem one_len {xs : List It} (h1 : 1 ≤ xs.length) : ∀ j (hj : j < [xs].length), 1 ≤ ([xs][j]).length := fun j hj => by
  obtain rfl : j = 0 := by simp at hj; omega
  exact h1
set_option maxRecDepth 100000 in
set_option maxHeartbeats 6400000 in
theorem del_walk_other (R : Option Addr) (c : List HC) (n q k : Nat) (keep key : Int) (i0 : Nat) (xs : List It) (c2 : List HC) (L2 : List It) (w : World) (hk : k < c.length) (hb : n ≤ 90000) (hA : HcSl w R n q c) (hlf : c[k].leaf = false) (hnd : ndR c[k].it = true)
    (hi : atI false c[k].it key = (i0 : Int)) (hi2 : i0 < c[k].it.length) (hl2 : L2.length ≤ 1) (hs : ∀ k (hk : k < c2.length), c2[k].ref ≤ 2000000) (hxs : withS c[k].it i0 1 L2 = xs)
    (hch : ∀ w', Ext w w' → Calls Tryz.prog 28 #[.agg #[.slice R n q, .int .i64 keep], .int .i64 c[k].it[i0].2, .int .i64 key] w' fun e w2 => ∃ S d O z, e = .returned (.tuple #[.agg #[.slice S n d, .int .i64 keep], .slice O L2.length z]) ∧ HcSl w2 S n d c2 ∧ Sl w2 O L2.length z (ivs L2) ∧ Ext w' w2) :
    Calls Tryz.prog 28 #[.agg #[.slice R n q, .int .i64 keep], .int .i64 k, .int .i64 key] w fun e w' => ∃ S d O z, e = .returned (.tuple #[.agg #[.slice S n d, .int .i64 keep], .slice O (rowD xs).length z]) ∧ HcSl w' S n d (layS false (L2.map (·.2)) (rowD xs) c2).1 ∧ Sl w' O (rowD xs).length z (ivs (layS false (L2.map (·.2)) (rowD xs) c2).2) ∧ Ext w w' := by
  obtain ⟨W, hW⟩ : ∃ W, W = (w.alloc (.cells #[.slice R n q, .int .i64 keep] 24)).alloc (.cells #[.slice none 0 0, .int .i64 0] 24) := ⟨_, rfl⟩
  obtain ⟨hx, hb0, hb2⟩ := allocs2 hW.symm
  have hsz : W.heap.size = w.heap.size + 1 + 1 := by rw [hW]; simp
  have hn := hA.1
  obtain ⟨b, off, rfl, hbl0, A, ca, r0', r1', r2', r3', hI⟩ := hA.cell hk
  have r2 := (hx.cell (p := ⟨b, off + k * 4 + 2, none⟩) hbl0).trans r2'
  have r3 := (hx.cell (p := ⟨b, off + k * 4 + 3, none⟩) hbl0).trans r3'
  have hbl : b < W.heap.size := by omega
  clear r0' r1' r2' r3'
  rw [hlf] at r2
  have HX := Lib.hid hx
  have HSZ := Lib.hid hsz
  have HB0 := Lib.hid hb0
  have HB2 := Lib.hid hb2
  have HCH := Lib.hid hch
  have hlen : c[k].it.length ≤ 4 := ((ndR_iff _).1 hnd).1.2
  have hwl : (withS c[k].it i0 1 L2).length = i0 + L2.length + (c[k].it.length - (i0 + 1)) := by
    unfold withS; simp; omega
  rw [hxs] at hwl
  have h4 : xs.length ≤ 4 := by omega
  have HBD := Lib.hid (lay_bdD (leaf := false) (held := L2.map (·.2)) h4 hs)
  have HLAY := Lib.hid (fun S d w' P z H t (hA : HcSl w' S n d c2) (h1 : 1 ≤ xs.length) (hP : RowsSl w' P 1 z [xs]) (hH : Sl w' H L2.length t ((L2.map (·.2)).map iv)) => ref09Lay_any S c2 n d keep false P [xs] 1 z H (L2.map (·.2)) L2.length t w' hb (by omega) HBD.out (one_len h1) hA hP (by rw [List.length_map]) hH)
  have HAT := Lib.hid (fun w' (hx2 : Ext w w') => ref04At_any false A c[k].it c[k].it.length ca key w' rfl hnd (hI.ext hx2))
  have HWI := Lib.hid (fun w' B d (hx2 : Ext w w') (hB : Sl w' B L2.length d (ivs L2)) => ref04With_any A B c[k].it L2 c[k].it.length L2.length ca d i0 1 w' rfl rfl (by omega) (by omega) (by omega) (by omega) (hI.ext hx2) hB)
  have HV := Lib.hid (fun w' B d (hB : Sl w' B L2.length d (ivs L2)) => ref09V_any B L2 L2.length d w' rfl (by omega) hB)
  rw [hi] at HAT
  simp only [hxs, ← hwl] at HWI
  obtain ⟨bi, oi, rfl, hbi0, -, kv0⟩ := it_at hI hi2
  have kv := (hx.cell (p := ⟨bi, oi + i0 * 2 + 1, none⟩) hbi0).trans kv0
  have hbi : bi < W.heap.size := by omega
  clear kv0
  have hki : (k : Int) < (n : Int) := by omega
  have hkn : k < n := by omega
  generalize c[k].it[i0].2 = V0 at *
  clear hA hI hx hb0 hb2 hsz hwl hs hnd hi hxs hlf HBD hch hl2 hbi0 hbl0
  have hii : (i0 : Int) < (c[k].it.length : Int) := by omega
  obtain ⟨u, hu⟩ : ∃ u, xs.length = u := ⟨_, rfl⟩
  rw [hu] at h4
  simp only [hu] at HWI HLAY
  have HU := Lib.hid hu
  clear hu
  generalize c[k].it.length = li at *
  generalize atB c[k].it key = ab at *
  generalize c[k].ref = rf at *
  generalize c[k].pin = pn at *
  clear hk hn
  subst hW
  obtain ⟨p0, p1, p2⟩ := HB0.out.read2
  go_enter Tryz.func28, Tryz.ntmps28
  go_wp2_with (go_at_call 53; refine stop_here ?_)
  refine stop_on ?_
  generalize hW : World.alloc (World.alloc w _) _ = W at *
  clear hW
  have hx3 : Ext W (W.alloc (.cells #[.bool false, .slice (some ⟨bi, oi, none⟩) li ca] 51)) := (Ext.refl W).alloc _
  have hbn := Bx.new W #[.bool false, .slice (some ⟨bi, oi, none⟩) li ca] 51
  rw [HSZ.out] at hbn
  refine (HAT.out _ (HX.out.trans hx3)).mono ?_
  rintro e w1 ⟨rfl, hx4⟩
  have HN := Lib.hid (hbn.ext hx4)
  have hx5 := hx3.trans hx4
  have HX1 := Lib.hid (HX.out.trans hx5)
  have HC0 := Lib.hid (HB0.out.ext hx5)
  have HC2 := Lib.hid (HB2.out.ext hx5)
  have kv1 := (hx5.cell (p := ⟨bi, oi + i0 * 2 + 1, none⟩) hbi).trans kv
  have hws := hx5.size
  have hbw : bi < w1.heap.size := by omega
  clear hx3 hbn hx4 hx5 p0 p1 p2 r2 r3 hbl kv hws
  obtain ⟨p0, p1, p2⟩ := HC0.out.read2
  obtain ⟨n0, n1, n2⟩ := HN.out.read2
  have hal := (Ext.refl w1).alloc (.cells #[.slice none 0 0, .int .i64 0] 24)
  have ka := (hal.cell (p := ⟨bi, oi + i0 * 2 + 1, none⟩) hbw).trans kv1
  obtain ⟨pa0, pa1, pa2⟩ := (HC0.out.ext hal).read2
  obtain ⟨na0, na1, na2⟩ := (HN.out.ext hal).read2
  clear hal
  go_wp2_with fail
  have HKV := Lib.hid (And.intro kv1 hbw)
  go_cut [12, 13] from 30 to 41 (fun v u wx => ∃ X S' d' O' z', v = .pointer (some ⟨X, 0, none⟩) ∧ u = .slice O' L2.length z' ∧ Bx wx X #[.slice S' n d', .int .i64 keep] ∧ HcSl wx S' n d' c2 ∧ Sl wx O' L2.length z' (ivs L2) ∧ Ext w1 wx)
  case first =>
    go_region_law
      (first
        | ((go_simp
            go_at_call 28
            refine (HCH.out _ ?_).mono ?_
            (first | exact HX1.out.drew | exact (HX1.out.alloc _).drew | exact HX1.out.drew.alloc _ | exact HX1.out)
            rintro e w4 ⟨S4, d4, O4, z4, rfl, hs4, ho4, hx4⟩
            have E4 := Lib.hid (show Ext w1 w4 from by first | exact (Ext.refl _).drew.trans hx4 | exact (((Ext.refl _).drew).alloc _).trans hx4 | exact (((Ext.refl _).alloc _).drew).trans hx4 | exact hx4)
            have N4 := Lib.hid hs4
            have O4H := Lib.hid ho4
            (try (have B4 := Lib.hid (show Bx w4 w1.heap.size #[.slice none 0 0, .int .i64 0] from (Bx.new w1.drew _ _).ext hx4); have f0 := B4.out.free 0; have f1 := B4.out.free 1; have z1 := B4.out.lt; have q0 : w4.cell? ⟨w1.heap.size, 0, none⟩ = some (.slice none 0 0) := B4.out.at 0 _ rfl; have q1 : w4.cell? ⟨w1.heap.size, 1, none⟩ = some (.int .i64 0) := B4.out.at 1 _ rfl))
            clear hs4 ho4 hx4)))
    all_goals
      go_wp2_with fail
      go_meet
      first
      | exact ⟨_, S4, d4, O4, z4, rfl, rfl, Bx.new _ _ _, N4.out.ext ((Ext.refl _).alloc _), O4H.out.ext ((Ext.refl _).alloc _), E4.out.alloc _⟩
      | exact ⟨_, S4, d4, O4, z4, rfl, rfl, B4.out.set2 _ _, N4.out.boxed2 B4.out _ _, O4H.out.boxed2 B4.out _ _, E4.out.store2 (Nat.le_refl _) _ _⟩
  case rest =>
    obtain ⟨X, S4, d4, O4, z4, rfl, rfl, hbx, hs4, ho4, hx4⟩ := hcut
    have HBX := Lib.hid (HC0.out.ext hx4)
    have HST := Lib.hid (((HX1.out.trans hx4).store2 (k := w.heap.size) (Nat.le_refl _) (.slice S4 n d4) (.int .i64 keep)))
    have HPX := Lib.hid (HBX.out.set2 (.slice S4 n d4) (.int .i64 keep))
    have HND := Lib.hid ((((HN.out.ext hx4).set_other (p := ⟨w.heap.size, 0, none⟩) (show w.heap.size ≠ w.heap.size + 1 + 1 by omega) (.slice S4 n d4)).set_other (p := ⟨w.heap.size, 1, none⟩) (show w.heap.size ≠ w.heap.size + 1 + 1 by omega) (.int .i64 keep)))
    have HT := Lib.hid ((((HC2.out.ext hx4).set_other (p := ⟨w.heap.size, 0, none⟩) (show w.heap.size ≠ w.heap.size + 1 by omega) (.slice S4 n d4)).set_other (p := ⟨w.heap.size, 1, none⟩) (show w.heap.size ≠ w.heap.size + 1 by omega) (.int .i64 keep)))
    have HS4 := Lib.hid (hs4.boxed2 HBX.out (.slice S4 n d4) (.int .i64 keep))
    have HO4 := Lib.hid (ho4.boxed2 HBX.out (.slice S4 n d4) (.int .i64 keep))
    obtain ⟨x0, x1, x2⟩ := hbx.read2
    clear p0 p1 p2 n0 n1 n2 ka pa0 pa1 pa2 na0 na1 na2 kv1 hbw HKV hii
    obtain ⟨p0, p1, p2⟩ := HBX.out.read2
    obtain ⟨pf0, pf1⟩ := HBX.out.free2
    obtain ⟨n0, n1, n2⟩ := (HN.out.ext hx4).read2
    clear hs4 ho4 hbx hx4
    go_wp2_with (go_at_call 54; refine stop_here ?_)
    refine stop_on ?_
    generalize hWs : World.setCell (World.setCell wc _ _) _ _ = Ws at *
    clear hWs
    refine (HWI.out _ _ _ HST.out HO4.out).mono ?_
    rintro e wd ⟨S5, d5, rfl, hs5, hxd⟩
    have HXW := Lib.hid (HST.out.trans hxd)
    have HS5 := Lib.hid hs5
    have HPD := Lib.hid (HPX.out.ext hxd)
    have HND := Lib.hid (HND.out.ext hxd)
    have HT := Lib.hid (HT.out.ext hxd)
    have HS4 := Lib.hid (HS4.out.ext hxd)
    have HO4 := Lib.hid (HO4.out.ext hxd)
    clear hs5 hxd p0 p1 p2 pf0 pf1 n0 n1 n2 x0 x1 x2 HBX HPX HST
    obtain ⟨p0, p1, p2⟩ := HPD.out.read2
    obtain ⟨n0, n1, n2⟩ := HND.out.read2
    obtain ⟨t0, t1, t2⟩ := HT.out.read2
    obtain ⟨f0, f1⟩ := HT.out.free2
    rcases Nat.eq_zero_or_pos u with h0 | h0
    · subst h0
      obtain rfl : xs = [] := List.eq_nil_of_length_eq_zero HU.out
      clear HLAY
      go_wp2_with fail
      refine ret2_cell (k := w.heap.size + 1) (x := .slice S4 n d4) (y := .int .i64 keep) (v := .tuple #[.agg #[.slice S4 n d4, .int .i64 keep], .slice none 0 0]) ?hb4 (fun r0 r1 => by simp [results, Tryz.results28, go_sem, r0, r1]) rfl ?hx4
      case hb4 => exact HT.out.set2 _ _
      case hx4 => exact ⟨S4, d4, none, 0, rfl, HS4.out.boxed2 HT.out _ _, Sl.nil _, HXW.out.store2 (by omega) _ _⟩
    · have e0 : ((u : Int) == 0) = false := by rw [beq_eq_false_iff_ne]; omega
      have hrd : rowD xs = [xs] := by unfold rowD; rw [if_neg (by rw [HU.out]; omega)]
      have HRD := Lib.hid hrd
      clear hrd
      go_wp2_with fail
      go_region_law
        (first
          | ((go_simp
              go_at_call 56
              refine (HV.out _ _ _ (HO4.out.ext ?_)).mono ?_
              (first | exact (Ext.refl _) | exact (Ext.refl wd).drew | exact (Ext.refl wd).drew.alloc _ | exact ((Ext.refl wd).alloc _).drew | exact (Ext.refl wd).alloc _)
              rintro e we ⟨Se, de, rfl, hse, hxe⟩
              have EC := Lib.hid (show Ext wd we from by first | exact hxe | exact ((Ext.refl wd).drew).trans hxe | exact ((Ext.refl wd).drew.alloc _).trans hxe | exact ((Ext.refl wd).alloc _).drew.trans hxe | exact ((Ext.refl _).alloc _).trans hxe)
              have HVa := Lib.hid hse
              (try (have HRa := Lib.hid (show RowsSl we (some ⟨wd.heap.size, 0, none⟩) 1 1 [xs] from by first | exact (row_lit (by simp) _ HU.out.symm (HS5.out.ext (Ext.refl wd).drew)).ext hxe | exact (row_lit rfl _ HU.out.symm HS5.out).ext ((Ext.refl _).drew.trans hxe) | exact (row_lit rfl _ HU.out.symm HS5.out).ext hxe)))
              obtain ⟨p0, p1, p2⟩ := (HPD.out.ext EC.out).read2
              obtain ⟨n0, n1, n2⟩ := (HND.out.ext EC.out).read2
              clear hse hxe))
          | ((go_simp
              go_at_call 55
              first
                | (refine (HLAY.out _ _ _ _ _ _ _ (HS4.out.ext EC.out) h0 HRa.out HVa.out).mono ?_
                   rintro e wf ⟨Sf, df, Of, zf, rfl, hsf, hof, hxf⟩
                   have EC := Lib.hid (EC.out.trans hxf))
                | (refine (HLAY.out _ _ _ _ _ _ _ (HS4.out.ext (EC.out.alloc _)) h0 (row_lit rfl _ HU.out.symm (HS5.out.ext EC.out)) (HVa.out.ext ((Ext.refl _).alloc _))).mono ?_
                   rintro e wf ⟨Sf, df, Of, zf, rfl, hsf, hof, hxf⟩
                   have EC := Lib.hid ((EC.out.alloc _).trans hxf))
              have HS6 := Lib.hid hsf
              have HO6 := Lib.hid hof
              obtain ⟨u0, u1, u2⟩ := (HT.out.ext EC.out).read2
              obtain ⟨v0, v1⟩ := (HT.out.ext EC.out).free2
              clear hsf hof hxf)))
      all_goals
        have HB6 := Lib.hid (HT.out.ext EC.out)
        have HX6 := Lib.hid (HXW.out.trans EC.out)
        go_wp2_with fail
        refine ret2_cell (k := w.heap.size + 1) (x := .slice Sf n df) (y := .int .i64 keep) (v := .tuple #[.agg #[.slice Sf n df, .int .i64 keep], .slice Of 1 zf]) ?hb4 (fun r0 r1 => by simp [results, Tryz.results28, go_sem, r0, r1]) rfl ?hx4
        case hb4 => exact HB6.out.set2 _ _
        case hx4 => rw [HRD.out]; exact ⟨Sf, df, Of, zf, rfl, HS6.out.boxed2 HB6.out _ _, HO6.out.boxed2 HB6.out _ _, HX6.out.store2 (by omega) _ _⟩
end Go.Proofs.YtbfbpddfcakieaaGreat
