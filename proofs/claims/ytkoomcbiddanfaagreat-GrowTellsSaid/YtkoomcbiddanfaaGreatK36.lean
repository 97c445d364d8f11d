/- The walk of anew of the reference of layer 9, of a node that is no leaf. -/
import Derived.Test.YtkoomcbiddanfaaGreatK35
namespace Go.Proofs.YtkoomcbiddanfaaGreat
open Go.RowKit
attribute [local go_sem ↓] Go.wp_at_zero Go.wp_at_succ

set_option maxRecDepth 100000 in
set_option maxHeartbeats 6400000 in
theorem anew_walk_other (R : Option Addr) (c : List HC) (n q k : Nat) (keep : Int) (x : It) (i0 : Nat) (xs : List It) (c2 : List HC) (L2 : List It) (w : World) (hk : k < c.length) (hb : n ≤ 90000) (hA : HcSl w R n q c) (hlf : c[k].leaf = false) (hnd : ndR c[k].it = true)
    (hi : atI false c[k].it x.1 = (i0 : Int)) (hi2 : i0 < c[k].it.length) (hl2 : 1 ≤ L2.length ∧ L2.length ≤ 2) (hs : ∀ k (hk : k < c2.length), c2[k].ref ≤ 2000000) (hxs : withS c[k].it i0 1 L2 = xs) (h1 : 1 ≤ xs.length) (h5 : xs.length ≤ 5)
    (hch : ∀ w', Ext w w' → Calls Tryz.prog 30 #[.agg #[.slice R n q, .int .i64 keep], .int .i64 c[k].it[i0].2, .agg #[.int .i64 x.1, .int .i64 x.2]] w' fun e w2 => ∃ S d O z, e = .returned (.tuple #[.agg #[.slice S n d, .int .i64 keep], .slice O L2.length z]) ∧ HcSl w2 S n d c2 ∧ Sl w2 O L2.length z (ivs L2) ∧ Ext w' w2) :
    Calls Tryz.prog 30 #[.agg #[.slice R n q, .int .i64 keep], .int .i64 k, .agg #[.int .i64 x.1, .int .i64 x.2]] w fun e w' => ∃ S d O z, e = .returned (.tuple #[.agg #[.slice S n d, .int .i64 keep], .slice O (splitS xs).length z]) ∧ HcSl w' S n d (layS false (L2.map (·.2)) (splitS xs) c2).1 ∧ Sl w' O (splitS xs).length z (ivs (layS false (L2.map (·.2)) (splitS xs) c2).2) ∧ Ext w w' := by
  obtain ⟨W, hW⟩ : ∃ W, W = ((w.alloc (.cells #[.slice R n q, .int .i64 keep] 24)).alloc (.cells #[.int .i64 x.1, .int .i64 x.2] 26)).alloc (.cells #[.slice none 0 0, .int .i64 0] 24) := ⟨_, rfl⟩
  obtain ⟨hx, hb0, hb1, hb2⟩ := allocs3 hW.symm
  have hsz : W.heap.size = w.heap.size + 1 + 1 + 1 := by rw [hW]; simp
  have hn := hA.1
  obtain ⟨b, off, rfl, hbl, A, ca, r0, r1, r2, r3, hI⟩ := (hA.ext hx).cell hk
  rw [hlf] at r2
  obtain ⟨s1, s2, s3, s4⟩ := split_rows h1 h5
  have HX := Lib.hid hx
  have HSZ := Lib.hid hsz
  have HB0 := Lib.hid hb0
  have HB1 := Lib.hid hb1
  have HB2 := Lib.hid hb2
  have HCH := Lib.hid hch
  have hwl : (withS c[k].it i0 1 L2).length = i0 + L2.length + (c[k].it.length - (i0 + 1)) := by
    unfold withS; simp; omega
  rw [hxs] at hwl
  have hlen : c[k].it.length ≤ 4 := ((ndR_iff _).1 hnd).1.2
  have HBD := Lib.hid (lay_bd (leaf := false) (held := L2.map (·.2)) (rows := splitS xs) (l := c2) (B := 2000000) (by omega) (by rw [s1]; omega) hs)
  have HNE := Lib.hid (show ∀ j (hj : j < (splitS xs).length), 1 ≤ (splitS xs)[j].length from fun j hj => (s2 _ (List.getElem_mem hj)).1)
  have HLAY := Lib.hid (fun S d w' P z H t (hA : HcSl w' S n d c2) (hP : RowsSl w' P (splitS xs).length z (splitS xs)) (hH : Sl w' H L2.length t ((L2.map (·.2)).map iv)) => ref09Lay_any S c2 n d keep false P (splitS xs) (splitS xs).length z H (L2.map (·.2)) L2.length t w' hb (by omega) HBD.out HNE.out hA hP (by rw [List.length_map]) hH)
  have HAT := Lib.hid (fun w' (hx2 : Ext W w') => ref04At_any false A c[k].it c[k].it.length ca x.1 w' rfl hnd (hI.ext hx2))
  have HWI := Lib.hid (fun w' B d (hx2 : Ext W w') (hB : Sl w' B L2.length d (ivs L2)) => ref04With_any A B c[k].it L2 c[k].it.length L2.length ca d i0 1 w' rfl rfl (by omega) (by omega) (by omega) (by omega) (hI.ext hx2) hB)
  have HSP := Lib.hid (fun w' B d (hB : Sl w' B xs.length d (ivs xs)) => ref04Split_rows B xs xs.length d w' rfl (by omega) hB)
  have HV := Lib.hid (fun w' B d (hB : Sl w' B L2.length d (ivs L2)) => ref09V_any B L2 L2.length d w' rfl (by omega) hB)
  rw [hi] at HAT
  simp only [hxs, ← hwl] at HWI
  obtain ⟨bi, oi, rfl, hbi, -, kv⟩ := it_at hI hi2
  have hki : (k : Int) < (n : Int) := by omega
  have hkn : k < n := by omega
  generalize c[k].it[i0].2 = V0 at *
  clear hA hx hb0 hb1 hb2 hsz hwl hs hnd hi hxs s1 s2 s3 s4 hlf HBD HNE hch hI
  have hii : (i0 : Int) < (c[k].it.length : Int) := by omega
  generalize splitS xs = rows at *
  generalize c[k].it.length = li at *
  generalize atB c[k].it x.1 = ab at *
  generalize c[k].ref = rf at *
  generalize c[k].pin = pn at *
  generalize (layS false (L2.map (·.2)) rows c2).1 = c3 at *
  generalize (layS false (L2.map (·.2)) rows c2).2 = L3 at *
  clear hk r0 r1 hn
  subst hW
  obtain ⟨p0, p1, p2⟩ := HB0.out.read2
  obtain ⟨x0, x1, x2⟩ := HB1.out.read2
  go_enter Tryz.func30, Tryz.ntmps30
  go_wp2_with (go_at_call 55; refine stop_here ?_)
  refine stop_on ?_
  generalize hW : World.alloc (World.alloc (World.alloc w _) _) _ = W at *
  clear hW
  have hx3 : Ext W (W.alloc (.cells #[.bool false, .slice (some ⟨bi, oi, none⟩) li ca] 48)) := (Ext.refl W).alloc _
  have hbn := Bx.new W #[.bool false, .slice (some ⟨bi, oi, none⟩) li ca] 48
  rw [HSZ.out] at hbn
  refine (HAT.out _ hx3).mono ?_
  rintro e w1 ⟨rfl, hx4⟩
  have HN := Lib.hid (hbn.ext hx4)
  have hx5 := hx3.trans hx4
  have HX1 := Lib.hid hx5
  have HC0 := Lib.hid (HB0.out.ext hx5)
  have HC1 := Lib.hid (HB1.out.ext hx5)
  have HC2 := Lib.hid (HB2.out.ext hx5)
  have kv1 := (hx5.cell (p := ⟨bi, oi + i0 * 2 + 1, none⟩) hbi).trans kv
  have hws := hx5.size
  have hbw : bi < w1.heap.size := by omega
  clear hx3 hbn hx4 hx5 p0 p1 p2 x0 x1 x2 r2 r3 hbl kv hws
  obtain ⟨p0, p1, p2⟩ := HC0.out.read2
  obtain ⟨x0, x1, x2⟩ := HC1.out.read2
  obtain ⟨n0, n1, n2⟩ := HN.out.read2
  have hal := (Ext.refl w1).alloc (.cells #[.slice none 0 0, .int .i64 0] 24)
  have ka := (hal.cell (p := ⟨bi, oi + i0 * 2 + 1, none⟩) hbw).trans kv1
  obtain ⟨pa0, pa1, pa2⟩ := (HC0.out.ext hal).read2
  obtain ⟨xa0, xa1, xa2⟩ := (HC1.out.ext hal).read2
  obtain ⟨na0, na1, na2⟩ := (HN.out.ext hal).read2
  clear hal
  go_wp2_with fail
  have HKV := Lib.hid (And.intro kv1 hbw)
  go_cut [12, 13] from 42 to 53 (fun v u wx => ∃ X S' d' O' z', v = .pointer (some ⟨X, 0, none⟩) ∧ u = .slice O' L2.length z' ∧ Bx wx X #[.slice S' n d', .int .i64 keep] ∧ HcSl wx S' n d' c2 ∧ Sl wx O' L2.length z' (ivs L2) ∧ Ext w1 wx)
  case first =>
    go_region_law
      (first
        | ((go_simp
            go_at_call 30
            refine (HCH.out _ ?_).mono ?_
            (first | exact (HX.out.trans HX1.out).drew | exact ((HX.out.trans HX1.out).alloc _).drew | exact ((HX.out.trans HX1.out).drew).alloc _ | exact (HX.out.trans HX1.out))
            rintro e w4 ⟨S4, d4, O4, z4, rfl, hs4, ho4, hx4⟩
            have E4 := Lib.hid (show Ext w1 w4 from by first | exact (Ext.refl _).drew.trans hx4 | exact (((Ext.refl _).drew).alloc _).trans hx4 | exact (((Ext.refl _).alloc _).drew).trans hx4 | exact hx4)
            have N4 := Lib.hid hs4
            have O4H := Lib.hid ho4
            (try (have B4 := Lib.hid (show Bx w4 w1.heap.size #[.slice none 0 0, .int .i64 0] from (Bx.new w1.drew _ _).ext hx4); have f0 := B4.out.free 0; have f1 := B4.out.free 1; have z1 := B4.out.lt; have q0 : w4.cell? ⟨w1.heap.size, 0, none⟩ = some (.slice none 0 0) := B4.out.at 0 _ rfl; have q1 : w4.cell? ⟨w1.heap.size, 1, none⟩ = some (.int .i64 0) := B4.out.at 1 _ rfl))
            clear hs4 ho4 hx4)))
    all_goals
      go_wp2_with fail
      go_meet
      first
      | exact ⟨_, S4, d4, O4, z4, rfl, rfl, Bx.new _ _ _, N4.out.ext ((Ext.refl _).alloc _), O4H.out.ext ((Ext.refl _).alloc _), E4.out.alloc _⟩
      | exact ⟨_, S4, d4, O4, z4, rfl, rfl, B4.out.set2 _ _, N4.out.boxed2 B4.out _ _, O4H.out.boxed2 B4.out _ _, E4.out.store2 (Nat.le_refl _) _ _⟩
  case rest =>
    obtain ⟨X, S4, d4, O4, z4, rfl, rfl, hbx, hs4, ho4, hx4⟩ := hcut
    have HS4 := Lib.hid hs4
    have HO4 := Lib.hid ho4
    have HXC := Lib.hid (HX1.out.trans hx4)
    have HBX := Lib.hid hbx
    have HND := Lib.hid (HN.out.ext hx4)
    have HT := Lib.hid (HC2.out.ext hx4)
    clear hs4 ho4 hbx hx4 p0 p1 p2 x0 x1 x2 n0 n1 n2 ka pa0 pa1 pa2 xa0 xa1 xa2 na0 na1 na2 kv1 hbw HKV hii
    obtain ⟨p0, p1, p2⟩ := HBX.out.read2
    obtain ⟨n0, n1, n2⟩ := HND.out.read2
    obtain ⟨t0, t1, t2⟩ := HT.out.read2
    have EC := Lib.hid (Ext.refl wc)
    go_wp2_with fail
    go_region_law
      (first
        | ((go_simp
            go_at_call 58
            refine (HWI.out _ _ _ (HXC.out.trans ?_) (HO4.out.ext ?_)).mono ?_
            (first | exact EC.out | exact EC.out.drew)
            (first | exact EC.out | exact EC.out.drew)
            rintro e wa ⟨Sa, da, rfl, hsa, hxa⟩
            have EC := Lib.hid (show Ext wc wa from by first | exact EC.out.trans hxa | exact EC.out.drew.trans hxa)
            have HSa := Lib.hid hsa
            (try (have HVa := Lib.hid (HVa.out.ext hxa)))
            obtain ⟨p0, p1, p2⟩ := (HBX.out.ext EC.out).read2
            clear hsa hxa))
        | ((go_simp
            go_at_call 57
            refine (HSP.out _ Sa da HSa.out).mono ?_
            rintro e wb ⟨Sb, db, rfl, hsb, hxb⟩
            have EC := Lib.hid (EC.out.trans hxb)
            have HRa := Lib.hid hsb
            (try (have HVa := Lib.hid (HVa.out.ext hxb)))
            obtain ⟨p0, p1, p2⟩ := (HBX.out.ext EC.out).read2
            clear hsb hxb))
        | ((go_simp
            go_at_call 33
            refine (HV.out _ _ _ (HO4.out.ext ?_)).mono ?_
            (first | exact EC.out | exact EC.out.drew)
            rintro e wd ⟨Sd, dd, rfl, hsd, hxd⟩
            have EC := Lib.hid (show Ext wc wd from by first | exact EC.out.trans hxd | exact EC.out.drew.trans hxd)
            have HVa := Lib.hid hsd
            (try (have HSa := Lib.hid (HSa.out.ext hxd)))
            (try (have HRa := Lib.hid (HRa.out.ext hxd)))
            obtain ⟨p0, p1, p2⟩ := (HBX.out.ext EC.out).read2
            obtain ⟨n0, n1, n2⟩ := (HND.out.ext EC.out).read2
            clear hsd hxd))
        | ((go_simp
            go_at_call 56
            refine (HLAY.out _ _ _ _ _ _ _ (HS4.out.ext EC.out) HRa.out HVa.out).mono ?_
            rintro e wf ⟨Sf, df, Of, zf, rfl, hsf, hof, hxf⟩
            have EC := Lib.hid (EC.out.trans hxf)
            have HS6 := Lib.hid hsf
            have HO6 := Lib.hid hof
            obtain ⟨u0, u1, u2⟩ := (HT.out.ext EC.out).read2
            obtain ⟨v0, v1⟩ := (HT.out.ext EC.out).free2
            clear hsf hof hxf)))
    all_goals
      have HB6 := Lib.hid (HT.out.ext EC.out)
      have HX6 := Lib.hid ((HX.out.trans HXC.out).trans EC.out)
      go_wp2_with fail
      refine ret2_cell (k := w.heap.size + 1 + 1) (x := .slice Sf n df) (y := .int .i64 keep) (v := .tuple #[.agg #[.slice Sf n df, .int .i64 keep], .slice Of rows.length zf]) ?hb4 (fun r0 r1 => by simp [results, Tryz.results30, go_sem, r0, r1]) rfl ?hx4
      case hb4 => exact HB6.out.set2 _ _
      case hx4 => exact ⟨Sf, df, Of, zf, rfl, HS6.out.boxed2 HB6.out _ _, HO6.out.boxed2 HB6.out _ _, HX6.out.store2 (by omega) _ _⟩
end Go.Proofs.YtkoomcbiddanfaaGreat
