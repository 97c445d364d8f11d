/- The walk of anew of package grow, of a node that is no leaf. -/
import Derived.Test.YtkoomcbiddanfaaGreatK22
namespace Go.Proofs.YtkoomcbiddanfaaGreat
open Go.RowKit
attribute [local go_sem ↓] Go.wp_at_zero Go.wp_at_succ

set_option maxRecDepth 100000 in
set_option maxHeartbeats 3200000 in
theorem growAnew_other (b n k i0 : Nat) (keep high : Int) (c c2 : List HC) (xs L2 : List It) (x : It) (w : World) (hB : HBd w b keep n c) (hk : k < c.length) (hlf : c[k].leaf = false) (hnd : ndR c[k].it = true) (hh : 1 ≤ high ∧ high ≤ 1000)
    (hi : atI false c[k].it x.1 = (i0 : Int)) (hi2 : i0 < c[k].it.length) (hl2 : L2.length ≤ 2) (hxs : withS c[k].it i0 1 L2 = xs)
    (hok : okS keep false (L2.map (·.2)) (splitS xs) c2) (hne : ∀ r ∈ splitS xs, 1 ≤ r.length ∧ r.length ≤ 4) (hr2 : (splitS xs).length ≤ 2)
    (hch : ∀ w', Ext w w' → Calls Tryz.prog 24 #[.pointer (some ⟨b, 0, none⟩), .int .i64 c[k].it[i0].2, .int .i64 (high - 1), .agg #[.int .i64 x.1, .int .i64 x.2]] w' fun e w2 => ∃ O z, e = .returned (.slice O L2.length z) ∧ Sl w2 O L2.length z (ivs L2) ∧ HBd w2 b keep n c2 ∧ Gx b keep w' w2) :
    Calls Tryz.prog 24 #[.pointer (some ⟨b, 0, none⟩), .int .i64 k, .int .i64 high, .agg #[.int .i64 x.1, .int .i64 x.2]] w fun e w' => ∃ O z, e = .returned (.slice O (splitS xs).length z) ∧ Sl w' O (splitS xs).length z (ivs (layS false (L2.map (·.2)) (splitS xs) c2).2) ∧ HBd w' b keep n (layS false (L2.map (·.2)) (splitS xs) c2).1 ∧ Gx b keep w w' := by
  obtain ⟨x1, x2⟩ := x
  simp only at hi hch
  show Calls Tryz.prog 24 #[.pointer (some ⟨b, 0, none⟩), .int .i64 k, .int .i64 high, .agg #[.int .i64 x1, .int .i64 x2]] w _
  have hlen : c[k].it.length ≤ 4 := ((ndR_iff _).1 hnd).1.2
  have hwl : (withS c[k].it i0 1 L2).length = i0 + L2.length + (c[k].it.length - (i0 + 1)) := by
    unfold withS; simp; omega
  rw [hxs] at hwl
  obtain ⟨W, hW⟩ : ∃ W, w.alloc (.cells #[.int .i64 x1, .int .i64 x2] 26) = W := ⟨_, rfl⟩
  obtain ⟨hx, hb0⟩ := allocs1 hW
  have HX := Lib.hid hx
  have HB0 := Lib.hid hb0
  have HCH := Lib.hid hch
  have HF := Lib.hid (fun w' (hx : Ext w w') => growFound_some b n k keep high c w' hh.1 (hB.ext hx) hk hnd)
  rw [hlf] at HF
  have HAT := Lib.hid (fun w' A cc (hI : Sl w' A c[k].it.length cc (ivs c[k].it)) => nodeAt_any false A c[k].it c[k].it.length cc x1 w' rfl hnd hI)
  rw [hi] at HAT
  have HGR := Lib.hid (fun w' A cc B d (hI : Sl w' A c[k].it.length cc (ivs c[k].it)) (hM : Sl w' B L2.length d (ivs L2)) => growGrown_at false (atB c[k].it x1) A B c[k].it L2 c[k].it.length L2.length cc d i0 1 x1 w' rfl rfl (by simp) (by omega) (by omega) (by omega) hI hM (fun w2 hx2 => by have h := nodeAt_any false A c[k].it c[k].it.length cc x1 w2 rfl hnd (hI.ext hx2); rw [hi] at h; exact h))
  rw [← hwl, hxs] at HGR
  have hxl : xs.length ≤ 1000 := by omega
  have HRO := Lib.hid (fun w' A cc H d (hB2 : HBd w' b keep n c2) (hI : Sl w' A xs.length cc (ivs xs)) (hH : Sl w' H L2.length d ((L2.map (·.2)).map iv)) => growRows_any b n keep c2 false H (L2.map (·.2)) L2.length d A xs xs.length cc w' hok hne hr2 hB2 rfl hxl hI (by rw [List.length_map]) (by omega) hH)
  have HGX := Lib.hid (fun w' (hx : Ext w w') => hB.gx hx)
  have HPL := Lib.hid (fun w' B d (hB : Sl w' B L2.length d (ivs L2)) => growPlaces_any B L2 L2.length d w' rfl (by omega) hB)
  have HIT := Lib.hid (fun w' A cc (hI : Sl w' A c[k].it.length cc (ivs c[k].it)) => it_at hI hi2)
  obtain ⟨b0, b1, b2⟩ := hb0.read2
  have hbl := hB.lt
  have HBL := Lib.hid hbl
  have hii : (i0 : Int) < (c[k].it.length : Int) := by omega
  have hii2 : i0 < c[k].it.length := hi2
  clear hx hb0 hok hne hr2 hB hch hlf hnd hi hxs hwl hl2 hxl hbl
  generalize c[k].it[i0].2 = V0 at *
  generalize c[k].it[i0].1 = K0 at *
  clear hi2
  generalize splitS xs = rows at *
  generalize (layS false (L2.map (·.2)) rows c2).1 = c3 at *
  generalize (layS false (L2.map (·.2)) rows c2).2 = L3 at *
  generalize rows.length = mr at *
  generalize xs.length = lx at *
  generalize atB c[k].it x1 = ab at *
  generalize c[k].it.length = li at *
  generalize c[k].it = it at *
  clear hk
  generalize L2.map (·.2) = vs2 at *
  generalize L2.length = l2 at *
  go_enter Tryz.func24, Tryz.ntmps24
  go_wp2_with (go_at_call 43; refine stop_here ?_)
  refine stop_on ?_
  refine (HF.out _ HX.out).mono ?_
  rintro e w1 ⟨A, cc, rfl, hI, hx1⟩
  have HX1 := Lib.hid (HX.out.trans hx1)
  have HC0 := Lib.hid (HB0.out.ext hx1)
  have HI1 := Lib.hid (hI.ext hx1)
  clear hx1 hI b0 b1 b2
  obtain ⟨b0, b1, b2⟩ := HC0.out.read2
  obtain ⟨W2, hW2⟩ : ∃ W2, (w1.alloc (.cells #[.bool false, .slice A li cc] 48)).alloc (.cells #[.int .i64 x1, .int .i64 x2] 26) = W2 := ⟨_, rfl⟩
  obtain ⟨hy, hbn, hbm⟩ := allocs2 hW2
  have HY := Lib.hid (HX1.out.trans hy)
  have HXB := Lib.hid (HC0.out.ext hy)
  have HND := Lib.hid hbn
  have HI2 := Lib.hid (HI1.out.ext hy)
  obtain ⟨n0r, n1r, n2r⟩ := hbn.read2
  obtain ⟨q0, q1, q2⟩ := HXB.out.read2
  have hal := (Ext.refl w1).alloc (.cells #[.bool false, .slice A li cc] 48)
  obtain ⟨pa0, pa1, pa2⟩ := (HC0.out.ext hal).read2
  have HNE1 := Lib.hid (show w.heap.size ≠ b from by have := HBL.out; omega)
  have HNE2 := Lib.hid (show w1.heap.size ≠ b from by have := HBL.out; have := HX1.out.size; omega)
  clear hy hbn hbm hal
  go_wp2_with (go_at_call 44; refine stop_here ?_)
  refine stop_on ?_
  refine (HAT.out _ _ _ HI2.out).mono ?_
  rintro e w3 ⟨rfl, hx3⟩
  have HX3 := Lib.hid (HY.out.trans hx3)
  have HXB3 := Lib.hid (HXB.out.ext hx3)
  have HND3 := Lib.hid (HND.out.ext hx3)
  have HI3 := Lib.hid (HI2.out.ext hx3)
  obtain ⟨bi, oi, rfl, hbi, -, kv⟩ := HIT.out w3 _ _ HI3.out
  clear hx3 b0 b1 b2 n0r n1r n2r q0 q1 q2 pa0 pa1 pa2 HXB HND HI2
  obtain ⟨q0, q1, q2⟩ := HXB3.out.read2
  obtain ⟨n0r, n1r, n2r⟩ := HND3.out.read2
  have hwr : IntKind.i64.wrap (high - 1) = high - 1 := by rw [IntKind.wrap_i64]; omega
  clear hh
  go_wp2_with fail
  go_region_law
    (first
      | ((go_simp
          go_at_call 24
          refine (HCH.out _ ?_).mono ?_
          (first | exact HX3.out | exact HX3.out.drew)
          rintro e w4 ⟨O4, z4, rfl, ho4, hb4, hg4⟩
          have HG4 := Lib.hid (show Gx b keep w3 w4 from by
            obtain ⟨g1, g2, g3, g4, g5, ⟨S, n', d', g6⟩, g7⟩ := hg4
            exact ⟨g1, g2, g3, g4, g5, ⟨S, n', d', g6⟩, g7⟩)
          have HO4 := Lib.hid ho4
          have HB4 := Lib.hid hb4
          clear ho4 hb4 hg4)))
  all_goals
    have HGW := Lib.hid ((HGX.out _ HX3.out).trans HG4.out)
    have HXB4 := Lib.hid (HG4.out.bx HXB3.out HNE1.out)
    have HND4 := Lib.hid (HG4.out.bx HND3.out HNE2.out)
    have HI4 := Lib.hid (HG4.out.its HI3.out)
    clear q0 q1 q2 n0r n1r n2r kv hbi
    obtain ⟨q0, q1, q2⟩ := HXB4.out.read2
    obtain ⟨n0r, n1r, n2r⟩ := HND4.out.read2
    have EC := Lib.hid (Ext.refl w4)
    go_wp2_with fail
    go_region_law
      (first
        | ((go_simp
            go_at_call 46
            refine (HPL.out _ _ _ (HO4.out.ext ?_)).mono ?_
            (first | exact EC.out | exact EC.out.drew)
            rintro e wd ⟨Sd, dd, rfl, hsd, hxd⟩
            have EC := Lib.hid (show Ext w4 wd from by first | exact EC.out.trans hxd | exact EC.out.drew.trans hxd)
            have HVa := Lib.hid hsd
            (try (have HSa := Lib.hid (HSa.out.ext hxd)))
            obtain ⟨q0, q1, q2⟩ := (HXB4.out.ext EC.out).read2
            obtain ⟨n0r, n1r, n2r⟩ := (HND4.out.ext EC.out).read2
            clear hsd hxd))
        | ((go_simp
            go_at_call 47
            refine (HGR.out _ _ _ _ _ (HI4.out.ext ?_) (HO4.out.ext ?_)).mono ?_
            (first | exact EC.out | exact EC.out.drew)
            (first | exact EC.out | exact EC.out.drew)
            rintro e wa ⟨Sa, da, rfl, hsa, hxa⟩
            have EC := Lib.hid (show Ext w4 wa from by first | exact EC.out.trans hxa | exact EC.out.drew.trans hxa)
            have HSa := Lib.hid hsa
            (try (have HVa := Lib.hid (HVa.out.ext hxa)))
            obtain ⟨q0, q1, q2⟩ := (HXB4.out.ext EC.out).read2
            obtain ⟨n0r, n1r, n2r⟩ := (HND4.out.ext EC.out).read2
            clear hsa hxa))
        | ((go_simp
            go_at_call 45
            refine (HRO.out _ _ _ _ _ (HB4.out.ext EC.out) HSa.out HVa.out).mono ?_
            rintro e wf ⟨Of, zf, rfl, hof, hbf, hgf⟩
            have HO6 := Lib.hid hof
            have HB6 := Lib.hid hbf
            have HG6 := Lib.hid ((HGW.out.ext EC.out).trans hgf)
            clear hof hbf hgf)))
    all_goals
      go_wp2_with fail
      go_ret
      exact ⟨Of, zf, rfl, HO6.out, HB6.out, HG6.out⟩
end Go.Proofs.YtkoomcbiddanfaaGreat
