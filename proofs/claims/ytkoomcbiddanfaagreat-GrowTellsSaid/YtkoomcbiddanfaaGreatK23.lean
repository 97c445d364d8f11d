/- The walk of anew of package grow, of a leaf (or of no tree). -/
import Derived.Test.YtkoomcbiddanfaaGreatK22
namespace Go.Proofs.YtkoomcbiddanfaaGreat
open Go.RowKit
attribute [local go_sem ↓] Go.wp_at_zero Go.wp_at_succ

set_option maxRecDepth 100000 in
set_option maxHeartbeats 3200000 in
theorem growAnew_leaf (b n n0 : Nat) (keep p high : Int) (c : List HC) (it xs : List It) (x : It) (w : World) (hB : HBd w b keep n c) (hok : okS keep true [x.2] (splitS xs) c) (hne : ∀ r ∈ splitS xs, 1 ≤ r.length ∧ r.length ≤ 4) (hr2 : (splitS xs).length ≤ 2) (hx1 : xs.length ≤ 1000)
    (hf : ∀ w', Ext w w' → Calls Tryz.prog 43 #[.pointer (some ⟨b, 0, none⟩), .int .i64 p, .int .i64 high] w' fun e w2 => ∃ A cc, e = .returned (.agg #[.bool true, .slice A n0 cc]) ∧ Sl w' A n0 cc (ivs it) ∧ Ext w' w2)
    (hg : ∀ w' A cc B d, Sl w' A n0 cc (ivs it) → Sl w' B 1 d (ivs [x]) → Calls Tryz.prog 47 #[.agg #[.bool true, .slice A n0 cc], .int .i64 x.1, .slice B 1 d] w' fun e w2 => ∃ R q, e = .returned (.slice R xs.length q) ∧ Sl w2 R xs.length q (ivs xs) ∧ Ext w' w2) :
    Calls Tryz.prog 24 #[.pointer (some ⟨b, 0, none⟩), .int .i64 p, .int .i64 high, .agg #[.int .i64 x.1, .int .i64 x.2]] w fun e w' => ∃ O z, e = .returned (.slice O (splitS xs).length z) ∧ Sl w' O (splitS xs).length z (ivs (layS true [x.2] (splitS xs) c).2) ∧ HBd w' b keep n (layS true [x.2] (splitS xs) c).1 ∧ Gx b keep w w' := by
  obtain ⟨x1, x2⟩ := x
  simp only at hok hg
  show Calls Tryz.prog 24 #[.pointer (some ⟨b, 0, none⟩), .int .i64 p, .int .i64 high, .agg #[.int .i64 x1, .int .i64 x2]] w _
  obtain ⟨W, hW⟩ : ∃ W, w.alloc (.cells #[.int .i64 x1, .int .i64 x2] 26) = W := ⟨_, rfl⟩
  obtain ⟨hx, hb0⟩ := allocs1 hW
  have HX := Lib.hid hx
  have HB0 := Lib.hid hb0
  have HF := Lib.hid hf
  have HGR := Lib.hid hg
  have HRO := Lib.hid (fun w' A cc H d (hx : Ext w w') (hI : Sl w' A xs.length cc (ivs xs)) (hH : Sl w' H 1 d ([x2].map iv)) => growRows_any b n keep c true H [x2] 1 d A xs xs.length cc w' hok hne hr2 (hB.ext hx) rfl hx1 hI rfl (by omega) hH)
  have HGX := Lib.hid (fun w' (hx : Ext w w') => hB.gx hx)
  have HPL := Lib.hid (fun w' B d (hB : Sl w' B 1 d (ivs [(x1, x2)])) => growPlaces_any B [(x1, x2)] 1 d w' rfl (by omega) hB)
  obtain ⟨b0, b1, b2⟩ := hb0.read2
  clear hx hb0 hok hne hr2 hx1 hf hg hB
  generalize splitS xs = rows at *
  generalize (layS true [x2] rows c).1 = c3 at *
  generalize (layS true [x2] rows c).2 = L3 at *
  generalize rows.length = mr at *
  generalize xs.length = lx at *
  go_enter Tryz.func24, Tryz.ntmps24
  go_wp2_with (go_at_call 43; refine stop_here ?_)
  refine stop_on ?_
  refine (HF.out _ HX.out).mono ?_
  rintro e w1 ⟨A, cc, rfl, hI, hx1⟩
  have HX1 := Lib.hid (HX.out.trans hx1)
  have HC0 := Lib.hid (HB0.out.ext hx1)
  have HI1 := Lib.hid (hI.ext hx1)
  clear hx1 hI b0 b1 b2
  obtain ⟨b0, b1, b2⟩ := HC0.out.read2
  obtain ⟨W2, hW2⟩ : ∃ W2, (w1.alloc (.cells #[.bool true, .slice A n0 cc] 48)).alloc (.cells #[.int .i64 x1, .int .i64 x2] 26) = W2 := ⟨_, rfl⟩
  obtain ⟨hy, hbn, hbm⟩ := allocs2 hW2
  have HY := Lib.hid (HX1.out.trans hy)
  have HXB := Lib.hid (HC0.out.ext hy)
  have HND := Lib.hid hbn
  have HI2 := Lib.hid (HI1.out.ext hy)
  have HM2 := Lib.hid (show Sl W2 (some ⟨w1.heap.size + 1, 0, none⟩) 1 1 (ivs [(x1, x2)]) from by rw [← hW2]; exact sl_lit' (by simp) _ 1 _ (by unfold maxLen; omega))
  obtain ⟨n0r, n1r, n2r⟩ := hbn.read2
  obtain ⟨q0, q1, q2⟩ := HXB.out.read2
  have hal := (Ext.refl w1).alloc (.cells #[.bool true, .slice A n0 cc] 48)
  obtain ⟨pa0, pa1, pa2⟩ := (HC0.out.ext hal).read2
  clear hy hbn hbm hal
  have EC := Lib.hid (Ext.refl W2)
  go_wp2_with fail
  go_region_law
    (first
      | ((go_simp
          go_at_call 46
          refine (HPL.out _ _ _ (HM2.out.ext ?_)).mono ?_
          (first | exact EC.out | exact EC.out.drew)
          rintro e wd ⟨Sd, dd, rfl, hsd, hxd⟩
          have EC := Lib.hid (show Ext W2 wd from by first | exact EC.out.trans hxd | exact EC.out.drew.trans hxd)
          have HVa := Lib.hid hsd
          (try (have HSa := Lib.hid (HSa.out.ext hxd)))
          obtain ⟨q0, q1, q2⟩ := (HXB.out.ext EC.out).read2
          obtain ⟨n0r, n1r, n2r⟩ := (HND.out.ext EC.out).read2
          clear hsd hxd))
      | ((go_simp
          go_at_call 47
          refine (HGR.out _ _ _ _ _ (HI2.out.ext ?_) (HM2.out.ext ?_)).mono ?_
          (first | exact EC.out | exact EC.out.drew)
          (first | exact EC.out | exact EC.out.drew)
          rintro e wa ⟨Sa, da, rfl, hsa, hxa⟩
          have EC := Lib.hid (show Ext W2 wa from by first | exact EC.out.trans hxa | exact EC.out.drew.trans hxa)
          have HSa := Lib.hid hsa
          (try (have HVa := Lib.hid (HVa.out.ext hxa)))
          obtain ⟨q0, q1, q2⟩ := (HXB.out.ext EC.out).read2
          obtain ⟨n0r, n1r, n2r⟩ := (HND.out.ext EC.out).read2
          clear hsa hxa))
      | ((go_simp
          go_at_call 45
          refine (HRO.out _ _ _ _ _ (HY.out.trans EC.out) HSa.out HVa.out).mono ?_
          rintro e wf ⟨Of, zf, rfl, hof, hbf, hgf⟩
          have HO6 := Lib.hid hof
          have HB6 := Lib.hid hbf
          have HG6 := Lib.hid ((HGX.out _ (HY.out.trans EC.out)).trans hgf)
          clear hof hbf hgf)))
  all_goals
    go_wp2_with fail
    go_ret
    exact ⟨Of, zf, rfl, HO6.out, HB6.out, HG6.out⟩
end Go.Proofs.YtkoomcbiddanfaaGreat
