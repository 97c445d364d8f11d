/- The walk of the closure of package prune that makes a node anew, of a node that is no leaf. -/
import Derived.Test.YtbfbpddfcakieaaGreatK25
namespace Go.Proofs.YtbfbpddfcakieaaGreat
open Go.RowKit
attribute [local go_sem ↓] Go.wp_at_zero Go.wp_at_succ

set_option maxRecDepth 100000 in
set_option maxHeartbeats 3200000 in
theorem pruneAnew_other (b bk bf be n k i0 : Nat) (keep key : Int) (c c2 : List HC) (xs L2 : List It) (w : World) (hC : Cl w b bk bf be n keep key c) (hk : k < c.length) (hlf : c[k].leaf = false) (hnd : ndR c[k].it = true)
    (hi : atI false c[k].it key = (i0 : Int)) (hi2 : i0 < c[k].it.length) (hl2 : L2.length ≤ 1) (hxs : withS c[k].it i0 1 L2 = xs) (hok : okS keep false (L2.map (·.2)) (rowD xs) c2)
    (hch : ∀ w', Ext w w' → Calls Tryz.prog 45 #[.int .i64 c[k].it[i0].2, .pointer (some ⟨b, 0, none⟩), .pointer (some ⟨bk, 0, none⟩), .pointer (some ⟨bf, 0, none⟩), .pointer (some ⟨be, 0, none⟩)] w' fun e w2 => ∃ O z, e = .returned (.slice O L2.length z) ∧ Sl w2 O L2.length z (ivs L2) ∧ HB2 w2 b keep n c2 ∧ Hx b keep w' w2) :
    Calls Tryz.prog 45 #[.int .i64 k, .pointer (some ⟨b, 0, none⟩), .pointer (some ⟨bk, 0, none⟩), .pointer (some ⟨bf, 0, none⟩), .pointer (some ⟨be, 0, none⟩)] w fun e w' => ∃ O z, e = .returned (.slice O (rowD xs).length z) ∧ Sl w' O (rowD xs).length z (ivs (layS false (L2.map (·.2)) (rowD xs) c2).2) ∧ HB2 w' b keep n (layS false (L2.map (·.2)) (rowD xs) c2).1 ∧ Hx b keep w w' := by
  have HC := Lib.hid hC
  have hgx := hC.h.refl
  have hnl := hC.h.len
  have hblt := hC.h.lt
  obtain ⟨R, q, hb0, hA⟩ := hC.h
  obtain ⟨bb, off, rfl, hbl, A, ca, r0, r1, r2, r3, hI⟩ := hA.cell hk
  rw [hlf] at r2
  have hlen : c[k].it.length ≤ 4 := ((ndR_iff _).1 hnd).1.2
  have hwl : (withS c[k].it i0 1 L2).length = i0 + L2.length + (c[k].it.length - (i0 + 1)) := by
    unfold withS; simp; omega
  rw [hxs] at hwl
  have h4 : xs.length ≤ 10 := by omega
  have HCH := Lib.hid hch
  have HI := Lib.hid hI
  have HAT := Lib.hid (fun w' (hx2 : Ext w w') => nodeAt_any false A c[k].it c[k].it.length ca key w' rfl hnd (hI.ext hx2))
  have HWI := Lib.hid (fun w' B d (hI : Sl w' A c[k].it.length ca (ivs c[k].it)) (hB : Sl w' B L2.length d (ivs L2)) => nodeWith_any A B c[k].it L2 c[k].it.length L2.length ca d i0 1 w' rfl rfl (by omega) (by omega) (by omega) (by omega) hI hB)
  have HPL := Lib.hid (fun w' B d (hB : Sl w' B L2.length d (ivs L2)) => prunePlaces_any B L2 L2.length d w' rfl (by omega) hB)
  have HAL := Lib.hid (fun w' S d' Q d H t (hA : HcSl w' S n d' c2) (h1 : 1 ≤ xs.length) (hQ : Sl w' Q xs.length d (ivs xs)) (hH : Sl w' H L2.length t ((L2.map (·.2)).map iv)) => heapAlloc_right S c2 n d' keep w' false Q xs xs.length d H (L2.map (·.2)) L2.length t (by
    have hrd : rowD xs = [xs] := by unfold rowD; rw [if_neg (by omega)]
    rw [hrd] at hok
    exact hok.1) h4 (by omega) hA rfl hQ (by rw [List.length_map]) hH)
  have HE := Lib.hid (fun (h1 : 1 ≤ xs.length) => show allocE c2 false xs = 0 from by
    have hrd : rowD xs = [xs] := by unfold rowD; rw [if_neg (by omega)]
    rw [hrd] at hok
    exact hok.2.1)
  rw [hi] at HAT
  simp only [hxs, ← hwl] at HWI
  have hki : (k : Int) < (n : Int) := by omega
  have hkn : k < n := by omega
  have k0 := hC.k.at 0 _ rfl
  obtain ⟨p0, p1, p2⟩ := hb0.read2
  obtain ⟨bi, oi, rfl, hbi, -, kv⟩ := it_at hI hi2
  have hii : (i0 : Int) < (c[k].it.length : Int) := by omega
  generalize c[k].it[i0].2 = V0 at *
  obtain ⟨u, hu⟩ : ∃ u, xs.length = u := ⟨_, rfl⟩
  rw [hu] at h4
  simp only [hu] at HWI HAL HE
  have HU := Lib.hid hu
  obtain ⟨W, hW⟩ : ∃ W, w.alloc (.cells #[.bool false, .slice (some ⟨bi, oi, none⟩) c[k].it.length ca] 51) = W := ⟨_, rfl⟩
  obtain ⟨hx1, hbn⟩ := allocs1 hW
  have HX1 := Lib.hid hx1
  have HN := Lib.hid hbn
  obtain ⟨n0, n1, n2⟩ := hbn.read2
  have k1 := (hC.k.ext hx1).at 0 _ rfl
  have HGX := Lib.hid hgx
  have HKV := Lib.hid (And.intro kv hbi)
  have HNE := Lib.hid (show w.heap.size ≠ b by omega)
  clear hA hI hwl hnd hi hxs hlf hok hu hC hgx hnl hb0 hx1 hbn hch hl2 kv hbi hblt
  generalize c[k].it.length = li at *
  generalize atB c[k].it key = ab at *
  generalize c[k].ref = rf at *
  generalize c[k].pin = pn at *
  generalize c[k].it = it at *
  clear hk r0 r1
  generalize L2.map (·.2) = vs2 at *
  generalize L2.length = l2 at *
  go_enter Tryz.func45, Tryz.ntmps45
  go_wp2_with (go_at_call 46; refine stop_here ?_)
  refine stop_on ?_
  refine (HAT.out _ HX1.out).mono ?_
  rintro e w1 ⟨rfl, hx2⟩
  have HX2 := Lib.hid (HX1.out.trans hx2)
  have HN2 := Lib.hid (HN.out.ext hx2)
  clear hx2 n0 n1 n2 k0 k1 p0 p1 p2 r2 r3
  obtain ⟨n0, n1, n2⟩ := HN2.out.read2
  have kv := (HX2.out.cell (p := ⟨bi, oi + i0 * 2 + 1, none⟩) HKV.out.2).trans HKV.out.1
  have f0 := (HC.out.f.ext HX2.out).at 0 _ rfl
  go_wp2_with fail
  go_region_law
    (first
      | ((go_simp
          go_at_call 45
          refine (HCH.out _ ?_).mono ?_
          (first | exact HX2.out | exact HX2.out.drew)
          rintro e w4 ⟨O4, z4, rfl, ho4, hb4, hg4⟩
          have HG4 := Lib.hid (show Hx b keep w1 w4 from by
            obtain ⟨g1, g2, g3, g4, g5, ⟨S, n', d', g6⟩, g7⟩ := hg4
            exact ⟨g1, g2, g3, g4, g5, ⟨S, n', d', g6⟩, g7⟩)
          have HO4 := Lib.hid ho4
          have HB4 := Lib.hid hb4
          clear ho4 hb4 hg4)))
  all_goals
    have HGW := Lib.hid ((HGX.out.ext HX2.out).trans HG4.out)
    have HC4 := Lib.hid ((HC.out.ext HX2.out).on HG4.out HB4.out)
    have HN4 := Lib.hid (HG4.out.bx HN2.out HNE.out)
    have HI4 := Lib.hid (HG4.out.its (HI.out.ext HX2.out))
    clear n0 n1 n2 kv f0
    obtain ⟨n0, n1, n2⟩ := HN4.out.read2
    go_wp2_with (go_at_call 47; refine stop_here ?_)
    refine stop_on ?_
    refine (HWI.out _ _ _ HI4.out HO4.out).mono ?_
    rintro e wc ⟨S4, d4, rfl, hs4, hxc⟩
    have HXC := Lib.hid hxc
    have HND := Lib.hid (HN4.out.ext hxc)
    have HS4 := Lib.hid hs4
    have HCC := Lib.hid (HC4.out.ext HXC.out)
    have HO5 := Lib.hid (HO4.out.ext hxc)
    have HGC := Lib.hid (HGW.out.ext hxc)
    clear hs4 hxc n0 n1 n2
    obtain ⟨n0, n1, n2⟩ := HND.out.read2
    have e0 := HCC.out.e.at 0 _ rfl
    rcases Nat.eq_zero_or_pos u with h0 | h0
    · subst h0
      obtain rfl : xs = [] := List.eq_nil_of_length_eq_zero HU.out
      clear HAL HE HPL
      go_wp2_with fail
      go_ret
      exact ⟨none, 0, rfl, Sl.nil _, HCC.out.h, HGC.out⟩
    · have e1 : ((u : Int) == 0) = false := by rw [beq_eq_false_iff_ne]; omega
      have hrd : rowD xs = [xs] := by unfold rowD; rw [if_neg (by rw [HU.out]; omega)]
      have HRD := Lib.hid hrd
      have hE := HE.out h0
      rw [hE] at HAL
      obtain ⟨S2, q2, hb2, hc2⟩ := HCC.out.h
      have HBB := Lib.hid hb2
      have HC2 := Lib.hid hc2
      obtain ⟨p0, p1, p2⟩ := hb2.read2
      have hxl : 0 < xs.length := by rw [HU.out]; exact h0
      have HX0 := Lib.hid (show firstK xs = xs[0].1 from by cases xs with
        | nil => simp at hxl
        | cons y r => rfl)
      have EC := Lib.hid (Ext.refl wc)
      clear hrd hE hb2 hc2
      go_wp2_with fail
      go_region_law
        (first
          | ((go_simp
              go_at_call 49
              refine (HPL.out _ _ _ (HO5.out.ext ?_)).mono ?_
              (first | exact EC.out | exact EC.out.drew)
              rintro e wd ⟨Sd, dd, rfl, hsd, hxd⟩
              have EC := Lib.hid (show Ext wc wd from by first | exact EC.out.trans hxd | exact EC.out.drew.trans hxd)
              have HVa := Lib.hid hsd
              obtain ⟨p0, p1, p2⟩ := (HBB.out.ext EC.out).read2
              obtain ⟨n0, n1, n2⟩ := (HND.out.ext EC.out).read2
              clear hsd hxd))
          | ((go_simp
              go_at_call 48
              refine (HAL.out _ _ _ _ _ _ _ (HC2.out.ext EC.out) h0 (HS4.out.ext EC.out) HVa.out).mono ?_
              rintro e wf ⟨Sf, df, rfl, hsf, hxf⟩
              have EF := Lib.hid (EC.out.trans hxf)
              have HSF := Lib.hid hsf
              have HBF := Lib.hid (HBB.out.ext EF.out)
              have HEF := Lib.hid (HCC.out.e.ext EF.out)
              have HLF := Lib.hid (HS4.out.ext EF.out)
              obtain ⟨p0, p1, p2⟩ := HBF.out.read2
              obtain ⟨pf0, pf1⟩ := HBF.out.free2
              have ef0 := HEF.out.at 0 _ rfl
              have ef1 := HEF.out.free 0
              have hne1 : be ≠ b := HCC.out.ne
              have hne2 : b ≠ be := Ne.symm HCC.out.ne
              clear hsf hxf)))
      all_goals
        obtain ⟨c1, c2', hb2, hg2⟩ := cl_store HBF.out HSF.out HEF.out HCC.out.ne
        first
          | rw [c1]
          | rw [c2']
        clear c1 c2' p0 p1 p2 pf0 pf1 ef0 ef1 n0 n1 n2 hne1 hne2 e0
        have hg3 := (HGC.out.ext EF.out).trans hg2
        generalize hW6 : World.setCell (World.setCell wf _ _) _ _ = W6 at *
        clear hW6
        obtain ⟨bl, ol, hL, hbl6, l0, -⟩ := it_at (hg2.its HLF.out) hxl
        rw [← HX0.out] at l0
        simp only [Nat.zero_mul, Nat.add_zero] at l0
        subst hL
        have HB6 := Lib.hid hb2
        have HG6 := Lib.hid hg3
        have HR := Lib.hid (show Sl (W6.alloc (.cells #[.int .i64 (firstK xs), .int .i64 (allocP c2 false xs : Nat)] 46)) (some ⟨W6.heap.size, 0, none⟩) 1 1 (ivs [(firstK xs, ((allocP c2 false xs : Nat) : Int))]) from sl_lit' rfl _ 1 _ (by unfold maxLen; omega))
        clear hb2 hg2 hg3
        go_wp2_with fail
        go_ret
        rw [HRD.out]
        exact ⟨_, 1, rfl, HR.out, HB6.out.ext ((Ext.refl _).alloc _), HG6.out.ext ((Ext.refl _).alloc _)⟩
end Go.Proofs.YtbfbpddfcakieaaGreat
