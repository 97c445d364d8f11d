/- The walk of the closure of package prune that makes a node anew, of a leaf. -/
import Derived.Test.YtbfbpddfcakieaaGreatK13
import Derived.Test.YtbfbpddfcakieaaGreatK20
import Derived.Test.YtbfbpddfcakieaaGreatK24
namespace Go.Proofs.YtbfbpddfcakieaaGreat
open Go.RowKit
attribute [local go_sem ↓] Go.wp_at_zero Go.wp_at_succ

/-- What the closure refers to. -/
structure Cl (w : World) (b bk bf be n : Nat) (keep key : Int) (c : List HC) : Prop where
  h : HB2 w b keep n c
  k : Bx w bk #[.int .i64 key]
  f : Bx w bf #[.func (.func 45) #[] #[.pointer (some ⟨b, 0, none⟩), .pointer (some ⟨bk, 0, none⟩), .pointer (some ⟨bf, 0, none⟩), .pointer (some ⟨be, 0, none⟩)]]
  e : Bx w be #[.int .i64 0]
  nk : bk ≠ b
  nf : bf ≠ b
  ne : be ≠ b
theorem Cl.ext {w w' : World} {b bk bf be n : Nat} {keep key : Int} {c : List HC} (h : Cl w b bk bf be n keep key c) (hx : Ext w w') : Cl w' b bk bf be n keep key c :=
  ⟨h.h.ext hx, h.k.ext hx, h.f.ext hx, h.e.ext hx, h.nk, h.nf, h.ne⟩
theorem Cl.on {w w' : World} {b bk bf be n : Nat} {keep key : Int} {c c' : List HC} (h : Cl w b bk bf be n keep key c) (hx : Hx b keep w w') (hc : HB2 w' b keep n c') : Cl w' b bk bf be n keep key c' :=
  ⟨hc, hx.bx h.k h.nk, hx.bx h.f h.nf, hx.bx h.e h.ne, h.nk, h.nf, h.ne⟩
/-- A heap and an error that are written, in whichever order. -/
theorem cl_store {w : World} {b be n : Nat} {keep : Int} {S S' : Option Addr} {n0 d d' : Nat} {c' : List HC} (hb : Bx w b #[.slice S n0 d, .int .i64 keep]) (hc : HcSl w S' n d' c') (he : Bx w be #[.int .i64 0]) (hne : be ≠ b) :
    (((w.setCell ⟨b, 0, none⟩ (.slice S' n d')).setCell ⟨b, 1, none⟩ (.int .i64 keep)).setCell ⟨be, 0, none⟩ (.int .i64 0) = (w.setCell ⟨b, 0, none⟩ (.slice S' n d')).setCell ⟨b, 1, none⟩ (.int .i64 keep)) ∧
    (((w.setCell ⟨be, 0, none⟩ (.int .i64 0)).setCell ⟨b, 0, none⟩ (.slice S' n d')).setCell ⟨b, 1, none⟩ (.int .i64 keep) = (w.setCell ⟨b, 0, none⟩ (.slice S' n d')).setCell ⟨b, 1, none⟩ (.int .i64 keep)) ∧
    HB2 ((w.setCell ⟨b, 0, none⟩ (.slice S' n d')).setCell ⟨b, 1, none⟩ (.int .i64 keep)) b keep n c' ∧ Hx b keep w ((w.setCell ⟨b, 0, none⟩ (.slice S' n d')).setCell ⟨b, 1, none⟩ (.int .i64 keep)) := by
  obtain ⟨h1, h2⟩ := HB2.store hb hc
  exact ⟨set_held (h2.bx he hne), by rw [set_held he], h1, h2⟩

set_option maxRecDepth 100000 in
set_option maxHeartbeats 3200000 in
theorem pruneAnew_leaf (b bk bf be n k i0 : Nat) (keep key : Int) (c : List HC) (xs : List It) (w : World) (hC : Cl w b bk bf be n keep key c) (hk : k < c.length) (hlf : c[k].leaf = true) (hnd : ndR c[k].it = true)
    (hi : atI true c[k].it key = (i0 : Int)) (hi2 : i0 + 1 ≤ c[k].it.length) (hxs : withS c[k].it i0 1 [] = xs) (hok : okS keep true [] (rowD xs) c) :
    Calls Tryz.prog 45 #[.int .i64 k, .pointer (some ⟨b, 0, none⟩), .pointer (some ⟨bk, 0, none⟩), .pointer (some ⟨bf, 0, none⟩), .pointer (some ⟨be, 0, none⟩)] w fun e w' => ∃ O z, e = .returned (.slice O (rowD xs).length z) ∧ Sl w' O (rowD xs).length z (ivs (layS true [] (rowD xs) c).2) ∧ HB2 w' b keep n (layS true [] (rowD xs) c).1 ∧ Hx b keep w w' := by
  have HC := Lib.hid hC
  have hgx := hC.h.refl
  have hnl := hC.h.len
  obtain ⟨R, q, hb0, hA⟩ := hC.h
  obtain ⟨bb, off, rfl, hbl, A, ca, r0, r1, r2, r3, hI⟩ := hA.cell hk
  rw [hlf] at r2
  have hlen : c[k].it.length ≤ 4 := ((ndR_iff _).1 hnd).1.2
  have hwl : (withS c[k].it i0 1 []).length = i0 + 0 + (c[k].it.length - (i0 + 1)) := by
    unfold withS; simp; omega
  rw [hxs] at hwl
  have h4 : xs.length ≤ 10 := by omega
  have HAT := Lib.hid (fun w' (hx2 : Ext w w') => nodeAt_any true A c[k].it c[k].it.length ca key w' rfl hnd (hI.ext hx2))
  have HWI := Lib.hid (fun w' (hx2 : Ext w w') => nodeWith_any A none c[k].it [] c[k].it.length 0 ca 0 i0 1 w' rfl rfl (by omega) hi2 (by omega) (by omega) (hI.ext hx2) (Sl.nil _))
  have HPL := Lib.hid (fun w' => prunePlaces_any none [] 0 0 w' rfl (by omega) (Sl.nil _))
  have HAL := Lib.hid (fun w' Q d H t (hx2 : Ext w w') (h1 : 1 ≤ xs.length) (hQ : Sl w' Q xs.length d (ivs xs)) (hH : Sl w' H 0 t ((([] : List Int)).map iv)) => heapAlloc_right (some ⟨bb, off, none⟩) c n q keep w' true Q xs xs.length d H [] 0 t (by
    have hrd : rowD xs = [xs] := by unfold rowD; rw [if_neg (by omega)]
    rw [hrd] at hok
    exact hok.1) h4 (by omega) (hA.ext hx2) rfl hQ rfl hH)
  have HE := Lib.hid (fun (h1 : 1 ≤ xs.length) => show allocE c true xs = 0 from by
    have hrd : rowD xs = [xs] := by unfold rowD; rw [if_neg (by omega)]
    rw [hrd] at hok
    exact hok.2.1)
  rw [hi] at HAT
  simp only [hxs, ← hwl] at HWI
  have hki : (k : Int) < (n : Int) := by omega
  have hkn : k < n := by omega
  have k0 := hC.k.at 0 _ rfl
  obtain ⟨p0, p1, p2⟩ := hb0.read2
  have HB := Lib.hid hb0
  obtain ⟨u, hu⟩ : ∃ u, xs.length = u := ⟨_, rfl⟩
  rw [hu] at h4
  simp only [hu] at HWI HAL HE
  have HU := Lib.hid hu
  obtain ⟨W, hW⟩ : ∃ W, w.alloc (.cells #[.bool true, .slice A c[k].it.length ca] 51) = W := ⟨_, rfl⟩
  obtain ⟨hx1, hbn⟩ := allocs1 hW
  have HX1 := Lib.hid hx1
  have HN := Lib.hid hbn
  obtain ⟨n0, n1, n2⟩ := hbn.read2
  have k1 := (hC.k.ext hx1).at 0 _ rfl
  have HGX := Lib.hid hgx
  have HA := Lib.hid hA
  clear hA hI hwl hnd hi hxs hlf hok hu hC hgx hnl hb0 hx1 hbn
  generalize c[k].it.length = li at *
  generalize atB c[k].it key = ab at *
  generalize c[k].ref = rf at *
  generalize c[k].pin = pn at *
  clear hk r0 r1
  go_enter Tryz.func45, Tryz.ntmps45
  go_wp2_with (go_at_call 46; refine stop_here ?_)
  refine stop_on ?_
  refine (HAT.out _ HX1.out).mono ?_
  rintro e w1 ⟨rfl, hx2⟩
  have HX2 := Lib.hid (HX1.out.trans hx2)
  have HN2 := Lib.hid (HN.out.ext hx2)
  clear hx2 n0 n1 n2 k0 k1 p0 p1 p2 r2 r3
  obtain ⟨n0, n1, n2⟩ := HN2.out.read2
  go_wp2_with (go_at_call 47; refine stop_here ?_)
  refine stop_on ?_
  refine (HWI.out _ HX2.out).mono ?_
  rintro e wc ⟨S4, d4, rfl, hs4, hxc⟩
  have HXC := Lib.hid (HX2.out.trans hxc)
  have HND := Lib.hid (HN2.out.ext hxc)
  have HS4 := Lib.hid hs4
  have HCC := Lib.hid (HC.out.ext HXC.out)
  clear hs4 hxc n0 n1 n2
  obtain ⟨n0, n1, n2⟩ := HND.out.read2
  have e0 := HCC.out.e.at 0 _ rfl
  rcases Nat.eq_zero_or_pos u with h0 | h0
  · subst h0
    obtain rfl : xs = [] := List.eq_nil_of_length_eq_zero HU.out
    clear HAL HE HPL
    go_wp2_with fail
    go_ret
    exact ⟨none, 0, rfl, Sl.nil _, HCC.out.h, HGX.out.ext HXC.out⟩
  · have e1 : ((u : Int) == 0) = false := by rw [beq_eq_false_iff_ne]; omega
    have hrd : rowD xs = [xs] := by unfold rowD; rw [if_neg (by rw [HU.out]; omega)]
    have HRD := Lib.hid hrd
    have hE := HE.out h0
    rw [hE] at HAL
    obtain ⟨p0, p1, p2⟩ := (HB.out.ext HXC.out).read2
    have hxl : 0 < xs.length := by rw [HU.out]; exact h0
    have HX0 := Lib.hid (show firstK xs = xs[0].1 from by cases xs with
      | nil => simp at hxl
      | cons y r => rfl)
    have EC := Lib.hid (Ext.refl wc)
    clear hrd hE
    go_wp2_with fail
    go_region_law
      (first
        | ((go_simp
            go_at_call 49
            refine (HPL.out _).mono ?_
            rintro e wd ⟨Sd, dd, rfl, hsd, hxd⟩
            have EC := Lib.hid (show Ext wc wd from by first | exact EC.out.trans hxd | exact EC.out.drew.trans hxd)
            have HVa := Lib.hid hsd
            obtain ⟨p0, p1, p2⟩ := (HB.out.ext (HXC.out.trans EC.out)).read2
            obtain ⟨n0, n1, n2⟩ := (HND.out.ext EC.out).read2
            clear hsd hxd))
        | ((go_simp
            go_at_call 48
            refine (HAL.out _ _ _ _ _ (HXC.out.trans EC.out) h0 (HS4.out.ext EC.out) HVa.out).mono ?_
            rintro e wf ⟨Sf, df, rfl, hsf, hxf⟩
            have EF := Lib.hid (EC.out.trans hxf)
            have HSF := Lib.hid hsf
            have HBF := Lib.hid (HB.out.ext (HXC.out.trans EF.out))
            have HEF := Lib.hid (HCC.out.e.ext EF.out)
            have HLF := Lib.hid (HS4.out.ext EF.out)
            obtain ⟨p0, p1, p2⟩ := HBF.out.read2
            obtain ⟨pf0, pf1⟩ := HBF.out.free2
            have ef0 := HEF.out.at 0 _ rfl
            have ef1 := HEF.out.free 0
            have hne1 : be ≠ b := HCC.out.ne
            have hne2 : b ≠ be := Ne.symm HCC.out.ne
            clear hsf hxf)))
    all_goals
      obtain ⟨c1, c2, hb2, hg2⟩ := cl_store HBF.out HSF.out HEF.out HCC.out.ne
      first
        | rw [c1]
        | rw [c2]
      clear c1 c2 p0 p1 p2 pf0 pf1 ef0 ef1 n0 n1 n2 hne1 hne2 e0
      have hg3 := ((HGX.out.ext HXC.out).ext EF.out).trans hg2
      generalize hW6 : World.setCell (World.setCell wf _ _) _ _ = W6 at *
      clear hW6
      obtain ⟨bl, ol, hL, hbl6, l0, -⟩ := it_at (hg2.its HLF.out) hxl
      rw [← HX0.out] at l0
      simp only [Nat.zero_mul, Nat.add_zero] at l0
      subst hL
      have HB6 := Lib.hid hb2
      have HG6 := Lib.hid hg3
      have HR := Lib.hid (show Sl (W6.alloc (.cells #[.int .i64 (firstK xs), .int .i64 (allocP c true xs : Nat)] 46)) (some ⟨W6.heap.size, 0, none⟩) 1 1 (ivs [(firstK xs, ((allocP c true xs : Nat) : Int))]) from sl_lit' rfl _ 1 _ (by unfold maxLen; omega))
      clear hb2 hg2 hg3
      go_wp2_with fail
      go_ret
      rw [HRD.out]
      exact ⟨_, 1, rfl, HR.out, HB6.out.ext ((Ext.refl _).alloc _), HG6.out.ext ((Ext.refl _).alloc _)⟩
end Go.Proofs.YtbfbpddfcakieaaGreat
