/- The walk of anew of the reference of layer 10, of a leaf. -/
import Derived.Test.YtbfbpddfcakieaaGreatK44
import Derived.Test.YtbfbpddfcakieaaGreatK39
namespace Go.Proofs.YtbfbpddfcakieaaGreat
open Go.RowKit
attribute [local go_sem ↓] Go.wp_at_zero Go.wp_at_succ

theorem row_lit {w : World} {z : Nat} (hz : z = w.heap.size) {S : Option Addr} {u d : Nat} {xs : List It} (e : Nat) (hu : u = xs.length) (h : Sl w S u d (ivs xs)) : RowsSl (w.alloc (.cells #[.slice S u d] e)) (some ⟨z, 0, none⟩) 1 1 [xs] := by
  subst hz
  exact ⟨rfl, [.slice S u d], sl_lit w e 1 [.slice S u d] (by unfold maxLen; omega), RowsAt.cons hu (h.ext ((Ext.refl w).alloc _)) (RowsAt.nil _)⟩
theorem lay_bdD {leaf : Bool} {held : List Int} {xs : List It} {l : List HC} (h4 : xs.length ≤ 4) (h : ∀ k (hk : k < l.length), l[k].ref ≤ 2000000) :
    ∀ j, j ≤ [xs].length → ∀ k (hk : k < (layS leaf held ([xs].take j) l).1.length), (layS leaf held ([xs].take j) l).1[k].ref ≤ 8000000000000000000 :=
  lay_bd (leaf := leaf) (held := held) (rows := [xs]) (l := l) (B := 2000000) (by omega) (by simp only [List.flatten_cons, List.flatten_nil, List.append_nil]; omega) h
set_option maxRecDepth 100000 in
set_option maxHeartbeats 3200000 in
theorem del_walk_leaf (R : Option Addr) (c : List HC) (n q k : Nat) (keep key : Int) (i0 : Nat) (xs : List It) (w : World) (hk : k < c.length) (hb : n ≤ 90000) (hs : ∀ k (hk : k < c.length), c[k].ref ≤ 2000000) (hA : HcSl w R n q c) (hlf : c[k].leaf = true) (hnd : ndR c[k].it = true)
    (hi : atI true c[k].it key = (i0 : Int)) (hi2 : i0 + 1 ≤ c[k].it.length) (hxs : withS c[k].it i0 1 [] = xs) :
    Calls Tryz.prog 28 #[.agg #[.slice R n q, .int .i64 keep], .int .i64 k, .int .i64 key] w fun e w' => ∃ S d O z, e = .returned (.tuple #[.agg #[.slice S n d, .int .i64 keep], .slice O (rowD xs).length z]) ∧ HcSl w' S n d (layS true [] (rowD xs) c).1 ∧ Sl w' O (rowD xs).length z (ivs (layS true [] (rowD xs) c).2) ∧ Ext w w' := by
  obtain ⟨W, hW⟩ : ∃ W, W = (w.alloc (.cells #[.slice R n q, .int .i64 keep] 24)).alloc (.cells #[.slice none 0 0, .int .i64 0] 24) := ⟨_, rfl⟩
  obtain ⟨hx, hb0, hb2⟩ := allocs2 hW.symm
  have hsz : W.heap.size = w.heap.size + 1 + 1 := by rw [hW]; simp
  have hn := hA.1
  have HAW := Lib.hid (hA.ext hx)
  have HRq := Lib.hid hA
  obtain ⟨b, off, rfl, hbl, A, ca, r0, r1, r2, r3, hI⟩ := (hA.ext hx).cell hk
  rw [hlf] at r2
  have HX := Lib.hid hx
  have HSZ := Lib.hid hsz
  have HB0 := Lib.hid hb0
  have HB2 := Lib.hid hb2
  have HA := Lib.hid hA
  have hlen : c[k].it.length ≤ 4 := ((ndR_iff _).1 hnd).1.2
  have hwl : (withS c[k].it i0 1 []).length = i0 + 0 + (c[k].it.length - (i0 + 1)) := by
    unfold withS; simp; omega
  rw [hxs] at hwl
  have h4 : xs.length ≤ 4 := by omega
  have HBD := Lib.hid (lay_bdD (leaf := true) (held := []) h4 hs)
  have HLAY := Lib.hid (fun w' P z H t (hx2 : Ext w w') (h1 : 1 ≤ xs.length) (hP : RowsSl w' P 1 z [xs]) (hH : Sl w' H 0 t ((([] : List Int)).map iv)) => ref09Lay_any (some ⟨b, off, none⟩) c n q keep true P [xs] 1 z H [] 0 t w' hb (by omega) HBD.out (fun j hj => by obtain rfl : j = 0 := by simp at hj; omega
                                                                                                                                                                                                                                                                          exact h1) (HA.out.ext hx2) hP rfl hH)
  have HAT := Lib.hid (fun w' (hx2 : Ext W w') => ref04At_any true A c[k].it c[k].it.length ca key w' rfl hnd (hI.ext hx2))
  have HWI := Lib.hid (fun w' (hx2 : Ext W w') => ref04With_any A none c[k].it [] c[k].it.length 0 ca 0 i0 1 w' rfl rfl (by omega) hi2 (by omega) (by omega) (hI.ext hx2) (Sl.nil _))
  have HV := Lib.hid (fun w' => ref09V_any none [] 0 0 w' rfl (by omega) (Sl.nil _))
  rw [hi] at HAT
  simp only [hxs, ← hwl] at HWI
  have hki : (k : Int) < (n : Int) := by omega
  have hkn : k < n := by omega
  clear hA hI hx hb0 hb2 hsz hwl hs hnd hi hxs hlf HBD HA
  obtain ⟨u, hu⟩ : ∃ u, xs.length = u := ⟨_, rfl⟩
  rw [hu] at h4
  simp only [hu] at HWI HLAY
  have HU := Lib.hid hu
  clear hu
  generalize c[k].it.length = li at *
  generalize atB c[k].it key = ab at *
  generalize c[k].ref = rf at *
  generalize c[k].pin = pn at *
  clear hk r0 r1 hn
  subst hW
  obtain ⟨p0, p1, p2⟩ := HB0.out.read2
  go_enter Tryz.func28, Tryz.ntmps28
  go_wp2_with (go_at_call 53; refine stop_here ?_)
  refine stop_on ?_
  generalize hW : World.alloc (World.alloc w _) _ = W at *
  clear hW
  have hx3 : Ext W (W.alloc (.cells #[.bool true, .slice A li ca] 51)) := (Ext.refl W).alloc _
  have hbn := Bx.new W #[.bool true, .slice A li ca] 51
  rw [HSZ.out] at hbn
  refine (HAT.out _ hx3).mono ?_
  rintro e w1 ⟨rfl, hx4⟩
  have HN := Lib.hid (hbn.ext hx4)
  have HX1 := Lib.hid (hx3.trans hx4)
  clear hx3 hbn hx4 p0 p1 p2 r2 r3 hbl
  obtain ⟨p0, p1, p2⟩ := (HB0.out.ext HX1.out).read2
  obtain ⟨n0, n1, n2⟩ := HN.out.read2
  go_wp2_with (go_at_call 54; refine stop_here ?_)
  refine stop_on ?_
  refine (HWI.out _ HX1.out).mono ?_
  rintro e wc ⟨S4, d4, rfl, hs4, hxc⟩
  have HXC := Lib.hid (HX1.out.trans hxc)
  have HND := Lib.hid (HN.out.ext hxc)
  have HS4 := Lib.hid hs4
  have HBX := Lib.hid (HB0.out.ext HXC.out)
  have HT := Lib.hid (HB2.out.ext HXC.out)
  clear hs4 hxc p0 p1 p2 n0 n1 n2
  obtain ⟨p0, p1, p2⟩ := HBX.out.read2
  obtain ⟨n0, n1, n2⟩ := HND.out.read2
  obtain ⟨t0, t1, t2⟩ := HT.out.read2
  obtain ⟨f0, f1⟩ := HT.out.free2
  rcases Nat.eq_zero_or_pos u with h0 | h0
  · subst h0
    obtain rfl : xs = [] := List.eq_nil_of_length_eq_zero HU.out
    clear HLAY
    go_wp2_with fail
    refine ret2_cell (k := w.heap.size + 1) (x := .slice (some ⟨b, off, none⟩) n q) (y := .int .i64 keep) (v := .tuple #[.agg #[.slice (some ⟨b, off, none⟩) n q, .int .i64 keep], .slice none 0 0]) ?hb4 (fun r0 r1 => by simp [results, Tryz.results28, go_sem, r0, r1]) rfl ?hx4
    case hb4 => exact HT.out.set2 _ _
    case hx4 => exact ⟨some ⟨b, off, none⟩, q, none, 0, rfl, (HAW.out.ext HXC.out).boxed2 HT.out _ _, Sl.nil _, (HX.out.trans HXC.out).store2 (by omega) _ _⟩
  · have e0 : ((u : Int) == 0) = false := by rw [beq_eq_false_iff_ne]; omega
    have hrd : rowD xs = [xs] := by unfold rowD; rw [if_neg (by rw [HU.out]; omega)]
    have HRD := Lib.hid hrd
    have HXW := Lib.hid (HX.out.trans HXC.out)
    clear hrd
    go_wp2_with fail
    go_region_law
      (first
        | ((go_simp
            go_at_call 56
            refine (HV.out _).mono ?_
            rintro e wd ⟨Sd, dd, rfl, hsd, hxd⟩
            have EC := Lib.hid (show Ext wc wd from by first | exact hxd | exact ((Ext.refl wc).drew).trans hxd | exact ((Ext.refl wc).drew.alloc _).trans hxd | exact ((Ext.refl wc).alloc _).drew.trans hxd | exact ((Ext.refl _).alloc _).trans hxd)
            have HVa := Lib.hid hsd
            (try (have HRa := Lib.hid (show RowsSl wd (some ⟨wc.heap.size, 0, none⟩) 1 1 [xs] from by first | exact (row_lit (by simp) _ HU.out.symm (HS4.out.ext (Ext.refl wc).drew)).ext hxd | exact (row_lit rfl _ HU.out.symm HS4.out).ext ((Ext.refl _).drew.trans hxd) | exact (row_lit rfl _ HU.out.symm HS4.out).ext hxd)))
            obtain ⟨p0, p1, p2⟩ := (HBX.out.ext EC.out).read2
            obtain ⟨n0, n1, n2⟩ := (HND.out.ext EC.out).read2
            clear hsd hxd))
        | ((go_simp
            go_at_call 55
            first
              | (refine (HLAY.out _ _ _ _ _ (HXW.out.trans EC.out) h0 HRa.out HVa.out).mono ?_
                 rintro e wf ⟨Sf, df, Of, zf, rfl, hsf, hof, hxf⟩
                 have EC := Lib.hid (EC.out.trans hxf))
              | (refine (HLAY.out _ _ _ _ _ (HXW.out.trans (EC.out.alloc _)) h0 (row_lit rfl _ HU.out.symm (HS4.out.ext EC.out)) (HVa.out.ext ((Ext.refl _).alloc _))).mono ?_
                 rintro e wf ⟨Sf, df, Of, zf, rfl, hsf, hof, hxf⟩
                 have EC := Lib.hid ((EC.out.alloc _).trans hxf))
            have HS6 := Lib.hid hsf
            have HO6 := Lib.hid hof
            obtain ⟨u0, u1, u2⟩ := (HT.out.ext EC.out).read2
            obtain ⟨v0, v1⟩ := (HT.out.ext EC.out).free2
            clear hsf hof hxf)))
    all_goals
      have HB6 := Lib.hid (HT.out.ext EC.out)
      have HX6 := Lib.hid (HXW.out.trans EC.out)
      go_wp2_with fail
      refine ret2_cell (k := w.heap.size + 1) (x := .slice Sf n df) (y := .int .i64 keep) (v := .tuple #[.agg #[.slice Sf n df, .int .i64 keep], .slice Of 1 zf]) ?hb4 (fun r0 r1 => by simp [results, Tryz.results28, go_sem, r0, r1]) rfl ?hx4
      case hb4 => exact HB6.out.set2 _ _
      case hx4 => rw [HRD.out]; exact ⟨Sf, df, Of, zf, rfl, HS6.out.boxed2 HB6.out _ _, HO6.out.boxed2 HB6.out _ _, HX6.out.store2 (by omega) _ _⟩
end Go.Proofs.YtbfbpddfcakieaaGreat
