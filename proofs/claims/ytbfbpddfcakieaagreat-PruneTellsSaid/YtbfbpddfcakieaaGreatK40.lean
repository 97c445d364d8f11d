/- The walk of anew of the reference of layer 9, of a leaf. -/
import Derived.Test.YtbfbpddfcakieaaGreatK39
namespace Go.Proofs.YtbfbpddfcakieaaGreat
open Go.RowKit
attribute [local go_sem ↓] Go.wp_at_zero Go.wp_at_succ

set_option maxRecDepth 100000 in
set_option maxHeartbeats 3200000 in
theorem anew_walk_leaf (R : Option Addr) (c : List HC) (n q k : Nat) (keep : Int) (x : It) (i0 g0 : Nat) (xs : List It) (w : World) (hk : k < c.length) (hb : n ≤ 90000) (hs : ∀ k (hk : k < c.length), c[k].ref ≤ 2000000) (hA : HcSl w R n q c) (hlf : c[k].leaf = true) (hnd : ndR c[k].it = true)
    (hi : atI true c[k].it x.1 = (i0 : Int)) (hi2 : i0 + g0 ≤ c[k].it.length) (hg : g0 = if atB c[k].it x.1 then 1 else 0) (hxs : withS c[k].it i0 g0 [x] = xs) (h1 : 1 ≤ xs.length) (h5 : xs.length ≤ 5) :
    Calls Tryz.prog 65 #[.agg #[.slice R n q, .int .i64 keep], .int .i64 k, .agg #[.int .i64 x.1, .int .i64 x.2]] w fun e w' => ∃ S d O z, e = .returned (.tuple #[.agg #[.slice S n d, .int .i64 keep], .slice O (splitS xs).length z]) ∧ HcSl w' S n d (layS true [] (splitS xs) c).1 ∧ Sl w' O (splitS xs).length z (ivs (layS true [] (splitS xs) c).2) ∧ Ext w w' := by
  obtain ⟨W, hW⟩ : ∃ W, W = ((w.alloc (.cells #[.slice R n q, .int .i64 keep] 24)).alloc (.cells #[.int .i64 x.1, .int .i64 x.2] 46)).alloc (.cells #[.slice none 0 0, .int .i64 0] 24) := ⟨_, rfl⟩
  obtain ⟨hx, hb0, hb1, hb2⟩ := allocs3 hW.symm
  have hsz : W.heap.size = w.heap.size + 1 + 1 + 1 := by rw [hW]; simp
  have hn := hA.1
  obtain ⟨b, off, rfl, hbl, A, ca, r0, r1, r2, r3, hI⟩ := (hA.ext hx).cell hk
  rw [hlf] at r2
  obtain ⟨s1, s2, s3, s4⟩ := split_rows h1 h5
  have HX := Lib.hid hx
  have HSZ := Lib.hid hsz
  have HB0 := Lib.hid hb0
  have HB1 := Lib.hid hb1
  have HB2 := Lib.hid hb2
  have HA := Lib.hid hA
  have hwl : (withS c[k].it i0 g0 [x]).length = i0 + 1 + (c[k].it.length - (i0 + g0)) := by
    unfold withS; simp; omega
  rw [hxs] at hwl
  have hlen : c[k].it.length ≤ 4 := ((ndR_iff _).1 hnd).1.2
  have HBD := Lib.hid (lay_bd (leaf := true) (held := []) (rows := splitS xs) (l := c) (B := 2000000) (by omega) (by rw [s1]; omega) hs)
  have HNE := Lib.hid (show ∀ j (hj : j < (splitS xs).length), 1 ≤ (splitS xs)[j].length from fun j hj => (s2 _ (List.getElem_mem hj)).1)
  have HLAY := Lib.hid (fun w' P z (hx2 : Ext w w') (hP : RowsSl w' P (splitS xs).length z (splitS xs)) => ref09Lay_any (some ⟨b, off, none⟩) c n q keep true P (splitS xs) (splitS xs).length z none [] 0 0 w' hb (by omega) HBD.out HNE.out (HA.out.ext hx2) hP rfl (Sl.nil _))
  have HAT := Lib.hid (fun w' (hx2 : Ext W w') => ref04At_any true A c[k].it c[k].it.length ca x.1 w' rfl hnd (hI.ext hx2))
  have HWI := Lib.hid (fun w' B d (hx2 : Ext W w') (hB : Sl w' B 1 d (ivs [x])) => ref04With_any A B c[k].it [x] c[k].it.length 1 ca d i0 g0 w' rfl rfl (by omega) hi2 (by omega) (by omega) (hI.ext hx2) hB)
  have HSP := Lib.hid (fun w' B d (hB : Sl w' B xs.length d (ivs xs)) => ref04Split_rows B xs xs.length d w' rfl (by omega) hB)
  rw [hi] at HAT
  simp only [hxs, ← hwl] at HWI
  have HGI := Lib.hid hi2
  have hki : (k : Int) < (n : Int) := by omega
  have hkn : k < n := by omega
  clear hA hI hx hb0 hb1 hb2 hsz hwl hs hnd hi hxs s1 s2 s3 s4 hlf HBD HNE HA
  generalize splitS xs = rows at *
  generalize c[k].it.length = li at *
  generalize atB c[k].it x.1 = ab at *
  generalize c[k].ref = rf at *
  generalize c[k].pin = pn at *
  generalize (layS true [] rows c).1 = c2 at *
  generalize (layS true [] rows c).2 = L2 at *
  clear hk r0 r1 hn
  subst hW
  obtain ⟨p0, p1, p2⟩ := HB0.out.read2
  obtain ⟨x0, x1, x2⟩ := HB1.out.read2
  go_enter Tryz.func65, Tryz.ntmps65
  go_wp2_with (go_at_call 53; refine stop_here ?_)
  refine stop_on ?_
  generalize hW : World.alloc (World.alloc (World.alloc w _) _) _ = W at *
  clear hW
  have hx3 : Ext W (W.alloc (.cells #[.bool true, .slice A li ca] 51)) := (Ext.refl W).alloc _
  have hbn := Bx.new W #[.bool true, .slice A li ca] 51
  rw [HSZ.out] at hbn
  refine (HAT.out _ hx3).mono ?_
  rintro e w1 ⟨rfl, hx4⟩
  have HN := Lib.hid (hbn.ext hx4)
  have HX1 := Lib.hid (hx3.trans hx4)
  have HC0 := Lib.hid (HB0.out.ext HX1.out)
  have HC1 := Lib.hid (HB1.out.ext HX1.out)
  have HC2 := Lib.hid (HB2.out.ext HX1.out)
  clear hx3 hbn hx4 p0 p1 p2 x0 x1 x2 r2 r3 hbl
  obtain ⟨p0, p1, p2⟩ := HC0.out.read2
  obtain ⟨x0, x1, x2⟩ := HC1.out.read2
  obtain ⟨n0, n1, n2⟩ := HN.out.read2
  obtain ⟨t0, t1, t2⟩ := HC2.out.read2
  obtain ⟨f0, f1⟩ := HC2.out.free2
  have HG2 := Lib.hid hg
  clear hg
  have hsl := fun y => Ext.alloc (Ext.refl w1) y
  cases ab
  all_goals
    have hg := HG2.out
    simp only [if_true, Bool.false_eq_true, if_false] at hg
    subst hg
    clear HG2
    go_wp2_with fail
    go_region_law
      (first
        | ((go_simp
            go_at_call 54
            refine (HWI.out _ _ _ ?_ ?_).mono ?_
            (first | exact HX1.out.alloc _ | exact (HX1.out.alloc _).drew | exact HX1.out.drew.alloc _)
            (first | exact (sl_lit' (by simp) _ 1 _ (by unfold maxLen; omega)) | exact (sl_lit' (by simp) _ 1 _ (by unfold maxLen; omega)).ext ((Ext.refl _).drew))
            rintro e w4 ⟨S4, d4, rfl, hs4, hx4⟩
            have EC := Lib.hid (show Ext W w4 from by first | exact (HX1.out.alloc _).trans hx4 | exact ((HX1.out.alloc _).drew).trans hx4 | exact (HX1.out.drew.alloc _).trans hx4)
            have HS4 := Lib.hid hs4
            obtain ⟨g0, g1, g2⟩ := (HB0.out.ext EC.out).read2
            clear hs4 hx4))
        | ((go_simp
            go_at_call 94
            refine (HSP.out _ S4 d4 HS4.out).mono ?_
            rintro e w5 ⟨S5, d5, rfl, hs5, hx5⟩
            have ED := Lib.hid (EC.out.trans hx5)
            have HS5 := Lib.hid hs5
            obtain ⟨h0, h1, h2⟩ := (HB0.out.ext ED.out).read2
            clear hs5 hx5))
        | ((go_simp
            go_at_call 55
            refine (HLAY.out _ S5 d5 (HX.out.trans ED.out) HS5.out).mono ?_
            rintro e w6 ⟨S6, d6, O6, z6, rfl, hs6, ho6, hx6⟩
            have EE := Lib.hid (ED.out.trans hx6)
            have HS6 := Lib.hid hs6
            have HO6 := Lib.hid ho6
            obtain ⟨u0, u1, u2⟩ := (HB2.out.ext EE.out).read2
            obtain ⟨v0, v1⟩ := (HB2.out.ext EE.out).free2
            clear hs6 ho6 hx6)))
    all_goals
      have HB6 := Lib.hid (HB2.out.ext EE.out)
      have HX6 := Lib.hid (HX.out.trans EE.out)
      go_wp2_with fail
      refine ret2_cell (k := w.heap.size + 1 + 1) (x := .slice S6 n d6) (y := .int .i64 keep) (v := .tuple #[.agg #[.slice S6 n d6, .int .i64 keep], .slice O6 rows.length z6]) ?hb4 (fun r0 r1 => by simp [results, Tryz.results65, go_sem, r0, r1]) rfl ?hx4
      case hb4 => exact HB6.out.set2 _ _
      case hx4 => exact ⟨S6, d6, O6, z6, rfl, HS6.out.boxed2 HB6.out _ _, HO6.out.boxed2 HB6.out _ _, HX6.out.store2 (by omega) _ _⟩
end Go.Proofs.YtbfbpddfcakieaaGreat
