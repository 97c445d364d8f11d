/- The walk of Del of the reference of layer 10, where something is left. -/
import Derived.Test.YtbfbpddfcakieaaGreatK48
namespace Go.Proofs.YtbfbpddfcakieaaGreat
open Go.RowKit
attribute [local go_sem ↓] Go.wp_at_zero Go.wp_at_succ

set_option maxRecDepth 100000 in
set_option maxHeartbeats 6400000 in
theorem del_walk_out (R : Option Addr) (c : List HC) (n q : Nat) (keep root key : Int) (w : World) (hk : 0 ≤ keep ∧ keep ≤ 9223372036854775807) (hl : AllR c) (hn : c.length ≤ 2000) (hr : rightR ⟨c, keep⟩ root = true) (hg : getT c root key ≠ none) (hf : fitsH ⟨c, keep⟩ (highT c root) true = true) (c2 c3 c4 : List HC) (y : It) (le rt : Int)
    (hch : ∀ w', Ext w w' → Calls Tryz.prog 28 #[.agg #[.slice R n q, .int .i64 keep], .int .i64 root, .int .i64 key] w' fun e w2 => ∃ S d O z, e = .returned (.tuple #[.agg #[.slice S n d, .int .i64 keep], .slice O 1 z]) ∧ HcSl w2 S n d c2 ∧ Sl w2 O 1 z (ivs [y]) ∧ Ext w' w2)
    (hlo : ∀ w' S d, HcSl w' S n d c2 → Calls Tryz.prog 9 #[.agg #[.slice S n d, .int .i64 keep], .int .i64 y.2] w' fun e w2 => ∃ S' d', e = .returned (.tuple #[.agg #[.slice S' n d', .int .i64 keep], .int .i64 rt]) ∧ HcSl w2 S' n d' c3 ∧ Ext w' w2)
    (hls : ∀ w' S d, HcSl w' S n d c3 → Calls Tryz.prog 29 #[.agg #[.slice S n d, .int .i64 keep], .int .i64 root] w' fun e w2 => ∃ S' d', e = .returned (.tuple #[.agg #[.slice S' n d', .int .i64 keep], .int .i64 le]) ∧ HcSl w2 S' n d' c4 ∧ Ext w' w2) (hA : HcSl w R n q c) :
    Calls Tryz.prog 7 #[.agg #[.slice R n q, .int .i64 keep], .int .i64 root, .int .i64 key] w fun e w' => ∃ S d, e = .returned (.tuple #[.agg #[.slice S n d, .int .i64 keep], .int .i64 rt, .int .i64 0]) ∧ HcSl w' S n d c4 ∧ Ext w w' := by
  obtain ⟨W, hW⟩ : ∃ W, W = (w.alloc (.cells #[.slice R n q, .int .i64 keep] 24)).alloc (.cells #[.slice none 0 0, .int .i64 0] 24) := ⟨_, rfl⟩
  obtain ⟨hx, hb0, hb1⟩ := allocs2 hW.symm
  have HX := Lib.hid hx
  have HB0 := Lib.hid hb0
  have HB1 := Lib.hid hb1
  have HA := Lib.hid hA
  have HG := Lib.hid (fun w' (hx : Ext w w') => ref07Get_any R c n q keep keep root key w' hl hn hr (hA.ext hx))
  have HH := Lib.hid (fun w' (hx : Ext w w') => ref07High_any R c n q keep root w' hl hn hr (hA.ext hx))
  have HF := Lib.hid (fun w' (hx : Ext w w') => ref05Fits_any R c n q keep (highT c root) true w' hk (hA.ext hx))
  rw [hf] at HF
  have HCH := Lib.hid hch
  have HLS := Lib.hid hls
  have HLO := Lib.hid hlo
  obtain ⟨ge, hge⟩ : ∃ ge, getE (getT c root key) = ge := ⟨_, rfl⟩
  have hz : (ge != 0) = false := by
    rw [← hge]
    cases h : getT c root key with
    | none => exact absurd h hg
    | some v => rfl
  rw [hge] at HG
  obtain ⟨p0, p1, p2⟩ := hb0.read2
  clear hx hb0 hb1 hA hl hn hr hg hge hf hk hch hls hlo
  generalize highT c root = hi at *
  subst hW
  go_enter Tryz.func7, Tryz.ntmps7
  go_wp2_with (go_at_call 25; refine stop_here ?_)
  refine stop_on ?_
  generalize hW : World.alloc (World.alloc w _) _ = W at *
  clear hW
  refine (HG.out _ HX.out).mono ?_
  rintro e w1 ⟨rfl, hx1⟩
  have HX1 := Lib.hid (HX.out.trans hx1)
  have HB2 := Lib.hid (HB0.out.ext hx1)
  have HT := Lib.hid (HB1.out.ext hx1)
  clear p0 p1 p2
  obtain ⟨p0, p1, p2⟩ := HB2.out.read2
  have EC := Lib.hid (Ext.refl w1)
  clear hx1
  go_wp2_with fail
  go_region_law
    (first
      | ((go_simp
          go_at_call 27
          refine (HH.out _ (HX1.out.trans ?_)).mono ?_
          (first | exact EC.out | exact EC.out.drew)
          rintro e wa ⟨rfl, -, hxa⟩
          have EC := Lib.hid (show Ext w1 wa from by first | exact EC.out.trans hxa | exact EC.out.drew.trans hxa)
          obtain ⟨p0, p1, p2⟩ := (HB2.out.ext EC.out).read2
          clear hxa))
      | ((go_simp
          go_at_call 26
          refine (HF.out _ (HX1.out.trans EC.out)).mono ?_
          rintro e wb ⟨rfl, hxb⟩
          have EC := Lib.hid (EC.out.trans hxb)
          obtain ⟨p0, p1, p2⟩ := (HB2.out.ext EC.out).read2
          clear hxb)))
  all_goals
    have HT5 := Lib.hid (HT.out.ext EC.out)
    have HX5 := Lib.hid (HX1.out.trans EC.out)
    go_wp2_with (go_at_call 28; refine stop_here ?_)
    refine stop_on ?_
    refine (HCH.out _ HX5.out).mono ?_
    rintro e w6 ⟨S6, d6, O6, z6, rfl, hs6, ho6, hx6⟩
    obtain ⟨bo, oo, rfl, hbo, -, ov⟩ := it_at (k := 0) ho6 (by simp)
    have hx7 := (Ext.refl w6).alloc (.cells #[.slice S6 n d6, .int .i64 keep] 24)
    have hb7 := Bx.new w6 #[.slice S6 n d6, .int .i64 keep] 24
    have HX7 := Lib.hid ((HX5.out.trans hx6).trans hx7)
    have HT7 := Lib.hid ((HT5.out.ext hx6).ext hx7)
    have HS7 := Lib.hid (hs6.ext hx7)
    have hlt7 := (HT5.out.ext hx6).lt
    have ov7 : (w6.alloc (.cells #[.slice S6 n d6, .int .i64 keep] 24)).cell? ⟨bo, oo + 1, none⟩ = some (.int .i64 y.2) := (hx7.cell (p := ⟨bo, oo + 0 * 2 + 1, none⟩) hbo).trans ov
    have hbo7 : bo < (w6.alloc (.cells #[.slice S6 n d6, .int .i64 keep] 24)).heap.size := by simp; omega
    obtain ⟨X, hX⟩ : ∃ X, w6.heap.size = X := ⟨_, rfl⟩
    rw [hX] at hb7 hlt7
    have HB7 := Lib.hid hb7
    clear hs6 ho6 hx6 p0 p1 p2 ov hbo hx7
    go_wp2_with fail
    generalize hW7 : w6.alloc _ = W7 at *
    clear hW7 hX
    obtain ⟨x0, x1, x2⟩ := hb7.read2
    have hal := (Ext.refl W7).alloc (.cells #[.slice none 0 0, .int .i64 0] 24)
    have ka := (hal.cell (p := ⟨bo, oo + 1, none⟩) hbo7).trans ov7
    obtain ⟨xa0, xa1, xa2⟩ := (hb7.ext hal).read2
    clear hal hb7
    go_cut [15, 16] from 49 to 57 (fun v u wx => ∃ Y S' d', v = .pointer (some ⟨Y, 0, none⟩) ∧ u = .int .i64 rt ∧ Bx wx Y #[.slice S' n d', .int .i64 keep] ∧ HcSl wx S' n d' c3 ∧ Ext W7 wx)
    case first =>
      go_region_law
        (first
          | ((go_simp
              go_at_call 9
              refine (HLO.out _ _ _ (HS7.out.ext ?_)).mono ?_
              (first | exact Ext.refl _ | exact (Ext.refl _).drew | exact (Ext.refl W7).drew.alloc _ | exact ((Ext.refl W7).alloc _).drew)
              rintro e w4 ⟨S4, d4, rfl, hs4, hx4⟩
              have E4 := Lib.hid (show Ext W7 w4 from by first | exact hx4 | exact (Ext.refl _).drew.trans hx4 | exact (((Ext.refl _).drew).alloc _).trans hx4 | exact (((Ext.refl _).alloc _).drew).trans hx4)
              have N4 := Lib.hid hs4
              (try (have B4 := Lib.hid (show Bx w4 W7.heap.size #[.slice none 0 0, .int .i64 0] from (Bx.new W7.drew _ _).ext hx4); have f0 := B4.out.free 0; have f1 := B4.out.free 1; have z1 := B4.out.lt; have q0 : w4.cell? ⟨W7.heap.size, 0, none⟩ = some (.slice none 0 0) := B4.out.at 0 _ rfl; have q1 : w4.cell? ⟨W7.heap.size, 1, none⟩ = some (.int .i64 0) := B4.out.at 1 _ rfl))
              clear hs4 hx4)))
      all_goals
        go_wp2_with fail
        go_meet
        first
        | exact ⟨_, S4, d4, rfl, rfl, Bx.new _ _ _, N4.out.ext ((Ext.refl _).alloc _), E4.out.alloc _⟩
        | exact ⟨_, S4, d4, rfl, rfl, B4.out.set2 _ _, N4.out.boxed2 B4.out _ _, E4.out.store2 (Nat.le_refl _) _ _⟩
    obtain ⟨Y, S6, d6, rfl, rfl, hby, hs4, hx4⟩ := hcut
    have hbx := HB7.out.ext hx4
    have hT := HT7.out.ext hx4
    have hwX : w.heap.size ≤ X := by omega
    have HX6 := Lib.hid ((HX7.out.trans hx4).store2 (k := X) hwX (.slice S6 n d6) (.int .i64 keep))
    have HPX := Lib.hid (hbx.set2 (.slice S6 n d6) (.int .i64 keep))
    have HT6 := Lib.hid ((hT.set_other (p := ⟨X, 0, none⟩) (show X ≠ w.heap.size + 1 by omega) (.slice S6 n d6)).set_other (p := ⟨X, 1, none⟩) (show X ≠ w.heap.size + 1 by omega) (.int .i64 keep))
    have HS6 := Lib.hid (hs4.boxed2 hbx (.slice S6 n d6) (.int .i64 keep))
    clear x0 x1 x2 xa0 xa1 xa2 ka ov7 hbo7
    obtain ⟨x0, x1, x2⟩ := hbx.read2
    obtain ⟨xf0, xf1⟩ := hbx.free2
    obtain ⟨y0, y1, y2⟩ := hby.read2
    clear hs4 hx4 hbx hby hT
    go_wp2_with (go_at_call 29; refine stop_here ?_)
    refine stop_on ?_
    have hx7 := Ext.refl ((wc.setCell ⟨X, 0, none⟩ (.slice S6 n d6)).setCell ⟨X, 1, none⟩ (.int .i64 keep))
    refine (HLS.out _ _ _ (HS6.out.ext hx7)).mono ?_
    rintro e w8 ⟨S8, d8, rfl, hs8, hx8⟩
    have HX8 := Lib.hid ((HX6.out.trans hx7).trans hx8)
    have HT8 := Lib.hid ((HT6.out.ext hx7).ext hx8)
    have HS8 := Lib.hid hs8
    clear hs8 hx8 hx7
    have hx9 := (Ext.refl w8).alloc (.cells #[.slice S8 n d8, .int .i64 keep] 24)
    have HT9 := Lib.hid (HT8.out.ext hx9)
    obtain ⟨t0, t1, t2⟩ := HT8.out.read2
    obtain ⟨f0, f1⟩ := HT8.out.free2
    obtain ⟨s0, s1, s2⟩ := HT9.out.read2
    obtain ⟨g0, g1⟩ := HT9.out.free2
    clear hx9
    go_wp2_with fail
    refine ret2_cell (k := w.heap.size + 1) (x := .slice S8 n d8) (y := .int .i64 keep) (v := .tuple #[.agg #[.slice S8 n d8, .int .i64 keep], .int .i64 rt, .int .i64 0]) ?hb4 (fun r0 r1 => by simp [results, Tryz.results7, go_sem, r0, r1]) rfl ?hx4
    case hb4 => exact (HT8.out.set2 _ _).ext ((Ext.refl _).alloc _)
    case hx4 => exact ⟨S8, d8, rfl, (HS8.out.boxed2 HT8.out _ _).ext ((Ext.refl _).alloc _), (HX8.out.store2 (k := w.heap.size + 1) (by omega) _ _).alloc _⟩
end Go.Proofs.YtbfbpddfcakieaaGreat
