/- The walk of Low of the reference of layer 10. The contract of Low of the reference of layer 10. The walk of Without of the reference of layer 10. -/
import Derived.Test.YtbfbpddfcakieaaGreatK28
import Derived.Test.YtbfbpddfcakieaaGreatK04
import Derived.Test.YtbfbpddfcakieaaGreatK05
import Derived.Test.YtbfbpddfcakieaaGreatK13
import Derived.Test.YtbfbpddfcakieaaGreatK33
import Derived.Test.YtbfbpddfcakieaaGreatK23
namespace Go.Proofs.YtbfbpddfcakieaaGreat
open Go.RowKit
attribute [local go_sem ↓] Go.wp_at_zero Go.wp_at_succ

set_option maxRecDepth 100000 in
set_option maxHeartbeats 1600000 in
theorem low_walk_none (R : Option Addr) (c : List HC) (n q : Nat) (keep p : Int) (w : World) (hp : p < 0) (hA : HcSl w R n q c) :
    Calls Tryz.prog 9 #[.agg #[.slice R n q, .int .i64 keep], .int .i64 p] w fun e w' => ∃ S d, e = .returned (.tuple #[.agg #[.slice S n d, .int .i64 keep], .int .i64 p]) ∧ HcSl w' S n d c ∧ Ext w w' := by
  obtain ⟨W, hW⟩ : ∃ W, W = (w.alloc (.cells #[.slice R n q, .int .i64 keep] 24)).alloc (.cells #[.slice none 0 0, .int .i64 0] 24) := ⟨_, rfl⟩
  obtain ⟨hx, hb0, hb1⟩ := allocs2 hW.symm
  have HA := Lib.hid hA
  obtain ⟨p0, p1, p2⟩ := hb0.read2
  obtain ⟨t0, t1, t2⟩ := hb1.read2
  obtain ⟨f0, f1⟩ := hb1.free2
  have d0 : decide (p < 0) = true := decide_eq_true hp
  clear hx hb0 hb1 hA
  subst hW
  go_enter Tryz.func9, Tryz.ntmps9
  go_wp2_with fail
  refine ret2_cell (k := w.heap.size + 1) (x := .slice R n q) (y := .int .i64 keep) (v := .tuple #[.agg #[.slice R n q, .int .i64 keep], .int .i64 p]) ?hb4 (fun r0 r1 => by simp [results, Tryz.results9, go_sem, r0, r1]) rfl ?hx4
  case hb4 => exact Bx.new' (by rw [World.size_alloc]) _ _
  case hx4 => exact ⟨R, q, rfl, HA.out.ext (((Ext.refl w).alloc _).alloc _), ((Ext.refl w).alloc _).alloc _⟩
set_option maxRecDepth 100000 in
set_option maxHeartbeats 1600000 in
theorem low_walk_stop (R : Option Addr) (c : List HC) (n q k : Nat) (keep : Int) (w : World) (hk : k < c.length) (_hb : n ≤ 90000) (hst : c[k].leaf = true ∨ c[k].it.length ≠ 1) (hA : HcSl w R n q c) :
    Calls Tryz.prog 9 #[.agg #[.slice R n q, .int .i64 keep], .int .i64 k] w fun e w' => ∃ S d, e = .returned (.tuple #[.agg #[.slice S n d, .int .i64 keep], .int .i64 k]) ∧ HcSl w' S n d c ∧ Ext w w' := by
  have hn := hA.1
  have hx : Ext w ((w.alloc (.cells #[.slice R n q, .int .i64 keep] 24)).alloc (.cells #[.slice none 0 0, .int .i64 0] 24)) := ((Ext.refl w).alloc _).alloc _
  obtain ⟨-, hb0, hb1⟩ := allocs2 (w := w) (c0 := #[.slice R n q, .int .i64 keep]) (c1 := #[.slice none 0 0, .int .i64 0]) (t0 := 24) (t1 := 24) rfl
  obtain ⟨b, off, rfl, hbl, A, ca, r0, r1, r2, r3, hI⟩ := (hA.ext hx).cell hk
  have hsz : ((w.alloc (.cells #[.slice (some ⟨b, off, none⟩) n q, .int .i64 keep] 24)).alloc (.cells #[.slice none 0 0, .int .i64 0] 24)).heap.size = w.heap.size + 1 + 1 := by simp
  obtain ⟨W3, hW3⟩ : ∃ W3, ((w.alloc (.cells #[.slice (some ⟨b, off, none⟩) n q, .int .i64 keep] 24)).alloc (.cells #[.slice none 0 0, .int .i64 0] 24)).alloc (.cells #[.bool c[k].leaf, .slice A c[k].it.length ca] 51) = W3 := ⟨_, rfl⟩
  have hx3 : Ext ((w.alloc (.cells #[.slice (some ⟨b, off, none⟩) n q, .int .i64 keep] 24)).alloc (.cells #[.slice none 0 0, .int .i64 0] 24)) W3 := by rw [← hW3]; exact (Ext.refl _).alloc _
  have hb3 : Bx W3 (w.heap.size + 1 + 1) #[.bool c[k].leaf, .slice A c[k].it.length ca] := by rw [← hW3]; exact Bx.new' (by rw [hsz]) _ _
  have HX := Lib.hid (hx.trans hx3)
  have HB1 := Lib.hid (hb1.ext hx3)
  have HA := Lib.hid ((hA.ext hx).ext hx3)
  obtain ⟨p0, p1, p2⟩ := hb0.read2
  obtain ⟨s0, s1, s2⟩ := (hb0.ext hx3).read2
  obtain ⟨t0, t1, t2⟩ := (hb1.ext hx3).read2
  obtain ⟨f0, f1⟩ := (hb1.ext hx3).free2
  obtain ⟨n0, n1, n2⟩ := hb3.read2
  have d0 : decide ((k : Int) < 0) = false := decide_eq_false (by omega)
  have d0' : ¬ (k : Int) < 0 := by omega
  have hki : (k : Int) < (n : Int) := by omega
  have hkn : k < n := by omega
  have hcs : c[k].leaf = true ∨ (c[k].leaf = false ∧ ((c[k].it.length : Int) != 1) = true) := by
    cases h : c[k].leaf
    · right
      rw [h] at hst
      have h1 : c[k].it.length ≠ 1 := hst.resolve_left (by simp)
      exact ⟨rfl, by simp; omega⟩
    · exact .inl rfl
  clear hx hb0 hb1 hA hx3 hb3 hI hsz hst hn
  generalize c[k].it.length = li at *
  generalize c[k].leaf = lf at *
  generalize c[k].ref = rf at *
  generalize c[k].pin = pn at *
  clear hk
  rcases hcs with rfl | ⟨rfl, t9⟩
  all_goals
    go_enter Tryz.func9, Tryz.ntmps9
    go_wp2_with fail
    refine ret2_cell (k := w.heap.size + 1) (x := .slice (some ⟨b, off, none⟩) n q) (y := .int .i64 keep) (v := .tuple #[.agg #[.slice (some ⟨b, off, none⟩) n q, .int .i64 keep], .int .i64 k]) ?hb4 (fun r0 r1 => by simp [results, Tryz.results9, go_sem, r0, r1]) rfl ?hx4
    case hb4 => exact HB1.out.set2 _ _
    case hx4 => exact ⟨_, q, rfl, HA.out.boxed2 HB1.out _ _, HX.out.store2 (by omega) _ _⟩
set_option maxRecDepth 100000 in
set_option maxHeartbeats 3200000 in
theorem low_walk_on (R : Option Addr) (c c2 c3 : List HC) (n q k wn : Nat) (keep p3 : Int) (w : World) (hk : k < c.length) (hb : n ≤ 90000) (hlf : c[k].leaf = false) (hone : c[k].it.length = 1) (hw : (c[k].it.getD 0 (0, 0)).2 = (wn : Int)) (hrf : ∀ k (hk : k < c.length), c[k].ref ≤ 1999000000) (hc2 : c2 = (holdH ⟨c, keep⟩ (wn : Int)).c) (hl2 : c2.length = c.length) (hbd : Bd c2)
    (hrec : ∀ w' S d, HcSl w' S n d (looseL (c.length + 1) c2 (k : Int)) → Calls Tryz.prog 9 #[.agg #[.slice S n d, .int .i64 keep], .int .i64 wn] w' fun e w2 => ∃ S' d', e = .returned (.tuple #[.agg #[.slice S' n d', .int .i64 keep], .int .i64 p3]) ∧ HcSl w2 S' n d' c3 ∧ Ext w' w2) (hA : HcSl w R n q c) :
    Calls Tryz.prog 9 #[.agg #[.slice R n q, .int .i64 keep], .int .i64 k] w fun e w' => ∃ S d, e = .returned (.tuple #[.agg #[.slice S n d, .int .i64 keep], .int .i64 p3]) ∧ HcSl w' S n d c3 ∧ Ext w w' := by
  have hn := hA.1
  obtain ⟨W, hW⟩ : ∃ W, W = (w.alloc (.cells #[.slice R n q, .int .i64 keep] 24)).alloc (.cells #[.slice none 0 0, .int .i64 0] 24) := ⟨_, rfl⟩
  obtain ⟨hx, hb0, hb1⟩ := allocs2 hW.symm
  have hsz : W.heap.size = w.heap.size + 1 + 1 := by rw [hW]; simp
  obtain ⟨b, off, rfl, hbl, A, ca, r0, r1, r2, r3, hI⟩ := (hA.ext hx).cell hk
  rw [hlf] at r2
  rw [hone] at r3 hI
  obtain ⟨bi, oi, rfl, hbi, -, kv⟩ := it_at hI (k := 0) (by omega)
  have hv : (c[k].it[0]'(by omega)).2 = (wn : Int) := by rw [← hw, List.getD_eq_getElem?_getD, List.getElem?_eq_getElem (by omega)]; rfl
  rw [hv, Nat.zero_mul, Nat.add_zero] at kv
  have HXW := Lib.hid hx
  have HSZ := Lib.hid hsz
  have HB0 := Lib.hid hb0
  have HB1 := Lib.hid hb1
  have HHO := Lib.hid (fun w' (hx : Ext w w') => ref05Hold_any (some ⟨b, off, none⟩) c n q keep (wn : Int) w' hb (fun k hk => by have := hrf k hk; omega) (hA.ext hx))
  rw [← hc2] at HHO
  have HLO := Lib.hid (fun S d w' (hS : HcSl w' S n d c2) => ref05Loose_any (usedN c2) (c.length + 1) S c2 n d keep (k : Int) w' (Nat.le_refl _) (by have := usedN_le c2; omega) hb hbd hS)
  have HRE := Lib.hid hrec
  have d0 : decide ((k : Int) < 0) = false := decide_eq_false (by omega)
  have d0' : ¬ (k : Int) < 0 := by omega
  have hki : (k : Int) < (n : Int) := by omega
  have hkn : k < n := by omega
  obtain ⟨eh, heh⟩ : ∃ e, holdE ⟨c, keep⟩ (wn : Int) = e := ⟨_, rfl⟩
  rw [heh] at HHO
  obtain ⟨p0, p1, p2⟩ := hb0.read2
  clear hx hA hsz hI hw hv hlf hone hrf hc2 hbd hrec heh hn hb0 hb1
  generalize c[k].ref = rf at *
  generalize c[k].pin = pn at *
  generalize looseL (c.length + 1) c2 (k : Int) = c4 at *
  clear hk r0 r1
  -- the node's box
  have hx3 := (Ext.refl W).alloc (.cells #[.bool false, .slice (some ⟨bi, oi, none⟩) 1 ca] 51)
  have hbn := Bx.new W #[.bool false, .slice (some ⟨bi, oi, none⟩) 1 ca] 51
  rw [HSZ.out] at hbn
  obtain ⟨s0, s1, s2⟩ := (HB0.out.ext hx3).read2
  obtain ⟨n0, n1, n2⟩ := hbn.read2
  have k3 := (hx3.cell (p := ⟨bi, oi + 1, none⟩) hbi).trans kv
  have HN := Lib.hid hbn
  have HX3 := Lib.hid hx3
  have hbi3 : bi < (W.alloc (.cells #[.bool false, .slice (some ⟨bi, oi, none⟩) 1 ca] 51)).heap.size := by simp; omega
  have HKV := Lib.hid (And.intro k3 hbi3)
  clear hx3 hbn
  subst hW
  go_enter Tryz.func9, Tryz.ntmps9
  go_wp2_with fail
  have HC0 := Lib.hid (HB0.out.ext HX3.out)
  have HC1 := Lib.hid (HB1.out.ext HX3.out)
  have HXT := Lib.hid (HXW.out.trans HX3.out)
  clear p0 p1 p2 r2 r3 hbl hbi kv HX3 HB0 HB1 HXW HSZ
  generalize hW : World.alloc (World.alloc (World.alloc w _) _) _ = W3 at *
  clear hW
  have hal := (Ext.refl W3).alloc (.cells #[.slice none 0 0, .int .i64 0] 24)
  have ka := (hal.cell (p := ⟨bi, oi + 1, none⟩) hbi3).trans k3
  obtain ⟨sa0, sa1, sa2⟩ := (HC0.out.ext hal).read2
  obtain ⟨na0, na1, na2⟩ := (HN.out.ext hal).read2
  clear hal
  go_cut [7, 8] from 31 to 41 (fun v u wx => ∃ X S' d', v = .pointer (some ⟨X, 0, none⟩) ∧ u = .int .i64 eh ∧ Bx wx X #[.slice S' n d', .int .i64 keep] ∧ HcSl wx S' n d' c2 ∧ Ext W3 wx)
  case first =>
    go_region_law
      (first
        | ((go_simp
            go_at_call 31
            refine (HHO.out _ ?_).mono ?_
            (first | exact HXT.out | exact HXT.out.drew | exact HXT.out.drew.alloc _ | exact (HXT.out.alloc _).drew)
            rintro e w4 ⟨S4, d4, rfl, hs4, hx4⟩
            have E4 := Lib.hid (show Ext W3 w4 from by first | exact hx4 | exact (Ext.refl _).drew.trans hx4 | exact (((Ext.refl _).drew).alloc _).trans hx4 | exact (((Ext.refl _).alloc _).drew).trans hx4)
            have N4 := Lib.hid hs4
            (try (have B4 := Lib.hid (show Bx w4 W3.heap.size #[.slice none 0 0, .int .i64 0] from (Bx.new W3.drew _ _).ext hx4); have f0 := B4.out.free 0; have f1 := B4.out.free 1; have z1 := B4.out.lt; have q0 : w4.cell? ⟨W3.heap.size, 0, none⟩ = some (.slice none 0 0) := B4.out.at 0 _ rfl; have q1 : w4.cell? ⟨W3.heap.size, 1, none⟩ = some (.int .i64 0) := B4.out.at 1 _ rfl))
            clear hs4 hx4)))
    all_goals
      go_wp2_with fail
      go_meet
      first
      | exact ⟨_, S4, d4, rfl, rfl, Bx.new _ _ _, N4.out.ext ((Ext.refl _).alloc _), E4.out.alloc _⟩
      | exact ⟨_, S4, d4, rfl, rfl, B4.out.set2 _ _, N4.out.boxed2 B4.out _ _, E4.out.store2 (Nat.le_refl _) _ _⟩
  case rest =>
    obtain ⟨X, S4, d4, rfl, rfl, hbx, hs4, hx4⟩ := hcut
    have HS4 := Lib.hid hs4
    have HX4 := Lib.hid (HXT.out.trans hx4)
    have HN4 := Lib.hid (HN.out.ext hx4)
    have HD1 := Lib.hid (HC1.out.ext hx4)
    have HKV4 := Lib.hid (And.intro ((hx4.cell (p := ⟨bi, oi + 1, none⟩) hbi3).trans k3) (Nat.lt_of_lt_of_le hbi3 hx4.size))
    obtain ⟨x0, x1, x2⟩ := hbx.read2
    clear hs4 hx4 hbx s0 s1 s2 n0 n1 n2 k3 hbi3 ka sa0 sa1 sa2 na0 na1 na2 HC0 HC1 HN HKV
    go_wp2_with (go_at_call 29; refine stop_here ?_)
    refine stop_on ?_
    refine (HLO.out _ _ _ HS4.out).mono ?_
    rintro e w5 ⟨S5, d5, rfl, hs5, hx5⟩
    have HS5 := Lib.hid hs5
    have HX5 := Lib.hid (HX4.out.trans hx5)
    have HN5 := Lib.hid (HN4.out.ext hx5)
    have HE1 := Lib.hid (HD1.out.ext hx5)
    have k5 := (hx5.cell (p := ⟨bi, oi + 1, none⟩) HKV4.out.2).trans HKV4.out.1
    have hb5 := Nat.lt_of_lt_of_le HKV4.out.2 hx5.size
    clear hs5 hx5 x0 x1 x2
    have hal := (Ext.refl w5).alloc (.cells #[.slice S5 n d5, .int .i64 keep] 24)
    have k6 := (hal.cell (p := ⟨bi, oi + 1, none⟩) hb5).trans k5
    obtain ⟨n0, n1, n2⟩ := (HN5.out.ext hal).read2
    obtain ⟨t0, t1, t2⟩ := (HE1.out.ext hal).read2
    obtain ⟨f0, f1⟩ := (HE1.out.ext hal).free2
    obtain ⟨y0, y1, y2⟩ := (Bx.new w5 #[.slice S5 n d5, .int .i64 keep] 24).read2
    have HX6 := Lib.hid (HX5.out.trans hal)
    have HS6 := Lib.hid (HS5.out.ext hal)
    have HF1 := Lib.hid (HE1.out.ext hal)
    clear hal k5 hb5
    go_wp2_with fail
    go_region_law
      (first
        | ((go_simp
            go_at_call 9
            refine (HRE.out _ S5 d5 (by first | exact HS6.out | exact HS6.out.ext (Ext.refl _).drew)).mono ?_
            rintro e w7 ⟨S7, d7, rfl, hs7, hx7⟩
            have E7 := Lib.hid (show Ext (w5.alloc (.cells #[.slice S5 n d5, .int .i64 keep] 24)) w7 from by first | exact hx7 | exact (Ext.refl _).drew.trans hx7)
            have HS7 := Lib.hid hs7
            have HG1 := Lib.hid (HF1.out.ext E7.out)
            obtain ⟨t0, t1, t2⟩ := HG1.out.read2
            obtain ⟨f0, f1⟩ := HG1.out.free2
            clear hs7 hx7)))
    all_goals
      go_wp2_with fail
      refine ret2_cell (k := w.heap.size + 1) (x := .slice S7 n d7) (y := .int .i64 keep) (v := .tuple #[.agg #[.slice S7 n d7, .int .i64 keep], .int .i64 p3]) ?hb4 (fun r0 r1 => by simp [results, Tryz.results9, go_sem, r0, r1]) rfl ?hx4
      case hb4 => exact HG1.out.set2 _ _
      case hx4 => exact ⟨S7, d7, rfl, HS7.out.boxed2 HG1.out _ _, (HX6.out.trans E7.out).store2 (k := w.heap.size + 1) (by omega) _ _⟩
end Go.Proofs.YtbfbpddfcakieaaGreat
namespace Go.Proofs.YtbfbpddfcakieaaGreat
open Go.RowKit

theorem ref10Low_any : ∀ (m : Nat) (c : List HC) (p : Int) (R : Option Addr) (n q : Nat) (keep : Int) (w : World), rightH ⟨c, keep⟩ = true → (∀ k (hk : k < c.length), c[k].ref ≤ 1990000000 - (m : Int)) → m ≤ 1000 → p < c.length → lowE m c p → HcSl w R n q c →
    Calls Tryz.prog 9 #[.agg #[.slice R n q, .int .i64 keep], .int .i64 p] w fun e w' => ∃ S d, e = .returned (.tuple #[.agg #[.slice S n d, .int .i64 keep], .int .i64 (lowS m c p).2]) ∧ HcSl w' S n d (lowS m c p).1 ∧ Ext w w'
  | 0, _, _, _, _, _, _, _, _, _, _, _, he, _ => he.elim
  | m + 1, c, p, R, n, q, keep, w, hr, hs, hm, hp, he, hA => by
    have hn := hA.1
    have hn2 := (rightH_iff hr).1.1.2
    rcases Int.lt_or_le p 0 with h0 | h0
    · rw [lowS, if_pos h0]
      exact low_walk_none R c n q keep p w h0 hA
    · obtain ⟨k, rfl⟩ := Int.eq_ofNat_of_zero_le h0
      have hk : k < c.length := by omega
      rw [lowE, cellT_at hk] at he
      rw [lowS, if_neg (by omega), cellT_at hk]
      by_cases hc : c[k].leaf = true ∨ c[k].it.length ≠ 1
      · rw [if_pos hc]
        exact low_walk_stop R c n q k keep w hk (by omega) hc hA
      · rw [if_neg hc]
        have he2 := (he.resolve_left (by omega)).resolve_left hc
        have hc2 := hc
        rw [not_or, Bool.not_eq_true, Decidable.not_not] at hc2
        obtain ⟨wn, hw, e1, r1, r2, l1, l2, b1, b2, _⟩ := low_off hk hr (fun k hk => by have := hs k hk; omega) hc2.1 hc2.2
        have hhc := hold_c c keep (wn : Int)
        rw [e1] at he2 ⊢
        rw [hhc] at r1 r2 l1 l2 b1 b2
        refine low_walk_on R c (holdL c (wn : Int)) _ n q k wn keep _ w hk (by omega) hc2.1 hc2.2 e1 (fun k hk => by have := hs k hk; omega) hhc.symm l1 (fun j hj => by have := b1 j hj; omega) (fun w' S d hS => ?_) hA
        exact ref10Low_any m _ (wn : Int) S n d keep w' r2 (fun j hj => by have := b2 (1990000000 - ((m + 1 : Nat) : Int)) (by omega) (fun j hj => hs j hj) j hj; omega) (by omega) (by rw [l2]; omega) he2 hS
end Go.Proofs.YtbfbpddfcakieaaGreat
namespace Go.Proofs.YtbfbpddfcakieaaGreat
open Go.RowKit
attribute [local go_sem ↓] Go.wp_at_zero Go.wp_at_succ

end Go.Proofs.YtbfbpddfcakieaaGreat
