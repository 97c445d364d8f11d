/- The contract of anew of the reference of layer 10. The walk of Del of the reference of layer 10, where it takes nothing out. The walk of Del of the reference of layer 10, where nothing is left. -/
import Derived.Test.YtbfbpddfcakieaaGreatK47
import Derived.Test.YtbfbpddfcakieaaGreatK27
import Derived.Test.YtbfbpddfcakieaaGreatK44
import Derived.Test.YtbfbpddfcakieaaGreatK03
import Derived.Test.YtbfbpddfcakieaaGreatK15
import Derived.Test.YtbfbpddfcakieaaGreatK05
namespace Go.Proofs.YtbfbpddfcakieaaGreat
open Go.RowKit

/-- A node, made anew without a key. -/
theorem ref10anew_any {keep : Int} : ∀ (m : Nat) (c : List HC) (p key e : Int) (R : Option Addr) (n q : Nat) (w : World), m ≤ 20 → rightH ⟨c, keep⟩ = true → (∀ k (hk : k < c.length), c[k].ref ≤ 1000000) → 0 ≤ p → p < c.length → (bel c m p).is = true → (bel c 20 p).hi < e → (∃ z ∈ listB c 20 p, z.1 = key) →
    (bel c 20 p).high ≤ (c.countP freeC : Nat) → n ≤ 90000 → HcSl w R n q c →
    Calls Tryz.prog 28 #[.agg #[.slice R n q, .int .i64 keep], .int .i64 p, .int .i64 key] w fun e w' => ∃ S d O z, e = .returned (.tuple #[.agg #[.slice S n d, .int .i64 keep], .slice O (delS m c p key).2.length z]) ∧ HcSl w' S n d (delS m c p key).1 ∧ Sl w' O (delS m c p key).2.length z (ivs (delS m c p key).2) ∧ Ext w w'
  | 0, _, _, _, _, _, _, _, _, _, _, _, _, _, hb, _, _, _, _, _ => (bel_zero hb).elim
  | m + 1, c, p, key, e, R, n, q, w, hm, hr, hs, h0, h1, hb, he, hin, hf, hn, hA => by
    obtain ⟨k, rfl⟩ := Int.eq_ofNat_of_zero_le h0
    have hk : k < c.length := by omega
    have hb20 : (bel c 20 (k : Int)).is = true := by rw [bel_mono c (m + 1) 20 _ hb hm]; exact hb
    obtain ⟨hrf, hc⟩ := bel_is hb
    rw [cellT_at hk] at hrf hc
    have hok := cell_ok ((rightH_iff hr).2 k hk) hrf
    have hnd : ndR c[k].it = true := (ndR_iff _).2 hok.1
    have hl4 := hok.1.1
    rcases hc with ⟨hlf, _⟩ | ⟨hlf, _, hch⟩
    · obtain ⟨-, -, hdef, hab⟩ := del_leaf (m := m) hk hr hs hb20 he hf hin hlf
      rw [hdef, layD_length]
      have hle := atD_leaf_ok hok.1 key
      rw [hab, if_pos rfl] at hle
      exact del_walk_leaf R c n q k keep key (atC c[k].it key) _ w hk hn (fun k hk => by have := hs k hk; omega) hA hlf hnd atI_leaf hle rfl
    · obtain ⟨hi, _⟩ := at_low hok.1 key
      have hcd : childT c[k].it key = c[k].it[(atI false c[k].it key).toNat] := itD_at hi
      have hcm : childT c[k].it key ∈ c[k].it := by rw [hcd]; exact List.getElem_mem hi
      have hat : atI false c[k].it key = ((atI false c[k].it key).toNat : Int) := by
        rw [Int.toNat_of_nonneg]; unfold atI; split <;> omega
      have hm2 : m ≤ 20 := by omega
      have IHd := fun (e' : Int) (h2 : (bel c 20 (childT c[k].it key).2).hi < e') (h3 : ∃ z ∈ listB c 20 (childT c[k].it key).2, z.1 = key) (h4 : (bel c 20 (childT c[k].it key).2).high ≤ (c.countP freeC : Nat)) => del_ok m c (childT c[k].it key).2 key e' hm2 hr hs (hok.2 hlf _ hcm).1 (hok.2 hlf _ hcm).2 (hch _ hcm).1 h2 h3 h4
      obtain ⟨-, -, hdef, hin2⟩ := del_other (m := m) hk hr hs hb20 he hf hin hlf IHd
      obtain ⟨Rw, -, -, -⟩ := row_of_bel hr hk hb20 he
      rw [hlf] at Rw
      have hrow := (Rw.inn rfl).2.2 _ hi
      rw [← hcd] at hrow
      have hch2 := (bel_high c 20 (k : Int)).2
      have hfc : (bel c 20 (childT c[k].it key).2).high ≤ (c.countP freeC : Nat) := by omega
      obtain ⟨a, AN⟩ := IHd ((bel c 20 (childT c[k].it key).2).hi + 1) (by omega) hin2 hfc
      have IH := fun w' (hx' : Ext w w') => ref10anew_any m c (childT c[k].it key).2 key ((bel c 20 (childT c[k].it key).2).hi + 1) R n q w' (by omega) hr hs (hok.2 hlf _ hcm).1 (hok.2 hlf _ hcm).2 (hch _ hcm).1 (by omega) hin2 hfc hn (hA.ext hx')
      rw [hdef, layD_length]
      have hAl := AN.len
      have hAr := AN.refs
      have hAm := AN.many
      have hkl := AN.keeps.len
      have hb2 := (bel_high c 20 (childT c[k].it key).2).1
      generalize delS m c (childT c[k].it key).2 key = r at *
      refine del_walk_other R c n q k keep key (atI false c[k].it key).toNat _ r.1 r.2 w hk hn hA hlf hnd hat hi hAl (fun j hj => ?_) rfl (fun w' hx' => ?_)
      · have hj' : j < c.length := by omega
        have h3 := hAr j hj' hj
        have h4 := hs j hj'
        split at h3 <;> omega
      · rw [← hcd]; exact IH w' hx'
end Go.Proofs.YtbfbpddfcakieaaGreat
namespace Go.Proofs.YtbfbpddfcakieaaGreat
open Go.RowKit
attribute [local go_sem ↓] Go.wp_at_zero Go.wp_at_succ

set_option maxRecDepth 100000 in
set_option maxHeartbeats 3200000 in
theorem del_walk_none (R : Option Addr) (c : List HC) (n q : Nat) (keep root key : Int) (w : World) (hl : AllR c) (hn : c.length ≤ 2000) (hr : rightR ⟨c, keep⟩ root = true) (hg : getT c root key = none) (hA : HcSl w R n q c) :
    Calls Tryz.prog 7 #[.agg #[.slice R n q, .int .i64 keep], .int .i64 root, .int .i64 key] w fun e w' => ∃ S d, e = .returned (.tuple #[.agg #[.slice S n d, .int .i64 keep], .int .i64 root, .int .i64 4]) ∧ HcSl w' S n d c ∧ Ext w w' := by
  obtain ⟨W, hW⟩ : ∃ W, W = (w.alloc (.cells #[.slice R n q, .int .i64 keep] 24)).alloc (.cells #[.slice none 0 0, .int .i64 0] 24) := ⟨_, rfl⟩
  obtain ⟨hx, hb0, hb1⟩ := allocs2 hW.symm
  have HX := Lib.hid hx
  have HB0 := Lib.hid hb0
  have HB1 := Lib.hid hb1
  have HA := Lib.hid hA
  have HG := Lib.hid (fun w' (hx : Ext w w') => ref07Get_any R c n q keep keep root key w' hl hn hr (hA.ext hx))
  obtain ⟨ge, hge⟩ : ∃ ge, getE (getT c root key) = ge := ⟨_, rfl⟩
  have hz : (ge != 0) = true := by rw [← hge, hg]; rfl
  rw [hge] at HG
  obtain ⟨p0, p1, p2⟩ := hb0.read2
  clear hx hb0 hb1 hA hl hn hr hg hge
  subst hW
  go_enter Tryz.func7, Tryz.ntmps7
  go_wp2_with (go_at_call 25; refine stop_here ?_)
  refine stop_on ?_
  generalize hW : World.alloc (World.alloc w _) _ = W at *
  clear hW
  refine (HG.out _ HX.out).mono ?_
  rintro e w1 ⟨rfl, hx1⟩
  have HX1 := Lib.hid (HX.out.trans hx1)
  have HT := Lib.hid (HB1.out.ext hx1)
  clear p0 p1 p2
  obtain ⟨p0, p1, p2⟩ := (HB0.out.ext hx1).read2
  obtain ⟨t0, t1, t2⟩ := HT.out.read2
  obtain ⟨f0, f1⟩ := HT.out.free2
  clear hx1
  go_wp2_with fail
  refine ret2_cell (k := w.heap.size + 1) (x := .slice R n q) (y := .int .i64 keep) (v := .tuple #[.agg #[.slice R n q, .int .i64 keep], .int .i64 root, .int .i64 4]) ?hb4 (fun r0 r1 => by simp [results, Tryz.results7, go_sem, r0, r1]) rfl ?hx4
  case hb4 => exact HT.out.set2 _ _
  case hx4 => exact ⟨R, q, rfl, (HA.out.ext HX1.out).boxed2 HT.out _ _, HX1.out.store2 (by omega) _ _⟩
set_option maxRecDepth 100000 in
set_option maxHeartbeats 3200000 in
theorem del_walk_full (R : Option Addr) (c : List HC) (n q : Nat) (keep root key : Int) (w : World) (hk : 0 ≤ keep ∧ keep ≤ 9223372036854775807) (hl : AllR c) (hn : c.length ≤ 2000) (hr : rightR ⟨c, keep⟩ root = true) (hg : getT c root key ≠ none) (hf : fitsH ⟨c, keep⟩ (highT c root) true = false) (hA : HcSl w R n q c) :
    Calls Tryz.prog 7 #[.agg #[.slice R n q, .int .i64 keep], .int .i64 root, .int .i64 key] w fun e w' => ∃ S d, e = .returned (.tuple #[.agg #[.slice S n d, .int .i64 keep], .int .i64 root, .int .i64 3]) ∧ HcSl w' S n d c ∧ Ext w w' := by
  obtain ⟨W, hW⟩ : ∃ W, W = (w.alloc (.cells #[.slice R n q, .int .i64 keep] 24)).alloc (.cells #[.slice none 0 0, .int .i64 0] 24) := ⟨_, rfl⟩
  obtain ⟨hx, hb0, hb1⟩ := allocs2 hW.symm
  have HX := Lib.hid hx
  have HB0 := Lib.hid hb0
  have HB1 := Lib.hid hb1
  have HA := Lib.hid hA
  have HG := Lib.hid (fun w' (hx : Ext w w') => ref07Get_any R c n q keep keep root key w' hl hn hr (hA.ext hx))
  have HH := Lib.hid (fun w' (hx : Ext w w') => ref07High_any R c n q keep root w' hl hn hr (hA.ext hx))
  have HF := Lib.hid (fun w' (hx : Ext w w') => ref05Fits_any R c n q keep (highT c root) true w' hk (hA.ext hx))
  rw [hf] at HF
  obtain ⟨ge, hge⟩ : ∃ ge, getE (getT c root key) = ge := ⟨_, rfl⟩
  have hz : (ge != 0) = false := by
    rw [← hge]
    cases h : getT c root key with
    | none => exact absurd h hg
    | some v => rfl
  rw [hge] at HG
  obtain ⟨p0, p1, p2⟩ := hb0.read2
  clear hx hb0 hb1 hA hl hn hr hg hge hf hk
  generalize highT c root = hi at *
  subst hW
  go_enter Tryz.func7, Tryz.ntmps7
  go_wp2_with (go_at_call 25; refine stop_here ?_)
  refine stop_on ?_
  generalize hW : World.alloc (World.alloc w _) _ = W at *
  clear hW
  refine (HG.out _ HX.out).mono ?_
  rintro e w1 ⟨rfl, hx1⟩
  have HX1 := Lib.hid (HX.out.trans hx1)
  have HB2 := Lib.hid (HB0.out.ext hx1)
  have HT := Lib.hid (HB1.out.ext hx1)
  clear p0 p1 p2
  obtain ⟨p0, p1, p2⟩ := HB2.out.read2
  have EC := Lib.hid (Ext.refl w1)
  clear hx1
  go_wp2_with fail
  go_region_law
    (first
      | ((go_simp
          go_at_call 27
          refine (HH.out _ (HX1.out.trans ?_)).mono ?_
          (first | exact EC.out | exact EC.out.drew)
          rintro e wa ⟨rfl, -, hxa⟩
          have EC := Lib.hid (show Ext w1 wa from by first | exact EC.out.trans hxa | exact EC.out.drew.trans hxa)
          obtain ⟨p0, p1, p2⟩ := (HB2.out.ext EC.out).read2
          clear hxa))
      | ((go_simp
          go_at_call 26
          refine (HF.out _ (HX1.out.trans EC.out)).mono ?_
          rintro e wb ⟨rfl, hxb⟩
          have EC := Lib.hid (EC.out.trans hxb)
          obtain ⟨p0, p1, p2⟩ := (HB2.out.ext EC.out).read2
          obtain ⟨t0, t1, t2⟩ := (HT.out.ext EC.out).read2
          obtain ⟨f0, f1⟩ := (HT.out.ext EC.out).free2
          clear hxb)))
  all_goals
    have HT5 := Lib.hid (HT.out.ext EC.out)
    have HX5 := Lib.hid (HX1.out.trans EC.out)
    go_wp2_with fail
    refine ret2_cell (k := w.heap.size + 1) (x := .slice R n q) (y := .int .i64 keep) (v := .tuple #[.agg #[.slice R n q, .int .i64 keep], .int .i64 root, .int .i64 3]) ?hb4 (fun r0 r1 => by simp [results, Tryz.results7, go_sem, r0, r1]) rfl ?hx4
    case hb4 => exact HT5.out.set2 _ _
    case hx4 => exact ⟨R, q, rfl, (HA.out.ext HX5.out).boxed2 HT5.out _ _, HX5.out.store2 (by omega) _ _⟩
end Go.Proofs.YtbfbpddfcakieaaGreat
namespace Go.Proofs.YtbfbpddfcakieaaGreat
open Go.RowKit
attribute [local go_sem ↓] Go.wp_at_zero Go.wp_at_succ

set_option maxRecDepth 100000 in
set_option maxHeartbeats 3200000 in
theorem del_walk_empty (R : Option Addr) (c : List HC) (n q : Nat) (keep root key : Int) (w : World) (hk : 0 ≤ keep ∧ keep ≤ 9223372036854775807) (hl : AllR c) (hn : c.length ≤ 2000) (hr : rightR ⟨c, keep⟩ root = true) (hg : getT c root key ≠ none) (hf : fitsH ⟨c, keep⟩ (highT c root) true = true) (c2 c4 : List HC) (le : Int)
    (hch : ∀ w', Ext w w' → Calls Tryz.prog 28 #[.agg #[.slice R n q, .int .i64 keep], .int .i64 root, .int .i64 key] w' fun e w2 => ∃ S d O z, e = .returned (.tuple #[.agg #[.slice S n d, .int .i64 keep], .slice O 0 z]) ∧ HcSl w2 S n d c2 ∧ Ext w' w2)
    (hls : ∀ w' S d, HcSl w' S n d c2 → Calls Tryz.prog 29 #[.agg #[.slice S n d, .int .i64 keep], .int .i64 root] w' fun e w2 => ∃ S' d', e = .returned (.tuple #[.agg #[.slice S' n d', .int .i64 keep], .int .i64 le]) ∧ HcSl w2 S' n d' c4 ∧ Ext w' w2) (hA : HcSl w R n q c) :
    Calls Tryz.prog 7 #[.agg #[.slice R n q, .int .i64 keep], .int .i64 root, .int .i64 key] w fun e w' => ∃ S d, e = .returned (.tuple #[.agg #[.slice S n d, .int .i64 keep], .int .i64 (-1), .int .i64 0]) ∧ HcSl w' S n d c4 ∧ Ext w w' := by
  obtain ⟨W, hW⟩ : ∃ W, W = (w.alloc (.cells #[.slice R n q, .int .i64 keep] 24)).alloc (.cells #[.slice none 0 0, .int .i64 0] 24) := ⟨_, rfl⟩
  obtain ⟨hx, hb0, hb1⟩ := allocs2 hW.symm
  have HX := Lib.hid hx
  have HB0 := Lib.hid hb0
  have HB1 := Lib.hid hb1
  have HA := Lib.hid hA
  have HG := Lib.hid (fun w' (hx : Ext w w') => ref07Get_any R c n q keep keep root key w' hl hn hr (hA.ext hx))
  have HH := Lib.hid (fun w' (hx : Ext w w') => ref07High_any R c n q keep root w' hl hn hr (hA.ext hx))
  have HF := Lib.hid (fun w' (hx : Ext w w') => ref05Fits_any R c n q keep (highT c root) true w' hk (hA.ext hx))
  rw [hf] at HF
  have HCH := Lib.hid hch
  have HLS := Lib.hid hls
  obtain ⟨ge, hge⟩ : ∃ ge, getE (getT c root key) = ge := ⟨_, rfl⟩
  have hz : (ge != 0) = false := by
    rw [← hge]
    cases h : getT c root key with
    | none => exact absurd h hg
    | some v => rfl
  rw [hge] at HG
  obtain ⟨p0, p1, p2⟩ := hb0.read2
  clear hx hb0 hb1 hA hl hn hr hg hge hf hk hch hls
  generalize highT c root = hi at *
  subst hW
  go_enter Tryz.func7, Tryz.ntmps7
  go_wp2_with (go_at_call 25; refine stop_here ?_)
  refine stop_on ?_
  generalize hW : World.alloc (World.alloc w _) _ = W at *
  clear hW
  refine (HG.out _ HX.out).mono ?_
  rintro e w1 ⟨rfl, hx1⟩
  have HX1 := Lib.hid (HX.out.trans hx1)
  have HB2 := Lib.hid (HB0.out.ext hx1)
  have HT := Lib.hid (HB1.out.ext hx1)
  clear p0 p1 p2
  obtain ⟨p0, p1, p2⟩ := HB2.out.read2
  have EC := Lib.hid (Ext.refl w1)
  clear hx1
  go_wp2_with fail
  go_region_law
    (first
      | ((go_simp
          go_at_call 27
          refine (HH.out _ (HX1.out.trans ?_)).mono ?_
          (first | exact EC.out | exact EC.out.drew)
          rintro e wa ⟨rfl, -, hxa⟩
          have EC := Lib.hid (show Ext w1 wa from by first | exact EC.out.trans hxa | exact EC.out.drew.trans hxa)
          obtain ⟨p0, p1, p2⟩ := (HB2.out.ext EC.out).read2
          clear hxa))
      | ((go_simp
          go_at_call 26
          refine (HF.out _ (HX1.out.trans EC.out)).mono ?_
          rintro e wb ⟨rfl, hxb⟩
          have EC := Lib.hid (EC.out.trans hxb)
          obtain ⟨p0, p1, p2⟩ := (HB2.out.ext EC.out).read2
          clear hxb)))
  all_goals
    have HT5 := Lib.hid (HT.out.ext EC.out)
    have HX5 := Lib.hid (HX1.out.trans EC.out)
    go_wp2_with (go_at_call 28; refine stop_here ?_)
    refine stop_on ?_
    refine (HCH.out _ HX5.out).mono ?_
    rintro e w6 ⟨S6, d6, O6, z6, rfl, hs6, hx6⟩
    have HX6 := Lib.hid (HX5.out.trans hx6)
    have HT6 := Lib.hid (HT5.out.ext hx6)
    have HS6 := Lib.hid hs6
    clear hs6 hx6 p0 p1 p2
    go_wp2_with (go_at_call 29; refine stop_here ?_)
    refine stop_on ?_
    have hx7 := (Ext.refl w6).alloc (.cells #[.slice S6 n d6, .int .i64 keep] 24)
    refine (HLS.out _ _ _ (HS6.out.ext hx7)).mono ?_
    rintro e w8 ⟨S8, d8, rfl, hs8, hx8⟩
    have HX8 := Lib.hid ((HX6.out.trans hx7).trans hx8)
    have HT8 := Lib.hid ((HT6.out.ext hx7).ext hx8)
    have HS8 := Lib.hid hs8
    clear hs8 hx8 hx7
    have hx9 := (Ext.refl w8).alloc (.cells #[.slice S8 n d8, .int .i64 keep] 24)
    have HT9 := Lib.hid (HT8.out.ext hx9)
    obtain ⟨t0, t1, t2⟩ := HT8.out.read2
    obtain ⟨f0, f1⟩ := HT8.out.free2
    obtain ⟨s0, s1, s2⟩ := HT9.out.read2
    obtain ⟨g0, g1⟩ := HT9.out.free2
    clear hx9
    go_wp2_with fail
    refine ret2_cell (k := w.heap.size + 1) (x := .slice S8 n d8) (y := .int .i64 keep) (v := .tuple #[.agg #[.slice S8 n d8, .int .i64 keep], .int .i64 (-1), .int .i64 0]) ?hb4 (fun r0 r1 => by simp [results, Tryz.results7, go_sem, r0, r1]) rfl ?hx4
    case hb4 => exact (HT8.out.set2 _ _).ext ((Ext.refl _).alloc _)
    case hx4 => exact ⟨S8, d8, rfl, (HS8.out.boxed2 HT8.out _ _).ext ((Ext.refl _).alloc _), (HX8.out.store2 (k := w.heap.size + 1) (by omega) _ _).alloc _⟩
end Go.Proofs.YtbfbpddfcakieaaGreat
