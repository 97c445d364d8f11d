/- The walk of anew of the reference of layer 9, of a node that is no leaf. The contract of anew of the reference of layer 9. Walks of Need, Ints, Right and May of the reference of layer 7. The walk of Put of the reference of layer 9, where nothing is put, or into no tree. The walk of Put of the reference of layer 9, where there is no room, or no tree. The walk of Put of the reference of layer 9, where it is put into no tree. The walk of Put of the reference of layer 9, where it is put into a tree. -/
import Derived.Test.YtbfbpddfcakieaaGreatK39
import Derived.Test.YtbfbpddfcakieaaGreatK40
import Derived.Test.YtbfbpddfcakieaaGreatK15
import Derived.Test.YtbfbpddfcakieaaGreatK20
import Derived.Test.YtbfbpddfcakieaaGreatK13
import Derived.Test.YtbfbpddfcakieaaGreatK19
import Derived.Test.YtbfbpddfcakieaaGreatK37
namespace Go.Proofs.YtbfbpddfcakieaaGreat
open Go.RowKit
attribute [local go_sem ↓] Go.wp_at_zero Go.wp_at_succ

set_option maxRecDepth 100000 in
set_option maxHeartbeats 6400000 in
theorem anew_walk_other (R : Option Addr) (c : List HC) (n q k : Nat) (keep : Int) (x : It) (i0 : Nat) (xs : List It) (c2 : List HC) (L2 : List It) (w : World) (hk : k < c.length) (hb : n ≤ 90000) (hA : HcSl w R n q c) (hlf : c[k].leaf = false) (hnd : ndR c[k].it = true)
    (hi : atI false c[k].it x.1 = (i0 : Int)) (hi2 : i0 < c[k].it.length) (hl2 : 1 ≤ L2.length ∧ L2.length ≤ 2) (hs : ∀ k (hk : k < c2.length), c2[k].ref ≤ 2000000) (hxs : withS c[k].it i0 1 L2 = xs) (h1 : 1 ≤ xs.length) (h5 : xs.length ≤ 5)
    (hch : ∀ w', Ext w w' → Calls Tryz.prog 65 #[.agg #[.slice R n q, .int .i64 keep], .int .i64 c[k].it[i0].2, .agg #[.int .i64 x.1, .int .i64 x.2]] w' fun e w2 => ∃ S d O z, e = .returned (.tuple #[.agg #[.slice S n d, .int .i64 keep], .slice O L2.length z]) ∧ HcSl w2 S n d c2 ∧ Sl w2 O L2.length z (ivs L2) ∧ Ext w' w2) :
    Calls Tryz.prog 65 #[.agg #[.slice R n q, .int .i64 keep], .int .i64 k, .agg #[.int .i64 x.1, .int .i64 x.2]] w fun e w' => ∃ S d O z, e = .returned (.tuple #[.agg #[.slice S n d, .int .i64 keep], .slice O (splitS xs).length z]) ∧ HcSl w' S n d (layS false (L2.map (·.2)) (splitS xs) c2).1 ∧ Sl w' O (splitS xs).length z (ivs (layS false (L2.map (·.2)) (splitS xs) c2).2) ∧ Ext w w' := by
  obtain ⟨W, hW⟩ : ∃ W, W = ((w.alloc (.cells #[.slice R n q, .int .i64 keep] 24)).alloc (.cells #[.int .i64 x.1, .int .i64 x.2] 46)).alloc (.cells #[.slice none 0 0, .int .i64 0] 24) := ⟨_, rfl⟩
  obtain ⟨hx, hb0, hb1, hb2⟩ := allocs3 hW.symm
  have hsz : W.heap.size = w.heap.size + 1 + 1 + 1 := by rw [hW]; simp
  have hn := hA.1
  obtain ⟨b, off, rfl, hbl, A, ca, r0, r1, r2, r3, hI⟩ := (hA.ext hx).cell hk
  rw [hlf] at r2
  obtain ⟨s1, s2, s3, s4⟩ := split_rows h1 h5
  have HX := Lib.hid hx
  have HSZ := Lib.hid hsz
  have HB0 := Lib.hid hb0
  have HB1 := Lib.hid hb1
  have HB2 := Lib.hid hb2
  have HCH := Lib.hid hch
  have hwl : (withS c[k].it i0 1 L2).length = i0 + L2.length + (c[k].it.length - (i0 + 1)) := by
    unfold withS; simp; omega
  rw [hxs] at hwl
  have hlen : c[k].it.length ≤ 4 := ((ndR_iff _).1 hnd).1.2
  have HBD := Lib.hid (lay_bd (leaf := false) (held := L2.map (·.2)) (rows := splitS xs) (l := c2) (B := 2000000) (by omega) (by rw [s1]; omega) hs)
  have HNE := Lib.hid (show ∀ j (hj : j < (splitS xs).length), 1 ≤ (splitS xs)[j].length from fun j hj => (s2 _ (List.getElem_mem hj)).1)
  have HLAY := Lib.hid (fun S d w' P z H t (hA : HcSl w' S n d c2) (hP : RowsSl w' P (splitS xs).length z (splitS xs)) (hH : Sl w' H L2.length t ((L2.map (·.2)).map iv)) => ref09Lay_any S c2 n d keep false P (splitS xs) (splitS xs).length z H (L2.map (·.2)) L2.length t w' hb (by omega) HBD.out HNE.out hA hP (by rw [List.length_map]) hH)
  have HAT := Lib.hid (fun w' (hx2 : Ext W w') => ref04At_any false A c[k].it c[k].it.length ca x.1 w' rfl hnd (hI.ext hx2))
  have HWI := Lib.hid (fun w' B d (hx2 : Ext W w') (hB : Sl w' B L2.length d (ivs L2)) => ref04With_any A B c[k].it L2 c[k].it.length L2.length ca d i0 1 w' rfl rfl (by omega) (by omega) (by omega) (by omega) (hI.ext hx2) hB)
  have HSP := Lib.hid (fun w' B d (hB : Sl w' B xs.length d (ivs xs)) => ref04Split_rows B xs xs.length d w' rfl (by omega) hB)
  have HV := Lib.hid (fun w' B d (hB : Sl w' B L2.length d (ivs L2)) => ref09V_any B L2 L2.length d w' rfl (by omega) hB)
  rw [hi] at HAT
  simp only [hxs, ← hwl] at HWI
  obtain ⟨bi, oi, rfl, hbi, -, kv⟩ := it_at hI hi2
  have hki : (k : Int) < (n : Int) := by omega
  have hkn : k < n := by omega
  generalize c[k].it[i0].2 = V0 at *
  clear hA hx hb0 hb1 hb2 hsz hwl hs hnd hi hxs s1 s2 s3 s4 hlf HBD HNE hch hI
  have hii : (i0 : Int) < (c[k].it.length : Int) := by omega
  generalize splitS xs = rows at *
  generalize c[k].it.length = li at *
  generalize atB c[k].it x.1 = ab at *
  generalize c[k].ref = rf at *
  generalize c[k].pin = pn at *
  generalize (layS false (L2.map (·.2)) rows c2).1 = c3 at *
  generalize (layS false (L2.map (·.2)) rows c2).2 = L3 at *
  clear hk r0 r1 hn
  subst hW
  obtain ⟨p0, p1, p2⟩ := HB0.out.read2
  obtain ⟨x0, x1, x2⟩ := HB1.out.read2
  go_enter Tryz.func65, Tryz.ntmps65
  go_wp2_with (go_at_call 53; refine stop_here ?_)
  refine stop_on ?_
  generalize hW : World.alloc (World.alloc (World.alloc w _) _) _ = W at *
  clear hW
  have hx3 : Ext W (W.alloc (.cells #[.bool false, .slice (some ⟨bi, oi, none⟩) li ca] 51)) := (Ext.refl W).alloc _
  have hbn := Bx.new W #[.bool false, .slice (some ⟨bi, oi, none⟩) li ca] 51
  rw [HSZ.out] at hbn
  refine (HAT.out _ hx3).mono ?_
  rintro e w1 ⟨rfl, hx4⟩
  have HN := Lib.hid (hbn.ext hx4)
  have hx5 := hx3.trans hx4
  have HX1 := Lib.hid hx5
  have HC0 := Lib.hid (HB0.out.ext hx5)
  have HC1 := Lib.hid (HB1.out.ext hx5)
  have HC2 := Lib.hid (HB2.out.ext hx5)
  have kv1 := (hx5.cell (p := ⟨bi, oi + i0 * 2 + 1, none⟩) hbi).trans kv
  have hws := hx5.size
  have hbw : bi < w1.heap.size := by omega
  clear hx3 hbn hx4 hx5 p0 p1 p2 x0 x1 x2 r2 r3 hbl kv hws
  obtain ⟨p0, p1, p2⟩ := HC0.out.read2
  obtain ⟨x0, x1, x2⟩ := HC1.out.read2
  obtain ⟨n0, n1, n2⟩ := HN.out.read2
  have hal := (Ext.refl w1).alloc (.cells #[.slice none 0 0, .int .i64 0] 24)
  have ka := (hal.cell (p := ⟨bi, oi + i0 * 2 + 1, none⟩) hbw).trans kv1
  obtain ⟨pa0, pa1, pa2⟩ := (HC0.out.ext hal).read2
  obtain ⟨xa0, xa1, xa2⟩ := (HC1.out.ext hal).read2
  obtain ⟨na0, na1, na2⟩ := (HN.out.ext hal).read2
  clear hal
  go_wp2_with fail
  have HKV := Lib.hid (And.intro kv1 hbw)
  go_cut [12, 13] from 42 to 53 (fun v u wx => ∃ X S' d' O' z', v = .pointer (some ⟨X, 0, none⟩) ∧ u = .slice O' L2.length z' ∧ Bx wx X #[.slice S' n d', .int .i64 keep] ∧ HcSl wx S' n d' c2 ∧ Sl wx O' L2.length z' (ivs L2) ∧ Ext w1 wx)
  case first =>
    go_region_law
      (first
        | ((go_simp
            go_at_call 65
            refine (HCH.out _ ?_).mono ?_
            (first | exact (HX.out.trans HX1.out).drew | exact ((HX.out.trans HX1.out).alloc _).drew | exact ((HX.out.trans HX1.out).drew).alloc _ | exact (HX.out.trans HX1.out))
            rintro e w4 ⟨S4, d4, O4, z4, rfl, hs4, ho4, hx4⟩
            have E4 := Lib.hid (show Ext w1 w4 from by first | exact (Ext.refl _).drew.trans hx4 | exact (((Ext.refl _).drew).alloc _).trans hx4 | exact (((Ext.refl _).alloc _).drew).trans hx4 | exact hx4)
            have N4 := Lib.hid hs4
            have O4H := Lib.hid ho4
            (try (have B4 := Lib.hid (show Bx w4 w1.heap.size #[.slice none 0 0, .int .i64 0] from (Bx.new w1.drew _ _).ext hx4); have f0 := B4.out.free 0; have f1 := B4.out.free 1; have z1 := B4.out.lt; have q0 : w4.cell? ⟨w1.heap.size, 0, none⟩ = some (.slice none 0 0) := B4.out.at 0 _ rfl; have q1 : w4.cell? ⟨w1.heap.size, 1, none⟩ = some (.int .i64 0) := B4.out.at 1 _ rfl))
            clear hs4 ho4 hx4)))
    all_goals
      go_wp2_with fail
      go_meet
      first
      | exact ⟨_, S4, d4, O4, z4, rfl, rfl, Bx.new _ _ _, N4.out.ext ((Ext.refl _).alloc _), O4H.out.ext ((Ext.refl _).alloc _), E4.out.alloc _⟩
      | exact ⟨_, S4, d4, O4, z4, rfl, rfl, B4.out.set2 _ _, N4.out.boxed2 B4.out _ _, O4H.out.boxed2 B4.out _ _, E4.out.store2 (Nat.le_refl _) _ _⟩
  case rest =>
    obtain ⟨X, S4, d4, O4, z4, rfl, rfl, hbx, hs4, ho4, hx4⟩ := hcut
    have HS4 := Lib.hid hs4
    have HO4 := Lib.hid ho4
    have HXC := Lib.hid (HX1.out.trans hx4)
    have HBX := Lib.hid hbx
    have HND := Lib.hid (HN.out.ext hx4)
    have HT := Lib.hid (HC2.out.ext hx4)
    clear hs4 ho4 hbx hx4 p0 p1 p2 x0 x1 x2 n0 n1 n2 ka pa0 pa1 pa2 xa0 xa1 xa2 na0 na1 na2 kv1 hbw HKV hii
    obtain ⟨p0, p1, p2⟩ := HBX.out.read2
    obtain ⟨n0, n1, n2⟩ := HND.out.read2
    obtain ⟨t0, t1, t2⟩ := HT.out.read2
    have EC := Lib.hid (Ext.refl wc)
    go_wp2_with fail
    go_region_law
      (first
        | ((go_simp
            go_at_call 54
            refine (HWI.out _ _ _ (HXC.out.trans ?_) (HO4.out.ext ?_)).mono ?_
            (first | exact EC.out | exact EC.out.drew)
            (first | exact EC.out | exact EC.out.drew)
            rintro e wa ⟨Sa, da, rfl, hsa, hxa⟩
            have EC := Lib.hid (show Ext wc wa from by first | exact EC.out.trans hxa | exact EC.out.drew.trans hxa)
            have HSa := Lib.hid hsa
            (try (have HVa := Lib.hid (HVa.out.ext hxa)))
            obtain ⟨p0, p1, p2⟩ := (HBX.out.ext EC.out).read2
            clear hsa hxa))
        | ((go_simp
            go_at_call 94
            refine (HSP.out _ Sa da HSa.out).mono ?_
            rintro e wb ⟨Sb, db, rfl, hsb, hxb⟩
            have EC := Lib.hid (EC.out.trans hxb)
            have HRa := Lib.hid hsb
            (try (have HVa := Lib.hid (HVa.out.ext hxb)))
            obtain ⟨p0, p1, p2⟩ := (HBX.out.ext EC.out).read2
            clear hsb hxb))
        | ((go_simp
            go_at_call 56
            refine (HV.out _ _ _ (HO4.out.ext ?_)).mono ?_
            (first | exact EC.out | exact EC.out.drew)
            rintro e wd ⟨Sd, dd, rfl, hsd, hxd⟩
            have EC := Lib.hid (show Ext wc wd from by first | exact EC.out.trans hxd | exact EC.out.drew.trans hxd)
            have HVa := Lib.hid hsd
            (try (have HSa := Lib.hid (HSa.out.ext hxd)))
            (try (have HRa := Lib.hid (HRa.out.ext hxd)))
            obtain ⟨p0, p1, p2⟩ := (HBX.out.ext EC.out).read2
            obtain ⟨n0, n1, n2⟩ := (HND.out.ext EC.out).read2
            clear hsd hxd))
        | ((go_simp
            go_at_call 55
            refine (HLAY.out _ _ _ _ _ _ _ (HS4.out.ext EC.out) HRa.out HVa.out).mono ?_
            rintro e wf ⟨Sf, df, Of, zf, rfl, hsf, hof, hxf⟩
            have EC := Lib.hid (EC.out.trans hxf)
            have HS6 := Lib.hid hsf
            have HO6 := Lib.hid hof
            obtain ⟨u0, u1, u2⟩ := (HT.out.ext EC.out).read2
            obtain ⟨v0, v1⟩ := (HT.out.ext EC.out).free2
            clear hsf hof hxf)))
    all_goals
      have HB6 := Lib.hid (HT.out.ext EC.out)
      have HX6 := Lib.hid ((HX.out.trans HXC.out).trans EC.out)
      go_wp2_with fail
      refine ret2_cell (k := w.heap.size + 1 + 1) (x := .slice Sf n df) (y := .int .i64 keep) (v := .tuple #[.agg #[.slice Sf n df, .int .i64 keep], .slice Of rows.length zf]) ?hb4 (fun r0 r1 => by simp [results, Tryz.results65, go_sem, r0, r1]) rfl ?hx4
      case hb4 => exact HB6.out.set2 _ _
      case hx4 => exact ⟨Sf, df, Of, zf, rfl, HS6.out.boxed2 HB6.out _ _, HO6.out.boxed2 HB6.out _ _, HX6.out.store2 (by omega) _ _⟩
end Go.Proofs.YtbfbpddfcakieaaGreat
namespace Go.Proofs.YtbfbpddfcakieaaGreat
open Go.RowKit

theorem lay_length (leaf : Bool) (held : List Int) : ∀ (rows : List (List It)) (c : List HC), (layS leaf held rows c).2.length = rows.length
  | [], _ => rfl
  | r :: rs, c => by rw [layS, List.length_cons, List.length_cons, lay_length leaf held rs]
theorem at_leaf_ok {it : List It} (h : NdR it) (key : Int) : atC it key + (if atB it key then 1 else 0) ≤ it.length := by
  have hle : atC it key ≤ it.length := List.countP_le_length
  cases hb : atB it key
  · simpa using hle
  · obtain ⟨k, hk, hke⟩ := atB_ex hb
    have := atC_at h hk hke
    simp; omega
/-- A node, made anew with an item. -/
theorem ref09anew_any {keep : Int} : ∀ (m : Nat) (c : List HC) (p : Int) (x : It) (e : Int) (R : Option Addr) (n q : Nat) (w : World), m ≤ 20 → rightH ⟨c, keep⟩ = true → (∀ k (hk : k < c.length), c[k].ref ≤ 1000000) → okIt x → 0 ≤ p → p < c.length → (bel c m p).is = true → (bel c 20 p).hi < e → x.1 < e →
    2 * (bel c 20 p).high ≤ (c.countP freeC : Nat) → n ≤ 90000 → HcSl w R n q c →
    Calls Tryz.prog 65 #[.agg #[.slice R n q, .int .i64 keep], .int .i64 p, .agg #[.int .i64 x.1, .int .i64 x.2]] w fun e w' => ∃ S d O z, e = .returned (.tuple #[.agg #[.slice S n d, .int .i64 keep], .slice O (anewS m c p x).2.length z]) ∧ HcSl w' S n d (anewS m c p x).1 ∧ Sl w' O (anewS m c p x).2.length z (ivs (anewS m c p x).2) ∧ Ext w w'
  | 0, _, _, _, _, _, _, _, _, _, _, _, _, _, _, hb, _, _, _, _, _ => (bel_zero hb).elim
  | m + 1, c, p, x, e, R, n, q, w, hm, hr, hs, hx, h0, h1, hb, he, hxe, hf, hn, hA => by
    obtain ⟨k, rfl⟩ := Int.eq_ofNat_of_zero_le h0
    have hk : k < c.length := by omega
    have hb20 : (bel c 20 (k : Int)).is = true := by rw [bel_mono c (m + 1) 20 _ hb hm]; exact hb
    obtain ⟨hrf, hc⟩ := bel_is hb
    rw [cellT_at hk] at hrf hc
    have hok := cell_ok ((rightH_iff hr).2 k hk) hrf
    have hnd : ndR c[k].it = true := (ndR_iff _).2 hok.1
    have hl4 := hok.1.1
    rcases hc with ⟨hlf, _⟩ | ⟨hlf, _, hch⟩
    · have hdef : anewS (m + 1) c (k : Int) x = layS true [] (splitS (withS c[k].it (atC c[k].it x.1) (if atB c[k].it x.1 then 1 else 0) [x])) c := by
        rw [anewS, cellT_at hk, hlf, if_pos rfl, atI_leaf, Int.toNat_natCast]
      rw [hdef, lay_length]
      have hle := at_leaf_ok hok.1 x.1
      have hwl : (withS c[k].it (atC c[k].it x.1) (if atB c[k].it x.1 then 1 else 0) [x]).length = atC c[k].it x.1 + 1 + (c[k].it.length - (atC c[k].it x.1 + (if atB c[k].it x.1 then 1 else 0))) := by
        unfold withS
        rw [List.length_append, List.length_append, List.length_take, List.length_drop, List.length_singleton, Nat.min_eq_left (by omega)]
      exact anew_walk_leaf R c n q k keep x (atC c[k].it x.1) _ _ w hk hn (fun k hk => by have := hs k hk; omega) hA hlf hnd atI_leaf hle rfl rfl (by omega) (by omega)
    · obtain ⟨hi, _⟩ := at_low hok.1 x.1
      have hcd : childT c[k].it x.1 = c[k].it[(atI false c[k].it x.1).toNat] := itD_at hi
      have hcm : childT c[k].it x.1 ∈ c[k].it := by rw [hcd]; exact List.getElem_mem hi
      have hat : atI false c[k].it x.1 = ((atI false c[k].it x.1).toNat : Int) := by
        rw [Int.toNat_of_nonneg]; unfold atI; split <;> omega
      obtain ⟨Rw, -, -, -⟩ := row_of_bel hr hk hb20 he
      rw [hlf] at Rw
      have hrow := (Rw.inn rfl).2.2 _ hi
      rw [← hcd] at hrow
      have hch2 := (bel_high c 20 (k : Int)).2
      obtain ⟨e', he1, he2⟩ : ∃ e', (bel c 20 (childT c[k].it x.1).2).hi < e' ∧ x.1 < e' := by
        rcases Int.lt_or_le (bel c 20 (childT c[k].it x.1).2).hi x.1 with h | h
        · exact ⟨x.1 + 1, by omega, by omega⟩
        · exact ⟨(bel c 20 (childT c[k].it x.1).2).hi + 1, by omega, by omega⟩
      obtain ⟨a, AN⟩ := anew_ok m c (childT c[k].it x.1).2 x e' (by omega) hr hs hx (hok.2 hlf _ hcm).1 (hok.2 hlf _ hcm).2 (hch _ hcm).1 he1 he2 (by omega)
      have IH := fun w' (hx' : Ext w w') => ref09anew_any m c (childT c[k].it x.1).2 x e' R n q w' (by omega) hr hs hx (hok.2 hlf _ hcm).1 (hok.2 hlf _ hcm).2 (hch _ hcm).1 he1 he2 (by omega) hn (hA.ext hx')
      have hdef : anewS (m + 1) c (k : Int) x = layS false ((anewS m c (childT c[k].it x.1).2 x).2.map (·.2)) (splitS (withS c[k].it (atI false c[k].it x.1).toNat 1 (anewS m c (childT c[k].it x.1).2 x).2)) (anewS m c (childT c[k].it x.1).2 x).1 := by
        rw [anewS, cellT_at hk, hlf, if_neg (by simp)]
      rw [hdef, lay_length]
      have hAl := AN.len
      have hAr := AN.refs
      have hAm := AN.many
      have hkl := AN.keeps.len
      generalize anewS m c (childT c[k].it x.1).2 x = r at *
      have hwl : (withS c[k].it (atI false c[k].it x.1).toNat 1 r.2).length = (atI false c[k].it x.1).toNat + r.2.length + (c[k].it.length - ((atI false c[k].it x.1).toNat + 1)) := by
        unfold withS
        rw [List.length_append, List.length_append, List.length_take, List.length_drop, Nat.min_eq_left (by omega)]
      refine anew_walk_other R c n q k keep x (atI false c[k].it x.1).toNat _ r.1 r.2 w hk hn hA hlf hnd hat hi hAl (fun j hj => ?_) rfl (by omega) (by omega) (fun w' hx' => ?_)
      · have hj' : j < c.length := by omega
        have h3 := hAr j hj' hj
        have h4 := hs j hj'
        split at h3 <;> omega
      · rw [← hcd]; exact IH w' hx'
end Go.Proofs.YtbfbpddfcakieaaGreat
namespace Go.Proofs.YtbfbpddfcakieaaGreat
open Go.RowKit
attribute [local go_sem ↓] Go.wp_at_zero Go.wp_at_succ

set_option maxHeartbeats 400000 in
theorem ref07Need_any (x : Int) (w : World) (h0 : 0 ≤ x) (h1 : x ≤ 100000) :
    Calls Tryz.prog 63 #[.int .i64 x] w fun e w' => e = .returned (.int .i64 (2 * x + 1)) ∧ w = w' := by
  go_enter Tryz.func63, Tryz.ntmps63
  go_wp2
  go_ret
  exact ⟨rfl, rfl⟩
def sameZ (a b : List Int) : Bool := decide (a = b)
end Go.Proofs.YtbfbpddfcakieaaGreat
namespace Go.Proofs.YtbfbpddfcakieaaGreat
open Go.RowKit
attribute [local go_sem ↓] Go.wp_at_zero Go.wp_at_succ

set_option maxRecDepth 100000 in
set_option maxHeartbeats 1600000 in
theorem ref09Put_arg (R : Option Addr) (l : List HC) (n q : Nat) (keep root : Int) (x : It) (deep : Bool) (w : World) (hx : ¬ okIt x) (hA : HcSl w R n q l) :
    Calls Tryz.prog 37 #[.agg #[.slice R n q, .int .i64 keep], .int .i64 root, .int .i64 x.1, .int .i64 x.2, .bool deep] w fun e w' => ∃ S d, e = .returned (.tuple #[.agg #[.slice S n d, .int .i64 keep], .int .i64 root, .int .i64 1]) ∧ HcSl w' S n d l ∧ Ext w w' := by
  obtain ⟨W, hW⟩ : ∃ W, W = (w.alloc (.cells #[.slice R n q, .int .i64 keep] 24)).alloc (.cells #[.slice none 0 0, .int .i64 0] 24) := ⟨_, rfl⟩
  obtain ⟨hx1, hb0, hb1⟩ := allocs2 hW.symm
  have HX := Lib.hid hx1
  have HB1 := Lib.hid hb1
  have HA := Lib.hid hA
  obtain ⟨p0, p1, p2⟩ := hb0.read2
  obtain ⟨t0, t1, t2⟩ := hb1.read2
  obtain ⟨f0, f1⟩ := hb1.free2
  clear hx1 hb0 hb1 hA
  obtain ⟨key, val⟩ := x
  unfold okIt at hx
  simp only at hx ⊢
  subst hW
  have main : ∀ (_ : decide (key < 0) = true ∨ (decide (key < 0) = false ∧ decide ((2147483647 : Int) < key) = true) ∨ (decide (key < 0) = false ∧ decide ((2147483647 : Int) < key) = false ∧ decide (val < 0) = true) ∨ (decide (key < 0) = false ∧ decide ((2147483647 : Int) < key) = false ∧ decide (val < 0) = false ∧ decide ((2147483647 : Int) < val) = true)), Calls Tryz.prog 37 #[.agg #[.slice R n q, .int .i64 keep], .int .i64 root, .int .i64 key, .int .i64 val, .bool deep] w fun e w' => ∃ S d, e = .returned (.tuple #[.agg #[.slice S n d, .int .i64 keep], .int .i64 root, .int .i64 1]) ∧ HcSl w' S n d l ∧ Ext w w' := by
    intro h
    clear hx
    rcases h with d0 | ⟨d0, d1⟩ | ⟨d0, d1, d2⟩ | ⟨d0, d1, d2, d3⟩
    all_goals
      go_enter Tryz.func37, Tryz.ntmps37
      go_wp2_with fail
      refine ret2_cell (k := w.heap.size + 1) (x := .slice R n q) (y := .int .i64 keep) (v := .tuple #[.agg #[.slice R n q, .int .i64 keep], .int .i64 root, .int .i64 1]) ?hb4 (fun r0 r1 => by simp [results, Tryz.results37, go_sem, r0, r1]) rfl ?hx4
      case hb4 => exact Bx.new' (by rw [World.size_alloc]) _ _
      case hx4 => exact ⟨R, q, rfl, HA.out.ext (((Ext.refl w).alloc _).alloc _), ((Ext.refl w).alloc _).alloc _⟩
  apply main
  simp only [decide_eq_true_eq, decide_eq_false_iff_not]
  omega
end Go.Proofs.YtbfbpddfcakieaaGreat
namespace Go.Proofs.YtbfbpddfcakieaaGreat
open Go.RowKit
attribute [local go_sem ↓] Go.wp_at_zero Go.wp_at_succ

set_option maxRecDepth 100000 in
set_option maxHeartbeats 3200000 in
theorem ref09Put_full (R : Option Addr) (l : List HC) (n q : Nat) (keep root : Int) (x : It) (deep : Bool) (w : World) (hx : okIt x) (hl : AllR l) (hn : n ≤ 2000) (hnl : n = l.length) (hkp : 0 ≤ keep ∧ keep ≤ 9223372036854775807) (hrr : rightR ⟨l, keep⟩ root = true) (hf : highT l root = 20 ∨ fitsH ⟨l, keep⟩ (2 * highT l root + 1) deep = false) (hA : HcSl w R n q l) :
    Calls Tryz.prog 37 #[.agg #[.slice R n q, .int .i64 keep], .int .i64 root, .int .i64 x.1, .int .i64 x.2, .bool deep] w fun e w' => ∃ S d, e = .returned (.tuple #[.agg #[.slice S n d, .int .i64 keep], .int .i64 root, .int .i64 3]) ∧ HcSl w' S n d l ∧ Ext w w' := by
  have HR := Lib.hid hf
  clear hf
  obtain ⟨W, hW⟩ : ∃ W, W = (w.alloc (.cells #[.slice R n q, .int .i64 keep] 24)).alloc (.cells #[.slice none 0 0, .int .i64 0] 24) := ⟨_, rfl⟩
  obtain ⟨hx1, hb0, hb1⟩ := allocs2 hW.symm
  have HX := Lib.hid hx1
  have HB0 := Lib.hid hb0
  have HB1 := Lib.hid hb1
  have HA := Lib.hid hA
  obtain ⟨key, val⟩ := x
  obtain ⟨⟨k0, k1⟩, v0, v1⟩ := hx
  simp only at k0 k1 v0 v1 ⊢
  have d0 : decide (key < 0) = false := decide_eq_false (by omega)
  have d1 : decide ((2147483647 : Int) < key) = false := decide_eq_false (by omega)
  have d2 : decide (val < 0) = false := decide_eq_false (by omega)
  have d3 : decide ((2147483647 : Int) < val) = false := decide_eq_false (by omega)
  have HKV := Lib.hid (And.intro k0 (And.intro k1 (And.intro v0 v1)))
  obtain ⟨H, hH⟩ : ∃ H, highT l root = H := ⟨_, rfl⟩
  have hHb : 0 ≤ H ∧ H ≤ 20 := by
    rw [← hH]; unfold highT
    split
    · omega
    · exact bel_high l 20 root
  have HHI := Lib.hid (fun w' (hx : Ext w w') => (ref07High_any R l n q keep root w' hl (by omega) hrr (hA.ext hx)).mono (fun e w2 h => (⟨h.1, h.2.2⟩ : e = .returned (.int .i64 (highT l root)) ∧ Ext w' w2)))
  rw [hH] at HHI HR
  have HNE := Lib.hid (fun w' => ref07Need_any H w' hHb.1 (by omega))
  have HFI := Lib.hid (fun w' (hx : Ext w w') => ref05Fits_any R l n q keep (2 * H + 1) deep w' hkp (hA.ext hx))
  obtain ⟨fb, hfb⟩ : ∃ fb, fitsH ⟨l, keep⟩ (2 * H + 1) deep = fb := ⟨_, rfl⟩
  rw [hfb] at HFI HR
  obtain ⟨p0, p1, p2⟩ := hb0.read2
  clear hx1 hb0 hb1 hA k0 k1 v0 v1 hrr hl hH hfb hnl hn
  subst hW
  go_enter Tryz.func37, Tryz.ntmps37
  go_wp2_with (go_at_call 27; refine stop_here ?_)
  refine stop_on ?_
  generalize hW : World.alloc (World.alloc w _) _ = W at *
  clear hW p0 p1 p2
  refine (HHI.out _ HX.out).mono ?_
  rintro e w1 ⟨rfl, hx1⟩
  have HX1 := Lib.hid hx1
  obtain ⟨p0, p1, p2⟩ := (HB0.out.ext hx1).read2
  clear hx1
  go_wp2_with fail
  go_cut [14] from 43 to 47 (fun v wx => v = .bool fb ∧ Ext w1 wx)
  case first =>
    go_region_law
      (first
        | ((go_simp
            go_at_call 63
            refine (HNE.out _).mono ?_
            rintro e w4 ⟨rfl, rfl⟩))
        | ((go_simp
            go_at_call 26
            refine (HFI.out _ ?_).mono ?_
            (first | exact (HX.out.trans HX1.out).drew | exact (HX.out.trans HX1.out))
            rintro e w4 ⟨rfl, hx4⟩
            have E4 := Lib.hid (show Ext w1 w4 from by first | exact (Ext.refl _).drew.trans hx4 | exact hx4)
            clear hx4)))
    all_goals
      go_wp2_with fail
      go_meet
      exact ⟨rfl, E4.out⟩
  case rest =>
    obtain ⟨rfl, hxc⟩ := hcut
    have HXC := Lib.hid (HX1.out.trans hxc)
    have HXA := Lib.hid ((HX.out.trans HX1.out).trans hxc)
    have HC0 := Lib.hid (HB0.out.ext HXC.out)
    have HC1 := Lib.hid (HB1.out.ext HXC.out)
    clear hxc p0 p1 p2
    obtain ⟨p0, p1, p2⟩ := HC0.out.read2
    obtain ⟨t0, t1, t2⟩ := HC1.out.read2
    obtain ⟨f0, f1⟩ := HC1.out.free2
    have h5 : (H == 20) = true ∨ ((H == 20) = false ∧ fb = false) := by
      rcases HR.out with h | h
      · left; simpa using h
      · cases h7 : (H == 20)
        · exact .inr ⟨rfl, h⟩
        · exact .inl rfl
    rcases h5 with d5 | ⟨d5, rfl⟩
    all_goals
      go_wp2_with fail
      refine ret2_cell (k := w.heap.size + 1) (x := .slice R n q) (y := .int .i64 keep) (v := .tuple #[.agg #[.slice R n q, .int .i64 keep], .int .i64 root, .int .i64 3]) ?hb4 (fun r0 r1 => by simp [results, Tryz.results37, go_sem, r0, r1]) rfl ?hx4
      case hb4 => exact HC1.out.set2 _ _
      case hx4 => exact ⟨R, q, rfl, (HA.out.ext HXA.out).boxed2 HC1.out _ _, HXA.out.store2 (by omega) _ _⟩
end Go.Proofs.YtbfbpddfcakieaaGreat
namespace Go.Proofs.YtbfbpddfcakieaaGreat
open Go.RowKit
attribute [local go_sem ↓] Go.wp_at_zero Go.wp_at_succ

set_option maxRecDepth 100000 in
set_option maxHeartbeats 3200000 in
theorem ref09Put_none (R : Option Addr) (l : List HC) (n q : Nat) (keep root : Int) (x : It) (deep : Bool) (w : World) (hx : okIt x) (hl : AllR l) (hn : n ≤ 2000) (hnl : n = l.length) (hkp : 0 ≤ keep ∧ keep ≤ 9223372036854775807) (hrr : rightR ⟨l, keep⟩ root = true) (hf : highT l root ≠ 20 ∧ fitsH ⟨l, keep⟩ (2 * highT l root + 1) deep = true) (h0 : root < 0) (hbd : ∀ k (hk : k < l.length), l[k].ref ≤ 8000000000000000000) (hA : HcSl w R n q l) :
    Calls Tryz.prog 37 #[.agg #[.slice R n q, .int .i64 keep], .int .i64 root, .int .i64 x.1, .int .i64 x.2, .bool deep] w fun e w' => ∃ S d, e = .returned (.tuple #[.agg #[.slice S n d, .int .i64 keep], .int .i64 (allocP l true [x] : Nat), .int .i64 (allocE l true [x])]) ∧ HcSl w' S n d (allocL l true [x] []) ∧ Ext w w' := by
  have HAL := Lib.hid (fun w' B d (hx : Ext w w') (hI : Sl w' B 1 d (ivs [x])) => ref05Alloc_any R l n q keep true B [x] 1 d none [] 0 0 w' (by omega) hbd (hA.ext hx) rfl hI rfl (Sl.nil _))
  have d6 : decide (root < 0) = true := decide_eq_true h0
  clear hbd h0
  obtain ⟨W, hW⟩ : ∃ W, W = (w.alloc (.cells #[.slice R n q, .int .i64 keep] 24)).alloc (.cells #[.slice none 0 0, .int .i64 0] 24) := ⟨_, rfl⟩
  obtain ⟨hx1, hb0, hb1⟩ := allocs2 hW.symm
  have HX := Lib.hid hx1
  have HB0 := Lib.hid hb0
  have HB1 := Lib.hid hb1
  have HA := Lib.hid hA
  obtain ⟨key, val⟩ := x
  obtain ⟨⟨k0, k1⟩, v0, v1⟩ := hx
  simp only at k0 k1 v0 v1 ⊢
  have d0 : decide (key < 0) = false := decide_eq_false (by omega)
  have d1 : decide ((2147483647 : Int) < key) = false := decide_eq_false (by omega)
  have d2 : decide (val < 0) = false := decide_eq_false (by omega)
  have d3 : decide ((2147483647 : Int) < val) = false := decide_eq_false (by omega)
  have HKV := Lib.hid (And.intro k0 (And.intro k1 (And.intro v0 v1)))
  obtain ⟨H, hH⟩ : ∃ H, highT l root = H := ⟨_, rfl⟩
  have hHb : 0 ≤ H ∧ H ≤ 20 := by
    rw [← hH]; unfold highT
    split
    · omega
    · exact bel_high l 20 root
  have HHI := Lib.hid (fun w' (hx : Ext w w') => (ref07High_any R l n q keep root w' hl (by omega) hrr (hA.ext hx)).mono (fun e w2 h => (⟨h.1, h.2.2⟩ : e = .returned (.int .i64 (highT l root)) ∧ Ext w' w2)))
  rw [hH] at HHI
  have d5 : (H == 20) = false := by have := hf.1; rw [hH] at this; simpa using this
  have HNE := Lib.hid (fun w' => ref07Need_any H w' hHb.1 (by omega))
  have HFI := Lib.hid (fun w' (hx : Ext w w') => ref05Fits_any R l n q keep (2 * H + 1) deep w' hkp (hA.ext hx))
  obtain ⟨fb, hfb⟩ : ∃ fb, fitsH ⟨l, keep⟩ (2 * H + 1) deep = fb := ⟨_, rfl⟩
  have hf2 := hf.2
  rw [hH, hfb] at hf2
  subst hf2
  rw [hfb] at HFI
  obtain ⟨p0, p1, p2⟩ := hb0.read2
  generalize allocL l true [(key, val)] [] = c9 at *
  generalize (allocP l true [(key, val)] : Nat) = p9 at *
  generalize allocE l true [(key, val)] = e9 at *
  clear hx1 hb0 hb1 hA k0 k1 v0 v1 hrr hl hH hfb hnl hn hf
  subst hW
  go_enter Tryz.func37, Tryz.ntmps37
  go_wp2_with (go_at_call 27; refine stop_here ?_)
  refine stop_on ?_
  generalize hW : World.alloc (World.alloc w _) _ = W at *
  clear hW p0 p1 p2
  refine (HHI.out _ HX.out).mono ?_
  rintro e w1 ⟨rfl, hx1⟩
  have HX1 := Lib.hid hx1
  obtain ⟨p0, p1, p2⟩ := (HB0.out.ext hx1).read2
  clear hx1
  go_wp2_with fail
  go_cut [14] from 43 to 47 (fun v wx => v = .bool true ∧ Ext w1 wx)
  case first =>
    go_region_law
      (first
        | ((go_simp
            go_at_call 63
            refine (HNE.out _).mono ?_
            rintro e w4 ⟨rfl, rfl⟩))
        | ((go_simp
            go_at_call 26
            refine (HFI.out _ ?_).mono ?_
            (first | exact (HX.out.trans HX1.out).drew | exact (HX.out.trans HX1.out))
            rintro e w4 ⟨rfl, hx4⟩
            have E4 := Lib.hid (show Ext w1 w4 from by first | exact (Ext.refl _).drew.trans hx4 | exact hx4)
            clear hx4)))
    all_goals
      go_wp2_with fail
      go_meet
      exact ⟨rfl, E4.out⟩
  case rest =>
    obtain ⟨rfl, hxc⟩ := hcut
    have HXC := Lib.hid (HX1.out.trans hxc)
    have HXA := Lib.hid ((HX.out.trans HX1.out).trans hxc)
    have HC0 := Lib.hid (HB0.out.ext HXC.out)
    have HC1 := Lib.hid (HB1.out.ext HXC.out)
    clear hxc p0 p1 p2
    obtain ⟨p0, p1, p2⟩ := HC0.out.read2
    obtain ⟨t0, t1, t2⟩ := HC1.out.read2
    obtain ⟨f0, f1⟩ := HC1.out.free2
    go_wp2_with (go_at_call 64; refine stop_here ?_)
    refine stop_on ?_
    refine (HAL.out _ _ _ ?_ ?_).mono ?_
    · exact HXA.out.trans (((Ext.refl wc).alloc _).alloc _)
    · exact sl_lit' (by simp) _ 1 _ (by unfold maxLen; omega)
    rintro e w5 ⟨S5, d5', rfl, hs5, hx5⟩
    have HX5 := Lib.hid ((((Ext.refl wc).alloc _).alloc _).trans hx5)
    have HS5 := Lib.hid hs5
    have HC5 := Lib.hid (HC1.out.ext HX5.out)
    clear hs5 hx5 p0 p1 p2 t0 t1 t2 f0 f1
    obtain ⟨t0, t1, t2⟩ := HC5.out.read2
    obtain ⟨f0, f1⟩ := HC5.out.free2
    go_wp2_with fail
    refine ret2_cell (k := w.heap.size + 1) (x := .slice S5 n d5') (y := .int .i64 keep) (v := .tuple #[.agg #[.slice S5 n d5', .int .i64 keep], .int .i64 (p9 : Nat), .int .i64 e9]) ?hb4 (fun r0 r1 => by simp [results, Tryz.results37, go_sem, r0, r1]) rfl ?hx4
    case hb4 => exact HC5.out.set2 _ _
    case hx4 => exact ⟨S5, d5', rfl, HS5.out.boxed2 HC5.out _ _, (HXA.out.trans HX5.out).store2 (by omega) _ _⟩
end Go.Proofs.YtbfbpddfcakieaaGreat
namespace Go.Proofs.YtbfbpddfcakieaaGreat
open Go.RowKit
attribute [local go_sem ↓] Go.wp_at_zero Go.wp_at_succ

set_option maxRecDepth 100000 in
set_option maxHeartbeats 3200000 in
theorem ref09Put_one (R : Option Addr) (l : List HC) (n q : Nat) (keep root : Int) (x : It) (deep : Bool) (w : World) (hx : okIt x) (hl : AllR l) (hn : n ≤ 2000) (hnl : n = l.length) (hkp : 0 ≤ keep ∧ keep ≤ 9223372036854775807) (hrr : rightR ⟨l, keep⟩ root = true) (hf : highT l root ≠ 20 ∧ fitsH ⟨l, keep⟩ (2 * highT l root + 1) deep = true) (h0 : 0 ≤ root) (c1 : List HC) (L1 : List It) (hL : L1.length = 1) (hlc : c1.length = l.length) (hbd : Bd c1) (hch : ∀ w', Ext w w' → Calls Tryz.prog 65 #[.agg #[.slice R n q, .int .i64 keep], .int .i64 root, .agg #[.int .i64 x.1, .int .i64 x.2]] w' fun e w2 => ∃ S d O z, e = .returned (.tuple #[.agg #[.slice S n d, .int .i64 keep], .slice O L1.length z]) ∧ HcSl w2 S n d c1 ∧ Sl w2 O L1.length z (ivs L1) ∧ Ext w' w2) (hA : HcSl w R n q l) :
    Calls Tryz.prog 37 #[.agg #[.slice R n q, .int .i64 keep], .int .i64 root, .int .i64 x.1, .int .i64 x.2, .bool deep] w fun e w' => ∃ S d, e = .returned (.tuple #[.agg #[.slice S n d, .int .i64 keep], .int .i64 (topS c1 L1).2, .int .i64 0]) ∧ HcSl w' S n d (looseL (l.length + 1) (topS c1 L1).1 root) ∧ Ext w w' := by
  have HCH := Lib.hid hch
  have d6 : decide (root < 0) = false := decide_eq_false (by omega)
  have HL1 := Lib.hid (show 0 < L1.length by omega)
  have hts : topS c1 L1 = (c1, (L1[0]'HL1.out).2) := by unfold topS; rw [if_neg (by omega), List.getD_eq_getElem?_getD, List.getElem?_eq_getElem (by omega)]; rfl
  rw [hts]
  simp only
  have HLO := Lib.hid (fun w' S d (h : HcSl w' S n d c1) => ref05Loose_is S c1 n d keep root w' (by omega) hbd h)
  rw [hlc] at HLO
  have d7 : decide ((1 : Int) < (L1.length : Int)) = false := decide_eq_false (by omega)
  generalize looseE ⟨c1, keep⟩ root = e9 at *
  generalize looseL (l.length + 1) c1 root = c9 at *
  have hV : ∃ V, (L1[0]'HL1.out).2 = V := ⟨_, rfl⟩
  obtain ⟨V0, hV0⟩ := hV
  rw [hV0]
  have HV0 := Lib.hid hV0
  have hd7 : decide (1 < L1.length) = false := decide_eq_false (by omega)
  clear hts hlc hbd hV0 hL
  clear hch h0
  obtain ⟨W, hW⟩ : ∃ W, W = (w.alloc (.cells #[.slice R n q, .int .i64 keep] 24)).alloc (.cells #[.slice none 0 0, .int .i64 0] 24) := ⟨_, rfl⟩
  obtain ⟨hx1, hb0, hb1⟩ := allocs2 hW.symm
  have HX := Lib.hid hx1
  have HB0 := Lib.hid hb0
  have HB1 := Lib.hid hb1
  have HA := Lib.hid hA
  obtain ⟨key, val⟩ := x
  obtain ⟨⟨k0, k1⟩, v0, v1⟩ := hx
  simp only at k0 k1 v0 v1 ⊢
  have d0 : decide (key < 0) = false := decide_eq_false (by omega)
  have d1 : decide ((2147483647 : Int) < key) = false := decide_eq_false (by omega)
  have d2 : decide (val < 0) = false := decide_eq_false (by omega)
  have d3 : decide ((2147483647 : Int) < val) = false := decide_eq_false (by omega)
  have HKV := Lib.hid (And.intro k0 (And.intro k1 (And.intro v0 v1)))
  obtain ⟨H, hH⟩ : ∃ H, highT l root = H := ⟨_, rfl⟩
  have hHb : 0 ≤ H ∧ H ≤ 20 := by
    rw [← hH]; unfold highT
    split
    · omega
    · exact bel_high l 20 root
  have HHI := Lib.hid (fun w' (hx : Ext w w') => (ref07High_any R l n q keep root w' hl (by omega) hrr (hA.ext hx)).mono (fun e w2 h => (⟨h.1, h.2.2⟩ : e = .returned (.int .i64 (highT l root)) ∧ Ext w' w2)))
  rw [hH] at HHI
  have d5 : (H == 20) = false := by have := hf.1; rw [hH] at this; simpa using this
  have HNE := Lib.hid (fun w' => ref07Need_any H w' hHb.1 (by omega))
  have HFI := Lib.hid (fun w' (hx : Ext w w') => ref05Fits_any R l n q keep (2 * H + 1) deep w' hkp (hA.ext hx))
  obtain ⟨fb, hfb⟩ : ∃ fb, fitsH ⟨l, keep⟩ (2 * H + 1) deep = fb := ⟨_, rfl⟩
  have hf2 := hf.2
  rw [hH, hfb] at hf2
  subst hf2
  rw [hfb] at HFI
  obtain ⟨p0, p1, p2⟩ := hb0.read2
  clear hx1 hb0 hb1 hA k0 k1 v0 v1 hrr hl hH hfb hnl hn hf
  subst hW
  go_enter Tryz.func37, Tryz.ntmps37
  go_wp2_with (go_at_call 27; refine stop_here ?_)
  refine stop_on ?_
  generalize hW : World.alloc (World.alloc w _) _ = W at *
  clear hW p0 p1 p2
  refine (HHI.out _ HX.out).mono ?_
  rintro e w1 ⟨rfl, hx1⟩
  have HX1 := Lib.hid hx1
  obtain ⟨p0, p1, p2⟩ := (HB0.out.ext hx1).read2
  clear hx1
  go_wp2_with fail
  go_cut [14] from 43 to 47 (fun v wx => v = .bool true ∧ Ext w1 wx)
  case first =>
    go_region_law
      (first
        | ((go_simp
            go_at_call 63
            refine (HNE.out _).mono ?_
            rintro e w4 ⟨rfl, rfl⟩))
        | ((go_simp
            go_at_call 26
            refine (HFI.out _ ?_).mono ?_
            (first | exact (HX.out.trans HX1.out).drew | exact (HX.out.trans HX1.out))
            rintro e w4 ⟨rfl, hx4⟩
            have E4 := Lib.hid (show Ext w1 w4 from by first | exact (Ext.refl _).drew.trans hx4 | exact hx4)
            clear hx4)))
    all_goals
      go_wp2_with fail
      go_meet
      exact ⟨rfl, E4.out⟩
  case rest =>
    obtain ⟨rfl, hxc⟩ := hcut
    have HXC := Lib.hid (HX1.out.trans hxc)
    have HXA := Lib.hid ((HX.out.trans HX1.out).trans hxc)
    have HC0 := Lib.hid (HB0.out.ext HXC.out)
    have HC1 := Lib.hid (HB1.out.ext HXC.out)
    clear hxc p0 p1 p2
    obtain ⟨p0, p1, p2⟩ := HC0.out.read2
    obtain ⟨t0, t1, t2⟩ := HC1.out.read2
    obtain ⟨f0, f1⟩ := HC1.out.free2
    go_wp2_with (go_at_call 65; refine stop_here ?_)
    refine stop_on ?_
    refine (HCH.out _ ?_).mono ?_
    · exact HXA.out.trans ((Ext.refl wc).alloc _)
    rintro e w5 ⟨S5, d5', O5, z5, rfl, hs5, ho5, hx5⟩
    have HX5 := Lib.hid (((Ext.refl wc).alloc _).trans hx5)
    have HC5 := Lib.hid (HC1.out.ext HX5.out)
    clear p0 p1 p2 t0 t1 t2 f0 f1
    have hal := (Ext.refl w5).alloc (.cells #[.slice S5 n d5', .int .i64 keep] 24)
    obtain ⟨b2, off2, rfl, hb2, -, k1⟩ := it_at (ho5.ext hal) HL1.out
    rw [Nat.zero_mul, Nat.add_zero, HV0.out] at k1
    have HS5 := Lib.hid (hs5.ext hal)
    have HO5 := Lib.hid (ho5.ext hal)
    have HE5 := Lib.hid (HX5.out.trans hal)
    have HN5 := Lib.hid (Bx.new w5 #[.slice S5 n d5', .int .i64 keep] 24)
    clear hs5 ho5 hx5 hal
    go_wp2_with (go_at_call 29; refine stop_here ?_)
    refine stop_on ?_
    refine (HLO.out _ S5 d5' HS5.out).mono ?_
    rintro e w6 ⟨S6, d6', rfl, hs6, hx6⟩
    have HX6 := Lib.hid (HE5.out.trans hx6)
    have HS6 := Lib.hid hs6
    have HC6 := Lib.hid (HC1.out.ext HX6.out)
    clear hs6 hx6 k1 hb2
    obtain ⟨t0, t1, t2⟩ := HC6.out.read2
    obtain ⟨f0, f1⟩ := HC6.out.free2
    go_wp2_with fail
    refine ret2_cell (k := w.heap.size + 1) (x := .slice S6 n d6') (y := .int .i64 keep) (v := .tuple #[.agg #[.slice S6 n d6', .int .i64 keep], .int .i64 V0, .int .i64 0]) ?hb4 (fun r0 r1 => by simp [results, Tryz.results37, go_sem, r0, r1]) rfl ?hx4
    case hb4 => exact (HC6.out.set2 _ _).ext ((Ext.refl _).alloc _)
    case hx4 => exact ⟨S6, d6', rfl, (HS6.out.boxed2 HC6.out _ _).ext ((Ext.refl _).alloc _), ((HXA.out.trans HX6.out).store2 (by omega) _ _).alloc _⟩
end Go.Proofs.YtbfbpddfcakieaaGreat
