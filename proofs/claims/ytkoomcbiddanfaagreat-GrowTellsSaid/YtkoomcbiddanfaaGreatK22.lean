/- The walk of rows of package grow. -/
import Derived.Test.YtkoomcbiddanfaaGreatK21
namespace Go.Proofs.YtkoomcbiddanfaaGreat
open Go.RowKit
attribute [local go_sem ↓] Go.wp_at_zero Go.wp_at_succ

theorem layP_snoc (leaf : Bool) (held : List Int) (r : List It) : ∀ (a : List (List It)) (c : List HC), layS leaf held (a ++ [r]) c = (allocL (layS leaf held a c).1 leaf r held, (layS leaf held a c).2 ++ [(firstK r, (allocP (layS leaf held a c).1 leaf r : Int))])
  | [], c => rfl
  | x :: a, c => by
    show layS leaf held (x :: (a ++ [r])) c = _
    rw [layS, layP_snoc leaf held r a]
    rfl
theorem layP_take {leaf : Bool} {held : List Int} {rows : List (List It)} {c : List HC} {j : Nat} (hj : j < rows.length) : layS leaf held (rows.take (j + 1)) c = (allocL (layS leaf held (rows.take j) c).1 leaf rows[j] held, (layS leaf held (rows.take j) c).2 ++ [(firstK rows[j], (allocP (layS leaf held (rows.take j) c).1 leaf rows[j] : Int))]) := by
  rw [List.take_succ_eq_append_getElem hj, layP_snoc]
theorem okS_at {keep : Int} {leaf : Bool} {held : List Int} : ∀ {rows : List (List It)} {c : List HC} (_ : okS keep leaf held rows c) {j : Nat} (hj : j < rows.length), rightH ⟨(layS leaf held (rows.take j) c).1, keep⟩ = true ∧ allocE (layS leaf held (rows.take j) c).1 leaf rows[j] = 0
  | [], _, _, j, hj => by simp at hj
  | r :: rs, c, h, 0, _ => ⟨h.1, h.2.1⟩
  | r :: rs, c, h, j + 1, hj => okS_at (rows := rs) h.2.2 (by simpa using hj)
theorem RowsSl.rowP {w : World} {R : Option Addr} {m q : Nat} {rows : List (List It)} (h : RowsSl w R m q rows) {k : Nat} (hk : k < rows.length) :
    ∃ b off, R = some ⟨b, off, none⟩ ∧ b < w.heap.size ∧ ∃ A c, w.cell? ⟨b, off + k, none⟩ = some (.slice A rows[k].length c) ∧ Sl w A rows[k].length c (ivs rows[k]) := by
  obtain ⟨h1, cs, h2, h3⟩ := h
  obtain ⟨A, c, h4, h5⟩ := h3.2 k hk
  have hne : cs ≠ [] := by intro e; subst e; simp at h4
  obtain ⟨b, off, rfl, hb, hc⟩ := h2.cells hne
  exact ⟨b, off, rfl, hb, A, c, hc k _ h4, h5⟩
/-- What the loop keeps: the items so far, the heap so far; behind the first row, an elder world where that heap lay already. -/
def RwR (b n : Nat) (keep : Int) (w1 : World) (c1 : List HC) (L : List It) (j : Nat) (A : Option Addr) (cc : Nat) (wr : World) : Prop :=
  HBd wr b keep n c1 ∧ Gx b keep w1 wr ∧ Sl wr A j cc (ivs L) ∧ (j = 0 → A = none ∧ cc = 0) ∧
  (j = 1 → ∃ v S d, Ext v wr ∧ Gx b keep w1 v ∧ Bx v b #[.slice S n d, .int .i64 keep, .int .i64 0] ∧ HcSl v S n d c1 ∧ wr.ownsRow v.heap.size 26 2 (.slice A j cc) j (ivs L))
set_option maxRecDepth 100000 in
set_option maxHeartbeats 6400000 in
theorem growRows_any (b n : Nat) (keep : Int) (c : List HC) (leaf : Bool) (H : Option Addr) (held : List Int) (t d : Nat) (A : Option Addr) (l : List It) (m cc : Nat) (w : World) (hok : okS keep leaf held (splitS l) c) (hne : ∀ r ∈ splitS l, 1 ≤ r.length ∧ r.length ≤ 4) (hr2 : (splitS l).length ≤ 2) (hB : HBd w b keep n c) (hm : m = l.length) (hm2 : m ≤ 1000) (hI : Sl w A m cc (ivs l)) (ht : t = held.length) (ht2 : t ≤ 20) (hH : Sl w H t d (held.map iv)) :
    Calls Tryz.prog 45 #[.pointer (some ⟨b, 0, none⟩), .bool leaf, .slice H t d, .slice A m cc] w fun e w' => ∃ O z, e = .returned (.slice O (splitS l).length z) ∧ Sl w' O (splitS l).length z (ivs (layS leaf held (splitS l) c).2) ∧ HBd w' b keep n (layS leaf held (splitS l) c).1 ∧ Gx b keep w w' := by
  have HSP := Lib.hid (fun w' (hx : Ext w w') => nodeSplit_own A l m cc w' hm hm2 (hI.ext hx))
  have HBB := Lib.hid hB
  have HH := Lib.hid hH
  have HT := Lib.hid ht
  have HOK := Lib.hid (fun (j : Nat) (hj : j < (splitS l).length) => okS_at hok hj)
  have HNE := Lib.hid (fun (j : Nat) (hj : j < (splitS l).length) => hne _ (List.getElem_mem hj))
  have hbl := hB.lt
  have HBL := Lib.hid hbl
  clear hok hne hB hm hm2 hI ht hH hbl
  generalize splitS l = rows at *
  obtain ⟨mr, hmr⟩ : ∃ k, rows.length = k := ⟨_, rfl⟩
  have HMR := Lib.hid hmr
  rw [hmr] at hr2 HSP
  rw [hmr]
  clear hmr
  go_enter Tryz.func45, Tryz.ntmps45
  go_wp2_with (go_at_call 72; refine stop_here ?_)
  refine stop_on ?_
  refine (HSP.out _ (Ext.refl _)).mono ?_
  rintro e w1 ⟨P, q, rfl, hp, hx1, hpb⟩
  have HP := Lib.hid hp
  have HX1 := Lib.hid hx1
  have HPB := Lib.hid hpb
  have HG1 := Lib.hid (HBB.out.gx hx1)
  have HB1 := Lib.hid (HBB.out.ext hx1)
  have HH1 := Lib.hid (HH.out.ext hx1)
  have hwb := hx1.size
  have hb1 : b < w1.heap.size := by have := HBL.out; omega
  clear hp hx1 hpb
  go_wp2_with fail
  go_loopw [9, 16] (fun u i wr => ∃ (j : Nat) (A' : Option Addr) (c' : Nat), j ≤ mr ∧ i = .int .i64 j ∧ u = .slice A' j c' ∧ RwR b n keep w1 (layS leaf held (rows.take j) c).1 (layS leaf held (rows.take j) c).2 j A' c' wr) (fun _ i _ => mr - (intOf i).toNat)
  case atStart => exact ⟨0, none, 0, Nat.zero_le _, rfl, rfl, HB1.out, HB1.out.refl, Sl.nil _, fun _ => ⟨rfl, rfl⟩, fun h => by cases h⟩
  case round =>
    obtain ⟨j, A', c', hj, rfl, rfl, hrw⟩ := hrel
    obtain ⟨hbd, hgx, hsl, hz, ho⟩ := hrw
    rcases Nat.lt_or_ge j mr with hlt | hlt
    · have hjl : j < rows.length := by rw [HMR.out]; exact hlt
      have hji : (j : Int) < (mr : Int) := by omega
      have HPr := hgx.rows HP.out (fun p e h => by have h1 := HPB.out p e; rw [h] at h1; have := HBL.out; omega)
      obtain ⟨bp, off, rfl, hbl, Ar, cr, r0, hI⟩ := HPr.rowP hjl
      obtain ⟨b2, off2, rfl, hbl2, k0, -⟩ := it_at hI (HNE.out j hjl).1
      rw [Nat.zero_mul, Nat.add_zero] at k0
      have HRT := Lib.hid (layP_take (leaf := leaf) (held := held) (c := c) hjl)
      have hfk : firstK rows[j] = (rows[j][0]'(HNE.out j hjl).1).1 := firstK_at (HNE.out j hjl).1
      rw [← hfk] at k0
      obtain ⟨hnj, hn4⟩ := HNE.out j hjl
      obtain ⟨hrj, haj⟩ := HOK.out j hjl
      have HI := Lib.hid hI
      have HGX := Lib.hid hgx
      have HJ := Lib.hid hj
      clear hfk hI HPr
      rcases (show j = 0 ∨ j = 1 by omega) with hj0 | hj1
      · obtain ⟨rfl, rfl⟩ := hz hj0
        have hoj : (layS leaf held (rows.take j) c).2 = [] := by rw [hj0]; rfl
        have HJ0 := Lib.hid hj0
        rw [hoj] at HRT
        obtain ⟨S, q1, hb, hs⟩ := hbd
        clear hz ho hj0 hsl hoj
        generalize rows[j] = row at *
        generalize (layS leaf held (rows.take j) c).1 = lj at *
        obtain ⟨lr, hlr⟩ : ∃ lr, row.length = lr := ⟨_, rfl⟩
        rw [hlr] at r0 hnj hn4 HI
        have HLA := Lib.hid (growLaid_own b n keep S q1 lj leaf (some ⟨b2, off2, none⟩) row lr cr H held t d wr wr (Ext.refl _) hrj haj (by omega) ht2 hb hs hlr.symm HI.out HT.out (hgx.ints HH1.out))
        have HK := Lib.hid (fun w' (hg : Gx b keep wr w') => hg.cell k0 (by intro _ _ _ e; cases e))
        generalize firstK row = fk at *
        generalize (allocP lj leaf row : Nat) = ap at *
        clear hgx hrj haj hb hs hlr hbl hbl2 k0
        go_wp2_with (go_at_call 59; refine stop_here ?_)
        refine stop_on ?_
        refine HLA.out.mono ?_
        rintro e w4 ⟨rfl, S4, d4, hb4, hn4', hg4⟩
        have HG4 := Lib.hid (HGX.out.trans hg4)
        have HB4 := Lib.hid hb4
        have HS4 := Lib.hid (hn4'.slg hg4)
        have k4 := HK.out w4 hg4
        clear hb4 hn4' hg4 HLA r0
        go_wp2_with (at_builtin; refine stop_here ?_)
        refine stop_on ?_
        have HN0 := Lib.hid (show ∀ w', World.ownsRow w' w4.heap.size 26 2 (.slice none j 0) j (ivs []) from fun w' => by rw [HJ0.out]; exact World.ownsRow_nil _ _ _ _)
        refine app_itemsW _ rfl _ _ rfl w4.heap.size _ j [] rfl (HN0.out _) _ 1 1 [(fk, (ap : Int))] rfl rfl (sl_lit' (by simp) _ 1 _ (by unfold maxLen; omega)) (by omega) (by simp) ?_
        intro A7 c7 w7 hown hg
        have hx7 : Ext w4 w7 := Below.grown ((Ext.refl w4).alloc (.cells #[.int .i64 fk, .int .i64 (ap : Nat)] 26)) hg (by simp) (fun k hk => by cases hk)
        have HX7 := Lib.hid hx7
        have HO7 := Lib.hid hown
        clear hown hg hx7
        go_wp2_with fail
        go_roundw
        case rel =>
          refine ⟨j + 1, A7, c7, by omega, by go_num, rfl, ?_⟩
          rw [HRT.out]
          have ho := HO7.out
          exact ⟨(show HBd w4 b keep n _ from ⟨S4, d4, HB4.out, HS4.out⟩).ext HX7.out, HG4.out.ext HX7.out, own_sl ho, fun h => by omega, fun _ => ⟨w4, S4, d4, HX7.out, HG4.out, HB4.out, HS4.out, ho⟩⟩
        case measure => simp [intOf]; omega
      · obtain ⟨v, S, q1, hv, hgv, hbv, hs, ho1⟩ := ho hj1
        have HJ1 := Lib.hid hj1
        have HV := Lib.hid hv
        have HGV := Lib.hid hgv
        have HBV := Lib.hid hbv
        have HO := Lib.hid ho1
        clear hz ho hj1 hsl hbd
        generalize rows[j] = row at *
        generalize (layS leaf held (rows.take j) c).1 = lj at *
        generalize (layS leaf held (rows.take j) c).2 = oj at *
        obtain ⟨lr, hlr⟩ : ∃ lr, row.length = lr := ⟨_, rfl⟩
        rw [hlr] at r0 hnj hn4 HI
        have HLA := Lib.hid (growLaid_own b n keep S q1 lj leaf (some ⟨b2, off2, none⟩) row lr cr H held t d v wr hv hrj haj (by omega) ht2 (hbv.ext hv) hs hlr.symm HI.out HT.out (hgx.ints HH1.out))
        have HK := Lib.hid (fun w' (hg : Gx b keep wr w') => hg.cell k0 (by intro _ _ _ e; cases e))
        generalize firstK row = fk at *
        generalize (allocP lj leaf row : Nat) = ap at *
        clear hgx hrj haj hbv hs hlr hbl hbl2 k0 hv hgv ho1
        go_wp2_with (go_at_call 59; refine stop_here ?_)
        refine stop_on ?_
        refine HLA.out.mono ?_
        rintro e w4 ⟨rfl, S4, d4, hb4, hn4', hg4⟩
        have HG4 := Lib.hid (HGX.out.trans hg4)
        have HB4 := Lib.hid hb4
        have HN4 := Lib.hid hn4'
        have HGW := Lib.hid ((Gx.of_ext HBV.out HV.out).trans hg4)
        have HO4 := Lib.hid (hg4.own HO.out HBV.out.lt)
        have k4 := HK.out w4 hg4
        have hvs := HGV.out.size
        clear hb4 hn4' hg4 HLA r0
        have HX6 := Lib.hid ((Ext.refl w4).alloc (.cells #[.int .i64 fk, .int .i64 (ap : Nat)] 26))
        have HO6 := Lib.hid (own_ext HO4.out HX6.out)
        go_wp2_with (at_builtin; refine stop_here ?_)
        refine stop_on ?_
        refine app_itemsW _ rfl _ _ rfl v.heap.size _ j oj rfl HO6.out _ 1 1 [(fk, (ap : Int))] rfl rfl (sl_lit' (by simp) _ 1 _ (by unfold maxLen; omega)) (by omega) (by have := HV.out.size; have := HGW.out.size; simp; omega) ?_
        intro A7 c7 w7 hown hg
        have HG7 := Lib.hid (Gx.grown (HG4.out.ext HX6.out) hg (fun k hk => by have := (HO6.out.lt k hk).1; omega))
        have HB7 := Lib.hid ((HB4.out.ext HX6.out).grown hg (own_old HO6.out HBV.out.lt))
        have HS7 := Lib.hid (show HcSl w7 S4 n d4 (allocL lj leaf row held) from by
          obtain ⟨g, hgA, hgB⟩ := own_some HO.out (by have := HJ1.out; omega)
          have hlt := (HO.out.lt g (by rw [hgA]; rfl)).2
          rw [hgA] at hg
          exact (HN4.out.ext HX6.out).app (HGW.out.ext HX6.out) hg hgB hlt)
        have HO7 := Lib.hid (own_sl hown)
        clear hown hg
        go_wp2_with fail
        go_roundw
        case rel =>
          refine ⟨j + 1, A7, c7, by omega, by go_num, rfl, ?_⟩
          rw [HRT.out]
          exact ⟨⟨S4, d4, HB7.out, HS7.out⟩, HG7.out, HO7.out, fun h => by omega, fun h => by have := HJ1.out; omega⟩
        case measure => simp [intOf]; omega
    · obtain rfl : mr = j := by omega
      have hfl : rows.take mr = rows := by rw [← HMR.out, List.take_length]
      rw [hfl] at hbd hsl
      have HBE := Lib.hid hbd
      have HSE := Lib.hid hsl
      have HGE := Lib.hid (HG1.out.trans hgx)
      have d4 : decide ((mr : Int) < (mr : Int)) = false := decide_eq_false (by omega)
      clear hbd hgx hsl hz ho hlt hfl
      go_wp2_with fail
      go_ret
      exact ⟨A', c', rfl, HSE.out, HBE.out, HGE.out⟩
end Go.Proofs.YtkoomcbiddanfaaGreat
