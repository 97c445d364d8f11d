/- Walks of New, isRight and Right of package heap. -/
import Derived.Test.YtclpeeemnmhdcaaHpA3
namespace Go.Proofs.Ytclpeeemnmhdcaa
open Go.RowKit
attribute [local go_sem ↓] Go.wp_at_zero Go.wp_at_succ

set_option maxRecDepth 100000 in
set_option maxHeartbeats 1600000 in
theorem heapNew_any (n keep : Int) (w : World) :
    Calls Try.prog 11 #[.int .i64 n, .int .i64 keep] w fun e w' => ∃ S d, e = .returned (.tuple #[.agg #[.slice S (newH n keep).c.length d, .int .i64 (newH n keep).keep], .int .i64 (newHE n keep)]) ∧ HcSl w' S (newH n keep).c.length d (newH n keep).c ∧ Ext w w' := by
  obtain ⟨W, hW⟩ : ∃ W, w.alloc (.cells #[.slice none 0 0, .int .i64 0] 24) = W := ⟨_, rfl⟩
  obtain ⟨hx, hb⟩ := allocs1 hW
  have hsz : W.heap.size = w.heap.size + 1 := by rw [← hW]; simp
  have HB := Lib.hid hb
  have HX := Lib.hid hx
  have HSZ := Lib.hid hsz
  have HS := Lib.hid (hpIsSize_any n keep W)
  obtain ⟨t0, t1, t2⟩ := hb.read2
  obtain ⟨y0, y1⟩ := hb.free2
  clear hb hx hsz
  by_cases hok : newOk n keep
  rotate_left
  · have e1 : newH n keep = ⟨[], 0⟩ := by unfold newH; rw [if_neg hok]
    have e2 : newHE n keep = 1 := by unfold newHE; rw [if_neg hok]
    rw [e1, e2]
    rw [decide_eq_false hok] at HS
    clear e1 e2 hok
    subst hW
    go_enter Try.func11, Try.ntmps11
    go_wp2_with (go_at_call 34; refine stop_here ?_)
    refine stop_on ?_
    generalize hW : World.alloc w _ = W at *
    clear hW
    refine HS.out.mono ?_
    rintro e w1 ⟨rfl, rfl⟩
    go_wp2_with fail
    refine ret2_cell (k := w.heap.size) (x := .slice none 0 0) (y := .int .i64 0) (v := .tuple #[.agg #[.slice none 0 0, .int .i64 0], .int .i64 1]) ?hb4 (fun r0 r1 => by simp [results, Try.results11, go_sem, r0, r1]) rfl ?hx4
    case hb4 => exact HB.out.set2 _ _
    case hx4 => exact ⟨none, 0, rfl, ⟨rfl, [], Sl.nil _, HcAt.nil _⟩, HX.out.store2 (by omega) _ _⟩
  · have e1 : newH n keep = ⟨List.replicate n.toNat HC.none, keep⟩ := by unfold newH; rw [if_pos hok]
    have e2 : newHE n keep = 0 := by unfold newHE; rw [if_pos hok]
    rw [e1, e2]
    rw [decide_eq_true hok] at HS
    clear e1 e2
    obtain ⟨⟨h0, h1⟩, h2, h3⟩ := hok
    obtain ⟨m, rfl⟩ := Int.eq_ofNat_of_zero_le (show 0 ≤ n by omega)
    simp only [Int.toNat_natCast, List.length_replicate]
    obtain ⟨i0, hi, hz0, hz1, hz2⟩ := info_parts infoHc
    have HI := Lib.hid hi
    have HZ0 := Lib.hid hz0
    have HZ1 := Lib.hid hz1
    have HZ2 := Lib.hid hz2
    clear hi hz0 hz1 hz2
    have hm : m ≤ 2000 := by omega
    subst hW
    go_enter Try.func11, Try.ntmps11
    go_wp2_with (go_at_call 34; refine stop_here ?_)
    refine stop_on ?_
    generalize hW : World.alloc w _ = W at *
    clear hW
    refine HS.out.mono ?_
    rintro e w1 ⟨rfl, rfl⟩
    go_wp2_with (at_make; refine stop_here ?_)
    refine stop_on ?_
    refine wpList_make_cap _ rfl _ _ 22 rfl 54 i0 _ Try.underlying22 HI.out HZ0.out _ _ _ _ m m rfl rfl (by omega) (by omega) (by omega) (by rw [HZ2.out]; omega) (by unfold maxLen; omega) ?_
    rw [HZ1.out, HSZ.out]
    have HZ := Lib.hid (fun w' => hc_zeros w' m)
    have hcs : (madeCells (Value.agg #[.int .i64 0, .bool false, .bool false, .slice none 0 0]).cells (m * 4)).size = m * 4 := size_madeCells _ _
    generalize madeCells (Value.agg #[.int .i64 0, .bool false, .bool false, .slice none 0 0]).cells (m * 4) = cs at *
    have hsl := sl_lit' (w := W) (z := w.heap.size + 1) HSZ.out.symm 54 m cs.toList (by unfold maxLen; omega)
    rw [Array.toArray_toList] at hsl
    have HSL := Lib.hid (show HcSl (W.alloc (.cells cs 54)) (some ⟨w.heap.size + 1, 0, none⟩) m m (List.replicate m HC.none) from ⟨by simp, _, hsl, HZ.out _⟩)
    have hbx := HB.out.ext ((Ext.refl W).alloc (.cells cs 54))
    have HBX := Lib.hid hbx
    have HX2 := Lib.hid (HX.out.alloc (.cells cs 54))
    clear hsl hcs t0 t1 t2 y0 y1
    obtain ⟨t0, t1, t2⟩ := hbx.read2
    obtain ⟨y0, y1⟩ := hbx.free2
    clear hbx
    generalize World.alloc W _ = W2 at *
    go_wp2_with fail
    refine ret2_cell (k := w.heap.size) (x := .slice (some ⟨w.heap.size + 1, 0, none⟩) m m) (y := .int .i64 keep) (v := .tuple #[.agg #[.slice (some ⟨w.heap.size + 1, 0, none⟩) m m, .int .i64 keep], .int .i64 0]) ?hb4 (fun r0 r1 => by simp [results, Try.results11, go_sem, r0, r1]) rfl ?hx4
    case hb4 => exact HBX.out.set2 _ _
    case hx4 => exact ⟨_, _, rfl, HSL.out.boxed2 HBX.out _ _, HX2.out.store2 (by omega) _ _⟩

theorem places_told (n : Nat) (leaf : Bool) (it : List It) : placesC n leaf it = !((toldL leaf it).any (fun p => !isPl p n)) := by
  unfold placesC toldL isPl
  cases leaf
  · simp only [Bool.false_or, Bool.false_eq_true, if_false, List.any_map, Function.comp_def]
    rw [List.all_eq_not_any_not]
  · rfl
set_option maxRecDepth 100000 in
set_option maxHeartbeats 1600000 in
theorem hpIsRight_any (n : Nat) (x : HC) (A : Option Addr) (m c : Nat) (w : World) (hm : m = x.it.length) (hm9 : m ≤ 90000) (hI : Sl w A m c (ivs x.it)) :
    Calls Try.prog 36 #[.agg #[.int .i64 x.ref, .bool x.pin, .bool x.leaf, .slice A m c], .int .i64 n] w fun e w' => e = .returned (.bool (cellR n x)) ∧ Ext w w' := by
  obtain ⟨rf, pn, lf, it⟩ := x
  simp only at hm hI ⊢
  obtain ⟨W, hW⟩ : ∃ W, (w.alloc (.cells #[.int .i64 rf, .bool pn, .bool lf, .slice A m c] 54)).alloc (.cells #[.int .i64 n] 3) = W := ⟨_, rfl⟩
  obtain ⟨hx, hb0, hb1⟩ := allocs2 hW
  have HX := Lib.hid hx
  have HB0 := Lib.hid hb0
  have HB1 := Lib.hid hb1
  obtain ⟨p0, p1, p2, p3⟩ := hb0.read4
  have p4 := hb0.lt
  by_cases h0 : rf = 0
  · subst h0
    have HE := Lib.hid (show cellR n ⟨0, pn, lf, it⟩ = (!lf && decide (m = 0)) from by unfold cellR; rw [if_pos rfl, hm])
    clear hx hb0 hb1 hm hI
    rcases Nat.eq_zero_or_pos m with h | h
    · subst h
      subst hW
      cases lf
      · go_enter Try.func36, Try.ntmps36
        go_wp2_with fail
        go_ret
        exact ⟨ret_bool (by rw [HE.out]; rfl), HX.out⟩
      · go_enter Try.func36, Try.ntmps36
        go_wp2_with fail
        go_ret
        exact ⟨ret_bool (by rw [HE.out]; rfl), HX.out⟩
    · have d0 : ((m : Int) == 0) = false := beq_eq_false_iff_ne.2 (by omega)
      have d1 : decide ((m : Int) = 0) = false := decide_eq_false (by omega)
      have d2 : decide (m = 0) = false := decide_eq_false (by omega)
      rw [d2, Bool.and_false] at HE
      clear h
      subst hW
      go_enter Try.func36, Try.ntmps36
      go_wp2_with fail
      go_ret
      exact ⟨ret_bool (by rw [HE.out]), HX.out⟩
  have e0 : (rf == 0) = false := by simpa using h0
  have e0' : decide (rf = 0) = false := decide_eq_false h0
  have hcell : cellR n ⟨rf, pn, lf, it⟩ = (decide (0 < rf) && (decide (rf ≤ 2147483647) && (!pn && (ndR it && placesC n lf it)))) := by unfold cellR; rw [if_neg h0]
  rcases Int.lt_or_le rf 0 with h1 | h1
  · have HE := Lib.hid (show cellR n ⟨rf, pn, lf, it⟩ = false by rw [hcell, decide_eq_false (by omega)]; rfl)
    have d0 : decide (rf < 0) = true := decide_eq_true h1
    clear hx hb0 hb1 hm hI hcell h0 h1
    subst hW
    go_enter Try.func36, Try.ntmps36
    go_wp2_with fail
    go_ret
    exact ⟨ret_bool HE.out.symm, HX.out⟩
  have d0 : decide (rf < 0) = false := decide_eq_false (by omega)
  rcases Int.lt_or_le 2147483647 rf with h2 | h2
  · have HE := Lib.hid (show cellR n ⟨rf, pn, lf, it⟩ = false by rw [hcell, decide_eq_false (show ¬ rf ≤ 2147483647 by omega)]; simp)
    have d1 : decide (2147483647 < rf) = true := decide_eq_true h2
    clear hx hb0 hb1 hm hI hcell h0 h1 h2
    subst hW
    go_enter Try.func36, Try.ntmps36
    go_wp2_with fail
    go_ret
    exact ⟨ret_bool HE.out.symm, HX.out⟩
  have d1 : decide (2147483647 < rf) = false := decide_eq_false (by omega)
  rw [decide_eq_true (show 0 < rf by omega), decide_eq_true h2, Bool.true_and, Bool.true_and] at hcell
  cases pn
  rotate_left
  · have HE := Lib.hid (show cellR n ⟨rf, true, lf, it⟩ = false by rw [hcell]; rfl)
    clear hx hb0 hb1 hm hI hcell h0 h1 h2
    subst hW
    go_enter Try.func36, Try.ntmps36
    go_wp2_with fail
    go_ret
    exact ⟨ret_bool HE.out.symm, HX.out⟩
  rw [Bool.not_false, Bool.true_and] at hcell
  have HR := Lib.hid (nodeRight_any lf A it m c W hm (hI.ext hx))
  obtain ⟨u, hu⟩ : ∃ u, ndR it = u := ⟨_, rfl⟩
  rw [hu] at HR hcell
  clear hu
  cases u
  · have HE := Lib.hid (show cellR n ⟨rf, false, lf, it⟩ = false by rw [hcell]; rfl)
    clear hx hb0 hb1 hm hI hcell h0 h1 h2
    subst hW
    go_enter Try.func36, Try.ntmps36
    go_wp2_with (go_at_call 40; refine stop_here ?_)
    refine stop_on ?_
    generalize hW : World.alloc (World.alloc w _) _ = W at *
    clear hW
    refine HR.out.mono ?_
    rintro e w1 ⟨rfl, hx⟩
    have HX1 := Lib.hid (HX.out.trans hx)
    clear hx
    go_wp2_with fail
    go_ret
    exact ⟨ret_bool HE.out.symm, HX1.out⟩
  rw [Bool.true_and, places_told] at hcell
  have HE := Lib.hid hcell
  have HTD := Lib.hid (fun w' (hx' : Ext W w') => hpTold_any lf A it m c w' hm hm9 ((hI.ext hx).ext hx'))
  have HCF := Lib.hid (fun S t d w' (hx' : Ext W w') (ht : t = (toldL lf it).length) (hS : Sl w' S t d ((toldL lf it).map iv)) => hpHasOut_any (fun p => !isPl p n) (w.heap.size + 1) S (toldL lf it) t d w' ht hS (fun p => hpOut_any p (w.heap.size + 1) n w' ((HB1.out.ext hx').at 0 _ rfl)))
  generalize List.any _ _ = z at *
  generalize toldL lf it = ps at *
  clear hx hb0 hb1 hm hI hcell h0 h1 h2
  subst hW
  go_enter Try.func36, Try.ntmps36
  go_wp2_with (go_at_call 40; refine stop_here ?_)
  refine stop_on ?_
  generalize hW : World.alloc (World.alloc w _) _ = W at *
  clear hW
  refine HR.out.mono ?_
  rintro e w1 ⟨rfl, hx⟩
  have HXW := Lib.hid hx
  clear p0 p1 p2 p3
  obtain ⟨p0, p1, p2, p3⟩ := (HB0.out.ext hx).read4
  clear hx
  go_wp2_with (go_at_call 42; refine stop_here ?_)
  refine stop_on ?_
  refine (HTD.out _ HXW.out).mono ?_
  rintro e w2 ⟨S, t, d, rfl, ht, ho, hx⟩
  have HX2 := Lib.hid (HXW.out.trans hx)
  have HC2 := Lib.hid (HCF.out S t d w2 HX2.out ht (own_sl ho))
  clear ht ho hx p0 p1 p2 p3
  go_wp2_with (go_at_call 57; refine HC2.out.mono ?_; rintro e w3 ⟨rfl, rfl⟩)
  go_ret
  exact ⟨ret_bool HE.out.symm, HX.out.trans HX2.out⟩
set_option maxRecDepth 100000 in
set_option maxHeartbeats 1600000 in
theorem heapRight_any (R : Option Addr) (l : List HC) (n q : Nat) (keep : Int) (w : World) (hS : smallH ⟨l, keep⟩ 60 = true) (hA : HcSl w R n q l) :
    Calls Try.prog 15 #[.agg #[.slice R n q, .int .i64 keep]] w fun e w' => e = .returned (.bool (rightH ⟨l, keep⟩)) ∧ Ext w w' := by
  have hn := hA.1
  have hsm : n ≤ 60 ∧ ∀ k (hk : k < l.length), l[k].it.length ≤ 10 := by
    unfold smallH at hS
    simp only [Bool.and_eq_true, decide_eq_true_eq, List.all_eq_true] at hS
    exact ⟨by omega, fun k hk => (hS.2 _ (List.getElem_mem hk)).1⟩
  have hn60 := hsm.1
  have HSM := Lib.hid hsm.2
  have HX := Lib.hid ((Ext.refl w).alloc (.cells #[.slice R n q, .int .i64 keep] 24))
  have hb := Bx.new w #[.slice R n q, .int .i64 keep] 24
  have HB := Lib.hid hb
  have HA := Lib.hid (hA.ext HX.out)
  have HN := Lib.hid hn
  obtain ⟨b0, b1, b2⟩ := hb.read2
  clear hA hb hn hS hsm
  go_enter Try.func15, Try.ntmps15
  go_wp2_with fail
  generalize hW : World.alloc w _ = W at *
  clear hW
  go_loopw [8] (fun i wr => ∃ k : Nat, k ≤ n ∧ i = .int .i64 k ∧ Ext W wr ∧ ∀ j (hj : j < l.length), j < k → cellR n l[j] = true) (fun i _ => n - (intOf i).toNat)
  case atStart => exact ⟨0, Nat.zero_le _, rfl, Ext.refl _, fun j hj h => by omega⟩
  case round =>
    obtain ⟨k, hk, rfl, hx, hne⟩ := hrel
    have HNE := Lib.hid hne
    have HXR := Lib.hid hx
    clear hne b0 b1 b2
    obtain ⟨b0, b1, b2⟩ := (HB.out.ext hx).read2
    rcases Nat.lt_or_ge k n with hlt | hlt
    · have hkl : k < l.length := by rw [← HN.out]; exact hlt
      obtain ⟨b, off, rfl, hbl, A, c, r0, r1, r2, r3, hI⟩ := (HA.out.ext hx).cell hkl
      have hki : (k : Int) < (n : Int) := by omega
      have HF := Lib.hid (fun (h : cellR n l[k] = false) => rightH_bad (keep := keep) hkl (by rw [← HN.out]; exact h))
      have HK := Lib.hid (fun (h : cellR n l[k] = true) => (show ∀ j (hj : j < l.length), j < k + 1 → cellR n l[j] = true from fun j hj hjk => by
        rcases Nat.lt_or_ge j k with h' | h'
        · exact HNE.out j hj h'
        · obtain rfl : j = k := by omega
          exact h))
      have HC := Lib.hid (fun w' (hx : Ext wr w') => hpIsRight_any n l[k] A l[k].it.length c w' rfl (by have := HSM.out k hkl; omega) (hI.ext hx))
      clear HNE hI hx
      obtain ⟨u, hu⟩ : ∃ u, cellR n l[k] = u := ⟨_, rfl⟩
      rw [hu] at HF HK HC
      clear hu
      generalize hq : l[k] = x at *
      clear hq
      obtain ⟨rf, pn, lf, it⟩ := x
      simp only at r0 r1 r2 r3 HC
      generalize it.length = m at *
      have HXA := Lib.hid ((Ext.refl wr).alloc (.cells #[.int .i64 rf, .bool pn, .bool lf, .slice A m c] 54))
      cases u
      · have HE := Lib.hid (HF.out rfl)
        clear HF HK
        go_wp2_with (go_at_call 36; refine (HC.out _ HXA.out).mono ?_; rintro e w1 ⟨rfl, hx⟩; have HX1 := Lib.hid (HXA.out.trans hx); clear hx)
        go_ret
        exact ⟨ret_bool HE.out.symm, HX.out.trans (HXR.out.trans HX1.out)⟩
      · have HE := Lib.hid (HK.out rfl)
        clear HF HK
        go_wp2_with (go_at_call 36; refine (HC.out _ HXA.out).mono ?_; rintro e w1 ⟨rfl, hx⟩; have HX1 := Lib.hid (HXA.out.trans hx); clear hx)
        go_roundw
        case rel => exact ⟨k + 1, by omega, by go_num, HXR.out.trans HX1.out, HE.out⟩
        case measure => simp [intOf]; omega
    · obtain rfl : k = n := by omega
      have HSZ := Lib.hid (hpIsSize_any k keep wr)
      have HE := Lib.hid (show rightH ⟨l, keep⟩ = decide (newOk k keep) by
        by_cases h : newOk k keep
        · rw [decide_eq_true h]
          exact rightH_yes (l := l) (keep := keep) (by rw [← HN.out]; unfold newOk at h; omega) (fun j hj => by rw [← HN.out]; exact HNE.out j hj (by rw [HN.out]; exact hj))
        · rw [decide_eq_false h]
          exact rightH_no (l := l) (keep := keep) (by rw [← HN.out]; unfold newOk at h; omega))
      generalize decide (newOk k keep) = z at *
      clear hlt hx
      go_wp2_with (go_at_call 34; refine HSZ.out.mono ?_; rintro e w1 ⟨rfl, rfl⟩)
      go_ret
      exact ⟨ret_bool HE.out.symm, HX.out.trans HXR.out⟩
end Go.Proofs.Ytclpeeemnmhdcaa
