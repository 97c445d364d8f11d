/- Walks of slices.DeleteFunc and of without of package heap. Walks of New, isRight and Right of package heap. Walks of Free, Fits and Same of package heap, and of slices.EqualFunc and IndexFunc over cells. Walks of Hold, Loose and Settle of package heap. -/
import Derived.Test.YtbfbpddfcakieaaGreatK08
import Derived.Lib.SliceRun
import Derived.Test.YtbfbpddfcakieaaGreatK07
namespace Go.Proofs.YtbfbpddfcakieaaGreat
open Go.RowKit
attribute [local go_sem ↓] Go.wp_at_zero Go.wp_at_succ

theorem zeroI (w : World) : (zeroValue 3).run Tryz.prog w = .ok (.int .i64 0) w := by
  obtain ⟨i0, hi, hz0, hz1, hz2⟩ := info_parts infoI0
  simp [zeroValue, typeInfo, hi, hz0]
theorem grown_cells (g : Nat) : ∀ (vs : List Value) (o : Nat) (w : World), w.grownBy (w.setCells g o vs) (some g)
  | [], _, _ => World.grownBy.refl _ _
  | v :: r, o, w => grown_trans (grown_set w g o v) (grown_cells g r (o + 1) _)
/-- Where a deletion stands: the first i numbers are those kept of the first j; from j on all is as it was. -/
structure Del (f : Int → Bool) (l xs : List Int) (i j : Nat) : Prop where
  len : xs.length = l.length
  lt : i < j
  le : j ≤ l.length
  low : xs.take i = (l.take j).filter (fun x => !f x)
  high : xs.drop j = l.drop j
  size : i = ((l.take j).filter (fun x => !f x)).length
theorem filter_all {f : Int → Bool} {l : List Int} (h : ∀ j (hj : j < l.length), f l[j] = false) : l.filter (fun x => !f x) = l := by
  rw [List.filter_eq_self]
  intro x hx
  obtain ⟨j, hj, rfl⟩ := List.mem_iff_getElem.1 hx
  rw [h j hj]; rfl
theorem Del.start {f : Int → Bool} {l : List Int} {i : Nat} (hi : i < l.length) (h : f l[i] = true) (hb : ∀ j (hj : j < l.length), j < i → f l[j] = false) : Del f l l i (i + 1) := by
  have e : (l.take (i + 1)).filter (fun x => !f x) = l.take i := by
    rw [List.take_succ_eq_append_getElem hi, List.filter_append]
    rw [filter_all (f := f) (l := l.take i) (fun j hj => by rw [List.getElem_take]; exact hb j (by rw [List.length_take] at hj; omega) (by rw [List.length_take] at hj; omega))]
    simp [h]
  exact ⟨rfl, by omega, by omega, e.symm, rfl, by rw [e, List.length_take]; omega⟩
theorem Del.skip {f : Int → Bool} {l xs : List Int} {i j : Nat} (h : Del f l xs i j) (hj : j < l.length) (hf : f l[j] = true) : Del f l xs i (j + 1) := by
  have e : (l.take (j + 1)).filter (fun x => !f x) = (l.take j).filter (fun x => !f x) := by
    rw [List.take_succ_eq_append_getElem hj, List.filter_append]; simp [hf]
  refine ⟨h.len, by have := h.lt; omega, by omega, by rw [e]; exact h.low, ?_, by rw [e]; exact h.size⟩
  have := congrArg (List.drop 1) h.high
  simpa [Nat.add_comm] using this
theorem Del.keep {f : Int → Bool} {l xs : List Int} {i j : Nat} (h : Del f l xs i j) (hj : j < l.length) (hf : f l[j] = false) : Del f l (xs.set i l[j]) (i + 1) (j + 1) := by
  have e : (l.take (j + 1)).filter (fun x => !f x) = (l.take j).filter (fun x => !f x) ++ [l[j]] := by
    rw [List.take_succ_eq_append_getElem hj, List.filter_append]; simp [hf]
  have hlt := h.lt
  have hlen := h.len
  have hi : i < xs.length := by omega
  refine ⟨by rw [List.length_set]; exact h.len, by omega, by omega, ?_, ?_, by rw [e, List.length_append, ← h.size]; rfl⟩
  · rw [e, ← h.low, List.take_succ_eq_append_getElem (by rw [List.length_set]; exact hi), List.getElem_set_self, List.take_set_of_le (Nat.le_refl _)]
  · rw [List.drop_set_of_lt (by omega)]
    have := congrArg (List.drop 1) h.high
    simpa [Nat.add_comm] using this
theorem Del.at_ {f : Int → Bool} {l xs : List Int} {i j : Nat} (h : Del f l xs i j) (hj : j < l.length) : ∃ hx : j < xs.length, xs[j] = l[j] := by
  have hx : j < xs.length := by rw [h.len]; exact hj
  refine ⟨hx, ?_⟩
  have := congrArg (fun t => t[0]?) h.high
  simpa [hx, hj] using this
theorem Del.done {f : Int → Bool} {l xs : List Int} {i : Nat} (h : Del f l xs i l.length) : xs.take i = l.filter (fun x => !f x) ∧ i = (l.filter (fun x => !f x)).length := by
  have h1 := h.low
  have h2 := h.size
  rw [List.take_length] at h1 h2
  exact ⟨h1, h2⟩
theorem idx_cases {f : Int → Bool} (l : List Int) : (idxBy f l = -1 ∧ ∀ j (hj : j < l.length), f l[j] = false) ∨ ∃ i, ∃ hi : i < l.length, idxBy f l = (i : Int) ∧ f l[i] = true ∧ ∀ j (hj : j < l.length), j < i → f l[j] = false := by
  by_cases h : l.any f = true
  · right
    have h1 : l.findIdx f < l.length := List.findIdx_lt_length_of_exists (by simpa using h)
    refine ⟨l.findIdx f, h1, by unfold idxBy; rw [if_pos h], List.findIdx_getElem, fun j hj hji => ?_⟩
    have := List.not_of_lt_findIdx hji
    simpa using this
  · left
    have h1 : ∀ j (hj : j < l.length), f l[j] = false := fun j hj => by
      cases hq : f l[j]
      · rfl
      · exact absurd (List.any_eq_true.2 ⟨l[j], List.getElem_mem hj, hq⟩) h
    exact ⟨idx_none h1, h1⟩
set_option maxRecDepth 100000 in
set_option maxHeartbeats 3200000 in
theorem hpDelete_any (f : Int → Bool) (kb B : Nat) (S : Option Addr) (l : List Int) (t d : Nat) (w : World) (ht : t = l.length) (hO : w.ownsRow B 3 1 (.slice S t d) t (l.map iv))
    (hF : ∀ wr, w.grownBy wr (Value.slice S t d).ownBlock → ∀ p, Calls Tryz.prog 104 #[.int .i64 p, .pointer (some ⟨kb, 0, none⟩)] wr fun e w' => e = .returned (.bool (f p)) ∧ wr = w') :
    Calls Tryz.prog 103 #[.slice S t d, .func (.func 104) #[] #[.pointer (some ⟨kb, 0, none⟩)]] w fun e w' => e = .returned (.slice S (l.filter (fun x => !f x)).length d) ∧ Sl w' S (l.filter (fun x => !f x)).length d ((l.filter (fun x => !f x)).map iv) ∧ w.grownBy w' (Value.slice S t d).ownBlock := by
  have hsl := own_sl hO
  have HI := Lib.hid (hpIdxGone_any f kb S l t d w ht hsl (hF w (World.grownBy.refl _ _)))
  have hl := hsl.len
  unfold maxLen at hl
  have htd := hsl.2.1
  have htd2 := hsl.2.2.1
  unfold maxLen at htd2
  rcases idx_cases (f := f) l with ⟨e1, hb⟩ | ⟨i0, hi0, e1, h1, hb⟩
  · rw [filter_all hb]
    rw [e1] at HI
    have HS := Lib.hid hsl
    have HT := Lib.hid ht
    clear e1 hb hF hO hsl ht
    go_enter Tryz.func103, Tryz.ntmps103
    go_wp2_with (go_at_call 108; refine HI.out.mono ?_; rintro e w1 ⟨rfl, rfl⟩)
    go_ret
    exact ⟨by rw [← HT.out]; rfl, by rw [← HT.out]; exact HS.out, World.grownBy.refl _ _⟩
  rw [e1] at HI
  obtain ⟨g, rfl, hg⟩ := own_some hO (by omega)
  have HD0 := Lib.hid (Del.start hi0 h1 hb)
  have HO := Lib.hid hO
  have HT := Lib.hid ht
  have HF := Lib.hid hF
  have hgl : g < w.heap.size := (hO.lt g rfl).2
  clear e1 hb hF hO hsl h1 hg
  have hi1 : (i0 : Int) + 1 ≤ 9223372036854775807 := by omega
  have hie : ((i0 : Int) == -1) = false := beq_eq_false_iff_ne.2 (by omega)
  have hie2 : decide ((i0 : Int) = -1) = false := decide_eq_false (by omega)
  clear hi0 ht
  go_enter Tryz.func103, Tryz.ntmps103
  go_wp2_with (go_at_call 108; refine HI.out.mono ?_; rintro e w1 ⟨rfl, rfl⟩)
  go_loopw [5, 6] (fun s5 s6 wr => ∃ i j : Nat, s5 = .int .i64 i ∧ s6 = .int .i64 j ∧ ∃ xs, Del f l xs i j ∧ wr.ownsRow B 3 1 (.slice (some ⟨g, 0, none⟩) t d) t (xs.map iv) ∧ w.grownBy wr (some g)) (fun s5 s6 _ => t - (intOf s6).toNat)
  case atStart => exact ⟨i0, i0 + 1, rfl, by go_num, l, HD0.out, HO.out, World.grownBy.refl _ _⟩
  case round =>
    obtain ⟨i, j, rfl, rfl, xs, hd, ho, hgr⟩ := hrel
    have HD := Lib.hid hd
    have HOR := Lib.hid ho
    have HGR := Lib.hid hgr
    have hij := hd.lt
    have hjl := hd.le
    rw [← HT.out] at hjl
    have hji : (j : Int) ≤ (t : Int) := by omega
    rcases Nat.lt_or_ge j t with hlt | hlt
    · have hjll : j < l.length := by rw [← HT.out]; exact hlt
      obtain ⟨hxl, hxe⟩ := hd.at_ hjll
      have hcj : wr.cell? ⟨g, j, none⟩ = some (iv l[j]) := by
        rw [ho.cellAt j (by omega), List.getElem?_map, List.getElem?_eq_getElem hxl, hxe]; rfl
      unfold iv at hcj
      obtain ⟨z, hci⟩ : ∃ z, wr.cell? ⟨g, i, none⟩ = some z := by
        rw [ho.cellAt i (by omega), List.getElem?_map, List.getElem?_eq_getElem (by omega)]; exact ⟨_, rfl⟩
      have f0 := own_free ho i
      have hjt : (j : Int) < (t : Int) := by omega
      have hit : (i : Int) < (t : Int) := by omega
      have HC := Lib.hid (HF.out wr hgr l[j])
      have HK := Lib.hid (fun h => hd.keep hjll h)
      have HSK := Lib.hid (fun h => hd.skip hjll h)
      clear hd ho hgr hxl hxe
      generalize l[j] = x at *
      obtain ⟨b, hbx⟩ : ∃ b, f x = b := ⟨_, rfl⟩
      rw [hbx] at HC HK HSK
      clear hbx
      cases b
      · have HK2 := Lib.hid (HK.out rfl)
        have HO2 := Lib.hid (own_set HOR.out (j := i) (by omega) (.int .i64 x))
        have HG2 := Lib.hid (grown_trans HGR.out (grown_set wr g i (.int .i64 x)))
        clear HK HSK
        go_wp2_with (go_at_call 104; refine HC.out.mono ?_; rintro e w4 ⟨rfl, rfl⟩)
        go_roundw
        case rel => exact ⟨i + 1, j + 1, by go_num, by go_num, _, HK2.out, by rw [List.map_set]; exact HO2.out, HG2.out⟩
        case measure => simp [intOf]; omega
      · have HK2 := Lib.hid (HSK.out rfl)
        clear HK HSK
        go_wp2_with (go_at_call 104; refine HC.out.mono ?_; rintro e w4 ⟨rfl, rfl⟩)
        go_roundw
        case rel => exact ⟨i, j + 1, rfl, by go_num, _, HK2.out, HOR.out, HGR.out⟩
        case measure => simp [intOf]; omega
    · obtain rfl : j = t := by omega
      rw [HT.out] at hd
      obtain ⟨h5, h6⟩ := hd.done
      have hxl := hd.len
      have hcl : ∀ ty, (Builtin.clear_ #[38] ty #[.slice (some ⟨g, i, none⟩) (j - i) (d - i)]).run Tryz.prog wr = .ok (.tuple #[]) (wr.setCells g i (List.replicate (j - i) (.int .i64 0))) :=
        fun ty => Lib.run_clear_slice wr 38 3 ty (.int .i64 0) Tryz.underlying38 zeroI (by simp [Value.cells]) rfl g i (j - i) (d - i) (by omega) (fun k hk => by rw [ho.cellAt (i + k) (by omega), List.getElem?_map, List.getElem?_eq_getElem (by have := HT.out; omega)]; rfl) (fun k hk => own_free ho (i + k))
      have HG2 := Lib.hid (grown_trans hgr (grown_cells g (List.replicate (j - i) (.int .i64 0)) i wr))
      have HR := Lib.hid (show Sl (wr.setCells g i (List.replicate (j - i) (.int .i64 0))) (some ⟨g, 0, none⟩) (l.filter (fun x => !f x)).length d ((l.filter (fun x => !f x)).map iv) from by
        refine ⟨(fun h => by cases h), by omega, by unfold maxLen; omega, fun _ => ⟨g, 0, rfl, ?_, fun k u hu => ?_⟩⟩
        · exact Nat.lt_of_lt_of_le hgl HG2.out.size
        · have hk : k < i := by
            have := (List.getElem?_eq_some_iff.1 hu).1
            rw [List.length_map, ← h6] at this
            exact this
          rw [Nat.zero_add, World.cell?_setCells_out _ _ _ _ _ (fun _ _ => Or.inl hk), ho.cellAt k (by omega), ← hu, ← h5, List.getElem?_map, List.getElem?_map, List.getElem?_take, if_pos hk])
      have H6 := Lib.hid h6
      have hit : (i : Int) < (j : Int) := by omega
      have hdi : ¬ d = i := by omega
      have hii : i ≤ j := by omega
      clear hd ho hgr h5 h6 hxl hlt HD0 HD HF
      go_wp2_with fail
      go_ret
      exact ⟨by rw [← H6.out]; rfl, HR.out, HG2.out⟩
set_option maxHeartbeats 800000 in
theorem hpWithout_any (B : Nat) (S : Option Addr) (l : List Int) (t d : Nat) (H : Option Addr) (held : List Int) (th dh : Nat) (w : World) (ht : t = l.length) (hO : w.ownsRow B 3 1 (.slice S t d) t (l.map iv)) (hth : th = held.length) (hH : Sl w H th dh (held.map iv))
    (hne : held.map iv ≠ [] → ∀ p, H = some p → (Value.slice S t d).ownBlock ≠ some p.block) :
    Calls Tryz.prog 82 #[.slice S t d, .slice H th dh] w fun e w' => e = .returned (.slice S (l.filter (fun x => !inL held x)).length d) ∧ Sl w' S (l.filter (fun x => !inL held x)).length d ((l.filter (fun x => !inL held x)).map iv) ∧ w.grownBy w' (Value.slice S t d).ownBlock := by
  have hx := (Ext.refl w).alloc (.cells #[.slice H th dh] 38)
  have HX := Lib.hid hx
  have hb := Bx.new w #[.slice H th dh] 38
  have HD := Lib.hid (hpDelete_any (inL held) w.heap.size B S l t d _ ht (own_ext hO hx) (fun wr hg p => by
    have hbk : Bx wr w.heap.size #[.slice H th dh] := hb.grown hg (fun e => by have := hO.lt _ e; omega)
    exact hpGone_any p w.heap.size H held th dh wr (hbk.at 0 _ rfl) hth ((hH.ext hx).grown hg hne)))
  generalize l.filter _ = l' at *
  clear ht hO hth hH hne hx hb
  go_enter Tryz.func82, Tryz.ntmps82
  go_wp2_with (go_at_call 103; refine HD.out.mono ?_; rintro e w1 ⟨rfl, hs, hg⟩; have HS := Lib.hid hs; have HG := Lib.hid (grown_trans (grown_ext HX.out _) hg); clear hs hg)
  go_ret
  exact ⟨rfl, HS.out, HG.out⟩
end Go.Proofs.YtbfbpddfcakieaaGreat
namespace Go.Proofs.YtbfbpddfcakieaaGreat
open Go.RowKit
attribute [local go_sem ↓] Go.wp_at_zero Go.wp_at_succ

theorem places_told (n : Nat) (leaf : Bool) (it : List It) : placesC n leaf it = !((toldL leaf it).any (fun p => !isPl p n)) := by
  unfold placesC toldL isPl
  cases leaf
  · simp only [Bool.false_or, Bool.false_eq_true, if_false, List.any_map, Function.comp_def]
    rw [List.all_eq_not_any_not]
  · rfl
end Go.Proofs.YtbfbpddfcakieaaGreat
namespace Go.Proofs.YtbfbpddfcakieaaGreat
open Go.RowKit
attribute [local go_sem ↓] Go.wp_at_zero Go.wp_at_succ

theorem hc_eta (x : HC) : (⟨x.ref, x.pin, x.leaf, x.it⟩ : HC) = x := rfl
set_option maxRecDepth 100000 in
set_option maxHeartbeats 1600000 in
theorem heapFree_all (R : Option Addr) (l : List HC) (n q : Nat) (keep : Int) (w : World) (hA : HcSl w R n q l) :
    Calls Tryz.prog 43 #[.agg #[.slice R n q, .int .i64 keep]] w fun e w' => e = .returned (.int .i64 (l.countP freeC : Nat)) ∧ Ext w w' := by
  have hn := hA.1
  have hml : n ≤ maxLen := by obtain ⟨_, cs, h, _⟩ := hA; exact h.len
  unfold maxLen at hml
  have HX := Lib.hid ((Ext.refl w).alloc (.cells #[.slice R n q, .int .i64 keep] 24))
  have hb := Bx.new w #[.slice R n q, .int .i64 keep] 24
  have HB := Lib.hid hb
  obtain ⟨b0, b1, b2⟩ := hb.read2
  have HA := Lib.hid (hA.ext HX.out)
  have HN := Lib.hid hn
  clear hA hb hn
  go_enter Tryz.func43, Tryz.ntmps43
  go_wp2_with fail
  generalize hW : World.alloc w _ = W at *
  clear hW
  go_loopw [3, 9] (fun s i wr => ∃ k m : Nat, k ≤ n ∧ m ≤ k ∧ i = .int .i64 k ∧ s = .int .i64 m ∧ (l.take k).countP freeC = m ∧ Ext W wr) (fun _ i _ => n - (intOf i).toNat)
  case atStart => exact ⟨0, 0, Nat.zero_le _, Nat.le_refl _, rfl, rfl, rfl, Ext.refl _⟩
  case round =>
    obtain ⟨k, m, hk, hmk, rfl, rfl, hm, hx⟩ := hrel
    have HM := Lib.hid hm
    have HXR := Lib.hid hx
    clear hm
    rcases Nat.lt_or_ge k n with hlt | hlt
    · have hkl : k < l.length := by rw [← HN.out]; exact hlt
      obtain ⟨b, off, rfl, hbl, A, c, r0, r1, r2, r3, _⟩ := (HA.out.ext hx).cell hkl
      have hki : (k : Int) < (n : Int) := by omega
      have HS := Lib.hid (countP_take1 l freeC k hkl)
      rw [HM.out] at HS
      have HC := Lib.hid (fun w' => hpIsFree_any l[k].ref l[k].pin l[k].leaf A l[k].it.length c l[k].it w')
      rw [hc_eta] at HC
      obtain ⟨u, hu⟩ : ∃ u, freeC l[k] = u := ⟨_, rfl⟩
      rw [hu] at HC HS
      clear hu hx
      generalize l[k] = x at *
      obtain ⟨rf, pn, lf, it⟩ := x
      simp only at r0 r1 r2 r3 HC
      generalize it.length = mm at *
      have HXA := Lib.hid (HXR.out.alloc (.cells #[.int .i64 rf, .bool pn, .bool lf, .slice A mm c] 53))
      cases u
      · have HS1 := Lib.hid (show (l.take (k + 1)).countP freeC = m by rw [HS.out]; rfl)
        clear HS
        go_wp2_with (go_at_call 69; refine (HC.out _).mono ?_; rintro e w1 ⟨rfl, hx⟩; have HX1 := Lib.hid (HXA.out.trans hx); clear hx)
        go_roundw
        case rel => exact ⟨k + 1, m, by omega, by omega, by go_num, rfl, HS1.out, HX1.out⟩
        case measure => simp [intOf]; omega
      · have HS1 := Lib.hid (show (l.take (k + 1)).countP freeC = m + 1 by rw [HS.out]; rfl)
        clear HS
        go_wp2_with (go_at_call 69; refine (HC.out _).mono ?_; rintro e w1 ⟨rfl, hx⟩; have HX1 := Lib.hid (HXA.out.trans hx); clear hx)
        go_roundw
        case rel => exact ⟨k + 1, m + 1, by omega, by omega, by go_num, by go_num, HS1.out, HX1.out⟩
        case measure => simp [intOf]; omega
    · obtain rfl : k = n := by omega
      have HE := Lib.hid (show l.countP freeC = m by rw [← HM.out, HN.out, List.take_length])
      clear hlt hx
      go_wp2_with fail
      go_ret
      exact ⟨by rw [HE.out]; rfl, HX.out.trans HXR.out⟩
theorem heapFree_any (R : Option Addr) (l : List HC) (n q : Nat) (keep : Int) (w : World) (_hM : mayH ⟨l, keep⟩ 60 = true) (hA : HcSl w R n q l) :
    Calls Tryz.prog 43 #[.agg #[.slice R n q, .int .i64 keep]] w fun e w' => e = .returned (.int .i64 (l.countP freeC : Nat)) ∧ Ext w w' := heapFree_all R l n q keep w hA
set_option maxRecDepth 100000 in
set_option maxHeartbeats 800000 in
theorem heapFits_any (R : Option Addr) (l : List HC) (n q : Nat) (keep : Int) (w : World) (x : Int) (deep : Bool) (hM : mayH ⟨l, keep⟩ 60 = true) (hA : HcSl w R n q l) :
    Calls Tryz.prog 21 #[.agg #[.slice R n q, .int .i64 keep], .int .i64 x, .bool deep] w fun e w' => e = .returned (.bool (fitsH ⟨l, keep⟩ x deep)) ∧ Ext w w' := by
  have hn := hA.1
  have hkp : 0 ≤ keep ∧ keep ≤ 2000 := by
    unfold mayH at hM
    simp only [Bool.and_eq_true] at hM
    have := (rightH_iff hM.2).1
    omega
  have hml : n ≤ maxLen := by obtain ⟨_, cs, h, _⟩ := hA; exact h.len
  unfold maxLen at hml
  have HX := Lib.hid ((Ext.refl w).alloc (.cells #[.slice R n q, .int .i64 keep] 24))
  have hb := Bx.new w #[.slice R n q, .int .i64 keep] 24
  have HB := Lib.hid hb
  obtain ⟨b0, b1, b2⟩ := hb.read2
  have HF := Lib.hid (fun w' (hx : Ext w w') => heapFree_all R l n q keep w' (hA.ext hx))
  unfold fitsH freeH
  simp only
  have hcn : l.countP freeC ≤ n := by rw [hn]; exact List.countP_le_length
  generalize l.countP freeC = m at *
  have hwr : IntKind.i64.wrap ((m : Int) - keep) = (m : Int) - keep := by rw [IntKind.wrap_i64]; omega
  clear hA hb hn hM
  cases deep
  · go_enter Tryz.func21, Tryz.ntmps21
    go_wp2_with fail
    go_region_law
      (first
        | ((go_simp
            go_at_call 43
            refine (HF.out _ ?_).mono ?_
            (first | exact HX.out.drew | exact HX.out)
            rintro e w1 ⟨rfl, hx⟩
            have HX1 := Lib.hid (show Ext w w1 from by first | exact HX.out.drew.trans hx | exact HX.out.trans hx)
            obtain ⟨c0, c1, c2⟩ := (HB.out.ext (show Ext _ w1 from by first | exact (Ext.refl _).drew.trans hx | exact hx)).read2
            clear hx)))
    all_goals
      go_wp2_with fail
      go_ret
      exact ⟨ret_bool (by simp), HX1.out⟩
  · go_enter Tryz.func21, Tryz.ntmps21
    go_wp2_with (go_at_call 43; refine (HF.out _ HX.out).mono ?_; rintro e w1 ⟨rfl, hx⟩; have HX1 := Lib.hid (HX.out.trans hx); clear hx)
    go_ret
    exact ⟨ret_bool (by simp), HX1.out⟩
theorem hc_eq (r s : Int) (p t f g : Bool) (a b : List It) : decide ((⟨r, p, f, a⟩ : HC) = ⟨s, t, g, b⟩) = (decide (r = s) && (decide (p = t) && sameN f a g b)) := by
  unfold sameN sameI
  rw [Bool.eq_iff_iff]
  simp
set_option maxRecDepth 100000 in
set_option maxHeartbeats 1600000 in
theorem hpFirst_any (R : Option Addr) (l : List HC) (n q : Nat) (w : World) (hA : HcSl w R n q l) :
    Calls Tryz.prog 80 #[.slice R n q, .func (.func 69) #[] #[]] w fun e w' => e = .returned (.int .i64 (idxBy freeC l)) ∧ Ext w w' := by
  have hn := hA.1
  have hml : n ≤ maxLen := by obtain ⟨_, cs, h, _⟩ := hA; exact h.len
  unfold maxLen at hml
  have HA := Lib.hid hA
  have HN := Lib.hid hn
  clear hA hn
  go_enter Tryz.func80, Tryz.ntmps80
  go_wp2_with fail
  go_loopw [8] (fun i wr => ∃ k : Nat, k ≤ n ∧ i = .int .i64 k ∧ (∀ j (hj : j < l.length), j < k → freeC l[j] = false) ∧ Ext w wr) (fun i _ => n - (intOf i).toNat)
  case atStart => exact ⟨0, Nat.zero_le _, rfl, fun _ _ h => by omega, Ext.refl _⟩
  case round =>
    obtain ⟨k, hk, rfl, hb, hx⟩ := hrel
    have HB := Lib.hid hb
    have HXR := Lib.hid hx
    clear hb
    rcases Nat.lt_or_ge k n with hlt | hlt
    · have hkl : k < l.length := by rw [← HN.out]; exact hlt
      obtain ⟨b, off, rfl, hbl, A, c, r0, r1, r2, r3, _⟩ := (HA.out.ext hx).cell hkl
      have hki : (k : Int) < (n : Int) := by omega
      have HH := Lib.hid (fun h => idx_hit (f := freeC) hkl h HB.out)
      have HNN := Lib.hid (fun (h : freeC l[k] = false) => (show ∀ j (hj : j < l.length), j < k + 1 → freeC l[j] = false from fun j hj hjk => by
        rcases Nat.lt_or_ge j k with h' | h'
        · exact HB.out j hj h'
        · obtain rfl : j = k := by omega
          exact h))
      have HC := Lib.hid (fun w' => hpIsFree_any l[k].ref l[k].pin l[k].leaf A l[k].it.length c l[k].it w')
      rw [hc_eta] at HC
      obtain ⟨u, hu⟩ : ∃ u, freeC l[k] = u := ⟨_, rfl⟩
      rw [hu] at HC HH HNN
      clear hu hx HB
      generalize l[k] = x at *
      obtain ⟨rf, pn, lf, it⟩ := x
      simp only at r0 r1 r2 r3 HC
      generalize it.length = mm at *
      cases u
      · have HE := Lib.hid (HNN.out rfl)
        clear HH HNN
        go_wp2_with (go_at_call 69; refine (HC.out _).mono ?_; rintro e w1 ⟨rfl, hx⟩; have HX1 := Lib.hid (HXR.out.trans hx); clear hx)
        go_roundw
        case rel => exact ⟨k + 1, by omega, by go_num, HE.out, HX1.out⟩
        case measure => simp [intOf]; omega
      · have HE := Lib.hid (HH.out rfl)
        clear HH HNN
        go_wp2_with (go_at_call 69; refine (HC.out _).mono ?_; rintro e w1 ⟨rfl, hx⟩; have HX1 := Lib.hid (HXR.out.trans hx); clear hx)
        go_ret
        exact ⟨ret_int HE.out.symm, HX1.out⟩
    · obtain rfl : k = n := by omega
      have HE := Lib.hid (idx_none (f := freeC) (fun j hj => HB.out j hj (by rw [HN.out]; exact hj)))
      clear hlt hx
      go_wp2_with fail
      go_ret
      exact ⟨ret_int HE.out.symm, HXR.out⟩
end Go.Proofs.YtbfbpddfcakieaaGreat
namespace Go.Proofs.YtbfbpddfcakieaaGreat
open Go.RowKit
attribute [local go_sem ↓] Go.wp_at_zero Go.wp_at_succ

theorem Own.hsl {v w : World} {g n : Nat} {l : List HC} (h : Own v w g n l) (hn : n = l.length) : HcSl w (some ⟨g, 0, none⟩) n n l := by
  have h1 := h.sl
  rwa [← hn] at h1
theorem Own.ex {v w : World} {g cap : Nat} {l : List HC} (h : Own v w g cap l) : Ext v w := by obtain ⟨_, _, _, h⟩ := h; exact h
set_option maxRecDepth 100000 in
set_option maxHeartbeats 1600000 in
theorem hpHoldNo_any (R : Option Addr) (l : List HC) (n q : Nat) (keep : Int) (w : World) (p : Int) (hu : usedC l p = false) (hA : HcSl w R n q l) :
    Calls Tryz.prog 30 #[.agg #[.slice R n q, .int .i64 keep], .int .i64 p] w fun e w' => e = .returned (.tuple #[.agg #[.slice R n q, .int .i64 keep], .int .i64 4]) ∧ Ext w w' := by
  obtain ⟨W, hW⟩ : ∃ W, (w.alloc (.cells #[.slice R n q, .int .i64 keep] 24)).alloc (.cells #[.slice none 0 0, .int .i64 0] 24) = W := ⟨_, rfl⟩
  obtain ⟨hx0, hb0, hb1⟩ := allocs2 hW
  have HX := Lib.hid hx0
  have HB1 := Lib.hid hb1
  have HU := Lib.hid (hpUsedNoHold_any R l n q keep p W hu (hA.ext hx0))
  obtain ⟨p0, p1, p2⟩ := hb0.read2
  clear hx0 hb0 hb1 hA hu
  subst hW
  go_enter Tryz.func30, Tryz.ntmps30
  go_wp2_with (go_at_call 50; refine stop_here ?_)
  refine stop_on ?_
  generalize hW : World.alloc (World.alloc w _) _ = W at *
  clear hW
  refine HU.out.mono ?_
  rintro e w4 ⟨rfl, hx⟩
  have HX4 := Lib.hid (HX.out.trans hx)
  have hb4 := HB1.out.ext hx
  have HB4 := Lib.hid hb4
  obtain ⟨t0, t1, t2⟩ := hb4.read2
  obtain ⟨y0, y1⟩ := hb4.free2
  clear hx hb4 p0 p1 p2
  go_wp2_with fail
  refine ret2_cell (k := w.heap.size + 1) (x := .slice R n q) (y := .int .i64 keep) (v := .tuple #[.agg #[.slice R n q, .int .i64 keep], .int .i64 4]) ?hb4 (fun r0 r1 => by simp [results, Tryz.results30, go_sem, r0, r1]) rfl ?hx4
  case hb4 => exact HB4.out.set2 _ _
  case hx4 => exact ⟨rfl, HX4.out.store2 (by omega) _ _⟩
set_option maxRecDepth 100000 in
set_option maxHeartbeats 1600000 in
theorem hpHoldYes_any (R : Option Addr) (l : List HC) (n q : Nat) (keep : Int) (w : World) (p : Int) (l' : List HC) (hb : n ≤ 90000) (hu : usedC l p = true) (hA : HcSl w R n q l)
    (hD : ∀ (g : Nat) (wr : World), Own w wr g n l → Calls Tryz.prog 58 #[.slice (some ⟨g, 0, none⟩) n n, .int .i64 p] wr fun e w' => e = .returned (.tuple #[]) ∧ Own w w' g n l' ∧ wr.grownBy w' (some g)) :
    Calls Tryz.prog 30 #[.agg #[.slice R n q, .int .i64 keep], .int .i64 p] w fun e w' => ∃ g, e = .returned (.tuple #[.agg #[.slice (some ⟨g, 0, none⟩) n n, .int .i64 keep], .int .i64 0]) ∧ Own w w' g n l' := by
  obtain ⟨W, hW⟩ : ∃ W, (w.alloc (.cells #[.slice R n q, .int .i64 keep] 24)).alloc (.cells #[.slice none 0 0, .int .i64 0] 24) = W := ⟨_, rfl⟩
  obtain ⟨hx0, hb0, hb1⟩ := allocs2 hW
  have hsz : W.heap.size = w.heap.size + 1 + 1 := by rw [← hW]; simp
  have HX := Lib.hid hx0
  have HB1 := Lib.hid hb1
  have HSZ := Lib.hid hsz
  have HU := Lib.hid (hpUsedYesHold_any w R l n q keep p l' W hx0 hb hu hA hD)
  obtain ⟨p0, p1, p2⟩ := hb0.read2
  clear hx0 hb0 hb1 hA hu hD hsz
  subst hW
  go_enter Tryz.func30, Tryz.ntmps30
  go_wp2_with (go_at_call 50; refine stop_here ?_)
  refine stop_on ?_
  generalize hW : World.alloc (World.alloc w _) _ = W at *
  clear hW
  refine HU.out.mono ?_
  rintro e w4 ⟨g, rfl, hg, ho, hx⟩
  have hsz := HSZ.out
  have hb4 := HB1.out.ext hx
  have HB4 := Lib.hid hb4
  have HO := Lib.hid ((ho.other (p := ⟨w.heap.size + 1, 0, none⟩) (by simp; omega) (by simp) (.slice (some ⟨g, 0, none⟩) n n)).other (p := ⟨w.heap.size + 1, 1, none⟩) (by simp; omega) (by simp) (.int .i64 keep))
  obtain ⟨t0, t1, t2⟩ := hb4.read2
  obtain ⟨y0, y1⟩ := hb4.free2
  clear hx hb4 p0 p1 p2 ho hg hsz
  go_wp2_with fail
  refine ret2_cell (k := w.heap.size + 1) (x := .slice (some ⟨g, 0, none⟩) n n) (y := .int .i64 keep) (v := .tuple #[.agg #[.slice (some ⟨g, 0, none⟩) n n, .int .i64 keep], .int .i64 0]) ?hb4 (fun r0 r1 => by simp [results, Tryz.results30, go_sem, r0, r1]) rfl ?hx4
  case hb4 => exact HB4.out.set2 _ _
  case hx4 => exact ⟨g, rfl, HO.out⟩
set_option maxRecDepth 100000 in
set_option maxHeartbeats 1600000 in
theorem hpLooseNo_any (R : Option Addr) (l : List HC) (n q : Nat) (keep : Int) (w : World) (p : Int) (hu : usedC l p = false) (hA : HcSl w R n q l) :
    Calls Tryz.prog 24 #[.agg #[.slice R n q, .int .i64 keep], .int .i64 p] w fun e w' => e = .returned (.tuple #[.agg #[.slice R n q, .int .i64 keep], .int .i64 4]) ∧ Ext w w' := by
  obtain ⟨W, hW⟩ : ∃ W, (w.alloc (.cells #[.slice R n q, .int .i64 keep] 24)).alloc (.cells #[.slice none 0 0, .int .i64 0] 24) = W := ⟨_, rfl⟩
  obtain ⟨hx0, hb0, hb1⟩ := allocs2 hW
  have HX := Lib.hid hx0
  have HB1 := Lib.hid hb1
  have HU := Lib.hid (hpUsedNoLoose_any R l n q keep p W hu (hA.ext hx0))
  obtain ⟨p0, p1, p2⟩ := hb0.read2
  clear hx0 hb0 hb1 hA hu
  subst hW
  go_enter Tryz.func24, Tryz.ntmps24
  go_wp2_with (go_at_call 50; refine stop_here ?_)
  refine stop_on ?_
  generalize hW : World.alloc (World.alloc w _) _ = W at *
  clear hW
  refine HU.out.mono ?_
  rintro e w4 ⟨rfl, hx⟩
  have HX4 := Lib.hid (HX.out.trans hx)
  have hb4 := HB1.out.ext hx
  have HB4 := Lib.hid hb4
  obtain ⟨t0, t1, t2⟩ := hb4.read2
  obtain ⟨y0, y1⟩ := hb4.free2
  clear hx hb4 p0 p1 p2
  go_wp2_with fail
  refine ret2_cell (k := w.heap.size + 1) (x := .slice R n q) (y := .int .i64 keep) (v := .tuple #[.agg #[.slice R n q, .int .i64 keep], .int .i64 4]) ?hb4 (fun r0 r1 => by simp [results, Tryz.results24, go_sem, r0, r1]) rfl ?hx4
  case hb4 => exact HB4.out.set2 _ _
  case hx4 => exact ⟨rfl, HX4.out.store2 (by omega) _ _⟩
set_option maxRecDepth 100000 in
set_option maxHeartbeats 1600000 in
theorem hpLooseYes_any (R : Option Addr) (l : List HC) (n q : Nat) (keep : Int) (w : World) (p : Int) (l' : List HC) (hb : n ≤ 90000) (hu : usedC l p = true) (hA : HcSl w R n q l)
    (hD : ∀ (g : Nat) (wr : World), Own w wr g n l → Calls Tryz.prog 51 #[.slice (some ⟨g, 0, none⟩) n n, .int .i64 p] wr fun e w' => e = .returned (.tuple #[]) ∧ Own w w' g n l' ∧ wr.grownBy w' (some g)) :
    Calls Tryz.prog 24 #[.agg #[.slice R n q, .int .i64 keep], .int .i64 p] w fun e w' => ∃ g, e = .returned (.tuple #[.agg #[.slice (some ⟨g, 0, none⟩) n n, .int .i64 keep], .int .i64 0]) ∧ Own w w' g n l' := by
  obtain ⟨W, hW⟩ : ∃ W, (w.alloc (.cells #[.slice R n q, .int .i64 keep] 24)).alloc (.cells #[.slice none 0 0, .int .i64 0] 24) = W := ⟨_, rfl⟩
  obtain ⟨hx0, hb0, hb1⟩ := allocs2 hW
  have hsz : W.heap.size = w.heap.size + 1 + 1 := by rw [← hW]; simp
  have HX := Lib.hid hx0
  have HB1 := Lib.hid hb1
  have HSZ := Lib.hid hsz
  have HU := Lib.hid (hpUsedYesLoose_any w R l n q keep p l' W hx0 hb hu hA hD)
  obtain ⟨p0, p1, p2⟩ := hb0.read2
  clear hx0 hb0 hb1 hA hu hD hsz
  subst hW
  go_enter Tryz.func24, Tryz.ntmps24
  go_wp2_with (go_at_call 50; refine stop_here ?_)
  refine stop_on ?_
  generalize hW : World.alloc (World.alloc w _) _ = W at *
  clear hW
  refine HU.out.mono ?_
  rintro e w4 ⟨g, rfl, hg, ho, hx⟩
  have hsz := HSZ.out
  have hb4 := HB1.out.ext hx
  have HB4 := Lib.hid hb4
  have HO := Lib.hid ((ho.other (p := ⟨w.heap.size + 1, 0, none⟩) (by simp; omega) (by simp) (.slice (some ⟨g, 0, none⟩) n n)).other (p := ⟨w.heap.size + 1, 1, none⟩) (by simp; omega) (by simp) (.int .i64 keep))
  obtain ⟨t0, t1, t2⟩ := hb4.read2
  obtain ⟨y0, y1⟩ := hb4.free2
  clear hx hb4 p0 p1 p2 ho hg hsz
  go_wp2_with fail
  refine ret2_cell (k := w.heap.size + 1) (x := .slice (some ⟨g, 0, none⟩) n n) (y := .int .i64 keep) (v := .tuple #[.agg #[.slice (some ⟨g, 0, none⟩) n n, .int .i64 keep], .int .i64 0]) ?hb4 (fun r0 r1 => by simp [results, Tryz.results24, go_sem, r0, r1]) rfl ?hx4
  case hb4 => exact HB4.out.set2 _ _
  case hx4 => exact ⟨g, rfl, HO.out⟩
theorem heapHold_any (R : Option Addr) (l : List HC) (n q : Nat) (keep : Int) (w : World) (p : Int) (hM : rightH ⟨l, keep⟩ = true) (hbd : Bd l) (hA : HcSl w R n q l) :
    Calls Tryz.prog 30 #[.agg #[.slice R n q, .int .i64 keep], .int .i64 p] w fun e w' => ∃ S d, e = .returned (.tuple #[.agg #[.slice S n d, .int .i64 keep], .int .i64 (holdE ⟨l, keep⟩ p)]) ∧ HcSl w' S n d (holdH ⟨l, keep⟩ p).c ∧ Ext w w' := by
  have hn := hA.1
  have hn2 := (rightH_iff hM).1.1.2
  cases hu : usedC l p
  · obtain ⟨e1, e2⟩ := holdH_no (keep := keep) hu
    rw [e1, e2]
    refine (hpHoldNo_any R l n q keep w p hu hA).mono ?_
    rintro e w' ⟨rfl, hx⟩
    exact ⟨R, q, rfl, hA.ext hx, hx⟩
  · obtain ⟨k, hk, rfl, hp⟩ := usedC_iff hu
    obtain ⟨e1, e2⟩ := holdH_at (keep := keep) hk hu
    rw [e1, e2]
    refine (hpHoldYes_any R l n q keep w k (l.set k l[k].more) (by omega) hu hA (fun g wr ho => hpHold_at w g n k l n wr hn hk ⟨by omega, hbd k hk⟩ ho)).mono ?_
    rintro e w' ⟨g, rfl, ho⟩
    exact ⟨_, _, rfl, ho.hsl (by rw [List.length_set]; exact hn), ho.ex⟩
theorem heapLoose_any (R : Option Addr) (l : List HC) (n q : Nat) (keep : Int) (w : World) (p : Int) (hM : rightH ⟨l, keep⟩ = true) (_hbd : Bd l) (hA : HcSl w R n q l) :
    Calls Tryz.prog 24 #[.agg #[.slice R n q, .int .i64 keep], .int .i64 p] w fun e w' => ∃ S d cs, e = .returned (.tuple #[.agg #[.slice S n d, .int .i64 keep], .int .i64 (looseE ⟨l, keep⟩ p)]) ∧ (looseE ⟨l, keep⟩ p = 0 → w'.ownsRow w.heap.size 53 4 (.slice S n d) n cs) ∧ Sl w' S n d cs ∧ HcAt w' cs (looseL (l.length + 1) l p) ∧ Ext w w' := by
  have hn := hA.1
  have hn2 := (rightH_iff hM).1.1.2
  have hul : usedN l ≤ l.length := List.countP_le_length
  cases hu : usedC l p
  · have e2 : looseE ⟨l, keep⟩ p = 4 := by unfold looseE usedH; simp only [hu]; rfl
    rw [e2, looseL_no _ hu]
    refine (hpLooseNo_any R l n q keep w p hu hA).mono ?_
    rintro e w' ⟨rfl, hx⟩
    obtain ⟨_, cs, hs, ha⟩ := hA
    exact ⟨R, q, cs, rfl, (fun h => by simp at h), hs.ext hx, ha.ext hx, hx⟩
  · obtain ⟨k, hk, rfl, hp⟩ := usedC_iff hu
    have e2 : looseE ⟨l, keep⟩ (k : Int) = 0 := by unfold looseE usedH; simp only [hu]; rfl
    rw [e2]
    refine (hpLooseYes_any R l n q keep w k (looseL (l.length + 1) l (k : Int)) (by omega) hu hA (fun g wr ho => hpLoose_at (usedN l) (l.length + 1) w wr g n l n k (Nat.le_refl _) (by omega) hn (by omega) (right_okL hM) hu ho)).mono ?_
    rintro e w' ⟨g, rfl, ho⟩
    obtain ⟨cs, h1, h2, h3⟩ := ho
    rw [loose_len, ← hn] at h1
    exact ⟨_, _, cs, rfl, fun _ => h1, own_sl h1, h2.ext h3, h3⟩

def settS (g : List HC) (p : Int) : List HC := g.set p.toNat (stC (g.getD p.toNat HC.none))
theorem wait_mem {l : List HC} {n j : Nat} (hj : j < (waitK l n).length) : ∃ k, k < n ∧ (waitK l n)[j] = (k : Int) := by
  have h := List.getElem_mem hj
  unfold waitK at h
  obtain ⟨k, hk, e⟩ := List.mem_map.1 h
  have h2 := (List.mem_filter.1 hk).1
  exact ⟨k, List.mem_range.1 h2, e.symm⟩
theorem wait_fold (l : List HC) : ∀ k, k ≤ l.length → (waitK l k).foldl settS l = stK l k
  | 0, _ => by rw [stK_zero]; rfl
  | k + 1, h => by
    rw [waitK_succ (by omega), List.foldl_append, wait_fold l k (by omega)]
    cases hp : l[k].pin
    · rw [stK_same (by omega) hp]; rfl
    · simp only [if_true, List.foldl_cons, List.foldl_nil]
      unfold settS
      rw [Int.toNat_natCast, List.getD_eq_getElem?_getD, List.getElem?_eq_getElem (by rw [stK_len]; omega), Option.getD_some, stK_at (by omega), stK_succ (by omega)]
theorem sett_len (ps : List Int) (l : List HC) : (ps.foldl settS l).length = l.length :=
  foldl_inv (P := fun g : List HC => g.length = l.length) (g := settS) (fun b a hb => by unfold settS; rw [List.length_set]; exact hb) _ _ rfl
end Go.Proofs.YtbfbpddfcakieaaGreat
