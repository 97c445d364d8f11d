/- The walk of NodeSplits. -/
import Derived.Test.YtpcchbcibcfldaaNodeM
namespace Go.Proofs.Ytpcchbcibcfldaa
open Go.RowKit
attribute [local go_sem ↓] Go.wp_at_zero Go.wp_at_succ

theorem splitS_rows : ∀ (N : Nat) (l : List It), l.length ≤ N → (splitS l).flatten = l ∧ ∀ i (h : i < (splitS l).length), (1 ≤ (splitS l)[i].length ∧ (splitS l)[i].length ≤ 4) ∧ (i + 1 < (splitS l).length → (splitS l)[i].length = 3)
  | 0, l, hN => by
    obtain rfl : l = [] := List.eq_nil_of_length_eq_zero (by omega)
    rw [splitS_nil]; exact ⟨rfl, fun i h => by simp at h⟩
  | N + 1, l, hN => by
    by_cases h4 : l.length ≤ 4
    · by_cases h0 : l.length = 0
      · obtain rfl : l = [] := List.eq_nil_of_length_eq_zero h0
        rw [splitS_nil]; exact ⟨rfl, fun i h => by simp at h⟩
      · rw [splitS_few h0 h4]
        refine ⟨by simp, fun i h => ?_⟩
        obtain rfl : i = 0 := by simpa using h
        exact ⟨⟨by simp; omega, by simpa using h4⟩, fun h => by simp at h⟩
    · have ih := splitS_rows N (l.drop 3) (by simp; omega)
      rw [splitS_more h4]
      refine ⟨by rw [List.flatten_cons, ih.1, List.take_append_drop], fun i h => ?_⟩
      match i with
      | 0 =>
        have h3 : (l.take 3).length = 3 := by rw [List.length_take]; omega
        exact ⟨⟨by simp only [List.getElem_cons_zero]; omega, by simp only [List.getElem_cons_zero]; omega⟩, fun _ => by simpa only [List.getElem_cons_zero] using h3⟩
      | i + 1 =>
        have := ih.2 i (by simpa using h)
        refine ⟨by simpa only [List.getElem_cons_succ] using this.1, fun hi => ?_⟩
        simpa only [List.getElem_cons_succ] using this.2 (by simpa using hi)
theorem flat_take_succ (rs : List (List It)) (k : Nat) (hk : k < rs.length) : (rs.take (k + 1)).flatten = (rs.take k).flatten ++ rs[k] := by
  rw [List.take_succ_eq_append_getElem hk, List.flatten_append]; rw [List.flatten_cons, List.flatten_nil, List.append_nil]
theorem flat_le : ∀ (rs : List (List It)), (∀ i (h : i < rs.length), rs[i].length ≤ 4) → rs.flatten.length ≤ 4 * rs.length
  | [], _ => by simp
  | r :: rs, h => by
    have h0 := h 0 (by simp)
    have := flat_le rs (fun i hi => by have := h (i + 1) (by simpa using hi); simpa using this)
    simp at h0 this ⊢
    omega

set_option maxRecDepth 100000 in
set_option maxHeartbeats 1000000 in
theorem splits_any (A : Option Addr) (l : List It) (c : Nat) (w : World) (hA : Sl w A l.length c (ivs l)) :
    Calls Try.prog 6 #[.slice A l.length c] w fun e w' => e = .returned (.bool true) ∧ Ext w w' := by
  have HA := Lib.hid hA
  clear hA
  rcases Decidable.em ((l.length : Int) ≤ 20) with hl | hl
  rotate_left
  · go_enter Try.func6, Try.ntmps6
    go_wp2_with (go_at_call 10; refine (shown_any _).mono ?_; rintro e w1 ⟨rfl, hb1⟩; have HB1 := Lib.hid hb1; clear hb1)
    go_ret
    exact ⟨rfl, HB1.out⟩
  have hsr := splitS_rows l.length l (Nat.le_refl _)
  have hle := splitS_le l
  have HSP := Lib.hid (fun w' (hx : Ext w w') => nodeSplit_any A l l.length c w' rfl (by omega) (HA.out.ext hx))
  generalize splitS l = rs at *
  have HF := Lib.hid hsr.2
  have HJ := Lib.hid hsr.1
  clear hsr
  have hm : rs.length ≤ 20 := by omega
  go_enter Try.func6, Try.ntmps6
  go_wp2_with (first
    | (go_at_call 10; refine (shown_any _).mono ?_; rintro e w1 ⟨rfl, hb1⟩; have HX1 := Lib.hid hb1; clear hb1)
    | (go_at_call 22; refine (HSP.out _ HX1.out).mono ?_; rintro e w2 ⟨R, q, rfl, hR, hx⟩; have HX2 := Lib.hid (HX1.out.trans hx); have HR := Lib.hid hR; clear hx hR))
  have HO := Lib.hid (own_empty w2 50 2)
  generalize hW : World.alloc w2 _ = W at *
  obtain ⟨hx, _⟩ := allocs1 hW
  have HXW := Lib.hid hx
  clear hx hW
  go_loopw [5, 6] (fun v i wr => ∃ k : Nat, k ≤ rs.length ∧ i = .int .i64 k ∧ ∃ A' c', v = .slice A' (rs.take k).flatten.length c' ∧ wr.ownsRow w2.heap.size 50 2 (.slice A' (rs.take k).flatten.length c') (rs.take k).flatten.length (ivs (rs.take k).flatten) ∧ Ext w2 wr) (fun _ i _ => rs.length - (intOf i).toNat)
  case atStart => exact ⟨0, Nat.zero_le _, rfl, _, _, rfl, HO.out, HXW.out⟩
  case round =>
    obtain ⟨k, hk, rfl, A1, q1, rfl, ho, hx⟩ := hrel
    have HO1 := Lib.hid ho
    have HX1' := Lib.hid hx
    rcases Nat.lt_or_ge k rs.length with hlt | hlt
    · obtain ⟨b, off, rfl, Ak, ck, hck, hsk⟩ := (HR.out.ext hx).row hlt
      have HSK := Lib.hid hsk
      have hki : (k : Int) < (rs.length : Int) := by omega
      obtain ⟨⟨f1, f2⟩, f3⟩ := HF.out k hlt
      have HT := Lib.hid (flat_take_succ rs k hlt)
      have hfl := flat_le (rs.take k) (fun i hi => by
        have := (HF.out i (by simp at hi; omega)).1.2
        simpa using this)
      have hfl2 : (rs.take k).length ≤ 20 := by simp; omega
      clear ho hx hsk
      generalize hrk : rs[k] = rk at *
      generalize hn0 : (rs.take k).flatten = fl at *
      generalize hn1 : rk.length = nk at *
      have HNK := Lib.hid hn1
      have HN0 := Lib.hid hn0
      clear hn1 hrk hn0
      have g1 : (1 : Int) ≤ (nk : Int) := by omega
      have g2 : (nk : Int) ≤ 4 := by omega
      rcases Decidable.em ((k : Int) < (rs.length : Int) - 1) with hlast | hlast
      · have hn3 : ((nk : Int) != 3) = false := by
          have : nk = 3 := f3 (by omega)
          simp [this]
        clear f3
        go_wp2_with (at_builtin; refine stop_here ?_)
        refine stop_on ?_
        refine app_items _ rfl _ _ rfl w2.heap.size _ fl.length fl rfl HO1.out Ak nk ck rk rfl HNK.out HSK.out (by omega) HX1'.out.size ?_
        intro A4 q4 w4 hown hg4
        have HX4 := Lib.hid (show Ext w2 w4 from HX1'.out.app HO1.out (Nat.le_refl _) hg4)
        have e : fl.length + nk = (fl ++ rk).length := by rw [List.length_append, HNK.out]
        rw [e] at hown ⊢
        have HO4 := Lib.hid hown
        clear hown hg4 e
        go_wp2_with fail
        go_roundw
        case rel => exact ⟨k + 1, by omega, by go_num, A4, q4, by rw [HT.out, List.length_append], by rw [HT.out]; exact HO4.out, HX4.out⟩
        case measure => simp [intOf]; omega
      · clear f3
        go_wp2_with (at_builtin; refine stop_here ?_)
        refine stop_on ?_
        refine app_items _ rfl _ _ rfl w2.heap.size _ fl.length fl rfl HO1.out Ak nk ck rk rfl HNK.out HSK.out (by omega) HX1'.out.size ?_
        intro A4 q4 w4 hown hg4
        have HX4 := Lib.hid (show Ext w2 w4 from HX1'.out.app HO1.out (Nat.le_refl _) hg4)
        have e : fl.length + nk = (fl ++ rk).length := by rw [List.length_append, HNK.out]
        rw [e] at hown ⊢
        have HO4 := Lib.hid hown
        clear hown hg4 e
        go_wp2_with fail
        go_roundw
        case rel => exact ⟨k + 1, by omega, by go_num, A4, q4, by rw [HT.out, List.length_append], by rw [HT.out]; exact HO4.out, HX4.out⟩
        case measure => simp [intOf]; omega
    · obtain rfl : k = rs.length := by omega
      have hall : (rs.take rs.length).flatten = l := by rw [List.take_length, HJ.out]
      have HSL := Lib.hid (own_sl ho)
      rw [hall] at HSL
      have hz : (rs.length = 0 ∧ l.length = 0) ∨ (¬ rs.length = 0 ∧ ¬ l.length = 0) := by
        rcases Nat.eq_zero_or_pos rs.length with h0 | h0
        · left
          have : rs = [] := List.eq_nil_of_length_eq_zero h0
          subst this
          exact ⟨rfl, by rw [← HJ.out]; rfl⟩
        · right; omega
      have HI := Lib.hid (ref04Items_same A1 A l l.length q1 c wr rfl HSL.out ((HA.out.ext HX2.out).ext hx))
      rw [hall]
      clear ho hx hall hle hm
      rcases hz with ⟨e1, e2⟩ | ⟨e1, e2⟩
      · have b1 : ((rs.length : Int) == 0) = true := by simp [e1]
        have b2 : ((l.length : Int) == 0) = true := by simp [e2]
        clear e1 e2
        go_wp2_with (go_at_call 24; refine HI.out.mono ?_; rintro e w5 ⟨rfl, hx⟩; have HX5 := Lib.hid (HX2.out.trans (HX1'.out.trans hx)); clear hx)
        go_ret
        exact ⟨rfl, HX5.out⟩
      · have b1 : ((rs.length : Int) == 0) = false := by
          have : ¬ (rs.length : Int) = 0 := by omega
          simpa using this
        have b2 : ((l.length : Int) == 0) = false := by
          have : ¬ (l.length : Int) = 0 := by omega
          simpa using this
        clear e1 e2
        go_wp2_with (go_at_call 24; refine HI.out.mono ?_; rintro e w5 ⟨rfl, hx⟩; have HX5 := Lib.hid (HX2.out.trans (HX1'.out.trans hx)); clear hx)
        go_ret
        exact ⟨rfl, HX5.out⟩
end Go.Proofs.Ytpcchbcibcfldaa
