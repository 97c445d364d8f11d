/- Walks of At of package node, and of what it calls: sort.Search over its items. -/
import Derived.Test.YtjbfopnkeclfgaaGreatK05
namespace Go.Proofs.YtjbfopnkeclfgaaGreat
set_option maxRecDepth 20000
open Go.RowKit

/-- P4.2: where a key stands, or leads. -/
def atC (l : List It) (key : Int) : Nat := l.countP (fun x => decide (x.1 < key))
def atB (l : List It) (key : Int) : Bool := l.any (fun x => decide (x.1 = key))
def atI (leaf : Bool) (l : List It) (key : Int) : Int := if atB l key || leaf then (atC l key : Nat) else ((atC l key - 1 : Nat) : Int)
theorem atC_at {l : List It} (h : NdR l) {k : Nat} (hk : k < l.length) {key : Int} (he : l[k].1 = key) : atC l key = k := by
  unfold atC
  conv => lhs; rw [← List.take_append_drop k l, List.countP_append]
  have h1 : (l.take k).countP (fun x => decide (x.1 < key)) = k := by
    rw [List.countP_eq_length.2, List.length_take, Nat.min_eq_left (by omega)]
    intro x hx
    obtain ⟨i, hi, rfl⟩ := List.mem_iff_getElem.1 hx
    have hi' : i < k := by simp at hi; omega
    have := h.rise k i hk hi'
    simp only [List.getElem_take, decide_eq_true_eq]
    omega
  have h2 : (l.drop k).countP (fun x => decide (x.1 < key)) = 0 := by
    rw [List.countP_eq_zero]
    intro x hx
    obtain ⟨i, hi, rfl⟩ := List.mem_iff_getElem.1 hx
    simp only [List.getElem_drop, decide_eq_true_eq]
    rcases Nat.eq_zero_or_pos i with h0 | h0
    · subst h0; simp only [Nat.add_zero]; omega
    · have := h.rise (k + i) k (by simp at hi; omega) (by omega)
      omega
  omega
theorem atB_yes {l : List It} {k : Nat} (hk : k < l.length) {key : Int} (he : l[k].1 = key) : atB l key = true := by
  unfold atB; rw [List.any_eq_true]; exact ⟨l[k], List.getElem_mem hk, by simpa using he⟩
theorem atB_no {l : List It} {key : Int} (h : ∀ j (hj : j < l.length), l[j].1 ≠ key) : atB l key = false := by
  unfold atB; rw [List.any_eq_false]
  intro x hx
  obtain ⟨i, hi, rfl⟩ := List.mem_iff_getElem.1 hx
  simpa using h i hi
theorem atI_yes {leaf : Bool} {l : List It} {key : Int} (h : atB l key = true) : atI leaf l key = (atC l key : Nat) := by unfold atI; rw [h]; rfl
theorem atI_leaf {l : List It} {key : Int} : atI true l key = (atC l key : Nat) := by unfold atI; simp
theorem atI_not {l : List It} {key : Int} (h : atB l key = false) : atI false l key = ((atC l key - 1 : Nat) : Int) := by unfold atI; rw [h]; rfl

theorem atC_lt {l : List It} (h : NdR l) (key : Int) {j : Nat} (hj : j < l.length) : l[j].1 < key ↔ j < atC l key := by
  unfold atC
  constructor
  · intro hlt
    have h1 : (l.take (j + 1)).countP (fun x => decide (x.1 < key)) = j + 1 := by
      rw [List.countP_eq_length.2, List.length_take, Nat.min_eq_left (by omega)]
      intro x hx
      obtain ⟨i, hi, rfl⟩ := List.mem_iff_getElem.1 hx
      have hi' : i < j + 1 := by simp at hi; omega
      simp only [List.getElem_take, decide_eq_true_eq]
      rcases Nat.lt_or_ge i j with h' | h'
      · have := h.rise j i hj h'; omega
      · obtain rfl : i = j := by omega
        exact hlt
    have h2 : (l.take (j + 1)).countP (fun x => decide (x.1 < key)) ≤ l.countP (fun x => decide (x.1 < key)) := List.Sublist.countP_le (List.take_sublist _ _)
    omega
  · intro hlt
    rcases Int.lt_or_le l[j].1 key with h' | h'
    · exact h'
    · exfalso
      have h1 : (l.drop j).countP (fun x => decide (x.1 < key)) = 0 := by
        rw [List.countP_eq_zero]
        intro x hx
        obtain ⟨i, hi, rfl⟩ := List.mem_iff_getElem.1 hx
        simp only [List.getElem_drop, decide_eq_true_eq]
        rcases Nat.eq_zero_or_pos i with h0 | h0
        · subst h0; simp only [Nat.add_zero]; omega
        · have := h.rise (j + i) j (by simp at hi; omega) (by omega); omega
      have h2 : (l.take j).countP (fun x => decide (x.1 < key)) ≤ j := Nat.le_trans List.countP_le_length (by simp; omega)
      have h3 : l.countP (fun x => decide (x.1 < key)) = (l.take j).countP (fun x => decide (x.1 < key)) + (l.drop j).countP (fun x => decide (x.1 < key)) := by
        conv => lhs; rw [← List.take_append_drop j l, List.countP_append]
      omega
theorem atB_ex {l : List It} {key : Int} (h : atB l key = true) : ∃ k, ∃ hk : k < l.length, l[k].1 = key := by
  unfold atB at h
  rw [List.any_eq_true] at h
  obtain ⟨x, hx, he⟩ := h
  obtain ⟨k, hk, rfl⟩ := List.mem_iff_getElem.1 hx
  exact ⟨k, hk, by simpa using he⟩
/-- Where a search ends: all ahead aren't beyond, all from there on are. -/
def Ends (l : List It) (p : Int → Bool) (j : Nat) : Prop := j ≤ l.length ∧ ∀ t (h : t < l.length), (t < j → p l[t].1 = false) ∧ (j ≤ t → p l[t].1 = true)
theorem ends_leaf {l : List It} (h : NdR l) {key : Int} {j : Nat} (hj : Ends l (fun k => decide (key ≤ k)) j) :
    atI true l key = (j : Int) ∧ (¬ j < l.length → atB l key = false) ∧ ∀ hn : j < l.length, atB l key = decide (l[j].1 = key) := by
  have hc : atC l key = j := by
    rcases Nat.lt_trichotomy (atC l key) j with h1 | h1 | h1
    · have hlt : atC l key < l.length := by have := hj.1; omega
      have h2 := (hj.2 _ hlt).1 h1
      have h3 := atC_lt h key hlt
      simp only [decide_eq_false_iff_not] at h2
      omega
    · exact h1
    · have hle : atC l key ≤ l.length := List.countP_le_length
      have h2 := (hj.2 j (by omega)).2 (Nat.le_refl _)
      have h3 := (atC_lt h key (j := j) (by omega)).2 h1
      simp only [decide_eq_true_eq] at h2
      omega
  refine ⟨by rw [atI_leaf, hc], fun hn => ?_, fun hn => ?_⟩
  · refine atB_no fun t ht e => ?_
    have := atC_at h ht e
    omega
  · by_cases e : l[j].1 = key
    · rw [atB_yes hn e, decide_eq_true e]
    · rw [decide_eq_false e]
      refine atB_no fun t ht e' => ?_
      have h5 := atC_at h ht e'
      rw [hc] at h5
      subst h5
      exact e e'
theorem ends_other {l : List It} (h : NdR l) {key : Int} {j : Nat} (hj : Ends l (fun k => decide (key < k)) j) :
    ∃ i : Nat, ∃ hi : i < l.length, (i : Int) = (if (j : Int) - 1 < 0 then 0 else (j : Int) - 1) ∧ atI false l key = (i : Int) ∧ atB l key = decide (l[i].1 = key) := by
  have h1 := h.1.1
  by_cases hb : atB l key = true
  · obtain ⟨k, hk, he⟩ := atB_ex hb
    have hc := atC_at h hk he
    have hkj : k < j := by
      rcases Nat.lt_or_ge k j with h' | h'
      · exact h'
      · have := (hj.2 k hk).2 h'; simp only [decide_eq_true_eq] at this; omega
    have hjk : j = k + 1 := by
      rcases Nat.lt_or_ge (k + 1) j with h' | h'
      · have h2 := (hj.2 (k + 1) (by have := hj.1; omega)).1 h'
        have h3 := h.rise (k + 1) k (by have := hj.1; omega) (by omega)
        simp only [decide_eq_false_iff_not] at h2; omega
      · omega
    refine ⟨k, hk, ?_, by rw [atI_yes hb, hc], by rw [hb, decide_eq_true he]⟩
    rw [if_neg (by omega)]; omega
  · have hb' : atB l key = false := by simpa using hb
    have hne : ∀ t (ht : t < l.length), l[t].1 ≠ key := fun t ht e => hb (atB_yes ht e)
    have hc : atC l key = j := by
      rcases Nat.lt_trichotomy (atC l key) j with h2 | h2 | h2
      · have hlt : atC l key < l.length := by have := hj.1; omega
        have h3 := (hj.2 _ hlt).1 h2
        have h4 := atC_lt h key hlt
        have h5 := hne _ hlt
        simp only [decide_eq_false_iff_not] at h3
        omega
      · exact h2
      · have hle : atC l key ≤ l.length := List.countP_le_length
        have h3 := (hj.2 j (by omega)).2 (Nat.le_refl _)
        have h4 := (atC_lt h key (j := j) (by omega)).2 h2
        simp only [decide_eq_true_eq] at h3
        omega
    have hle := hj.1
    refine ⟨j - 1, by omega, ?_, by rw [atI_not hb', hc], by rw [hb', decide_eq_false (hne _ _)]⟩
    split <;> omega


set_option maxHeartbeats 400000 in
theorem nodeAtLe_any (K key : Int) (kb : Nat) (w : World) (hb : w.cell? ⟨kb, 0, none⟩ = some (.int .i64 key)) :
    Calls Tryz.prog 156 #[.int .i64 K, .pointer (some ⟨kb, 0, none⟩)] w fun e w' => e = .returned (.bool (decide (key ≤ K))) ∧ w = w' := by
  go_enter Tryz.func156, Tryz.ntmps156
  go_wp2
  go_ret
  exact ⟨rfl, rfl⟩
set_option maxHeartbeats 800000 in
theorem nodeFirstLe_in (i n c fb lb kb bb off : Nat) (K key : Int) (w : World) (hi : i < n) (hkb : w.cell? ⟨kb, 0, none⟩ = some (.int .i64 key)) (hfb : w.cell? ⟨fb, 0, none⟩ = some (.func (.func 156) #[] #[.pointer (some ⟨kb, 0, none⟩)]))
    (hlb : w.cell? ⟨lb, 0, none⟩ = some (.slice (some ⟨bb, off, none⟩) n c)) (hK : w.cell? ⟨bb, off + i * 2, none⟩ = some (.int .i64 K)) :
    Calls Tryz.prog 160 #[.int .i64 i, .pointer (some ⟨fb, 0, none⟩), .pointer (some ⟨lb, 0, none⟩)] w fun e w' => e = .returned (.bool (decide (key ≤ K))) ∧ ∃ q, w' = w.drewN q := by
  have hi1 : (i : Int) < (n : Int) := by omega
  have HC := Lib.hid (fun q => (nodeAtLe_any K key kb (w.drewN q) hkb).mono fun e w' (h : e = .returned (.bool (decide (key ≤ K))) ∧ w.drewN q = w') => (show e = .returned (.bool (decide (key ≤ K))) ∧ w' = w.drewN q from ⟨h.1, h.2.symm⟩))
  clear hi
  go_enter Tryz.func160, Tryz.ntmps160
  go_wp2_with fail
  go_quiet ((go_at_call 156; exact Calls.quiet_of_same (HC.out _)))
  go_wp2
  go_ret
  exact ⟨rfl, _, rfl⟩
set_option maxHeartbeats 800000 in
theorem searchLe_any (A : Option Addr) (l : List It) (n c fb lb kb : Nat) (key : Int) (w : World) (hn : n = l.length) (hr : NdR l) (hS : Sl w A n c (ivs l)) (hkb : w.cell? ⟨kb, 0, none⟩ = some (.int .i64 key)) (hfb : w.cell? ⟨fb, 0, none⟩ = some (.func (.func 156) #[] #[.pointer (some ⟨kb, 0, none⟩)]))
    (hlb : w.cell? ⟨lb, 0, none⟩ = some (.slice A n c)) :
    Calls Tryz.prog 66 #[.int .i64 n, .func (.func 160) #[] #[.pointer (some ⟨fb, 0, none⟩), .pointer (some ⟨lb, 0, none⟩)]] w fun e w' => ∃ j : Nat, e = .returned (.int .i64 j) ∧ Ends l (fun k => decide (key ≤ k)) j ∧ Ext w w' := by
  subst hn
  have hn4 : l.length ≤ 4 := by have := hr.1; omega
  have HR := Lib.hid hr
  obtain ⟨bb, off, rfl, _, hc⟩ := hS.cells.it (k := 0) (by have := hr.1; omega)
  have HF := Lib.hid (fun q i (hi : i < l.length) => nodeFirstLe_in i l.length c fb lb kb bb off (l[i]'hi).1 key (w.drewN q) hi hkb hfb hlb (hc i hi).1)
  clear hc hlb hfb hkb hS hr
  go_enter Tryz.func66, Tryz.ntmps66
  go_wp2
  go_loopw [5, 6] (fun s5 s6 wr => ∃ lo hi q : Nat, s5 = .int .i64 lo ∧ s6 = .int .i64 hi ∧ lo ≤ hi ∧ hi ≤ l.length ∧ wr = w.drewN q ∧ (∀ t (h : t < l.length), (t < lo → decide (key ≤ l[t].1) = false) ∧ (hi ≤ t → decide (key ≤ l[t].1) = true))) (fun s5 s6 _ => (intOf s6 - intOf s5).toNat)
  case atStart => exact ⟨0, l.length, 0, rfl, rfl, Nat.zero_le _, Nat.le_refl _, rfl, fun t h => ⟨fun h' => absurd h' (Nat.not_lt_zero _), fun h' => by omega⟩⟩
  case round =>
    obtain ⟨lo, hi, q, rfl, rfl, hlh, hin, rfl, hI⟩ := hrel
    have I := Lib.hid hI
    clear hI
    by_cases hlt : lo < hi
    · have hc := HF.out q ((lo + hi) / 2) (by omega)
      rw [show (((lo + hi) / 2 : Nat) : Int) = ((lo : Int) + (hi : Int)) / 2 by omega] at hc
      have hm : (lo + hi) / 2 < l.length := by omega
      have HM := Lib.hid hm
      obtain ⟨b, hb⟩ : ∃ b, decide (key ≤ (l[(lo + hi) / 2]'hm).1) = b := ⟨_, rfl⟩
      rw [hb] at hc
      have HB := Lib.hid hb
      have HC := Lib.hid hc
      clear hb hc
      cases b
      · go_wp2_with (go_at_call 160; refine HC.out.mono ?_; rintro e w' ⟨rfl, nq, rfl⟩)
        go_roundw
        case measure => simp [intOf]; omega
        case rel =>
          refine ⟨(lo + hi) / 2 + 1, hi, q + nq, by rw [show ((lo : Int) + (hi : Int)) / 2 + 1 = (((lo + hi) / 2 + 1 : Nat) : Int) by omega], rfl, by omega, hin, by first | rfl | rw [World.drewN_drewN], fun t h => ⟨fun ht => ?_, (I.out t h).2⟩⟩
          have hbm := HB.out
          have hm := HM.out
          simp only [decide_eq_false_iff_not] at hbm ⊢
          rcases Nat.lt_or_ge t ((lo + hi) / 2) with h' | h'
          · have := HR.out.rise ((lo + hi) / 2) t hm h'; omega
          · obtain rfl : t = (lo + hi) / 2 := by omega
            exact hbm
      · go_wp2_with (go_at_call 160; refine HC.out.mono ?_; rintro e w' ⟨rfl, nq, rfl⟩)
        go_roundw
        case measure => simp [intOf]; omega
        case rel =>
          refine ⟨lo, (lo + hi) / 2, q + nq, rfl, by rw [show ((lo : Int) + (hi : Int)) / 2 = (((lo + hi) / 2 : Nat) : Int) by omega], by omega, by omega, by first | rfl | rw [World.drewN_drewN], fun t h => ⟨(I.out t h).1, fun ht => ?_⟩⟩
          have hbm := HB.out
          have hm := HM.out
          simp only [decide_eq_true_eq] at hbm ⊢
          rcases Nat.lt_or_ge ((lo + hi) / 2) t with h' | h'
          · have := HR.out.rise t ((lo + hi) / 2) h h'; omega
          · obtain rfl : t = (lo + hi) / 2 := by omega
            exact hbm
    · obtain rfl : hi = lo := by omega
      go_wp2
      go_ret
      exact ⟨hi, rfl, ⟨hin, I.out⟩, (Ext.refl w).drewN q⟩
set_option maxHeartbeats 800000 in
theorem nodeFirstLe_any (A : Option Addr) (l : List It) (n c kb : Nat) (key : Int) (w : World) (hn : n = l.length) (hr : NdR l) (hS : Sl w A n c (ivs l)) (hkb : w.cell? ⟨kb, 0, none⟩ = some (.int .i64 key)) :
    Calls Tryz.prog 155 #[.slice A n c, .func (.func 156) #[] #[.pointer (some ⟨kb, 0, none⟩)]] w fun e w' => ∃ j : Nat, e = .returned (.int .i64 j) ∧ Ends l (fun k => decide (key ≤ k)) j ∧ Ext w w' := by
  have hkl := World.block_lt_of_cell? _ _ hkb
  have HX := Lib.hid (((Ext.refl w).alloc (.cells #[.slice A n c] 57)).alloc (.cells #[.func (.func 156) #[] #[.pointer (some ⟨kb, 0, none⟩)]] 124))
  have H1 := Lib.hid ((Bx.new w #[.slice A n c] 57).ext ((Ext.refl _).alloc (.cells #[.func (.func 156) #[] #[.pointer (some ⟨kb, 0, none⟩)]] 124)))
  have H2 := Lib.hid (Bx.new (w.alloc (.cells #[.slice A n c] 57)) #[.func (.func 156) #[] #[.pointer (some ⟨kb, 0, none⟩)]] 124)
  have e1 : (w.alloc (.cells #[.slice A n c] 57)).heap.size = w.heap.size + 1 := by simp
  rw [e1] at H2
  have HC := Lib.hid (searchLe_any A l n c (w.heap.size + 1) w.heap.size kb key _ hn hr (hS.ext HX.out) ((HX.out.cell (p := ⟨kb, 0, none⟩) hkl).trans hkb) (H2.out.at 0 _ rfl) (H1.out.at 0 _ rfl))
  have r1 := H1.out.at 0 _ rfl
  clear hn hr hS hkb hkl e1
  go_enter Tryz.func155, Tryz.ntmps155
  go_wp2_with (go_at_call 66; refine HC.out.mono ?_; rintro e w1 ⟨j, rfl, he, hx⟩; have HE := Lib.hid he; have HX2 := Lib.hid (HX.out.trans hx); clear he hx)
  go_ret
  exact ⟨j, rfl, HE.out, HX2.out⟩

set_option maxHeartbeats 400000 in
theorem nodeAtLt_any (K key : Int) (kb : Nat) (w : World) (hb : w.cell? ⟨kb, 0, none⟩ = some (.int .i64 key)) :
    Calls Tryz.prog 157 #[.int .i64 K, .pointer (some ⟨kb, 0, none⟩)] w fun e w' => e = .returned (.bool (decide (key < K))) ∧ w = w' := by
  go_enter Tryz.func157, Tryz.ntmps157
  go_wp2
  go_ret
  exact ⟨rfl, rfl⟩
set_option maxHeartbeats 800000 in
theorem nodeFirstLt_in (i n c fb lb kb bb off : Nat) (K key : Int) (w : World) (hi : i < n) (hkb : w.cell? ⟨kb, 0, none⟩ = some (.int .i64 key)) (hfb : w.cell? ⟨fb, 0, none⟩ = some (.func (.func 157) #[] #[.pointer (some ⟨kb, 0, none⟩)]))
    (hlb : w.cell? ⟨lb, 0, none⟩ = some (.slice (some ⟨bb, off, none⟩) n c)) (hK : w.cell? ⟨bb, off + i * 2, none⟩ = some (.int .i64 K)) :
    Calls Tryz.prog 160 #[.int .i64 i, .pointer (some ⟨fb, 0, none⟩), .pointer (some ⟨lb, 0, none⟩)] w fun e w' => e = .returned (.bool (decide (key < K))) ∧ ∃ q, w' = w.drewN q := by
  have hi1 : (i : Int) < (n : Int) := by omega
  have HC := Lib.hid (fun q => (nodeAtLt_any K key kb (w.drewN q) hkb).mono fun e w' (h : e = .returned (.bool (decide (key < K))) ∧ w.drewN q = w') => (show e = .returned (.bool (decide (key < K))) ∧ w' = w.drewN q from ⟨h.1, h.2.symm⟩))
  clear hi
  go_enter Tryz.func160, Tryz.ntmps160
  go_wp2_with fail
  go_quiet ((go_at_call 157; exact Calls.quiet_of_same (HC.out _)))
  go_wp2
  go_ret
  exact ⟨rfl, _, rfl⟩
set_option maxHeartbeats 800000 in
theorem searchLt_any (A : Option Addr) (l : List It) (n c fb lb kb : Nat) (key : Int) (w : World) (hn : n = l.length) (hr : NdR l) (hS : Sl w A n c (ivs l)) (hkb : w.cell? ⟨kb, 0, none⟩ = some (.int .i64 key)) (hfb : w.cell? ⟨fb, 0, none⟩ = some (.func (.func 157) #[] #[.pointer (some ⟨kb, 0, none⟩)]))
    (hlb : w.cell? ⟨lb, 0, none⟩ = some (.slice A n c)) :
    Calls Tryz.prog 66 #[.int .i64 n, .func (.func 160) #[] #[.pointer (some ⟨fb, 0, none⟩), .pointer (some ⟨lb, 0, none⟩)]] w fun e w' => ∃ j : Nat, e = .returned (.int .i64 j) ∧ Ends l (fun k => decide (key < k)) j ∧ Ext w w' := by
  subst hn
  have hn4 : l.length ≤ 4 := by have := hr.1; omega
  have HR := Lib.hid hr
  obtain ⟨bb, off, rfl, _, hc⟩ := hS.cells.it (k := 0) (by have := hr.1; omega)
  have HF := Lib.hid (fun q i (hi : i < l.length) => nodeFirstLt_in i l.length c fb lb kb bb off (l[i]'hi).1 key (w.drewN q) hi hkb hfb hlb (hc i hi).1)
  clear hc hlb hfb hkb hS hr
  go_enter Tryz.func66, Tryz.ntmps66
  go_wp2
  go_loopw [5, 6] (fun s5 s6 wr => ∃ lo hi q : Nat, s5 = .int .i64 lo ∧ s6 = .int .i64 hi ∧ lo ≤ hi ∧ hi ≤ l.length ∧ wr = w.drewN q ∧ (∀ t (h : t < l.length), (t < lo → decide (key < l[t].1) = false) ∧ (hi ≤ t → decide (key < l[t].1) = true))) (fun s5 s6 _ => (intOf s6 - intOf s5).toNat)
  case atStart => exact ⟨0, l.length, 0, rfl, rfl, Nat.zero_le _, Nat.le_refl _, rfl, fun t h => ⟨fun h' => absurd h' (Nat.not_lt_zero _), fun h' => by omega⟩⟩
  case round =>
    obtain ⟨lo, hi, q, rfl, rfl, hlh, hin, rfl, hI⟩ := hrel
    have I := Lib.hid hI
    clear hI
    by_cases hlt : lo < hi
    · have hc := HF.out q ((lo + hi) / 2) (by omega)
      rw [show (((lo + hi) / 2 : Nat) : Int) = ((lo : Int) + (hi : Int)) / 2 by omega] at hc
      have hm : (lo + hi) / 2 < l.length := by omega
      have HM := Lib.hid hm
      obtain ⟨b, hb⟩ : ∃ b, decide (key < (l[(lo + hi) / 2]'hm).1) = b := ⟨_, rfl⟩
      rw [hb] at hc
      have HB := Lib.hid hb
      have HC := Lib.hid hc
      clear hb hc
      cases b
      · go_wp2_with (go_at_call 160; refine HC.out.mono ?_; rintro e w' ⟨rfl, nq, rfl⟩)
        go_roundw
        case measure => simp [intOf]; omega
        case rel =>
          refine ⟨(lo + hi) / 2 + 1, hi, q + nq, by rw [show ((lo : Int) + (hi : Int)) / 2 + 1 = (((lo + hi) / 2 + 1 : Nat) : Int) by omega], rfl, by omega, hin, by first | rfl | rw [World.drewN_drewN], fun t h => ⟨fun ht => ?_, (I.out t h).2⟩⟩
          have hbm := HB.out
          have hm := HM.out
          simp only [decide_eq_false_iff_not] at hbm ⊢
          rcases Nat.lt_or_ge t ((lo + hi) / 2) with h' | h'
          · have := HR.out.rise ((lo + hi) / 2) t hm h'; omega
          · obtain rfl : t = (lo + hi) / 2 := by omega
            exact hbm
      · go_wp2_with (go_at_call 160; refine HC.out.mono ?_; rintro e w' ⟨rfl, nq, rfl⟩)
        go_roundw
        case measure => simp [intOf]; omega
        case rel =>
          refine ⟨lo, (lo + hi) / 2, q + nq, rfl, by rw [show ((lo : Int) + (hi : Int)) / 2 = (((lo + hi) / 2 : Nat) : Int) by omega], by omega, by omega, by first | rfl | rw [World.drewN_drewN], fun t h => ⟨(I.out t h).1, fun ht => ?_⟩⟩
          have hbm := HB.out
          have hm := HM.out
          simp only [decide_eq_true_eq] at hbm ⊢
          rcases Nat.lt_or_ge ((lo + hi) / 2) t with h' | h'
          · have := HR.out.rise t ((lo + hi) / 2) h h'; omega
          · obtain rfl : t = (lo + hi) / 2 := by omega
            exact hbm
    · obtain rfl : hi = lo := by omega
      go_wp2
      go_ret
      exact ⟨hi, rfl, ⟨hin, I.out⟩, (Ext.refl w).drewN q⟩
set_option maxHeartbeats 800000 in
theorem nodeFirstLt_any (A : Option Addr) (l : List It) (n c kb : Nat) (key : Int) (w : World) (hn : n = l.length) (hr : NdR l) (hS : Sl w A n c (ivs l)) (hkb : w.cell? ⟨kb, 0, none⟩ = some (.int .i64 key)) :
    Calls Tryz.prog 155 #[.slice A n c, .func (.func 157) #[] #[.pointer (some ⟨kb, 0, none⟩)]] w fun e w' => ∃ j : Nat, e = .returned (.int .i64 j) ∧ Ends l (fun k => decide (key < k)) j ∧ Ext w w' := by
  have hkl := World.block_lt_of_cell? _ _ hkb
  have HX := Lib.hid (((Ext.refl w).alloc (.cells #[.slice A n c] 57)).alloc (.cells #[.func (.func 157) #[] #[.pointer (some ⟨kb, 0, none⟩)]] 124))
  have H1 := Lib.hid ((Bx.new w #[.slice A n c] 57).ext ((Ext.refl _).alloc (.cells #[.func (.func 157) #[] #[.pointer (some ⟨kb, 0, none⟩)]] 124)))
  have H2 := Lib.hid (Bx.new (w.alloc (.cells #[.slice A n c] 57)) #[.func (.func 157) #[] #[.pointer (some ⟨kb, 0, none⟩)]] 124)
  have e1 : (w.alloc (.cells #[.slice A n c] 57)).heap.size = w.heap.size + 1 := by simp
  rw [e1] at H2
  have HC := Lib.hid (searchLt_any A l n c (w.heap.size + 1) w.heap.size kb key _ hn hr (hS.ext HX.out) ((HX.out.cell (p := ⟨kb, 0, none⟩) hkl).trans hkb) (H2.out.at 0 _ rfl) (H1.out.at 0 _ rfl))
  have r1 := H1.out.at 0 _ rfl
  clear hn hr hS hkb hkl e1
  go_enter Tryz.func155, Tryz.ntmps155
  go_wp2_with (go_at_call 66; refine HC.out.mono ?_; rintro e w1 ⟨j, rfl, he, hx⟩; have HE := Lib.hid he; have HX2 := Lib.hid (HX.out.trans hx); clear he hx)
  go_ret
  exact ⟨j, rfl, HE.out, HX2.out⟩

set_option maxRecDepth 100000 in
set_option maxHeartbeats 1000000 in
theorem nodeAt_any (leaf : Bool) (A : Option Addr) (l : List It) (n c : Nat) (key : Int) (w : World) (hn : n = l.length) (hr : ndR l = true) (hA : Sl w A n c (ivs l)) :
    Calls Tryz.prog 146 #[.agg #[.bool leaf, .slice A n c], .int .i64 key] w fun e w' => e = .returned (.tuple #[.int .i64 (atI leaf l key), .bool (atB l key)]) ∧ Ext w w' := by
  have hN := (ndR_iff l).1 hr
  have h4 : n ≤ 4 := by have := hN.1; omega
  obtain ⟨W, hW⟩ : ∃ W, (w.alloc (.cells #[.bool leaf, .slice A n c] 59)).alloc (.cells #[.int .i64 key] 3) = W := ⟨_, rfl⟩
  obtain ⟨hx, hb0, hb1⟩ := allocs2 hW
  have HX := Lib.hid hx
  have HB0 := Lib.hid hb0
  have HB1 := Lib.hid hb1
  have HS := Lib.hid (hA.ext hx)
  have HN := Lib.hid hN
  have HL := Lib.hid hn
  obtain ⟨b0, b1, b2⟩ := hb0.read2
  have k0 := hb1.at 0 _ rfl
  clear hx hb0 hb1 hA hn hN hr
  cases leaf
  · have HC := Lib.hid (nodeFirstLt_any A l n c (w.heap.size + 1) key W HL.out HN.out HS.out (HB1.out.at 0 _ rfl))
    go_enter Tryz.func146, Tryz.ntmps146
    go_wp2_with (go_at_call 155; refine stop_here ?_)
    refine stop_on ?_
    refine HC.out.mono ?_
    rintro e w1 ⟨j, rfl, he, hx1⟩
    obtain ⟨i, hi, e1, e2, e3⟩ := ends_other HN.out he
    have HX1 := Lib.hid (HX.out.trans hx1)
    obtain ⟨b0, b1, b2⟩ := (HB0.out.ext hx1).read2
    have k0 := (HB1.out.ext hx1).at 0 _ rfl
    obtain ⟨bb, off, rfl, _, hc⟩ := (HS.out.ext hx1).cells.it hi
    have hck := (hc i hi).1
    have HE := Lib.hid (And.intro e2 e3)
    have hin : (i : Int) < (n : Int) := by have := HL.out; omega
    have hij : (j = 0 ∧ i = 0) ∨ j = i + 1 := by split at e1 <;> omega
    clear e1 e2 e3
    rcases hij with ⟨rfl, rfl⟩ | rfl
    · have hn0 : (0 : Int) < (n : Int) := by simpa using hin
      have d0 : decide ((0 : Int) < (n : Int)) = true := decide_eq_true hn0
      have d1 : decide (0 < n) = true := decide_eq_true (by omega)
      rw [show off + 0 * 2 = off by omega] at hck
      clear hin
      generalize l[0] = q at *
      obtain ⟨K, V⟩ := q
      simp only at hck HE
      clear he hx1 hc hi
      rcases Decidable.em (K = key) with h | h
      · have t0 : (K == key) = true := by simpa using h
        have HT := Lib.hid (decide_eq_true h)
        clear h
        go_wp2_with fail
        go_quiet (fail)
        go_wp2
        go_ret2
        exact ⟨by rw [HE.out.1, HE.out.2, HT.out]; rfl, HX1.out.drewN _⟩
      · have t0 : (K == key) = false := by simpa using h
        have HT := Lib.hid (decide_eq_false h)
        clear h
        go_wp2_with fail
        go_quiet (fail)
        go_wp2
        go_ret2
        exact ⟨by rw [HE.out.1, HE.out.2, HT.out]; rfl, HX1.out.drewN _⟩
    · have d0 : decide ((i : Int) < (n : Int)) = true := decide_eq_true hin
      have e5 : ((i + 1 : Nat) : Int) - 1 = (i : Int) := by omega
      have e6 : ¬ (i : Int) < 0 := by omega
      generalize l[i] = q at *
      obtain ⟨K, V⟩ := q
      simp only at hck HE
      clear he hx1 hc hi
      rcases Decidable.em (K = key) with h | h
      · have t0 : (K == key) = true := by simpa using h
        have HT := Lib.hid (decide_eq_true h)
        clear h
        go_wp2_with fail
        go_quiet (fail)
        go_wp2
        go_ret2
        exact ⟨by rw [HE.out.1, HE.out.2, HT.out]; rfl, HX1.out.drewN _⟩
      · have t0 : (K == key) = false := by simpa using h
        have HT := Lib.hid (decide_eq_false h)
        clear h
        go_wp2_with fail
        go_quiet (fail)
        go_wp2
        go_ret2
        exact ⟨by rw [HE.out.1, HE.out.2, HT.out]; rfl, HX1.out.drewN _⟩
  · have HC := Lib.hid (nodeFirstLe_any A l n c (w.heap.size + 1) key W HL.out HN.out HS.out (HB1.out.at 0 _ rfl))
    go_enter Tryz.func146, Tryz.ntmps146
    go_wp2_with (go_at_call 155; refine stop_here ?_)
    refine stop_on ?_
    refine HC.out.mono ?_
    rintro e w1 ⟨i, rfl, he, hx1⟩
    obtain ⟨e2, e3, e4⟩ := ends_leaf HN.out he
    have HX1 := Lib.hid (HX.out.trans hx1)
    obtain ⟨b0, b1, b2⟩ := (HB0.out.ext hx1).read2
    have k0 := (HB1.out.ext hx1).at 0 _ rfl
    rcases Nat.lt_or_ge i l.length with hi | hi
    · obtain ⟨bb, off, rfl, _, hc⟩ := (HS.out.ext hx1).cells.it hi
      have hck := (hc i hi).1
      have HE := Lib.hid (And.intro e2 (e4 hi))
      have hin : (i : Int) < (n : Int) := by have := HL.out; omega
      have d0 : decide ((i : Int) < (n : Int)) = true := decide_eq_true hin
      clear e2 e3 e4
      generalize l[i] = q at *
      obtain ⟨K, V⟩ := q
      simp only at hck HE
      clear he hx1 hc hi
      rcases Decidable.em (K = key) with h | h
      · have t0 : (K == key) = true := by simpa using h
        have HT := Lib.hid (decide_eq_true h)
        clear h
        go_wp2_with fail
        go_quiet (fail)
        go_wp2
        go_ret2
        exact ⟨by rw [HE.out.1, HE.out.2, HT.out]; rfl, HX1.out.drewN _⟩
      · have t0 : (K == key) = false := by simpa using h
        have HT := Lib.hid (decide_eq_false h)
        clear h
        go_wp2_with fail
        go_quiet (fail)
        go_wp2
        go_ret2
        exact ⟨by rw [HE.out.1, HE.out.2, HT.out]; rfl, HX1.out.drewN _⟩
    · have HE := Lib.hid (And.intro e2 (e3 (by omega)))
      have d0 : decide ((i : Int) < (n : Int)) = false := decide_eq_false (by have := HL.out; omega)
      have d1 : decide (i < n) = false := decide_eq_false (by have := HL.out; omega)
      clear e2 e3 e4 he hx1 hi
      go_wp2_with fail
      go_quiet (fail)
      go_wp2
      go_ret2
      exact ⟨by rw [HE.out.1, HE.out.2]; rfl, HX1.out.drewN _⟩
end Go.Proofs.YtjbfopnkeclfgaaGreat
