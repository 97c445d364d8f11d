/- What is put in a leaf makes rows that are right; the walk of NodePuts where nothing is put. -/
import Derived.Test.YtpcchbcibcfldaaNodeLP
namespace Go.Proofs.Ytpcchbcibcfldaa
open Go.RowKit
attribute [local go_sem ↓] Go.wp_at_zero Go.wp_at_succ

theorem NdR.of {l : List It} (h1 : 1 ≤ l.length ∧ l.length ≤ 4) (hok : ∀ x ∈ l, okIt x) (hp : l.Pairwise (fun a b => a.1 < b.1)) : NdR l :=
  ⟨h1, fun i hi => ⟨hok _ (List.getElem_mem hi), fun h0 => (List.pairwise_iff_getElem.1 hp) (i - 1) i (by omega) hi (by omega)⟩⟩
theorem NdR.pair {l : List It} (h : NdR l) : l.Pairwise (fun a b => a.1 < b.1) := List.pairwise_iff_getElem.2 fun i j _ hj hij => h.rise j i hj hij
/-- The last key of the row ahead; -1 ahead of the first. -/
def lastK (rows : List (List It)) : Nat → Int
  | 0 => -1
  | k + 1 => ((rows.getD k []).getLastD (0, 0)).1
theorem lastK_succ {rows : List (List It)} {k : Nat} (hk : k < rows.length) (h0 : 0 < rows[k].length) : lastK rows (k + 1) = (rows[k][rows[k].length - 1]'(by omega)).1 := by
  unfold lastK
  have e : rows.getD k [] = rows[k] := by simp [List.getD_eq_getElem?_getD, List.getElem?_eq_getElem hk]
  simp only [e]
  rw [List.getLastD_eq_getLast?, List.getLast?_eq_getElem?, List.getElem?_eq_getElem (by omega)]
  rfl
theorem put_rows {l : List It} (h : NdR l) {x : It} (hx : okIt x) {i gone : Nat} (hi : i + gone ≤ l.length) (h1 : ∀ k (hk : k < l.length), k < i → l[k].1 < x.1) (h2 : ∀ k (hk : k < l.length), i + gone ≤ k → x.1 < l[k].1) :
    (1 ≤ (splitS (withS l i gone [x])).length ∧ (splitS (withS l i gone [x])).length ≤ 2) ∧ ∀ k (hk : k < (splitS (withS l i gone [x])).length), ndR (splitS (withS l i gone [x]))[k] = true ∧ ∀ h0 : 0 < ((splitS (withS l i gone [x]))[k]).length, lastK (splitS (withS l i gone [x])) k < ((splitS (withS l i gone [x]))[k][0]).1 := by
  have hlen : (withS l i gone [x]).length = i + 1 + (l.length - (i + gone)) := (withS_len rfl rfl hi).symm
  have h4 := h.1
  have hok : ∀ y ∈ withS l i gone [x], okIt y := by
    intro y hy
    unfold withS at hy
    rw [List.mem_append, List.mem_append] at hy
    rcases hy with (hy | hy) | hy
    · exact h.ok y (List.mem_of_mem_take hy)
    · rw [List.mem_singleton] at hy; rw [hy]; exact hx
    · exact h.ok y (List.mem_of_mem_drop hy)
  have hp : (withS l i gone [x]).Pairwise (fun a b => a.1 < b.1) := by
    have hl := h.pair
    unfold withS
    rw [List.append_assoc, List.pairwise_append, List.singleton_append, List.pairwise_cons]
    have hT : ∀ a ∈ l.take i, a.1 < x.1 := fun a ha => by
      obtain ⟨k, hk, rfl⟩ := List.mem_iff_getElem.1 ha
      rw [List.length_take] at hk
      rw [List.getElem_take]
      exact h1 k (by omega) (by omega)
    have hD : ∀ b ∈ l.drop (i + gone), x.1 < b.1 := fun b hb => by
      obtain ⟨k, hk, rfl⟩ := List.mem_iff_getElem.1 hb
      rw [List.length_drop] at hk
      rw [List.getElem_drop]
      exact h2 _ (by omega) (by omega)
    refine ⟨hl.sublist (List.take_sublist _ _), ⟨hD, hl.sublist (List.drop_sublist _ _)⟩, fun a ha b hb => ?_⟩
    rw [List.mem_cons] at hb
    rcases hb with rfl | hb
    · exact hT a ha
    · have e1 := hT a ha
      have e2 := hD b hb
      omega
  generalize withS l i gone [x] = m at *
  by_cases hm : m.length ≤ 4
  · have e : splitS m = [m] := splitS_few (by omega) hm
    rw [e]
    refine ⟨by simp, fun k hk => ?_⟩
    obtain rfl : k = 0 := by simpa using hk
    refine ⟨(ndR_iff m).2 (NdR.of ⟨by omega, hm⟩ hok hp), fun h0 => ?_⟩
    have := hok m[0] (List.getElem_mem _)
    unfold okIt at this
    simp only [lastK, List.getElem_cons_zero]
    omega
  · have e : splitS m = [m.take 3, m.drop 3] := by rw [splitS_more hm, splitS_few (by simp; omega) (by simp; omega)]
    rw [e]
    refine ⟨by simp, fun k hk => ?_⟩
    have hk2 : k = 0 ∨ k = 1 := by simp at hk; omega
    rcases hk2 with rfl | rfl
    · refine ⟨(ndR_iff _).2 (NdR.of (by simp; omega) (fun y hy => hok y (List.mem_of_mem_take hy)) (hp.sublist (List.take_sublist _ _))), fun h0 => ?_⟩
      have := hok m[0] (List.getElem_mem _)
      unfold okIt at this
      simp only [lastK, List.getElem_cons_zero, List.getElem_take]
      omega
    · refine ⟨(ndR_iff _).2 (NdR.of (by simp; omega) (fun y hy => hok y (List.mem_of_mem_drop hy)) (hp.sublist (List.drop_sublist _ _))), fun h0 => ?_⟩
      have e3 : lastK [m.take 3, m.drop 3] 1 = m[2].1 := by
        rw [lastK_succ (k := 0) (by simp) (by simp; omega)]
        have e6 : min 3 m.length - 1 = 2 := by omega
        simp [e6]
      rw [e3]
      simp only [List.getElem_cons_succ, List.getElem_cons_zero, List.getElem_drop]
      exact (List.pairwise_iff_getElem.1 hp) 2 (3 + 0) (by omega) (by omega) (by omega)

set_option maxRecDepth 100000 in
set_option maxHeartbeats 2000000 in
theorem puts_no (leaf : Bool) (A : Option Addr) (l : List It) (c : Nat) (K V : Int) (w : World) (hr : ndR l = false) (hA : Sl w A l.length c (ivs l)) :
    Calls Try.prog 9 #[.agg #[.bool leaf, .slice A l.length c], .agg #[.int .i64 K, .int .i64 V]] w fun e w' => e = .returned (.bool true) ∧ Ext w w' := by
  have HA := Lib.hid hA
  have X0 := Lib.hid (((Ext.refl w).alloc (.cells #[.bool leaf, .slice A l.length c] 24)).alloc (.cells #[.int .i64 K, .int .i64 V] 50))
  have B0 := Lib.hid ((Bx.new w #[.bool leaf, .slice A l.length c] 24).ext ((Ext.refl _).alloc (.cells #[.int .i64 K, .int .i64 V] 50)))
  have D0 := Lib.hid (Bx.new (w.alloc (.cells #[.bool leaf, .slice A l.length c] 24)) #[.int .i64 K, .int .i64 V] 50)
  rw [show (w.alloc (.cells #[.bool leaf, .slice A l.length c] 24)).heap.size = w.heap.size + 1 by simp] at D0
  have HR := Lib.hid (fun w' (hx : Ext w w') => ref04Right_is leaf A l l.length c w' rfl (HA.out.ext hx) hr)
  clear hA hr
  go_enter Try.func9, Try.ntmps9
  go_wp2_with (first
    | (go_at_call 10; refine (shown_any _).mono ?_; rintro e w1 ⟨rfl, hx⟩; have X1 := Lib.hid (X0.out.trans hx); have B1 := Lib.hid (B0.out.ext hx); have D1 := Lib.hid (D0.out.ext hx); obtain ⟨b0, b1, b2⟩ := B1.out.read2; obtain ⟨x0, x1, x2⟩ := D1.out.read2; clear hx)
    | (go_at_call 15; refine (HR.out _ X1.out).mono ?_; rintro e w2 ⟨rfl, hx⟩; have X2 := Lib.hid (X1.out.trans hx); have B2 := Lib.hid (B1.out.ext hx); have D2 := Lib.hid (D1.out.ext hx); clear hx b0 b1 b2 x0 x1 x2; obtain ⟨b0, b1, b2⟩ := B2.out.read2; obtain ⟨x0, x1, x2⟩ := D2.out.read2))
  go_ret
  exact ⟨rfl, X2.out⟩
set_option maxRecDepth 100000 in
set_option maxHeartbeats 2000000 in
theorem puts_other (A : Option Addr) (l : List It) (c : Nat) (K V : Int) (w : World) (hr : ndR l = true) (hA : Sl w A l.length c (ivs l)) :
    Calls Try.prog 9 #[.agg #[.bool false, .slice A l.length c], .agg #[.int .i64 K, .int .i64 V]] w fun e w' => e = .returned (.bool true) ∧ Ext w w' := by
  have HA := Lib.hid hA
  have X0 := Lib.hid (((Ext.refl w).alloc (.cells #[.bool false, .slice A l.length c] 24)).alloc (.cells #[.int .i64 K, .int .i64 V] 50))
  have B0 := Lib.hid ((Bx.new w #[.bool false, .slice A l.length c] 24).ext ((Ext.refl _).alloc (.cells #[.int .i64 K, .int .i64 V] 50)))
  have D0 := Lib.hid (Bx.new (w.alloc (.cells #[.bool false, .slice A l.length c] 24)) #[.int .i64 K, .int .i64 V] 50)
  rw [show (w.alloc (.cells #[.bool false, .slice A l.length c] 24)).heap.size = w.heap.size + 1 by simp] at D0
  have HR := Lib.hid (fun w' (hx : Ext w w') => ref04Right_is false A l l.length c w' rfl (HA.out.ext hx) hr)
  clear hA hr
  go_enter Try.func9, Try.ntmps9
  go_wp2_with (first
    | (go_at_call 10; refine (shown_any _).mono ?_; rintro e w1 ⟨rfl, hx⟩; have X1 := Lib.hid (X0.out.trans hx); have B1 := Lib.hid (B0.out.ext hx); have D1 := Lib.hid (D0.out.ext hx); obtain ⟨b0, b1, b2⟩ := B1.out.read2; obtain ⟨x0, x1, x2⟩ := D1.out.read2; clear hx)
    | (go_at_call 15; refine (HR.out _ X1.out).mono ?_; rintro e w2 ⟨rfl, hx⟩; have X2 := Lib.hid (X1.out.trans hx); have B2 := Lib.hid (B1.out.ext hx); have D2 := Lib.hid (D1.out.ext hx); clear hx b0 b1 b2 x0 x1 x2; obtain ⟨b0, b1, b2⟩ := B2.out.read2; obtain ⟨x0, x1, x2⟩ := D2.out.read2))
  go_ret
  exact ⟨rfl, X2.out⟩
set_option maxRecDepth 100000 in
set_option maxHeartbeats 2000000 in
theorem puts_b0 (A : Option Addr) (l : List It) (c : Nat) (K V : Int) (w : World) (hr : ndR l = true) (h0 : K < 0) (hA : Sl w A l.length c (ivs l)) :
    Calls Try.prog 9 #[.agg #[.bool true, .slice A l.length c], .agg #[.int .i64 K, .int .i64 V]] w fun e w' => e = .returned (.bool true) ∧ Ext w w' := by
  have HA := Lib.hid hA
  have X0 := Lib.hid (((Ext.refl w).alloc (.cells #[.bool true, .slice A l.length c] 24)).alloc (.cells #[.int .i64 K, .int .i64 V] 50))
  have B0 := Lib.hid ((Bx.new w #[.bool true, .slice A l.length c] 24).ext ((Ext.refl _).alloc (.cells #[.int .i64 K, .int .i64 V] 50)))
  have D0 := Lib.hid (Bx.new (w.alloc (.cells #[.bool true, .slice A l.length c] 24)) #[.int .i64 K, .int .i64 V] 50)
  rw [show (w.alloc (.cells #[.bool true, .slice A l.length c] 24)).heap.size = w.heap.size + 1 by simp] at D0
  have HR := Lib.hid (fun w' (hx : Ext w w') => ref04Right_is true A l l.length c w' rfl (HA.out.ext hx) hr)
  have p0 : decide (K < 0) = true := decide_eq_true h0
  clear hA hr h0
  go_enter Try.func9, Try.ntmps9
  go_wp2_with (first
    | (go_at_call 10; refine (shown_any _).mono ?_; rintro e w1 ⟨rfl, hx⟩; have X1 := Lib.hid (X0.out.trans hx); have B1 := Lib.hid (B0.out.ext hx); have D1 := Lib.hid (D0.out.ext hx); obtain ⟨b0, b1, b2⟩ := B1.out.read2; obtain ⟨x0, x1, x2⟩ := D1.out.read2; clear hx)
    | (go_at_call 15; refine (HR.out _ X1.out).mono ?_; rintro e w2 ⟨rfl, hx⟩; have X2 := Lib.hid (X1.out.trans hx); have B2 := Lib.hid (B1.out.ext hx); have D2 := Lib.hid (D1.out.ext hx); clear hx b0 b1 b2 x0 x1 x2; obtain ⟨b0, b1, b2⟩ := B2.out.read2; obtain ⟨x0, x1, x2⟩ := D2.out.read2))
  go_ret
  exact ⟨rfl, X2.out⟩
set_option maxRecDepth 100000 in
set_option maxHeartbeats 2000000 in
theorem puts_b1 (A : Option Addr) (l : List It) (c : Nat) (K V : Int) (w : World) (hr : ndR l = true) (h0 : ¬ K < 0) (h1 : 2147483647 < K) (hA : Sl w A l.length c (ivs l)) :
    Calls Try.prog 9 #[.agg #[.bool true, .slice A l.length c], .agg #[.int .i64 K, .int .i64 V]] w fun e w' => e = .returned (.bool true) ∧ Ext w w' := by
  have HA := Lib.hid hA
  have X0 := Lib.hid (((Ext.refl w).alloc (.cells #[.bool true, .slice A l.length c] 24)).alloc (.cells #[.int .i64 K, .int .i64 V] 50))
  have B0 := Lib.hid ((Bx.new w #[.bool true, .slice A l.length c] 24).ext ((Ext.refl _).alloc (.cells #[.int .i64 K, .int .i64 V] 50)))
  have D0 := Lib.hid (Bx.new (w.alloc (.cells #[.bool true, .slice A l.length c] 24)) #[.int .i64 K, .int .i64 V] 50)
  rw [show (w.alloc (.cells #[.bool true, .slice A l.length c] 24)).heap.size = w.heap.size + 1 by simp] at D0
  have HR := Lib.hid (fun w' (hx : Ext w w') => ref04Right_is true A l l.length c w' rfl (HA.out.ext hx) hr)
  have p0 : decide (K < 0) = false := decide_eq_false h0
  have p1 : decide (2147483647 < K) = true := decide_eq_true h1
  clear hA hr h0 h1
  go_enter Try.func9, Try.ntmps9
  go_wp2_with (first
    | (go_at_call 10; refine (shown_any _).mono ?_; rintro e w1 ⟨rfl, hx⟩; have X1 := Lib.hid (X0.out.trans hx); have B1 := Lib.hid (B0.out.ext hx); have D1 := Lib.hid (D0.out.ext hx); obtain ⟨b0, b1, b2⟩ := B1.out.read2; obtain ⟨x0, x1, x2⟩ := D1.out.read2; clear hx)
    | (go_at_call 15; refine (HR.out _ X1.out).mono ?_; rintro e w2 ⟨rfl, hx⟩; have X2 := Lib.hid (X1.out.trans hx); have B2 := Lib.hid (B1.out.ext hx); have D2 := Lib.hid (D1.out.ext hx); clear hx b0 b1 b2 x0 x1 x2; obtain ⟨b0, b1, b2⟩ := B2.out.read2; obtain ⟨x0, x1, x2⟩ := D2.out.read2))
  go_ret
  exact ⟨rfl, X2.out⟩
set_option maxRecDepth 100000 in
set_option maxHeartbeats 2000000 in
theorem puts_b2 (A : Option Addr) (l : List It) (c : Nat) (K V : Int) (w : World) (hr : ndR l = true) (h0 : ¬ K < 0) (h1 : ¬ 2147483647 < K) (h2 : V < 0) (hA : Sl w A l.length c (ivs l)) :
    Calls Try.prog 9 #[.agg #[.bool true, .slice A l.length c], .agg #[.int .i64 K, .int .i64 V]] w fun e w' => e = .returned (.bool true) ∧ Ext w w' := by
  have HA := Lib.hid hA
  have X0 := Lib.hid (((Ext.refl w).alloc (.cells #[.bool true, .slice A l.length c] 24)).alloc (.cells #[.int .i64 K, .int .i64 V] 50))
  have B0 := Lib.hid ((Bx.new w #[.bool true, .slice A l.length c] 24).ext ((Ext.refl _).alloc (.cells #[.int .i64 K, .int .i64 V] 50)))
  have D0 := Lib.hid (Bx.new (w.alloc (.cells #[.bool true, .slice A l.length c] 24)) #[.int .i64 K, .int .i64 V] 50)
  rw [show (w.alloc (.cells #[.bool true, .slice A l.length c] 24)).heap.size = w.heap.size + 1 by simp] at D0
  have HR := Lib.hid (fun w' (hx : Ext w w') => ref04Right_is true A l l.length c w' rfl (HA.out.ext hx) hr)
  have p0 : decide (K < 0) = false := decide_eq_false h0
  have p1 : decide (2147483647 < K) = false := decide_eq_false h1
  have p2 : decide (V < 0) = true := decide_eq_true h2
  clear hA hr h0 h1 h2
  go_enter Try.func9, Try.ntmps9
  go_wp2_with (first
    | (go_at_call 10; refine (shown_any _).mono ?_; rintro e w1 ⟨rfl, hx⟩; have X1 := Lib.hid (X0.out.trans hx); have B1 := Lib.hid (B0.out.ext hx); have D1 := Lib.hid (D0.out.ext hx); obtain ⟨b0, b1, b2⟩ := B1.out.read2; obtain ⟨x0, x1, x2⟩ := D1.out.read2; clear hx)
    | (go_at_call 15; refine (HR.out _ X1.out).mono ?_; rintro e w2 ⟨rfl, hx⟩; have X2 := Lib.hid (X1.out.trans hx); have B2 := Lib.hid (B1.out.ext hx); have D2 := Lib.hid (D1.out.ext hx); clear hx b0 b1 b2 x0 x1 x2; obtain ⟨b0, b1, b2⟩ := B2.out.read2; obtain ⟨x0, x1, x2⟩ := D2.out.read2))
  go_ret
  exact ⟨rfl, X2.out⟩
set_option maxRecDepth 100000 in
set_option maxHeartbeats 2000000 in
theorem puts_b3 (A : Option Addr) (l : List It) (c : Nat) (K V : Int) (w : World) (hr : ndR l = true) (h0 : ¬ K < 0) (h1 : ¬ 2147483647 < K) (h2 : ¬ V < 0) (h3 : 2147483647 < V) (hA : Sl w A l.length c (ivs l)) :
    Calls Try.prog 9 #[.agg #[.bool true, .slice A l.length c], .agg #[.int .i64 K, .int .i64 V]] w fun e w' => e = .returned (.bool true) ∧ Ext w w' := by
  have HA := Lib.hid hA
  have X0 := Lib.hid (((Ext.refl w).alloc (.cells #[.bool true, .slice A l.length c] 24)).alloc (.cells #[.int .i64 K, .int .i64 V] 50))
  have B0 := Lib.hid ((Bx.new w #[.bool true, .slice A l.length c] 24).ext ((Ext.refl _).alloc (.cells #[.int .i64 K, .int .i64 V] 50)))
  have D0 := Lib.hid (Bx.new (w.alloc (.cells #[.bool true, .slice A l.length c] 24)) #[.int .i64 K, .int .i64 V] 50)
  rw [show (w.alloc (.cells #[.bool true, .slice A l.length c] 24)).heap.size = w.heap.size + 1 by simp] at D0
  have HR := Lib.hid (fun w' (hx : Ext w w') => ref04Right_is true A l l.length c w' rfl (HA.out.ext hx) hr)
  have p0 : decide (K < 0) = false := decide_eq_false h0
  have p1 : decide (2147483647 < K) = false := decide_eq_false h1
  have p2 : decide (V < 0) = false := decide_eq_false h2
  have p3 : decide (2147483647 < V) = true := decide_eq_true h3
  clear hA hr h0 h1 h2 h3
  go_enter Try.func9, Try.ntmps9
  go_wp2_with (first
    | (go_at_call 10; refine (shown_any _).mono ?_; rintro e w1 ⟨rfl, hx⟩; have X1 := Lib.hid (X0.out.trans hx); have B1 := Lib.hid (B0.out.ext hx); have D1 := Lib.hid (D0.out.ext hx); obtain ⟨b0, b1, b2⟩ := B1.out.read2; obtain ⟨x0, x1, x2⟩ := D1.out.read2; clear hx)
    | (go_at_call 15; refine (HR.out _ X1.out).mono ?_; rintro e w2 ⟨rfl, hx⟩; have X2 := Lib.hid (X1.out.trans hx); have B2 := Lib.hid (B1.out.ext hx); have D2 := Lib.hid (D1.out.ext hx); clear hx b0 b1 b2 x0 x1 x2; obtain ⟨b0, b1, b2⟩ := B2.out.read2; obtain ⟨x0, x1, x2⟩ := D2.out.read2))
  go_ret
  exact ⟨rfl, X2.out⟩
end Go.Proofs.Ytpcchbcibcfldaa
