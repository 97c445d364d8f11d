/- The walk of GrowRoom. -/
import Derived.Test.YtkoomcbiddanfaaK31
import Derived.Deep.AppendLies
import Derived.Deep.RegionHeld3
import Derived.Deep.DeepCutAuto
import Derived.Deep.DrawnRows
import Derived.RegionTactic
namespace Go.Proofs.Ytkoomcbiddanfaa
open Go.RowKit
attribute [local go_sem ↓] Go.wp_at_zero Go.wp_at_succ

attribute [local go_sem] beq_self_eq_true bne_self_eq_false
set_option maxRecDepth 100000 in
set_option maxHeartbeats 4000000 in
theorem room_not (R : Option Addr) (l : List HC) (n q : Nat) (keep root key val : Int) (deep : Bool) (w : World) (hA : HcSl w R n q l) (hf : fineB ⟨l, keep⟩ root 40 = false) :
    Calls Try.prog 3 #[.agg #[.slice R n q, .int .i64 keep, .int .i64 root, .int .i64 key, .int .i64 val, .bool deep]] w fun e w' => e = .returned (.bool true) ∧ Ext w w' := by
  have A_1 := Lib.hid (hA)
  have X_2 := Lib.hid (Ext.refl w)
  clear hA
  have HF := Lib.hid hf
  clear hf
  go_enter Try.func3, Try.ntmps3
  go_wp2_with (go_at_call 6; refine stop_here ?_)
  refine stop_on ?_
  generalize hW : (World.alloc (World.alloc (World.alloc w _) _) _) = W3
  obtain ⟨hx, hb0, hb1, hb2⟩ := allocs3 hW
  clear hW
  have A_4 := Lib.hid (A_1.out.ext hx)
  have X_4 := Lib.hid (X_2.out.ext hx)
  clear A_1 X_2
  have wi_5 := Lib.hid hb0
  have h_6 := Lib.hid hb1
  have x_7 := Lib.hid hb2
  clear hx hb0 hb1 hb2
  refine (shown_any _).mono ?_
  rintro e w8 ⟨rfl, hx⟩
  have A_9 := Lib.hid (A_4.out.ext hx)
  have X_9 := Lib.hid (X_4.out.ext hx)
  have wi_9 := Lib.hid (wi_5.out.ext hx)
  have h_9 := Lib.hid (h_6.out.ext hx)
  have x_9 := Lib.hid (x_7.out.ext hx)
  clear A_4 X_4 wi_5 h_6 x_7
  clear hx
  have qwi0 : w8.cell? ⟨w.heap.size, 0, none⟩ = some (.slice R n q) := wi_9.out.at 0 _ rfl
  have qwi1 : w8.cell? ⟨w.heap.size, 1, none⟩ = some (.int .i64 keep) := wi_9.out.at 1 _ rfl
  have qwi2 : w8.cell? ⟨w.heap.size, 2, none⟩ = some (.int .i64 root) := wi_9.out.at 2 _ rfl
  have qwi3 : w8.cell? ⟨w.heap.size, 3, none⟩ = some (.int .i64 key) := wi_9.out.at 3 _ rfl
  have qwi4 : w8.cell? ⟨w.heap.size, 4, none⟩ = some (.int .i64 val) := wi_9.out.at 4 _ rfl
  have qwi5 : w8.cell? ⟨w.heap.size, 5, none⟩ = some (.bool deep) := wi_9.out.at 5 _ rfl
  have zwi := wi_9.out.lt
  have qh0 : w8.cell? ⟨w.heap.size + 1, 0, none⟩ = some (.slice R n q) := h_9.out.at 0 _ rfl
  have qh1 : w8.cell? ⟨w.heap.size + 1, 1, none⟩ = some (.int .i64 keep) := h_9.out.at 1 _ rfl
  have zh := h_9.out.lt
  have qx0 : w8.cell? ⟨w.heap.size + 1 + 1, 0, none⟩ = some (.int .i64 key) := x_9.out.at 0 _ rfl
  have qx1 : w8.cell? ⟨w.heap.size + 1 + 1, 1, none⟩ = some (.int .i64 val) := x_9.out.at 1 _ rfl
  have zx := x_9.out.lt
  go_wp2_with (go_at_call 7; refine stop_here ?_)
  refine stop_on ?_
  clear qwi0 qwi1 qwi2 qwi3 qwi4 qwi5 zwi qh0 qh1 zh qx0 qx1 zx
  generalize hW : (World.alloc w8 _) = W10
  obtain ⟨hx, hb0⟩ := allocs1 hW
  clear hW
  have A_11 := Lib.hid (A_9.out.ext hx)
  have X_11 := Lib.hid (X_9.out.ext hx)
  have wi_11 := Lib.hid (wi_9.out.ext hx)
  have h_11 := Lib.hid (h_9.out.ext hx)
  have x_11 := Lib.hid (x_9.out.ext hx)
  clear A_9 X_9 wi_9 h_9 x_9
  have rt_12 := Lib.hid hb0
  clear hx hb0
  refine (growFine_is _ 1 40 HF.out A_11.out (show Sl _ _ 1 1 ([root].map iv) from rt_12.out.slP 1 (by unfold maxLen; omega))).mono ?_
  rintro e w13 ⟨rfl, hx⟩
  have A_14 := Lib.hid (A_11.out.ext hx)
  have X_14 := Lib.hid (X_11.out.ext hx)
  have wi_14 := Lib.hid (wi_11.out.ext hx)
  have h_14 := Lib.hid (h_11.out.ext hx)
  have x_14 := Lib.hid (x_11.out.ext hx)
  have rt_14 := Lib.hid (rt_12.out.ext hx)
  clear A_11 X_11 wi_11 h_11 x_11 rt_12
  clear hx
  have zwi := wi_14.out.lt
  have qh0 : w13.cell? ⟨w.heap.size + 1, 0, none⟩ = some (.slice R n q) := h_14.out.at 0 _ rfl
  have qh1 : w13.cell? ⟨w.heap.size + 1, 1, none⟩ = some (.int .i64 keep) := h_14.out.at 1 _ rfl
  have zh := h_14.out.lt
  have qx0 : w13.cell? ⟨w.heap.size + 1 + 1, 0, none⟩ = some (.int .i64 key) := x_14.out.at 0 _ rfl
  have qx1 : w13.cell? ⟨w.heap.size + 1 + 1, 1, none⟩ = some (.int .i64 val) := x_14.out.at 1 _ rfl
  have zx := x_14.out.lt
  have qrt0 : w13.cell? ⟨w8.heap.size, 0, none⟩ = some (.int .i64 root) := rt_14.out.at 0 _ rfl
  have zrt := rt_14.out.lt
  go_wp2
  go_ret
  exact ⟨rfl, X_14.out⟩
set_option maxRecDepth 100000 in
set_option maxHeartbeats 4000000 in
theorem room_out (R : Option Addr) (l : List HC) (n q : Nat) (keep root key val : Int) (deep : Bool) (w : World) (hA : HcSl w R n q l) (hf : fineB ⟨l, keep⟩ root 40 = true) (hx : ¬ okIt (key, val)) :
    Calls Try.prog 3 #[.agg #[.slice R n q, .int .i64 keep, .int .i64 root, .int .i64 key, .int .i64 val, .bool deep]] w fun e w' => e = .returned (.bool true) ∧ Ext w w' := by
  have A_15 := Lib.hid (hA)
  have X_16 := Lib.hid (Ext.refl w)
  clear hA
  have HF := Lib.hid hf
  clear hf
  have hc : decide (key < 0) = true ∨ (decide (key < 0) = false ∧ decide ((2147483647 : Int) < key) = true) ∨ (decide (key < 0) = false ∧ decide ((2147483647 : Int) < key) = false ∧ decide (val < 0) = true) ∨ (decide (key < 0) = false ∧ decide ((2147483647 : Int) < key) = false ∧ decide (val < 0) = false ∧ decide ((2147483647 : Int) < val) = true) := by
    unfold okIt at hx
    simp only at hx
    simp only [decide_eq_true_eq, decide_eq_false_iff_not]
    omega
  clear hx
  rcases hc with d0 | ⟨d0, d1⟩ | ⟨d0, d1, d2⟩ | ⟨d0, d1, d2, d3⟩
  all_goals
    go_enter Try.func3, Try.ntmps3
    go_wp2_with (go_at_call 6; refine stop_here ?_)
    refine stop_on ?_
    generalize hW : (World.alloc (World.alloc (World.alloc w _) _) _) = W17
    obtain ⟨hx, hb0, hb1, hb2⟩ := allocs3 hW
    clear hW
    have A_18 := Lib.hid (A_15.out.ext hx)
    have X_18 := Lib.hid (X_16.out.ext hx)
    clear A_15 X_16
    have wi_19 := Lib.hid hb0
    have h_20 := Lib.hid hb1
    have x_21 := Lib.hid hb2
    clear hx hb0 hb1 hb2
    refine (shown_any _).mono ?_
    rintro e w22 ⟨rfl, hx⟩
    have A_23 := Lib.hid (A_18.out.ext hx)
    have X_23 := Lib.hid (X_18.out.ext hx)
    have wi_23 := Lib.hid (wi_19.out.ext hx)
    have h_23 := Lib.hid (h_20.out.ext hx)
    have x_23 := Lib.hid (x_21.out.ext hx)
    clear A_18 X_18 wi_19 h_20 x_21
    clear hx
    have qwi0 : w22.cell? ⟨w.heap.size, 0, none⟩ = some (.slice R n q) := wi_23.out.at 0 _ rfl
    have qwi1 : w22.cell? ⟨w.heap.size, 1, none⟩ = some (.int .i64 keep) := wi_23.out.at 1 _ rfl
    have qwi2 : w22.cell? ⟨w.heap.size, 2, none⟩ = some (.int .i64 root) := wi_23.out.at 2 _ rfl
    have qwi3 : w22.cell? ⟨w.heap.size, 3, none⟩ = some (.int .i64 key) := wi_23.out.at 3 _ rfl
    have qwi4 : w22.cell? ⟨w.heap.size, 4, none⟩ = some (.int .i64 val) := wi_23.out.at 4 _ rfl
    have qwi5 : w22.cell? ⟨w.heap.size, 5, none⟩ = some (.bool deep) := wi_23.out.at 5 _ rfl
    have zwi := wi_23.out.lt
    have qh0 : w22.cell? ⟨w.heap.size + 1, 0, none⟩ = some (.slice R n q) := h_23.out.at 0 _ rfl
    have qh1 : w22.cell? ⟨w.heap.size + 1, 1, none⟩ = some (.int .i64 keep) := h_23.out.at 1 _ rfl
    have zh := h_23.out.lt
    have qx0 : w22.cell? ⟨w.heap.size + 1 + 1, 0, none⟩ = some (.int .i64 key) := x_23.out.at 0 _ rfl
    have qx1 : w22.cell? ⟨w.heap.size + 1 + 1, 1, none⟩ = some (.int .i64 val) := x_23.out.at 1 _ rfl
    have zx := x_23.out.lt
    go_wp2_with (go_at_call 7; refine stop_here ?_)
    refine stop_on ?_
    clear qwi0 qwi1 qwi2 qwi3 qwi4 qwi5 zwi qh0 qh1 zh qx0 qx1 zx
    generalize hW : (World.alloc w22 _) = W24
    obtain ⟨hx, hb0⟩ := allocs1 hW
    clear hW
    have A_25 := Lib.hid (A_23.out.ext hx)
    have X_25 := Lib.hid (X_23.out.ext hx)
    have wi_25 := Lib.hid (wi_23.out.ext hx)
    have h_25 := Lib.hid (h_23.out.ext hx)
    have x_25 := Lib.hid (x_23.out.ext hx)
    clear A_23 X_23 wi_23 h_23 x_23
    have rt_26 := Lib.hid hb0
    clear hx hb0
    refine (growFine_is _ 1 40 HF.out A_25.out (show Sl _ _ 1 1 ([root].map iv) from rt_26.out.slP 1 (by unfold maxLen; omega))).mono ?_
    rintro e w27 ⟨rfl, hx⟩
    have A_28 := Lib.hid (A_25.out.ext hx)
    have X_28 := Lib.hid (X_25.out.ext hx)
    have wi_28 := Lib.hid (wi_25.out.ext hx)
    have h_28 := Lib.hid (h_25.out.ext hx)
    have x_28 := Lib.hid (x_25.out.ext hx)
    have rt_28 := Lib.hid (rt_26.out.ext hx)
    clear A_25 X_25 wi_25 h_25 x_25 rt_26
    clear hx
    have zwi := wi_28.out.lt
    have qh0 : w27.cell? ⟨w.heap.size + 1, 0, none⟩ = some (.slice R n q) := h_28.out.at 0 _ rfl
    have qh1 : w27.cell? ⟨w.heap.size + 1, 1, none⟩ = some (.int .i64 keep) := h_28.out.at 1 _ rfl
    have zh := h_28.out.lt
    have qx0 : w27.cell? ⟨w.heap.size + 1 + 1, 0, none⟩ = some (.int .i64 key) := x_28.out.at 0 _ rfl
    have qx1 : w27.cell? ⟨w.heap.size + 1 + 1, 1, none⟩ = some (.int .i64 val) := x_28.out.at 1 _ rfl
    have zx := x_28.out.lt
    have qrt0 : w27.cell? ⟨w22.heap.size, 0, none⟩ = some (.int .i64 root) := rt_28.out.at 0 _ rfl
    have zrt := rt_28.out.lt
    go_wp2
    go_ret
    exact ⟨rfl, X_28.out⟩
set_option maxRecDepth 100000 in
set_option maxHeartbeats 4000000 in
theorem room_full_true (R : Option Addr) (l : List HC) (n q : Nat) (keep root key val : Int) (w : World) (hA : HcSl w R n q l) (hf : fineB ⟨l, keep⟩ root 40 = true) (hx : okIt (key, val)) (c2 : List HC) (r2 : Int) (hp : putR ⟨l, keep⟩ root (key, val) true = (c2, r2, 3)) :
    Calls Try.prog 3 #[.agg #[.slice R n q, .int .i64 keep, .int .i64 root, .int .i64 key, .int .i64 val, .bool true]] w fun e w' => e = .returned (.bool true) ∧ Ext w w' := by
  have A_29 := Lib.hid (hA)
  have X_30 := Lib.hid (Ext.refl w)
  clear hA
  have hw := mt (room_when (c := l) (keep := keep) (root := root) (deep := true) hx).2 (by rw [hp]; simp)
  obtain ⟨⟨k0, k1⟩, v0, v1⟩ := hx
  simp only at k0 k1 v0 v1
  have d0 : decide (key < 0) = false := decide_eq_false (by omega)
  have d1 : decide ((2147483647 : Int) < key) = false := decide_eq_false (by omega)
  have d2 : decide (val < 0) = false := decide_eq_false (by omega)
  have d3 : decide ((2147483647 : Int) < val) = false := decide_eq_false (by omega)
  have HM := Lib.hid (mayT_of hf)
  obtain ⟨a1, a2, a3, a4⟩ := fine_all hf
  have A1 := Lib.hid a1
  have A2 := Lib.hid a2
  have A3 := Lib.hid a3
  have HF := Lib.hid hf
  have HP := Lib.hid hp
  obtain ⟨H, hH⟩ : ∃ H, highT l root = H := ⟨_, rfl⟩
  have HH := Lib.hid hH
  have hb := high_bounds l root
  obtain ⟨fr, hfr⟩ : ∃ f, l.countP freeC = f := ⟨_, rfl⟩
  have HFR := Lib.hid hfr
  have hfl : l.countP freeC ≤ l.length := List.countP_le_length
  have hkp := may_keep (fine_may hf).1
  rw [hH] at hb
  rw [hfr] at hfl
  obtain ⟨hb0, hb1⟩ := hb
  obtain ⟨hk0, hk1⟩ := hkp
  have w1 : IntKind.i64.wrap ((fr : Int) - keep) = (fr : Int) - keep := by rw [IntKind.wrap_i64]; omega
  have w2 : IntKind.i64.wrap (2 * H) = 2 * H := by rw [IntKind.wrap_i64]; omega
  have w3 : IntKind.i64.wrap (2 * H + 1) = 2 * H + 1 := by rw [IntKind.wrap_i64]; omega
  have hc : decide (2 * H + 1 ≤ (fr : Int)) = false ∨ (decide (2 * H + 1 ≤ (fr : Int)) = true ∧ decide (H < 20) = false) := by
    rw [hH, hfr] at hw
    simp at hw
    by_cases h : 2 * H + 1 ≤ (fr : Int)
    · exact .inr ⟨decide_eq_true h, decide_eq_false (by omega)⟩
    · exact .inl (decide_eq_false h)
  clear hw hf hp a1 a2 a3 a4 hH hfr k0 k1 v0 v1
  rcases hc with e1 | ⟨e1, e2⟩
  all_goals
    go_enter Try.func3, Try.ntmps3
    go_wp2_with (go_at_call 6; refine stop_here ?_)
    refine stop_on ?_
    generalize hW : (World.alloc (World.alloc (World.alloc w _) _) _) = W31
    obtain ⟨hx, hb0, hb1, hb2⟩ := allocs3 hW
    clear hW
    have A_32 := Lib.hid (A_29.out.ext hx)
    have X_32 := Lib.hid (X_30.out.ext hx)
    clear A_29 X_30
    have wi_33 := Lib.hid hb0
    have h_34 := Lib.hid hb1
    have x_35 := Lib.hid hb2
    clear hx hb0 hb1 hb2
    refine (shown_any _).mono ?_
    rintro e w36 ⟨rfl, hx⟩
    have A_37 := Lib.hid (A_32.out.ext hx)
    have X_37 := Lib.hid (X_32.out.ext hx)
    have wi_37 := Lib.hid (wi_33.out.ext hx)
    have h_37 := Lib.hid (h_34.out.ext hx)
    have x_37 := Lib.hid (x_35.out.ext hx)
    clear A_32 X_32 wi_33 h_34 x_35
    clear hx
    have qwi0 : w36.cell? ⟨w.heap.size, 0, none⟩ = some (.slice R n q) := wi_37.out.at 0 _ rfl
    have qwi1 : w36.cell? ⟨w.heap.size, 1, none⟩ = some (.int .i64 keep) := wi_37.out.at 1 _ rfl
    have qwi2 : w36.cell? ⟨w.heap.size, 2, none⟩ = some (.int .i64 root) := wi_37.out.at 2 _ rfl
    have qwi3 : w36.cell? ⟨w.heap.size, 3, none⟩ = some (.int .i64 key) := wi_37.out.at 3 _ rfl
    have qwi4 : w36.cell? ⟨w.heap.size, 4, none⟩ = some (.int .i64 val) := wi_37.out.at 4 _ rfl
    have qwi5 : w36.cell? ⟨w.heap.size, 5, none⟩ = some (.bool true) := wi_37.out.at 5 _ rfl
    have zwi := wi_37.out.lt
    have qh0 : w36.cell? ⟨w.heap.size + 1, 0, none⟩ = some (.slice R n q) := h_37.out.at 0 _ rfl
    have qh1 : w36.cell? ⟨w.heap.size + 1, 1, none⟩ = some (.int .i64 keep) := h_37.out.at 1 _ rfl
    have zh := h_37.out.lt
    have qx0 : w36.cell? ⟨w.heap.size + 1 + 1, 0, none⟩ = some (.int .i64 key) := x_37.out.at 0 _ rfl
    have qx1 : w36.cell? ⟨w.heap.size + 1 + 1, 1, none⟩ = some (.int .i64 val) := x_37.out.at 1 _ rfl
    have zx := x_37.out.lt
    go_wp2_with (go_at_call 7; refine stop_here ?_)
    refine stop_on ?_
    clear qwi0 qwi1 qwi2 qwi3 qwi4 qwi5 zwi qh0 qh1 zh qx0 qx1 zx
    generalize hW : (World.alloc w36 _) = W38
    obtain ⟨hx, hb0⟩ := allocs1 hW
    clear hW
    have A_39 := Lib.hid (A_37.out.ext hx)
    have X_39 := Lib.hid (X_37.out.ext hx)
    have wi_39 := Lib.hid (wi_37.out.ext hx)
    have h_39 := Lib.hid (h_37.out.ext hx)
    have x_39 := Lib.hid (x_37.out.ext hx)
    clear A_37 X_37 wi_37 h_37 x_37
    have rt_40 := Lib.hid hb0
    clear hx hb0
    refine (growFine_is _ 1 40 HF.out A_39.out (show Sl _ _ 1 1 ([root].map iv) from rt_40.out.slP 1 (by unfold maxLen; omega))).mono ?_
    rintro e w41 ⟨rfl, hx⟩
    have A_42 := Lib.hid (A_39.out.ext hx)
    have X_42 := Lib.hid (X_39.out.ext hx)
    have wi_42 := Lib.hid (wi_39.out.ext hx)
    have h_42 := Lib.hid (h_39.out.ext hx)
    have x_42 := Lib.hid (x_39.out.ext hx)
    have rt_42 := Lib.hid (rt_40.out.ext hx)
    clear A_39 X_39 wi_39 h_39 x_39 rt_40
    clear hx
    have zwi := wi_42.out.lt
    have qh0 : w41.cell? ⟨w.heap.size + 1, 0, none⟩ = some (.slice R n q) := h_42.out.at 0 _ rfl
    have qh1 : w41.cell? ⟨w.heap.size + 1, 1, none⟩ = some (.int .i64 keep) := h_42.out.at 1 _ rfl
    have zh := h_42.out.lt
    have qx0 : w41.cell? ⟨w.heap.size + 1 + 1, 0, none⟩ = some (.int .i64 key) := x_42.out.at 0 _ rfl
    have qx1 : w41.cell? ⟨w.heap.size + 1 + 1, 1, none⟩ = some (.int .i64 val) := x_42.out.at 1 _ rfl
    have zx := x_42.out.lt
    have qrt0 : w41.cell? ⟨w36.heap.size, 0, none⟩ = some (.int .i64 root) := rt_42.out.at 0 _ rfl
    have zrt := rt_42.out.lt
    go_wp2_with (go_at_call 8; refine stop_here ?_)
    refine stop_on ?_
    clear zwi qh0 qh1 zh qx0 qx1 zx qrt0 zrt
    refine (growPut_is (by decide) HM.out HP.out A_42.out).mono ?_
    rintro e w43 ⟨S3, t3, rfl, h3, hx⟩
    have A_44 := Lib.hid (A_42.out.ext hx)
    have X_44 := Lib.hid (X_42.out.ext hx)
    have wi_44 := Lib.hid (wi_42.out.ext hx)
    have h_44 := Lib.hid (h_42.out.ext hx)
    have x_44 := Lib.hid (x_42.out.ext hx)
    have rt_44 := Lib.hid (rt_42.out.ext hx)
    clear A_42 X_42 wi_42 h_42 x_42 rt_42
    have B_45 := Lib.hid h3
    clear hx h3
    have zwi := wi_44.out.lt
    have qh0 : w43.cell? ⟨w.heap.size + 1, 0, none⟩ = some (.slice R n q) := h_44.out.at 0 _ rfl
    have qh1 : w43.cell? ⟨w.heap.size + 1, 1, none⟩ = some (.int .i64 keep) := h_44.out.at 1 _ rfl
    have zh := h_44.out.lt
    have qx0 : w43.cell? ⟨w.heap.size + 1 + 1, 0, none⟩ = some (.int .i64 key) := x_44.out.at 0 _ rfl
    have qx1 : w43.cell? ⟨w.heap.size + 1 + 1, 1, none⟩ = some (.int .i64 val) := x_44.out.at 1 _ rfl
    have zx := x_44.out.lt
    have qrt0 : w43.cell? ⟨w36.heap.size, 0, none⟩ = some (.int .i64 root) := rt_44.out.at 0 _ rfl
    have zrt := rt_44.out.lt
    go_wp2_with (go_at_call 9; refine stop_here ?_)
    refine stop_on ?_
    clear zwi qh0 qh1 zh qx0 qx1 zx qrt0 zrt
    generalize hW : (World.alloc w43 _) = W46
    obtain ⟨hx, hb0⟩ := allocs1 hW
    clear hW
    have A_47 := Lib.hid (A_44.out.ext hx)
    have X_47 := Lib.hid (X_44.out.ext hx)
    have wi_47 := Lib.hid (wi_44.out.ext hx)
    have h_47 := Lib.hid (h_44.out.ext hx)
    have x_47 := Lib.hid (x_44.out.ext hx)
    have rt_47 := Lib.hid (rt_44.out.ext hx)
    have B_47 := Lib.hid (B_45.out.ext hx)
    clear A_44 X_44 wi_44 h_44 x_44 rt_44 B_45
    have g_48 := Lib.hid hb0
    clear hx hb0
    refine (growHigh_is A1.out A2.out A3.out HH.out A_47.out).mono ?_
    rintro e w49 ⟨rfl, hx⟩
    have A_50 := Lib.hid (A_47.out.ext hx)
    have X_50 := Lib.hid (X_47.out.ext hx)
    have wi_50 := Lib.hid (wi_47.out.ext hx)
    have h_50 := Lib.hid (h_47.out.ext hx)
    have x_50 := Lib.hid (x_47.out.ext hx)
    have rt_50 := Lib.hid (rt_47.out.ext hx)
    have B_50 := Lib.hid (B_47.out.ext hx)
    have g_50 := Lib.hid (g_48.out.ext hx)
    clear A_47 X_47 wi_47 h_47 x_47 rt_47 B_47 g_48
    clear hx
    have zwi := wi_50.out.lt
    have qh0 : w49.cell? ⟨w.heap.size + 1, 0, none⟩ = some (.slice R n q) := h_50.out.at 0 _ rfl
    have qh1 : w49.cell? ⟨w.heap.size + 1, 1, none⟩ = some (.int .i64 keep) := h_50.out.at 1 _ rfl
    have zh := h_50.out.lt
    have qx0 : w49.cell? ⟨w.heap.size + 1 + 1, 0, none⟩ = some (.int .i64 key) := x_50.out.at 0 _ rfl
    have qx1 : w49.cell? ⟨w.heap.size + 1 + 1, 1, none⟩ = some (.int .i64 val) := x_50.out.at 1 _ rfl
    have zx := x_50.out.lt
    have qrt0 : w49.cell? ⟨w36.heap.size, 0, none⟩ = some (.int .i64 root) := rt_50.out.at 0 _ rfl
    have zrt := rt_50.out.lt
    have qg0 : w49.cell? ⟨w43.heap.size, 0, none⟩ = some (.slice S3 n t3) := g_50.out.at 0 _ rfl
    have qg1 : w49.cell? ⟨w43.heap.size, 1, none⟩ = some (.int .i64 keep) := g_50.out.at 1 _ rfl
    have zg := g_50.out.lt
    go_wp2_with (go_at_call 10; refine stop_here ?_)
    refine stop_on ?_
    clear zwi qh0 qh1 zh qx0 qx1 zx qrt0 zrt qg0 qg1 zg
    refine (growFree_is HFR.out A_50.out).mono ?_
    rintro e w51 ⟨rfl, hx⟩
    have A_52 := Lib.hid (A_50.out.ext hx)
    have X_52 := Lib.hid (X_50.out.ext hx)
    have wi_52 := Lib.hid (wi_50.out.ext hx)
    have h_52 := Lib.hid (h_50.out.ext hx)
    have x_52 := Lib.hid (x_50.out.ext hx)
    have rt_52 := Lib.hid (rt_50.out.ext hx)
    have B_52 := Lib.hid (B_50.out.ext hx)
    have g_52 := Lib.hid (g_50.out.ext hx)
    clear A_50 X_50 wi_50 h_50 x_50 rt_50 B_50 g_50
    clear hx
    have zwi := wi_52.out.lt
    have qh0 : w51.cell? ⟨w.heap.size + 1, 0, none⟩ = some (.slice R n q) := h_52.out.at 0 _ rfl
    have qh1 : w51.cell? ⟨w.heap.size + 1, 1, none⟩ = some (.int .i64 keep) := h_52.out.at 1 _ rfl
    have zh := h_52.out.lt
    have qx0 : w51.cell? ⟨w.heap.size + 1 + 1, 0, none⟩ = some (.int .i64 key) := x_52.out.at 0 _ rfl
    have qx1 : w51.cell? ⟨w.heap.size + 1 + 1, 1, none⟩ = some (.int .i64 val) := x_52.out.at 1 _ rfl
    have zx := x_52.out.lt
    have qrt0 : w51.cell? ⟨w36.heap.size, 0, none⟩ = some (.int .i64 root) := rt_52.out.at 0 _ rfl
    have zrt := rt_52.out.lt
    have qg0 : w51.cell? ⟨w43.heap.size, 0, none⟩ = some (.slice S3 n t3) := g_52.out.at 0 _ rfl
    have qg1 : w51.cell? ⟨w43.heap.size, 1, none⟩ = some (.int .i64 keep) := g_52.out.at 1 _ rfl
    have zg := g_52.out.lt
    go_wp2
    go_ret
    exact ⟨rfl, X_52.out⟩
set_option maxRecDepth 100000 in
set_option maxHeartbeats 4000000 in
theorem room_put_true (R : Option Addr) (l : List HC) (n q : Nat) (keep root key val : Int) (w : World) (hA : HcSl w R n q l) (hf : fineB ⟨l, keep⟩ root 40 = true) (hx : okIt (key, val)) (c2 : List HC) (r2 : Int) (hp : putR ⟨l, keep⟩ root (key, val) true = (c2, r2, 0)) :
    Calls Try.prog 3 #[.agg #[.slice R n q, .int .i64 keep, .int .i64 root, .int .i64 key, .int .i64 val, .bool true]] w fun e w' => e = .returned (.bool true) ∧ Ext w w' := by
  have A_53 := Lib.hid (hA)
  have X_54 := Lib.hid (Ext.refl w)
  clear hA
  have hw := (room_when (c := l) (keep := keep) (root := root) (deep := true) hx).1 (by rw [hp])
  have hu := room_uses (by decide) hf hp
  obtain ⟨⟨k0, k1⟩, v0, v1⟩ := hx
  simp only at k0 k1 v0 v1
  have d0 : decide (key < 0) = false := decide_eq_false (by omega)
  have d1 : decide ((2147483647 : Int) < key) = false := decide_eq_false (by omega)
  have d2 : decide (val < 0) = false := decide_eq_false (by omega)
  have d3 : decide ((2147483647 : Int) < val) = false := decide_eq_false (by omega)
  have HM := Lib.hid (mayT_of hf)
  obtain ⟨a1, a2, a3, a4⟩ := fine_all hf
  have A1 := Lib.hid a1
  have A2 := Lib.hid a2
  have A3 := Lib.hid a3
  have HF := Lib.hid hf
  have HP := Lib.hid hp
  obtain ⟨H, hH⟩ : ∃ H, highT l root = H := ⟨_, rfl⟩
  have HH := Lib.hid hH
  have hb := high_bounds l root
  obtain ⟨fr, hfr⟩ : ∃ f, l.countP freeC = f := ⟨_, rfl⟩
  have HFR := Lib.hid hfr
  have hfl : l.countP freeC ≤ l.length := List.countP_le_length
  have hkp := may_keep (fine_may hf).1
  rw [hH] at hb
  rw [hfr] at hfl
  obtain ⟨hb0, hb1⟩ := hb
  obtain ⟨hk0, hk1⟩ := hkp
  have w1 : IntKind.i64.wrap ((fr : Int) - keep) = (fr : Int) - keep := by rw [IntKind.wrap_i64]; omega
  have w2 : IntKind.i64.wrap (2 * H) = 2 * H := by rw [IntKind.wrap_i64]; omega
  have w3 : IntKind.i64.wrap (2 * H + 1) = 2 * H + 1 := by rw [IntKind.wrap_i64]; omega
  rw [hH, hfr] at hw hu
  simp at hw
  obtain ⟨hw1, hw2⟩ := hw
  obtain ⟨u1, u2, u3, u4⟩ := hu
  obtain ⟨b1, b2, b3, b4⟩ := fine_all u1
  have B1 := Lib.hid b1
  have B2 := Lib.hid b2
  have B3 := Lib.hid b3
  have B4 := Lib.hid b4
  obtain ⟨nw, hnw⟩ : ∃ x, highT c2 r2 = x := ⟨_, rfl⟩
  have HNW := Lib.hid hnw
  obtain ⟨lf, hlf⟩ : ∃ x, c2.countP freeC = x := ⟨_, rfl⟩
  have HLF := Lib.hid hlf
  rw [hnw] at u4
  rw [hlf] at u2 u3
  have e1 : decide (2 * H + 1 ≤ (fr : Int)) = true := decide_eq_true (by omega)
  have e2 : decide (H < 20) = true := decide_eq_true hw2
  have w4 : IntKind.i64.wrap ((fr : Int) - (lf : Int)) = (fr : Int) - (lf : Int) := by rw [IntKind.wrap_i64]; omega
  have w5 : IntKind.i64.wrap (H + 1) = H + 1 := by rw [IntKind.wrap_i64]; omega
  have e3 : decide ((fr : Int) - (lf : Int) ≤ 2 * H + 1) = true := decide_eq_true (by omega)
  have hmx : (H < 1 ∧ decide ((1 : Int) ≤ (fr : Int) - (lf : Int)) = true) ∨ (¬ H < 1 ∧ decide (H ≤ (fr : Int) - (lf : Int)) = true) := by
    split at u2
    · exact .inl ⟨by omega, decide_eq_true (by omega)⟩
    · exact .inr ⟨by omega, decide_eq_true (by omega)⟩
  have hc : (nw == H) = true ∨ ((nw == H) = false ∧ (nw == H + 1) = true) := by
    rcases u4 with h | h
    · exact .inl (by simp [h])
    · exact .inr ⟨by simp; omega, by simp [h]⟩
  clear hw1 hw2 hf hp a1 a2 a3 a4 hH hfr k0 k1 v0 v1 u1 u2 u3 u4 b1 b2 b3 b4 hnw hlf
  rcases hmx with ⟨hm, e4⟩ | ⟨hm, e4⟩ <;> rcases hc with e5 | ⟨e5, e6⟩
  all_goals
    go_enter Try.func3, Try.ntmps3
    go_wp2_with (go_at_call 6; refine stop_here ?_)
    refine stop_on ?_
    generalize hW : (World.alloc (World.alloc (World.alloc w _) _) _) = W55
    obtain ⟨hx, hb0, hb1, hb2⟩ := allocs3 hW
    clear hW
    have A_56 := Lib.hid (A_53.out.ext hx)
    have X_56 := Lib.hid (X_54.out.ext hx)
    clear A_53 X_54
    have wi_57 := Lib.hid hb0
    have h_58 := Lib.hid hb1
    have x_59 := Lib.hid hb2
    clear hx hb0 hb1 hb2
    refine (shown_any _).mono ?_
    rintro e w60 ⟨rfl, hx⟩
    have A_61 := Lib.hid (A_56.out.ext hx)
    have X_61 := Lib.hid (X_56.out.ext hx)
    have wi_61 := Lib.hid (wi_57.out.ext hx)
    have h_61 := Lib.hid (h_58.out.ext hx)
    have x_61 := Lib.hid (x_59.out.ext hx)
    clear A_56 X_56 wi_57 h_58 x_59
    clear hx
    have qwi0 : w60.cell? ⟨w.heap.size, 0, none⟩ = some (.slice R n q) := wi_61.out.at 0 _ rfl
    have qwi1 : w60.cell? ⟨w.heap.size, 1, none⟩ = some (.int .i64 keep) := wi_61.out.at 1 _ rfl
    have qwi2 : w60.cell? ⟨w.heap.size, 2, none⟩ = some (.int .i64 root) := wi_61.out.at 2 _ rfl
    have qwi3 : w60.cell? ⟨w.heap.size, 3, none⟩ = some (.int .i64 key) := wi_61.out.at 3 _ rfl
    have qwi4 : w60.cell? ⟨w.heap.size, 4, none⟩ = some (.int .i64 val) := wi_61.out.at 4 _ rfl
    have qwi5 : w60.cell? ⟨w.heap.size, 5, none⟩ = some (.bool true) := wi_61.out.at 5 _ rfl
    have zwi := wi_61.out.lt
    have qh0 : w60.cell? ⟨w.heap.size + 1, 0, none⟩ = some (.slice R n q) := h_61.out.at 0 _ rfl
    have qh1 : w60.cell? ⟨w.heap.size + 1, 1, none⟩ = some (.int .i64 keep) := h_61.out.at 1 _ rfl
    have zh := h_61.out.lt
    have qx0 : w60.cell? ⟨w.heap.size + 1 + 1, 0, none⟩ = some (.int .i64 key) := x_61.out.at 0 _ rfl
    have qx1 : w60.cell? ⟨w.heap.size + 1 + 1, 1, none⟩ = some (.int .i64 val) := x_61.out.at 1 _ rfl
    have zx := x_61.out.lt
    go_wp2_with (go_at_call 7; refine stop_here ?_)
    refine stop_on ?_
    clear qwi0 qwi1 qwi2 qwi3 qwi4 qwi5 zwi qh0 qh1 zh qx0 qx1 zx
    generalize hW : (World.alloc w60 _) = W62
    obtain ⟨hx, hb0⟩ := allocs1 hW
    clear hW
    have A_63 := Lib.hid (A_61.out.ext hx)
    have X_63 := Lib.hid (X_61.out.ext hx)
    have wi_63 := Lib.hid (wi_61.out.ext hx)
    have h_63 := Lib.hid (h_61.out.ext hx)
    have x_63 := Lib.hid (x_61.out.ext hx)
    clear A_61 X_61 wi_61 h_61 x_61
    have rt_64 := Lib.hid hb0
    clear hx hb0
    refine (growFine_is _ 1 40 HF.out A_63.out (show Sl _ _ 1 1 ([root].map iv) from rt_64.out.slP 1 (by unfold maxLen; omega))).mono ?_
    rintro e w65 ⟨rfl, hx⟩
    have A_66 := Lib.hid (A_63.out.ext hx)
    have X_66 := Lib.hid (X_63.out.ext hx)
    have wi_66 := Lib.hid (wi_63.out.ext hx)
    have h_66 := Lib.hid (h_63.out.ext hx)
    have x_66 := Lib.hid (x_63.out.ext hx)
    have rt_66 := Lib.hid (rt_64.out.ext hx)
    clear A_63 X_63 wi_63 h_63 x_63 rt_64
    clear hx
    have zwi := wi_66.out.lt
    have qh0 : w65.cell? ⟨w.heap.size + 1, 0, none⟩ = some (.slice R n q) := h_66.out.at 0 _ rfl
    have qh1 : w65.cell? ⟨w.heap.size + 1, 1, none⟩ = some (.int .i64 keep) := h_66.out.at 1 _ rfl
    have zh := h_66.out.lt
    have qx0 : w65.cell? ⟨w.heap.size + 1 + 1, 0, none⟩ = some (.int .i64 key) := x_66.out.at 0 _ rfl
    have qx1 : w65.cell? ⟨w.heap.size + 1 + 1, 1, none⟩ = some (.int .i64 val) := x_66.out.at 1 _ rfl
    have zx := x_66.out.lt
    have qrt0 : w65.cell? ⟨w60.heap.size, 0, none⟩ = some (.int .i64 root) := rt_66.out.at 0 _ rfl
    have zrt := rt_66.out.lt
    go_wp2_with (go_at_call 8; refine stop_here ?_)
    refine stop_on ?_
    clear zwi qh0 qh1 zh qx0 qx1 zx qrt0 zrt
    refine (growPut_is (by decide) HM.out HP.out A_66.out).mono ?_
    rintro e w67 ⟨S3, t3, rfl, h3, hx⟩
    have A_68 := Lib.hid (A_66.out.ext hx)
    have X_68 := Lib.hid (X_66.out.ext hx)
    have wi_68 := Lib.hid (wi_66.out.ext hx)
    have h_68 := Lib.hid (h_66.out.ext hx)
    have x_68 := Lib.hid (x_66.out.ext hx)
    have rt_68 := Lib.hid (rt_66.out.ext hx)
    clear A_66 X_66 wi_66 h_66 x_66 rt_66
    have B_69 := Lib.hid h3
    clear hx h3
    have zwi := wi_68.out.lt
    have qh0 : w67.cell? ⟨w.heap.size + 1, 0, none⟩ = some (.slice R n q) := h_68.out.at 0 _ rfl
    have qh1 : w67.cell? ⟨w.heap.size + 1, 1, none⟩ = some (.int .i64 keep) := h_68.out.at 1 _ rfl
    have zh := h_68.out.lt
    have qx0 : w67.cell? ⟨w.heap.size + 1 + 1, 0, none⟩ = some (.int .i64 key) := x_68.out.at 0 _ rfl
    have qx1 : w67.cell? ⟨w.heap.size + 1 + 1, 1, none⟩ = some (.int .i64 val) := x_68.out.at 1 _ rfl
    have zx := x_68.out.lt
    have qrt0 : w67.cell? ⟨w60.heap.size, 0, none⟩ = some (.int .i64 root) := rt_68.out.at 0 _ rfl
    have zrt := rt_68.out.lt
    go_wp2_with (go_at_call 9; refine stop_here ?_)
    refine stop_on ?_
    clear zwi qh0 qh1 zh qx0 qx1 zx qrt0 zrt
    generalize hW : (World.alloc w67 _) = W70
    obtain ⟨hx, hb0⟩ := allocs1 hW
    clear hW
    have A_71 := Lib.hid (A_68.out.ext hx)
    have X_71 := Lib.hid (X_68.out.ext hx)
    have wi_71 := Lib.hid (wi_68.out.ext hx)
    have h_71 := Lib.hid (h_68.out.ext hx)
    have x_71 := Lib.hid (x_68.out.ext hx)
    have rt_71 := Lib.hid (rt_68.out.ext hx)
    have B_71 := Lib.hid (B_69.out.ext hx)
    clear A_68 X_68 wi_68 h_68 x_68 rt_68 B_69
    have g_72 := Lib.hid hb0
    clear hx hb0
    refine (growHigh_is A1.out A2.out A3.out HH.out A_71.out).mono ?_
    rintro e w73 ⟨rfl, hx⟩
    have A_74 := Lib.hid (A_71.out.ext hx)
    have X_74 := Lib.hid (X_71.out.ext hx)
    have wi_74 := Lib.hid (wi_71.out.ext hx)
    have h_74 := Lib.hid (h_71.out.ext hx)
    have x_74 := Lib.hid (x_71.out.ext hx)
    have rt_74 := Lib.hid (rt_71.out.ext hx)
    have B_74 := Lib.hid (B_71.out.ext hx)
    have g_74 := Lib.hid (g_72.out.ext hx)
    clear A_71 X_71 wi_71 h_71 x_71 rt_71 B_71 g_72
    clear hx
    have zwi := wi_74.out.lt
    have qh0 : w73.cell? ⟨w.heap.size + 1, 0, none⟩ = some (.slice R n q) := h_74.out.at 0 _ rfl
    have qh1 : w73.cell? ⟨w.heap.size + 1, 1, none⟩ = some (.int .i64 keep) := h_74.out.at 1 _ rfl
    have zh := h_74.out.lt
    have qx0 : w73.cell? ⟨w.heap.size + 1 + 1, 0, none⟩ = some (.int .i64 key) := x_74.out.at 0 _ rfl
    have qx1 : w73.cell? ⟨w.heap.size + 1 + 1, 1, none⟩ = some (.int .i64 val) := x_74.out.at 1 _ rfl
    have zx := x_74.out.lt
    have qrt0 : w73.cell? ⟨w60.heap.size, 0, none⟩ = some (.int .i64 root) := rt_74.out.at 0 _ rfl
    have zrt := rt_74.out.lt
    have qg0 : w73.cell? ⟨w67.heap.size, 0, none⟩ = some (.slice S3 n t3) := g_74.out.at 0 _ rfl
    have qg1 : w73.cell? ⟨w67.heap.size, 1, none⟩ = some (.int .i64 keep) := g_74.out.at 1 _ rfl
    have zg := g_74.out.lt
    go_wp2_with (go_at_call 10; refine stop_here ?_)
    refine stop_on ?_
    clear zwi qh0 qh1 zh qx0 qx1 zx qrt0 zrt qg0 qg1 zg
    refine (growFree_is HFR.out A_74.out).mono ?_
    rintro e w75 ⟨rfl, hx⟩
    have A_76 := Lib.hid (A_74.out.ext hx)
    have X_76 := Lib.hid (X_74.out.ext hx)
    have wi_76 := Lib.hid (wi_74.out.ext hx)
    have h_76 := Lib.hid (h_74.out.ext hx)
    have x_76 := Lib.hid (x_74.out.ext hx)
    have rt_76 := Lib.hid (rt_74.out.ext hx)
    have B_76 := Lib.hid (B_74.out.ext hx)
    have g_76 := Lib.hid (g_74.out.ext hx)
    clear A_74 X_74 wi_74 h_74 x_74 rt_74 B_74 g_74
    clear hx
    have zwi := wi_76.out.lt
    have qh0 : w75.cell? ⟨w.heap.size + 1, 0, none⟩ = some (.slice R n q) := h_76.out.at 0 _ rfl
    have qh1 : w75.cell? ⟨w.heap.size + 1, 1, none⟩ = some (.int .i64 keep) := h_76.out.at 1 _ rfl
    have zh := h_76.out.lt
    have qx0 : w75.cell? ⟨w.heap.size + 1 + 1, 0, none⟩ = some (.int .i64 key) := x_76.out.at 0 _ rfl
    have qx1 : w75.cell? ⟨w.heap.size + 1 + 1, 1, none⟩ = some (.int .i64 val) := x_76.out.at 1 _ rfl
    have zx := x_76.out.lt
    have qrt0 : w75.cell? ⟨w60.heap.size, 0, none⟩ = some (.int .i64 root) := rt_76.out.at 0 _ rfl
    have zrt := rt_76.out.lt
    have qg0 : w75.cell? ⟨w67.heap.size, 0, none⟩ = some (.slice S3 n t3) := g_76.out.at 0 _ rfl
    have qg1 : w75.cell? ⟨w67.heap.size, 1, none⟩ = some (.int .i64 keep) := g_76.out.at 1 _ rfl
    have zg := g_76.out.lt
    go_wp2_with (go_at_call 11; refine stop_here ?_)
    refine stop_on ?_
    clear zwi qh0 qh1 zh qx0 qx1 zx qrt0 zrt qg0 qg1 zg
    refine (growMay_is 40 B4.out B_76.out).mono ?_
    rintro e w77 ⟨rfl, hx⟩
    have A_78 := Lib.hid (A_76.out.ext hx)
    have X_78 := Lib.hid (X_76.out.ext hx)
    have wi_78 := Lib.hid (wi_76.out.ext hx)
    have h_78 := Lib.hid (h_76.out.ext hx)
    have x_78 := Lib.hid (x_76.out.ext hx)
    have rt_78 := Lib.hid (rt_76.out.ext hx)
    have B_78 := Lib.hid (B_76.out.ext hx)
    have g_78 := Lib.hid (g_76.out.ext hx)
    clear A_76 X_76 wi_76 h_76 x_76 rt_76 B_76 g_76
    clear hx
    have zwi := wi_78.out.lt
    have qh0 : w77.cell? ⟨w.heap.size + 1, 0, none⟩ = some (.slice R n q) := h_78.out.at 0 _ rfl
    have qh1 : w77.cell? ⟨w.heap.size + 1, 1, none⟩ = some (.int .i64 keep) := h_78.out.at 1 _ rfl
    have zh := h_78.out.lt
    have qx0 : w77.cell? ⟨w.heap.size + 1 + 1, 0, none⟩ = some (.int .i64 key) := x_78.out.at 0 _ rfl
    have qx1 : w77.cell? ⟨w.heap.size + 1 + 1, 1, none⟩ = some (.int .i64 val) := x_78.out.at 1 _ rfl
    have zx := x_78.out.lt
    have qrt0 : w77.cell? ⟨w60.heap.size, 0, none⟩ = some (.int .i64 root) := rt_78.out.at 0 _ rfl
    have zrt := rt_78.out.lt
    have qg0 : w77.cell? ⟨w67.heap.size, 0, none⟩ = some (.slice S3 n t3) := g_78.out.at 0 _ rfl
    have qg1 : w77.cell? ⟨w67.heap.size, 1, none⟩ = some (.int .i64 keep) := g_78.out.at 1 _ rfl
    have zg := g_78.out.lt
    go_wp2_with (go_at_call 10; refine stop_here ?_)
    refine stop_on ?_
    clear zwi qh0 qh1 zh qx0 qx1 zx qrt0 zrt qg0 qg1 zg
    refine (growFree_is HLF.out B_78.out).mono ?_
    rintro e w79 ⟨rfl, hx⟩
    have A_80 := Lib.hid (A_78.out.ext hx)
    have X_80 := Lib.hid (X_78.out.ext hx)
    have wi_80 := Lib.hid (wi_78.out.ext hx)
    have h_80 := Lib.hid (h_78.out.ext hx)
    have x_80 := Lib.hid (x_78.out.ext hx)
    have rt_80 := Lib.hid (rt_78.out.ext hx)
    have B_80 := Lib.hid (B_78.out.ext hx)
    have g_80 := Lib.hid (g_78.out.ext hx)
    clear A_78 X_78 wi_78 h_78 x_78 rt_78 B_78 g_78
    clear hx
    have zwi := wi_80.out.lt
    have qh0 : w79.cell? ⟨w.heap.size + 1, 0, none⟩ = some (.slice R n q) := h_80.out.at 0 _ rfl
    have qh1 : w79.cell? ⟨w.heap.size + 1, 1, none⟩ = some (.int .i64 keep) := h_80.out.at 1 _ rfl
    have zh := h_80.out.lt
    have qx0 : w79.cell? ⟨w.heap.size + 1 + 1, 0, none⟩ = some (.int .i64 key) := x_80.out.at 0 _ rfl
    have qx1 : w79.cell? ⟨w.heap.size + 1 + 1, 1, none⟩ = some (.int .i64 val) := x_80.out.at 1 _ rfl
    have zx := x_80.out.lt
    have qrt0 : w79.cell? ⟨w60.heap.size, 0, none⟩ = some (.int .i64 root) := rt_80.out.at 0 _ rfl
    have zrt := rt_80.out.lt
    have qg0 : w79.cell? ⟨w67.heap.size, 0, none⟩ = some (.slice S3 n t3) := g_80.out.at 0 _ rfl
    have qg1 : w79.cell? ⟨w67.heap.size, 1, none⟩ = some (.int .i64 keep) := g_80.out.at 1 _ rfl
    have zg := g_80.out.lt
    go_wp2_with (go_at_call 9; refine stop_here ?_)
    refine stop_on ?_
    clear zwi qh0 qh1 zh qx0 qx1 zx qrt0 zrt qg0 qg1 zg
    refine (growHigh_is B1.out B2.out B3.out HNW.out B_80.out).mono ?_
    rintro e w81 ⟨rfl, hx⟩
    have A_82 := Lib.hid (A_80.out.ext hx)
    have X_82 := Lib.hid (X_80.out.ext hx)
    have wi_82 := Lib.hid (wi_80.out.ext hx)
    have h_82 := Lib.hid (h_80.out.ext hx)
    have x_82 := Lib.hid (x_80.out.ext hx)
    have rt_82 := Lib.hid (rt_80.out.ext hx)
    have B_82 := Lib.hid (B_80.out.ext hx)
    have g_82 := Lib.hid (g_80.out.ext hx)
    clear A_80 X_80 wi_80 h_80 x_80 rt_80 B_80 g_80
    clear hx
    have zwi := wi_82.out.lt
    have qh0 : w81.cell? ⟨w.heap.size + 1, 0, none⟩ = some (.slice R n q) := h_82.out.at 0 _ rfl
    have qh1 : w81.cell? ⟨w.heap.size + 1, 1, none⟩ = some (.int .i64 keep) := h_82.out.at 1 _ rfl
    have zh := h_82.out.lt
    have qx0 : w81.cell? ⟨w.heap.size + 1 + 1, 0, none⟩ = some (.int .i64 key) := x_82.out.at 0 _ rfl
    have qx1 : w81.cell? ⟨w.heap.size + 1 + 1, 1, none⟩ = some (.int .i64 val) := x_82.out.at 1 _ rfl
    have zx := x_82.out.lt
    have qrt0 : w81.cell? ⟨w60.heap.size, 0, none⟩ = some (.int .i64 root) := rt_82.out.at 0 _ rfl
    have zrt := rt_82.out.lt
    have qg0 : w81.cell? ⟨w67.heap.size, 0, none⟩ = some (.slice S3 n t3) := g_82.out.at 0 _ rfl
    have qg1 : w81.cell? ⟨w67.heap.size, 1, none⟩ = some (.int .i64 keep) := g_82.out.at 1 _ rfl
    have zg := g_82.out.lt
    go_wp2
    go_ret
    exact ⟨rfl, X_82.out⟩
set_option maxRecDepth 100000 in
set_option maxHeartbeats 4000000 in
theorem room_full_false (R : Option Addr) (l : List HC) (n q : Nat) (keep root key val : Int) (w : World) (hA : HcSl w R n q l) (hf : fineB ⟨l, keep⟩ root 40 = true) (hx : okIt (key, val)) (c2 : List HC) (r2 : Int) (hp : putR ⟨l, keep⟩ root (key, val) false = (c2, r2, 3)) :
    Calls Try.prog 3 #[.agg #[.slice R n q, .int .i64 keep, .int .i64 root, .int .i64 key, .int .i64 val, .bool false]] w fun e w' => e = .returned (.bool true) ∧ Ext w w' := by
  have A_83 := Lib.hid (hA)
  have X_84 := Lib.hid (Ext.refl w)
  clear hA
  have hw := mt (room_when (c := l) (keep := keep) (root := root) (deep := false) hx).2 (by rw [hp]; simp)
  obtain ⟨⟨k0, k1⟩, v0, v1⟩ := hx
  simp only at k0 k1 v0 v1
  have d0 : decide (key < 0) = false := decide_eq_false (by omega)
  have d1 : decide ((2147483647 : Int) < key) = false := decide_eq_false (by omega)
  have d2 : decide (val < 0) = false := decide_eq_false (by omega)
  have d3 : decide ((2147483647 : Int) < val) = false := decide_eq_false (by omega)
  have HM := Lib.hid (mayT_of hf)
  obtain ⟨a1, a2, a3, a4⟩ := fine_all hf
  have A1 := Lib.hid a1
  have A2 := Lib.hid a2
  have A3 := Lib.hid a3
  have HF := Lib.hid hf
  have HP := Lib.hid hp
  obtain ⟨H, hH⟩ : ∃ H, highT l root = H := ⟨_, rfl⟩
  have HH := Lib.hid hH
  have hb := high_bounds l root
  obtain ⟨fr, hfr⟩ : ∃ f, l.countP freeC = f := ⟨_, rfl⟩
  have HFR := Lib.hid hfr
  have hfl : l.countP freeC ≤ l.length := List.countP_le_length
  have hkp := may_keep (fine_may hf).1
  rw [hH] at hb
  rw [hfr] at hfl
  obtain ⟨hb0, hb1⟩ := hb
  obtain ⟨hk0, hk1⟩ := hkp
  have w1 : IntKind.i64.wrap ((fr : Int) - keep) = (fr : Int) - keep := by rw [IntKind.wrap_i64]; omega
  have w2 : IntKind.i64.wrap (2 * H) = 2 * H := by rw [IntKind.wrap_i64]; omega
  have w3 : IntKind.i64.wrap (2 * H + 1) = 2 * H + 1 := by rw [IntKind.wrap_i64]; omega
  have hc : decide (2 * H + 1 ≤ (fr : Int) - keep) = false ∨ (decide (2 * H + 1 ≤ (fr : Int) - keep) = true ∧ decide (H < 20) = false) := by
    rw [hH, hfr] at hw
    simp at hw
    by_cases h : 2 * H + 1 ≤ (fr : Int) - keep
    · exact .inr ⟨decide_eq_true h, decide_eq_false (by omega)⟩
    · exact .inl (decide_eq_false h)
  clear hw hf hp a1 a2 a3 a4 hH hfr k0 k1 v0 v1
  rcases hc with e1 | ⟨e1, e2⟩
  all_goals
    go_enter Try.func3, Try.ntmps3
    go_wp2_with (go_at_call 6; refine stop_here ?_)
    refine stop_on ?_
    generalize hW : (World.alloc (World.alloc (World.alloc w _) _) _) = W85
    obtain ⟨hx, hb0, hb1, hb2⟩ := allocs3 hW
    clear hW
    have A_86 := Lib.hid (A_83.out.ext hx)
    have X_86 := Lib.hid (X_84.out.ext hx)
    clear A_83 X_84
    have wi_87 := Lib.hid hb0
    have h_88 := Lib.hid hb1
    have x_89 := Lib.hid hb2
    clear hx hb0 hb1 hb2
    refine (shown_any _).mono ?_
    rintro e w90 ⟨rfl, hx⟩
    have A_91 := Lib.hid (A_86.out.ext hx)
    have X_91 := Lib.hid (X_86.out.ext hx)
    have wi_91 := Lib.hid (wi_87.out.ext hx)
    have h_91 := Lib.hid (h_88.out.ext hx)
    have x_91 := Lib.hid (x_89.out.ext hx)
    clear A_86 X_86 wi_87 h_88 x_89
    clear hx
    have qwi0 : w90.cell? ⟨w.heap.size, 0, none⟩ = some (.slice R n q) := wi_91.out.at 0 _ rfl
    have qwi1 : w90.cell? ⟨w.heap.size, 1, none⟩ = some (.int .i64 keep) := wi_91.out.at 1 _ rfl
    have qwi2 : w90.cell? ⟨w.heap.size, 2, none⟩ = some (.int .i64 root) := wi_91.out.at 2 _ rfl
    have qwi3 : w90.cell? ⟨w.heap.size, 3, none⟩ = some (.int .i64 key) := wi_91.out.at 3 _ rfl
    have qwi4 : w90.cell? ⟨w.heap.size, 4, none⟩ = some (.int .i64 val) := wi_91.out.at 4 _ rfl
    have qwi5 : w90.cell? ⟨w.heap.size, 5, none⟩ = some (.bool false) := wi_91.out.at 5 _ rfl
    have zwi := wi_91.out.lt
    have qh0 : w90.cell? ⟨w.heap.size + 1, 0, none⟩ = some (.slice R n q) := h_91.out.at 0 _ rfl
    have qh1 : w90.cell? ⟨w.heap.size + 1, 1, none⟩ = some (.int .i64 keep) := h_91.out.at 1 _ rfl
    have zh := h_91.out.lt
    have qx0 : w90.cell? ⟨w.heap.size + 1 + 1, 0, none⟩ = some (.int .i64 key) := x_91.out.at 0 _ rfl
    have qx1 : w90.cell? ⟨w.heap.size + 1 + 1, 1, none⟩ = some (.int .i64 val) := x_91.out.at 1 _ rfl
    have zx := x_91.out.lt
    go_wp2_with (go_at_call 7; refine stop_here ?_)
    refine stop_on ?_
    clear qwi0 qwi1 qwi2 qwi3 qwi4 qwi5 zwi qh0 qh1 zh qx0 qx1 zx
    generalize hW : (World.alloc w90 _) = W92
    obtain ⟨hx, hb0⟩ := allocs1 hW
    clear hW
    have A_93 := Lib.hid (A_91.out.ext hx)
    have X_93 := Lib.hid (X_91.out.ext hx)
    have wi_93 := Lib.hid (wi_91.out.ext hx)
    have h_93 := Lib.hid (h_91.out.ext hx)
    have x_93 := Lib.hid (x_91.out.ext hx)
    clear A_91 X_91 wi_91 h_91 x_91
    have rt_94 := Lib.hid hb0
    clear hx hb0
    refine (growFine_is _ 1 40 HF.out A_93.out (show Sl _ _ 1 1 ([root].map iv) from rt_94.out.slP 1 (by unfold maxLen; omega))).mono ?_
    rintro e w95 ⟨rfl, hx⟩
    have A_96 := Lib.hid (A_93.out.ext hx)
    have X_96 := Lib.hid (X_93.out.ext hx)
    have wi_96 := Lib.hid (wi_93.out.ext hx)
    have h_96 := Lib.hid (h_93.out.ext hx)
    have x_96 := Lib.hid (x_93.out.ext hx)
    have rt_96 := Lib.hid (rt_94.out.ext hx)
    clear A_93 X_93 wi_93 h_93 x_93 rt_94
    clear hx
    have zwi := wi_96.out.lt
    have qh0 : w95.cell? ⟨w.heap.size + 1, 0, none⟩ = some (.slice R n q) := h_96.out.at 0 _ rfl
    have qh1 : w95.cell? ⟨w.heap.size + 1, 1, none⟩ = some (.int .i64 keep) := h_96.out.at 1 _ rfl
    have zh := h_96.out.lt
    have qx0 : w95.cell? ⟨w.heap.size + 1 + 1, 0, none⟩ = some (.int .i64 key) := x_96.out.at 0 _ rfl
    have qx1 : w95.cell? ⟨w.heap.size + 1 + 1, 1, none⟩ = some (.int .i64 val) := x_96.out.at 1 _ rfl
    have zx := x_96.out.lt
    have qrt0 : w95.cell? ⟨w90.heap.size, 0, none⟩ = some (.int .i64 root) := rt_96.out.at 0 _ rfl
    have zrt := rt_96.out.lt
    go_wp2_with (go_at_call 8; refine stop_here ?_)
    refine stop_on ?_
    clear zwi qh0 qh1 zh qx0 qx1 zx qrt0 zrt
    refine (growPut_is (by decide) HM.out HP.out A_96.out).mono ?_
    rintro e w97 ⟨S3, t3, rfl, h3, hx⟩
    have A_98 := Lib.hid (A_96.out.ext hx)
    have X_98 := Lib.hid (X_96.out.ext hx)
    have wi_98 := Lib.hid (wi_96.out.ext hx)
    have h_98 := Lib.hid (h_96.out.ext hx)
    have x_98 := Lib.hid (x_96.out.ext hx)
    have rt_98 := Lib.hid (rt_96.out.ext hx)
    clear A_96 X_96 wi_96 h_96 x_96 rt_96
    have B_99 := Lib.hid h3
    clear hx h3
    have zwi := wi_98.out.lt
    have qh0 : w97.cell? ⟨w.heap.size + 1, 0, none⟩ = some (.slice R n q) := h_98.out.at 0 _ rfl
    have qh1 : w97.cell? ⟨w.heap.size + 1, 1, none⟩ = some (.int .i64 keep) := h_98.out.at 1 _ rfl
    have zh := h_98.out.lt
    have qx0 : w97.cell? ⟨w.heap.size + 1 + 1, 0, none⟩ = some (.int .i64 key) := x_98.out.at 0 _ rfl
    have qx1 : w97.cell? ⟨w.heap.size + 1 + 1, 1, none⟩ = some (.int .i64 val) := x_98.out.at 1 _ rfl
    have zx := x_98.out.lt
    have qrt0 : w97.cell? ⟨w90.heap.size, 0, none⟩ = some (.int .i64 root) := rt_98.out.at 0 _ rfl
    have zrt := rt_98.out.lt
    go_wp2_with (go_at_call 9; refine stop_here ?_)
    refine stop_on ?_
    clear zwi qh0 qh1 zh qx0 qx1 zx qrt0 zrt
    generalize hW : (World.alloc w97 _) = W100
    obtain ⟨hx, hb0⟩ := allocs1 hW
    clear hW
    have A_101 := Lib.hid (A_98.out.ext hx)
    have X_101 := Lib.hid (X_98.out.ext hx)
    have wi_101 := Lib.hid (wi_98.out.ext hx)
    have h_101 := Lib.hid (h_98.out.ext hx)
    have x_101 := Lib.hid (x_98.out.ext hx)
    have rt_101 := Lib.hid (rt_98.out.ext hx)
    have B_101 := Lib.hid (B_99.out.ext hx)
    clear A_98 X_98 wi_98 h_98 x_98 rt_98 B_99
    have g_102 := Lib.hid hb0
    clear hx hb0
    refine (growHigh_is A1.out A2.out A3.out HH.out A_101.out).mono ?_
    rintro e w103 ⟨rfl, hx⟩
    have A_104 := Lib.hid (A_101.out.ext hx)
    have X_104 := Lib.hid (X_101.out.ext hx)
    have wi_104 := Lib.hid (wi_101.out.ext hx)
    have h_104 := Lib.hid (h_101.out.ext hx)
    have x_104 := Lib.hid (x_101.out.ext hx)
    have rt_104 := Lib.hid (rt_101.out.ext hx)
    have B_104 := Lib.hid (B_101.out.ext hx)
    have g_104 := Lib.hid (g_102.out.ext hx)
    clear A_101 X_101 wi_101 h_101 x_101 rt_101 B_101 g_102
    clear hx
    have zwi := wi_104.out.lt
    have qh0 : w103.cell? ⟨w.heap.size + 1, 0, none⟩ = some (.slice R n q) := h_104.out.at 0 _ rfl
    have qh1 : w103.cell? ⟨w.heap.size + 1, 1, none⟩ = some (.int .i64 keep) := h_104.out.at 1 _ rfl
    have zh := h_104.out.lt
    have qx0 : w103.cell? ⟨w.heap.size + 1 + 1, 0, none⟩ = some (.int .i64 key) := x_104.out.at 0 _ rfl
    have qx1 : w103.cell? ⟨w.heap.size + 1 + 1, 1, none⟩ = some (.int .i64 val) := x_104.out.at 1 _ rfl
    have zx := x_104.out.lt
    have qrt0 : w103.cell? ⟨w90.heap.size, 0, none⟩ = some (.int .i64 root) := rt_104.out.at 0 _ rfl
    have zrt := rt_104.out.lt
    have qg0 : w103.cell? ⟨w97.heap.size, 0, none⟩ = some (.slice S3 n t3) := g_104.out.at 0 _ rfl
    have qg1 : w103.cell? ⟨w97.heap.size, 1, none⟩ = some (.int .i64 keep) := g_104.out.at 1 _ rfl
    have zg := g_104.out.lt
    go_wp2_with (go_at_call 10; refine stop_here ?_)
    refine stop_on ?_
    clear zwi qh0 qh1 zh qx0 qx1 zx qrt0 zrt qg0 qg1 zg
    refine (growFree_is HFR.out A_104.out).mono ?_
    rintro e w105 ⟨rfl, hx⟩
    have A_106 := Lib.hid (A_104.out.ext hx)
    have X_106 := Lib.hid (X_104.out.ext hx)
    have wi_106 := Lib.hid (wi_104.out.ext hx)
    have h_106 := Lib.hid (h_104.out.ext hx)
    have x_106 := Lib.hid (x_104.out.ext hx)
    have rt_106 := Lib.hid (rt_104.out.ext hx)
    have B_106 := Lib.hid (B_104.out.ext hx)
    have g_106 := Lib.hid (g_104.out.ext hx)
    clear A_104 X_104 wi_104 h_104 x_104 rt_104 B_104 g_104
    clear hx
    have zwi := wi_106.out.lt
    have qh0 : w105.cell? ⟨w.heap.size + 1, 0, none⟩ = some (.slice R n q) := h_106.out.at 0 _ rfl
    have qh1 : w105.cell? ⟨w.heap.size + 1, 1, none⟩ = some (.int .i64 keep) := h_106.out.at 1 _ rfl
    have zh := h_106.out.lt
    have qx0 : w105.cell? ⟨w.heap.size + 1 + 1, 0, none⟩ = some (.int .i64 key) := x_106.out.at 0 _ rfl
    have qx1 : w105.cell? ⟨w.heap.size + 1 + 1, 1, none⟩ = some (.int .i64 val) := x_106.out.at 1 _ rfl
    have zx := x_106.out.lt
    have qrt0 : w105.cell? ⟨w90.heap.size, 0, none⟩ = some (.int .i64 root) := rt_106.out.at 0 _ rfl
    have zrt := rt_106.out.lt
    have qg0 : w105.cell? ⟨w97.heap.size, 0, none⟩ = some (.slice S3 n t3) := g_106.out.at 0 _ rfl
    have qg1 : w105.cell? ⟨w97.heap.size, 1, none⟩ = some (.int .i64 keep) := g_106.out.at 1 _ rfl
    have zg := g_106.out.lt
    go_wp2
    go_ret
    exact ⟨rfl, X_106.out⟩
set_option maxRecDepth 100000 in
set_option maxHeartbeats 4000000 in
theorem room_put_false (R : Option Addr) (l : List HC) (n q : Nat) (keep root key val : Int) (w : World) (hA : HcSl w R n q l) (hf : fineB ⟨l, keep⟩ root 40 = true) (hx : okIt (key, val)) (c2 : List HC) (r2 : Int) (hp : putR ⟨l, keep⟩ root (key, val) false = (c2, r2, 0)) :
    Calls Try.prog 3 #[.agg #[.slice R n q, .int .i64 keep, .int .i64 root, .int .i64 key, .int .i64 val, .bool false]] w fun e w' => e = .returned (.bool true) ∧ Ext w w' := by
  have A_107 := Lib.hid (hA)
  have X_108 := Lib.hid (Ext.refl w)
  clear hA
  have hw := (room_when (c := l) (keep := keep) (root := root) (deep := false) hx).1 (by rw [hp])
  have hu := room_uses (by decide) hf hp
  obtain ⟨⟨k0, k1⟩, v0, v1⟩ := hx
  simp only at k0 k1 v0 v1
  have d0 : decide (key < 0) = false := decide_eq_false (by omega)
  have d1 : decide ((2147483647 : Int) < key) = false := decide_eq_false (by omega)
  have d2 : decide (val < 0) = false := decide_eq_false (by omega)
  have d3 : decide ((2147483647 : Int) < val) = false := decide_eq_false (by omega)
  have HM := Lib.hid (mayT_of hf)
  obtain ⟨a1, a2, a3, a4⟩ := fine_all hf
  have A1 := Lib.hid a1
  have A2 := Lib.hid a2
  have A3 := Lib.hid a3
  have HF := Lib.hid hf
  have HP := Lib.hid hp
  obtain ⟨H, hH⟩ : ∃ H, highT l root = H := ⟨_, rfl⟩
  have HH := Lib.hid hH
  have hb := high_bounds l root
  obtain ⟨fr, hfr⟩ : ∃ f, l.countP freeC = f := ⟨_, rfl⟩
  have HFR := Lib.hid hfr
  have hfl : l.countP freeC ≤ l.length := List.countP_le_length
  have hkp := may_keep (fine_may hf).1
  rw [hH] at hb
  rw [hfr] at hfl
  obtain ⟨hb0, hb1⟩ := hb
  obtain ⟨hk0, hk1⟩ := hkp
  have w1 : IntKind.i64.wrap ((fr : Int) - keep) = (fr : Int) - keep := by rw [IntKind.wrap_i64]; omega
  have w2 : IntKind.i64.wrap (2 * H) = 2 * H := by rw [IntKind.wrap_i64]; omega
  have w3 : IntKind.i64.wrap (2 * H + 1) = 2 * H + 1 := by rw [IntKind.wrap_i64]; omega
  rw [hH, hfr] at hw hu
  simp at hw
  obtain ⟨hw1, hw2⟩ := hw
  obtain ⟨u1, u2, u3, u4⟩ := hu
  obtain ⟨b1, b2, b3, b4⟩ := fine_all u1
  have B1 := Lib.hid b1
  have B2 := Lib.hid b2
  have B3 := Lib.hid b3
  have B4 := Lib.hid b4
  obtain ⟨nw, hnw⟩ : ∃ x, highT c2 r2 = x := ⟨_, rfl⟩
  have HNW := Lib.hid hnw
  obtain ⟨lf, hlf⟩ : ∃ x, c2.countP freeC = x := ⟨_, rfl⟩
  have HLF := Lib.hid hlf
  rw [hnw] at u4
  rw [hlf] at u2 u3
  have e1 : decide (2 * H + 1 ≤ (fr : Int) - keep) = true := decide_eq_true (by omega)
  have e2 : decide (H < 20) = true := decide_eq_true hw2
  have w4 : IntKind.i64.wrap ((fr : Int) - (lf : Int)) = (fr : Int) - (lf : Int) := by rw [IntKind.wrap_i64]; omega
  have w5 : IntKind.i64.wrap (H + 1) = H + 1 := by rw [IntKind.wrap_i64]; omega
  have e3 : decide ((fr : Int) - (lf : Int) ≤ 2 * H + 1) = true := decide_eq_true (by omega)
  have hmx : (H < 1 ∧ decide ((1 : Int) ≤ (fr : Int) - (lf : Int)) = true) ∨ (¬ H < 1 ∧ decide (H ≤ (fr : Int) - (lf : Int)) = true) := by
    split at u2
    · exact .inl ⟨by omega, decide_eq_true (by omega)⟩
    · exact .inr ⟨by omega, decide_eq_true (by omega)⟩
  have hc : (nw == H) = true ∨ ((nw == H) = false ∧ (nw == H + 1) = true) := by
    rcases u4 with h | h
    · exact .inl (by simp [h])
    · exact .inr ⟨by simp; omega, by simp [h]⟩
  clear hw1 hw2 hf hp a1 a2 a3 a4 hH hfr k0 k1 v0 v1 u1 u2 u3 u4 b1 b2 b3 b4 hnw hlf
  rcases hmx with ⟨hm, e4⟩ | ⟨hm, e4⟩ <;> rcases hc with e5 | ⟨e5, e6⟩
  all_goals
    go_enter Try.func3, Try.ntmps3
    go_wp2_with (go_at_call 6; refine stop_here ?_)
    refine stop_on ?_
    generalize hW : (World.alloc (World.alloc (World.alloc w _) _) _) = W109
    obtain ⟨hx, hb0, hb1, hb2⟩ := allocs3 hW
    clear hW
    have A_110 := Lib.hid (A_107.out.ext hx)
    have X_110 := Lib.hid (X_108.out.ext hx)
    clear A_107 X_108
    have wi_111 := Lib.hid hb0
    have h_112 := Lib.hid hb1
    have x_113 := Lib.hid hb2
    clear hx hb0 hb1 hb2
    refine (shown_any _).mono ?_
    rintro e w114 ⟨rfl, hx⟩
    have A_115 := Lib.hid (A_110.out.ext hx)
    have X_115 := Lib.hid (X_110.out.ext hx)
    have wi_115 := Lib.hid (wi_111.out.ext hx)
    have h_115 := Lib.hid (h_112.out.ext hx)
    have x_115 := Lib.hid (x_113.out.ext hx)
    clear A_110 X_110 wi_111 h_112 x_113
    clear hx
    have qwi0 : w114.cell? ⟨w.heap.size, 0, none⟩ = some (.slice R n q) := wi_115.out.at 0 _ rfl
    have qwi1 : w114.cell? ⟨w.heap.size, 1, none⟩ = some (.int .i64 keep) := wi_115.out.at 1 _ rfl
    have qwi2 : w114.cell? ⟨w.heap.size, 2, none⟩ = some (.int .i64 root) := wi_115.out.at 2 _ rfl
    have qwi3 : w114.cell? ⟨w.heap.size, 3, none⟩ = some (.int .i64 key) := wi_115.out.at 3 _ rfl
    have qwi4 : w114.cell? ⟨w.heap.size, 4, none⟩ = some (.int .i64 val) := wi_115.out.at 4 _ rfl
    have qwi5 : w114.cell? ⟨w.heap.size, 5, none⟩ = some (.bool false) := wi_115.out.at 5 _ rfl
    have zwi := wi_115.out.lt
    have qh0 : w114.cell? ⟨w.heap.size + 1, 0, none⟩ = some (.slice R n q) := h_115.out.at 0 _ rfl
    have qh1 : w114.cell? ⟨w.heap.size + 1, 1, none⟩ = some (.int .i64 keep) := h_115.out.at 1 _ rfl
    have zh := h_115.out.lt
    have qx0 : w114.cell? ⟨w.heap.size + 1 + 1, 0, none⟩ = some (.int .i64 key) := x_115.out.at 0 _ rfl
    have qx1 : w114.cell? ⟨w.heap.size + 1 + 1, 1, none⟩ = some (.int .i64 val) := x_115.out.at 1 _ rfl
    have zx := x_115.out.lt
    go_wp2_with (go_at_call 7; refine stop_here ?_)
    refine stop_on ?_
    clear qwi0 qwi1 qwi2 qwi3 qwi4 qwi5 zwi qh0 qh1 zh qx0 qx1 zx
    generalize hW : (World.alloc w114 _) = W116
    obtain ⟨hx, hb0⟩ := allocs1 hW
    clear hW
    have A_117 := Lib.hid (A_115.out.ext hx)
    have X_117 := Lib.hid (X_115.out.ext hx)
    have wi_117 := Lib.hid (wi_115.out.ext hx)
    have h_117 := Lib.hid (h_115.out.ext hx)
    have x_117 := Lib.hid (x_115.out.ext hx)
    clear A_115 X_115 wi_115 h_115 x_115
    have rt_118 := Lib.hid hb0
    clear hx hb0
    refine (growFine_is _ 1 40 HF.out A_117.out (show Sl _ _ 1 1 ([root].map iv) from rt_118.out.slP 1 (by unfold maxLen; omega))).mono ?_
    rintro e w119 ⟨rfl, hx⟩
    have A_120 := Lib.hid (A_117.out.ext hx)
    have X_120 := Lib.hid (X_117.out.ext hx)
    have wi_120 := Lib.hid (wi_117.out.ext hx)
    have h_120 := Lib.hid (h_117.out.ext hx)
    have x_120 := Lib.hid (x_117.out.ext hx)
    have rt_120 := Lib.hid (rt_118.out.ext hx)
    clear A_117 X_117 wi_117 h_117 x_117 rt_118
    clear hx
    have zwi := wi_120.out.lt
    have qh0 : w119.cell? ⟨w.heap.size + 1, 0, none⟩ = some (.slice R n q) := h_120.out.at 0 _ rfl
    have qh1 : w119.cell? ⟨w.heap.size + 1, 1, none⟩ = some (.int .i64 keep) := h_120.out.at 1 _ rfl
    have zh := h_120.out.lt
    have qx0 : w119.cell? ⟨w.heap.size + 1 + 1, 0, none⟩ = some (.int .i64 key) := x_120.out.at 0 _ rfl
    have qx1 : w119.cell? ⟨w.heap.size + 1 + 1, 1, none⟩ = some (.int .i64 val) := x_120.out.at 1 _ rfl
    have zx := x_120.out.lt
    have qrt0 : w119.cell? ⟨w114.heap.size, 0, none⟩ = some (.int .i64 root) := rt_120.out.at 0 _ rfl
    have zrt := rt_120.out.lt
    go_wp2_with (go_at_call 8; refine stop_here ?_)
    refine stop_on ?_
    clear zwi qh0 qh1 zh qx0 qx1 zx qrt0 zrt
    refine (growPut_is (by decide) HM.out HP.out A_120.out).mono ?_
    rintro e w121 ⟨S3, t3, rfl, h3, hx⟩
    have A_122 := Lib.hid (A_120.out.ext hx)
    have X_122 := Lib.hid (X_120.out.ext hx)
    have wi_122 := Lib.hid (wi_120.out.ext hx)
    have h_122 := Lib.hid (h_120.out.ext hx)
    have x_122 := Lib.hid (x_120.out.ext hx)
    have rt_122 := Lib.hid (rt_120.out.ext hx)
    clear A_120 X_120 wi_120 h_120 x_120 rt_120
    have B_123 := Lib.hid h3
    clear hx h3
    have zwi := wi_122.out.lt
    have qh0 : w121.cell? ⟨w.heap.size + 1, 0, none⟩ = some (.slice R n q) := h_122.out.at 0 _ rfl
    have qh1 : w121.cell? ⟨w.heap.size + 1, 1, none⟩ = some (.int .i64 keep) := h_122.out.at 1 _ rfl
    have zh := h_122.out.lt
    have qx0 : w121.cell? ⟨w.heap.size + 1 + 1, 0, none⟩ = some (.int .i64 key) := x_122.out.at 0 _ rfl
    have qx1 : w121.cell? ⟨w.heap.size + 1 + 1, 1, none⟩ = some (.int .i64 val) := x_122.out.at 1 _ rfl
    have zx := x_122.out.lt
    have qrt0 : w121.cell? ⟨w114.heap.size, 0, none⟩ = some (.int .i64 root) := rt_122.out.at 0 _ rfl
    have zrt := rt_122.out.lt
    go_wp2_with (go_at_call 9; refine stop_here ?_)
    refine stop_on ?_
    clear zwi qh0 qh1 zh qx0 qx1 zx qrt0 zrt
    generalize hW : (World.alloc w121 _) = W124
    obtain ⟨hx, hb0⟩ := allocs1 hW
    clear hW
    have A_125 := Lib.hid (A_122.out.ext hx)
    have X_125 := Lib.hid (X_122.out.ext hx)
    have wi_125 := Lib.hid (wi_122.out.ext hx)
    have h_125 := Lib.hid (h_122.out.ext hx)
    have x_125 := Lib.hid (x_122.out.ext hx)
    have rt_125 := Lib.hid (rt_122.out.ext hx)
    have B_125 := Lib.hid (B_123.out.ext hx)
    clear A_122 X_122 wi_122 h_122 x_122 rt_122 B_123
    have g_126 := Lib.hid hb0
    clear hx hb0
    refine (growHigh_is A1.out A2.out A3.out HH.out A_125.out).mono ?_
    rintro e w127 ⟨rfl, hx⟩
    have A_128 := Lib.hid (A_125.out.ext hx)
    have X_128 := Lib.hid (X_125.out.ext hx)
    have wi_128 := Lib.hid (wi_125.out.ext hx)
    have h_128 := Lib.hid (h_125.out.ext hx)
    have x_128 := Lib.hid (x_125.out.ext hx)
    have rt_128 := Lib.hid (rt_125.out.ext hx)
    have B_128 := Lib.hid (B_125.out.ext hx)
    have g_128 := Lib.hid (g_126.out.ext hx)
    clear A_125 X_125 wi_125 h_125 x_125 rt_125 B_125 g_126
    clear hx
    have zwi := wi_128.out.lt
    have qh0 : w127.cell? ⟨w.heap.size + 1, 0, none⟩ = some (.slice R n q) := h_128.out.at 0 _ rfl
    have qh1 : w127.cell? ⟨w.heap.size + 1, 1, none⟩ = some (.int .i64 keep) := h_128.out.at 1 _ rfl
    have zh := h_128.out.lt
    have qx0 : w127.cell? ⟨w.heap.size + 1 + 1, 0, none⟩ = some (.int .i64 key) := x_128.out.at 0 _ rfl
    have qx1 : w127.cell? ⟨w.heap.size + 1 + 1, 1, none⟩ = some (.int .i64 val) := x_128.out.at 1 _ rfl
    have zx := x_128.out.lt
    have qrt0 : w127.cell? ⟨w114.heap.size, 0, none⟩ = some (.int .i64 root) := rt_128.out.at 0 _ rfl
    have zrt := rt_128.out.lt
    have qg0 : w127.cell? ⟨w121.heap.size, 0, none⟩ = some (.slice S3 n t3) := g_128.out.at 0 _ rfl
    have qg1 : w127.cell? ⟨w121.heap.size, 1, none⟩ = some (.int .i64 keep) := g_128.out.at 1 _ rfl
    have zg := g_128.out.lt
    go_wp2_with (go_at_call 10; refine stop_here ?_)
    refine stop_on ?_
    clear zwi qh0 qh1 zh qx0 qx1 zx qrt0 zrt qg0 qg1 zg
    refine (growFree_is HFR.out A_128.out).mono ?_
    rintro e w129 ⟨rfl, hx⟩
    have A_130 := Lib.hid (A_128.out.ext hx)
    have X_130 := Lib.hid (X_128.out.ext hx)
    have wi_130 := Lib.hid (wi_128.out.ext hx)
    have h_130 := Lib.hid (h_128.out.ext hx)
    have x_130 := Lib.hid (x_128.out.ext hx)
    have rt_130 := Lib.hid (rt_128.out.ext hx)
    have B_130 := Lib.hid (B_128.out.ext hx)
    have g_130 := Lib.hid (g_128.out.ext hx)
    clear A_128 X_128 wi_128 h_128 x_128 rt_128 B_128 g_128
    clear hx
    have zwi := wi_130.out.lt
    have qh0 : w129.cell? ⟨w.heap.size + 1, 0, none⟩ = some (.slice R n q) := h_130.out.at 0 _ rfl
    have qh1 : w129.cell? ⟨w.heap.size + 1, 1, none⟩ = some (.int .i64 keep) := h_130.out.at 1 _ rfl
    have zh := h_130.out.lt
    have qx0 : w129.cell? ⟨w.heap.size + 1 + 1, 0, none⟩ = some (.int .i64 key) := x_130.out.at 0 _ rfl
    have qx1 : w129.cell? ⟨w.heap.size + 1 + 1, 1, none⟩ = some (.int .i64 val) := x_130.out.at 1 _ rfl
    have zx := x_130.out.lt
    have qrt0 : w129.cell? ⟨w114.heap.size, 0, none⟩ = some (.int .i64 root) := rt_130.out.at 0 _ rfl
    have zrt := rt_130.out.lt
    have qg0 : w129.cell? ⟨w121.heap.size, 0, none⟩ = some (.slice S3 n t3) := g_130.out.at 0 _ rfl
    have qg1 : w129.cell? ⟨w121.heap.size, 1, none⟩ = some (.int .i64 keep) := g_130.out.at 1 _ rfl
    have zg := g_130.out.lt
    go_wp2_with (go_at_call 11; refine stop_here ?_)
    refine stop_on ?_
    clear zwi qh0 qh1 zh qx0 qx1 zx qrt0 zrt qg0 qg1 zg
    refine (growMay_is 40 B4.out B_130.out).mono ?_
    rintro e w131 ⟨rfl, hx⟩
    have A_132 := Lib.hid (A_130.out.ext hx)
    have X_132 := Lib.hid (X_130.out.ext hx)
    have wi_132 := Lib.hid (wi_130.out.ext hx)
    have h_132 := Lib.hid (h_130.out.ext hx)
    have x_132 := Lib.hid (x_130.out.ext hx)
    have rt_132 := Lib.hid (rt_130.out.ext hx)
    have B_132 := Lib.hid (B_130.out.ext hx)
    have g_132 := Lib.hid (g_130.out.ext hx)
    clear A_130 X_130 wi_130 h_130 x_130 rt_130 B_130 g_130
    clear hx
    have zwi := wi_132.out.lt
    have qh0 : w131.cell? ⟨w.heap.size + 1, 0, none⟩ = some (.slice R n q) := h_132.out.at 0 _ rfl
    have qh1 : w131.cell? ⟨w.heap.size + 1, 1, none⟩ = some (.int .i64 keep) := h_132.out.at 1 _ rfl
    have zh := h_132.out.lt
    have qx0 : w131.cell? ⟨w.heap.size + 1 + 1, 0, none⟩ = some (.int .i64 key) := x_132.out.at 0 _ rfl
    have qx1 : w131.cell? ⟨w.heap.size + 1 + 1, 1, none⟩ = some (.int .i64 val) := x_132.out.at 1 _ rfl
    have zx := x_132.out.lt
    have qrt0 : w131.cell? ⟨w114.heap.size, 0, none⟩ = some (.int .i64 root) := rt_132.out.at 0 _ rfl
    have zrt := rt_132.out.lt
    have qg0 : w131.cell? ⟨w121.heap.size, 0, none⟩ = some (.slice S3 n t3) := g_132.out.at 0 _ rfl
    have qg1 : w131.cell? ⟨w121.heap.size, 1, none⟩ = some (.int .i64 keep) := g_132.out.at 1 _ rfl
    have zg := g_132.out.lt
    go_wp2_with (go_at_call 10; refine stop_here ?_)
    refine stop_on ?_
    clear zwi qh0 qh1 zh qx0 qx1 zx qrt0 zrt qg0 qg1 zg
    refine (growFree_is HLF.out B_132.out).mono ?_
    rintro e w133 ⟨rfl, hx⟩
    have A_134 := Lib.hid (A_132.out.ext hx)
    have X_134 := Lib.hid (X_132.out.ext hx)
    have wi_134 := Lib.hid (wi_132.out.ext hx)
    have h_134 := Lib.hid (h_132.out.ext hx)
    have x_134 := Lib.hid (x_132.out.ext hx)
    have rt_134 := Lib.hid (rt_132.out.ext hx)
    have B_134 := Lib.hid (B_132.out.ext hx)
    have g_134 := Lib.hid (g_132.out.ext hx)
    clear A_132 X_132 wi_132 h_132 x_132 rt_132 B_132 g_132
    clear hx
    have zwi := wi_134.out.lt
    have qh0 : w133.cell? ⟨w.heap.size + 1, 0, none⟩ = some (.slice R n q) := h_134.out.at 0 _ rfl
    have qh1 : w133.cell? ⟨w.heap.size + 1, 1, none⟩ = some (.int .i64 keep) := h_134.out.at 1 _ rfl
    have zh := h_134.out.lt
    have qx0 : w133.cell? ⟨w.heap.size + 1 + 1, 0, none⟩ = some (.int .i64 key) := x_134.out.at 0 _ rfl
    have qx1 : w133.cell? ⟨w.heap.size + 1 + 1, 1, none⟩ = some (.int .i64 val) := x_134.out.at 1 _ rfl
    have zx := x_134.out.lt
    have qrt0 : w133.cell? ⟨w114.heap.size, 0, none⟩ = some (.int .i64 root) := rt_134.out.at 0 _ rfl
    have zrt := rt_134.out.lt
    have qg0 : w133.cell? ⟨w121.heap.size, 0, none⟩ = some (.slice S3 n t3) := g_134.out.at 0 _ rfl
    have qg1 : w133.cell? ⟨w121.heap.size, 1, none⟩ = some (.int .i64 keep) := g_134.out.at 1 _ rfl
    have zg := g_134.out.lt
    go_wp2_with (go_at_call 9; refine stop_here ?_)
    refine stop_on ?_
    clear zwi qh0 qh1 zh qx0 qx1 zx qrt0 zrt qg0 qg1 zg
    refine (growHigh_is B1.out B2.out B3.out HNW.out B_134.out).mono ?_
    rintro e w135 ⟨rfl, hx⟩
    have A_136 := Lib.hid (A_134.out.ext hx)
    have X_136 := Lib.hid (X_134.out.ext hx)
    have wi_136 := Lib.hid (wi_134.out.ext hx)
    have h_136 := Lib.hid (h_134.out.ext hx)
    have x_136 := Lib.hid (x_134.out.ext hx)
    have rt_136 := Lib.hid (rt_134.out.ext hx)
    have B_136 := Lib.hid (B_134.out.ext hx)
    have g_136 := Lib.hid (g_134.out.ext hx)
    clear A_134 X_134 wi_134 h_134 x_134 rt_134 B_134 g_134
    clear hx
    have zwi := wi_136.out.lt
    have qh0 : w135.cell? ⟨w.heap.size + 1, 0, none⟩ = some (.slice R n q) := h_136.out.at 0 _ rfl
    have qh1 : w135.cell? ⟨w.heap.size + 1, 1, none⟩ = some (.int .i64 keep) := h_136.out.at 1 _ rfl
    have zh := h_136.out.lt
    have qx0 : w135.cell? ⟨w.heap.size + 1 + 1, 0, none⟩ = some (.int .i64 key) := x_136.out.at 0 _ rfl
    have qx1 : w135.cell? ⟨w.heap.size + 1 + 1, 1, none⟩ = some (.int .i64 val) := x_136.out.at 1 _ rfl
    have zx := x_136.out.lt
    have qrt0 : w135.cell? ⟨w114.heap.size, 0, none⟩ = some (.int .i64 root) := rt_136.out.at 0 _ rfl
    have zrt := rt_136.out.lt
    have qg0 : w135.cell? ⟨w121.heap.size, 0, none⟩ = some (.slice S3 n t3) := g_136.out.at 0 _ rfl
    have qg1 : w135.cell? ⟨w121.heap.size, 1, none⟩ = some (.int .i64 keep) := g_136.out.at 1 _ rfl
    have zg := g_136.out.lt
    go_wp2
    go_ret
    exact ⟨rfl, X_136.out⟩
theorem room_any (R : Option Addr) (l : List HC) (n q : Nat) (keep root key val : Int) (deep : Bool) (w : World) (hA : HcSl w R n q l) :
    Calls Try.prog 3 #[.agg #[.slice R n q, .int .i64 keep, .int .i64 root, .int .i64 key, .int .i64 val, .bool deep]] w fun e w' => e = .returned (.bool true) ∧ Ext w w' := by
  cases hf : fineB ⟨l, keep⟩ root 40
  · exact room_not R l n q keep root key val deep w hA hf
  · by_cases hx : okIt (key, val)
    · obtain ⟨⟨c2, r2, e2⟩, hp⟩ : ∃ pr, putR ⟨l, keep⟩ root (key, val) deep = pr := ⟨_, rfl⟩
      have hw := put_when (c := l) (keep := keep) (root := root) (deep := deep) hx
      rw [hp] at hw
      simp only at hw
      rcases hw with rfl | rfl
      · cases deep
        · exact room_put_false R l n q keep root key val w hA hf hx c2 r2 hp
        · exact room_put_true R l n q keep root key val w hA hf hx c2 r2 hp
      · cases deep
        · exact room_full_false R l n q keep root key val w hA hf hx c2 r2 hp
        · exact room_full_true R l n q keep root key val w hA hf hx c2 r2 hp
    · exact room_out R l n q keep root key val deep w hA hf hx
end Go.Proofs.Ytkoomcbiddanfaa

