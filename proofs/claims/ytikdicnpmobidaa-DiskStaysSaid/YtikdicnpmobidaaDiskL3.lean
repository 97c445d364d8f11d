/- The walk of DiskPuts. -/
import Derived.Test.YtikdicnpmobidaaLaw
import Derived.Test.YtikdicnpmobidaaDiskL2
namespace Go.Proofs.Ytikdicnpmobidaa
open Go.RowKit
attribute [local go_sem ↓] Go.wp_at_zero Go.wp_at_succ

theorem rightS_put {b : List ByteArray} {l : List Wr} {x : Wr} (h : rightS b l = true) (hx : takesS b.length x = true) : rightS b (l ++ [x]) = true := by
  unfold rightS at *
  simp only [Bool.and_eq_true, decide_eq_true_eq, List.all_append, List.all_cons, List.all_nil, Bool.and_true] at *
  exact ⟨h.1, h.2.1, h.2.2.1, h.2.2.2, hx⟩
theorem lastW_app (l : List Wr) (x : Wr) (at_ : Int) (s : ByteArray) : lastW (l ++ [x]) at_ s = if x.1 = at_ then x.2 else lastW l at_ s := by
  unfold lastW; rw [List.foldl_append]; rfl
theorem readS_put (b : List ByteArray) (l : List Wr) (x : Wr) (at_ : Int) (h : hasS b.length at_ = true) : readS b (l ++ [x]) at_ = if x.1 = at_ then x.2 else readS b l at_ := by
  unfold readS; rw [if_pos h, if_pos h, lastW_app]
theorem readE_has {b : List ByteArray} {at_ : Int} (h : hasS b.length at_ = true) : readE b at_ = 0 := by unfold readE; rw [if_pos h]
theorem hasS_nat {n k : Nat} (h : k < n) : hasS n (k : Int) = true := by
  unfold hasS; simp; omega
theorem writeL_app (b : List ByteArray) (l m : List Wr) : writeL b (l ++ m) = writeL (writeL b l) m := by unfold writeL; rw [List.foldl_append]
theorem write1_comm (b : List ByteArray) (x y : Wr) (h : x.1 ≠ y.1) : write1 (write1 b x) y = write1 (write1 b y) x := by
  by_cases hx : hasS b.length x.1 = true <;> by_cases hy : hasS b.length y.1 = true
  · unfold write1
    simp only [hx, hy, if_true, List.length_set]
    have hx' := hx; have hy' := hy
    unfold hasS at hx' hy'
    simp only [Bool.and_eq_true, decide_eq_true_eq] at hx' hy'
    rw [List.set_comm _ _ (by omega)]
  all_goals (unfold write1; simp [hx, hy])
theorem writeL_swap (b : List ByteArray) (l : List Wr) (x y : Wr) (h : x.1 ≠ y.1) : writeL b (l ++ [x] ++ [y]) = writeL b (l ++ [y] ++ [x]) := by
  rw [writeL_app, writeL_app, writeL_app b (l ++ [y]), writeL_app b l]
  exact write1_comm _ x y h
theorem all_put {n : Nat} {l : List Wr} {x : Wr} (h : l.all (takesS n) = true) (hx : takesS n x = true) : (l ++ [x]).all (takesS n) = true := by
  simp only [List.all_append, List.all_cons, List.all_nil, Bool.and_true, Bool.and_eq_true]; exact ⟨h, hx⟩
theorem putW_yes {b : List ByteArray} {l : List Wr} {x : Wr} (h : takesS b.length x = true) : putW b l x = l ++ [x] := by unfold putW; rw [if_pos h]
theorem putW_no {b : List ByteArray} {l : List Wr} {x : Wr} (h : takesS b.length x = false) : putW b l x = l := by unfold putW; rw [h]; rfl
theorem putE_yes {b : List ByteArray} {x : Wr} (h : takesS b.length x = true) : putE b x = 0 := by unfold putE; rw [if_pos h]
theorem putE_no {b : List ByteArray} {x : Wr} (h : takesS b.length x = false) : putE b x = 1 := by unfold putE; rw [h]; rfl
theorem takes_size {n : Nat} {x : Wr} (h : takesS n x = true) : x.2.size = 40 ∧ 0 ≤ x.1 ∧ x.1 < n := by
  unfold takesS hasS at h
  simp only [Bool.and_eq_true, decide_eq_true_eq, beq_iff_eq] at h
  omega

theorem okB_write1 {b : List ByteArray} {x : Wr} (h : b.all okB = true) (hx : takesS b.length x = true) : (write1 b x).all okB = true := by
  unfold write1; split
  · rw [List.all_eq_true] at h ⊢
    intro s hs
    rcases List.mem_or_eq_of_mem_set hs with h' | rfl
    · exact h s h'
    · unfold okB; have := (takes_size hx).1; simp [this]
  · exact h
theorem okB_writeL : ∀ (l : List Wr) (b : List ByteArray), b.all okB = true → l.all (takesS b.length) = true → (writeL b l).all okB = true
  | [], b, h, _ => h
  | x :: l, b, h, hl => by
    simp only [List.all_cons, Bool.and_eq_true] at hl
    exact okB_writeL l (write1 b x) (okB_write1 h hl.1) (by rw [write1_length]; exact hl.2)
theorem rightS_write' {b : List ByteArray} {l m : List Wr} (h : rightS b l = true) (hm : m.all (takesS b.length) = true) : rightS (writeL b m) [] = true := by
  unfold rightS at *
  simp only [Bool.and_eq_true, decide_eq_true_eq, writeL_length] at *
  exact ⟨h.1, h.2.1, okB_writeL m b h.2.2.1 hm, rfl⟩
theorem rightS_write {b : List ByteArray} {l : List Wr} (h : rightS b l = true) : rightS (writeL b l) [] = true := rightS_write' h (right_facts h).2
theorem flushD_to (A A' : Option Addr) (b : List ByteArray) (l : List Wr) (fb : List ByteArray) (c c' : Nat) (w : World) (hb : b.length ≤ 1000000) (hl : l.length ≤ 1000000) (hf : writeL b l = fb) (hA0 : Sl w A b.length c (b.map sv)) (hA0' : Sl w A' l.length c' (wvs l)) :
    Calls Try.prog 24 #[.agg #[.slice A b.length c, .slice A' l.length c']] w fun e w' => ∃ v, e = .returned v ∧ IsDisk w' v fb [] ∧ Ext w w' := by
  subst hf; exact flushD_any A A' b l c c' w hb hl hA0 hA0'
theorem same0R_any (F F' G G' : Option Addr) (fb : List ByteArray) (kf kf' kg kg' : Nat) (w : World) (h : fb.length ≤ 1000000) (hF : Sl w F fb.length kf (fb.map sv)) (hG : Sl w G fb.length kg (fb.map sv)) :
    Calls Try.prog 14 #[.agg #[.slice F fb.length kf, .slice F' 0 kf'], .agg #[.slice G fb.length kg, .slice G' 0 kg']] w fun e w' => e = .returned (.bool true) ∧ Ext w w' := by
  have hm : fb.length ≤ maxLen := by unfold maxLen; omega
  have h := sameR_any F F' G G' fb fb [] [] kf kf' kg kg' w hm hm (by unfold maxLen; simp) (by unfold maxLen; simp) hF.cells hG.cells (Cells.nil _ _) (Cells.nil _ _)
  rw [same1] at h
  exact h

set_option maxRecDepth 100000 in
set_option maxHeartbeats 8000000 in
theorem puts_any (A A' : Option Addr) (b : List ByteArray) (l : List Wr) (c c' : Nat) (xa ya : Int) (xs ys : ByteArray) (w : World)
    (hA : Sl w A b.length c (b.map sv)) (hA' : Sl w A' l.length c' (wvs l)) :
    Calls Try.prog 6 #[.agg #[.slice A b.length c, .slice A' l.length c'], .agg #[.int .i64 xa, .string xs], .agg #[.int .i64 ya, .string ys]] w fun e w' => e = .returned (.bool true) ∧ Ext w w' := by
  have A_1 := Lib.hid (hA)
  have B_2 := Lib.hid (hA')
  have X_3 := Lib.hid (Ext.refl w)
  clear hA hA'
  go_enter Try.func6, Try.ntmps6
  go_wp2_with (go_at_call 9; refine stop_here ?_)
  refine stop_on ?_
  generalize hW : (World.alloc (World.alloc (World.alloc w _) _) _) = W4
  obtain ⟨hx, hb0, hb1, hb2⟩ := allocs3 hW
  clear hW
  have A_5 := Lib.hid (A_1.out.ext hx)
  have B_5 := Lib.hid (B_2.out.ext hx)
  have X_5 := Lib.hid (X_3.out.ext hx)
  clear A_1 B_2 X_3
  have d_6 := Lib.hid hb0
  have x_7 := Lib.hid hb1
  have y_8 := Lib.hid hb2
  clear hx hb0 hb1 hb2
  refine (shown_any _).mono ?_
  rintro e w9 ⟨rfl, hx⟩
  have A_10 := Lib.hid (A_5.out.ext hx)
  have B_10 := Lib.hid (B_5.out.ext hx)
  have X_10 := Lib.hid (X_5.out.ext hx)
  have d_10 := Lib.hid (d_6.out.ext hx)
  have x_10 := Lib.hid (x_7.out.ext hx)
  have y_10 := Lib.hid (y_8.out.ext hx)
  clear A_5 B_5 X_5 d_6 x_7 y_8
  clear hx
  have qd0 : w9.cell? ⟨w.heap.size, 0, none⟩ = some (.slice A b.length c) := d_10.out.at 0 _ rfl
  have qd1 : w9.cell? ⟨w.heap.size, 1, none⟩ = some (.slice A' l.length c') := d_10.out.at 1 _ rfl
  have zd := d_10.out.lt
  have qx0 : w9.cell? ⟨w.heap.size + 1, 0, none⟩ = some (.int .i64 xa) := x_10.out.at 0 _ rfl
  have qx1 : w9.cell? ⟨w.heap.size + 1, 1, none⟩ = some (.string xs) := x_10.out.at 1 _ rfl
  have zx := x_10.out.lt
  have qy0 : w9.cell? ⟨w.heap.size + 1 + 1, 0, none⟩ = some (.int .i64 ya) := y_10.out.at 0 _ rfl
  have qy1 : w9.cell? ⟨w.heap.size + 1 + 1, 1, none⟩ = some (.string ys) := y_10.out.at 1 _ rfl
  have zy := y_10.out.lt
  have hza := A_10.out.len
  have hzb := B_10.out.len
  cases hs : smallS b l 60
  · have Hs := Lib.hid hs
    clear hs
    go_wp2_with (go_at_call 10; refine stop_here ?_)
    refine stop_on ?_
    clear qd0 qd1 zd qx0 qx1 zx qy0 qy1 zy
    have hc := small_any A A' b l c c' 60 _ hza hzb A_10.out.cells B_10.out.cells
    rw [Hs.out] at hc
    refine hc.mono ?_
    clear hc
    rintro e w11 ⟨rfl, hx⟩
    have A_12 := Lib.hid (A_10.out.ext hx)
    have B_12 := Lib.hid (B_10.out.ext hx)
    have X_12 := Lib.hid (X_10.out.ext hx)
    have d_12 := Lib.hid (d_10.out.ext hx)
    have x_12 := Lib.hid (x_10.out.ext hx)
    have y_12 := Lib.hid (y_10.out.ext hx)
    clear A_10 B_10 X_10 d_10 x_10 y_10
    clear hx
    have qd0 : w11.cell? ⟨w.heap.size, 0, none⟩ = some (.slice A b.length c) := d_12.out.at 0 _ rfl
    have qd1 : w11.cell? ⟨w.heap.size, 1, none⟩ = some (.slice A' l.length c') := d_12.out.at 1 _ rfl
    have zd := d_12.out.lt
    have qx0 : w11.cell? ⟨w.heap.size + 1, 0, none⟩ = some (.int .i64 xa) := x_12.out.at 0 _ rfl
    have qx1 : w11.cell? ⟨w.heap.size + 1, 1, none⟩ = some (.string xs) := x_12.out.at 1 _ rfl
    have zx := x_12.out.lt
    have qy0 : w11.cell? ⟨w.heap.size + 1 + 1, 0, none⟩ = some (.int .i64 ya) := y_12.out.at 0 _ rfl
    have qy1 : w11.cell? ⟨w.heap.size + 1 + 1, 1, none⟩ = some (.string ys) := y_12.out.at 1 _ rfl
    have zy := y_12.out.lt
    go_wp2
    go_ret
    exact ⟨rfl, X_12.out⟩
  have ⟨lb, ll⟩ := small_len' hs
  have Hs := Lib.hid hs
  clear hs
  go_wp2_with (go_at_call 10; refine stop_here ?_)
  refine stop_on ?_
  clear qd0 qd1 zd qx0 qx1 zx qy0 qy1 zy
  have hc := small_any A A' b l c c' 60 _ hza hzb A_10.out.cells B_10.out.cells
  rw [Hs.out] at hc
  refine hc.mono ?_
  clear hc
  rintro e w13 ⟨rfl, hx⟩
  have A_14 := Lib.hid (A_10.out.ext hx)
  have B_14 := Lib.hid (B_10.out.ext hx)
  have X_14 := Lib.hid (X_10.out.ext hx)
  have d_14 := Lib.hid (d_10.out.ext hx)
  have x_14 := Lib.hid (x_10.out.ext hx)
  have y_14 := Lib.hid (y_10.out.ext hx)
  clear A_10 B_10 X_10 d_10 x_10 y_10
  clear hx
  have qd0 : w13.cell? ⟨w.heap.size, 0, none⟩ = some (.slice A b.length c) := d_14.out.at 0 _ rfl
  have qd1 : w13.cell? ⟨w.heap.size, 1, none⟩ = some (.slice A' l.length c') := d_14.out.at 1 _ rfl
  have zd := d_14.out.lt
  have qx0 : w13.cell? ⟨w.heap.size + 1, 0, none⟩ = some (.int .i64 xa) := x_14.out.at 0 _ rfl
  have qx1 : w13.cell? ⟨w.heap.size + 1, 1, none⟩ = some (.string xs) := x_14.out.at 1 _ rfl
  have zx := x_14.out.lt
  have qy0 : w13.cell? ⟨w.heap.size + 1 + 1, 0, none⟩ = some (.int .i64 ya) := y_14.out.at 0 _ rfl
  have qy1 : w13.cell? ⟨w.heap.size + 1 + 1, 1, none⟩ = some (.string ys) := y_14.out.at 1 _ rfl
  have zy := y_14.out.lt
  cases hr : rightS b l
  · have Hr := Lib.hid hr
    clear hr
    go_wp2_with (go_at_call 13; refine stop_here ?_)
    refine stop_on ?_
    clear qd0 qd1 zd qx0 qx1 zx qy0 qy1 zy
    have hc := rightR_any A A' b l c c' _ hza hzb A_14.out.cells B_14.out.cells
    rw [Hr.out] at hc
    refine hc.mono ?_
    clear hc
    rintro e w15 ⟨rfl, hx⟩
    have A_16 := Lib.hid (A_14.out.ext hx)
    have B_16 := Lib.hid (B_14.out.ext hx)
    have X_16 := Lib.hid (X_14.out.ext hx)
    have d_16 := Lib.hid (d_14.out.ext hx)
    have x_16 := Lib.hid (x_14.out.ext hx)
    have y_16 := Lib.hid (y_14.out.ext hx)
    clear A_14 B_14 X_14 d_14 x_14 y_14
    clear hx
    have qd0 : w15.cell? ⟨w.heap.size, 0, none⟩ = some (.slice A b.length c) := d_16.out.at 0 _ rfl
    have qd1 : w15.cell? ⟨w.heap.size, 1, none⟩ = some (.slice A' l.length c') := d_16.out.at 1 _ rfl
    have zd := d_16.out.lt
    have qx0 : w15.cell? ⟨w.heap.size + 1, 0, none⟩ = some (.int .i64 xa) := x_16.out.at 0 _ rfl
    have qx1 : w15.cell? ⟨w.heap.size + 1, 1, none⟩ = some (.string xs) := x_16.out.at 1 _ rfl
    have zx := x_16.out.lt
    have qy0 : w15.cell? ⟨w.heap.size + 1 + 1, 0, none⟩ = some (.int .i64 ya) := y_16.out.at 0 _ rfl
    have qy1 : w15.cell? ⟨w.heap.size + 1 + 1, 1, none⟩ = some (.string ys) := y_16.out.at 1 _ rfl
    have zy := y_16.out.lt
    go_wp2
    go_ret
    exact ⟨rfl, X_16.out⟩
  have ⟨lb1, hin⟩ := right_facts hr
  have Hr := Lib.hid hr
  have HIN := Lib.hid hin
  clear hr hin
  go_wp2_with (go_at_call 13; refine stop_here ?_)
  refine stop_on ?_
  clear qd0 qd1 zd qx0 qx1 zx qy0 qy1 zy
  have hc := rightR_any A A' b l c c' _ hza hzb A_14.out.cells B_14.out.cells
  rw [Hr.out] at hc
  refine hc.mono ?_
  clear hc
  rintro e w17 ⟨rfl, hx⟩
  have A_18 := Lib.hid (A_14.out.ext hx)
  have B_18 := Lib.hid (B_14.out.ext hx)
  have X_18 := Lib.hid (X_14.out.ext hx)
  have d_18 := Lib.hid (d_14.out.ext hx)
  have x_18 := Lib.hid (x_14.out.ext hx)
  have y_18 := Lib.hid (y_14.out.ext hx)
  clear A_14 B_14 X_14 d_14 x_14 y_14
  clear hx
  have qd0 : w17.cell? ⟨w.heap.size, 0, none⟩ = some (.slice A b.length c) := d_18.out.at 0 _ rfl
  have qd1 : w17.cell? ⟨w.heap.size, 1, none⟩ = some (.slice A' l.length c') := d_18.out.at 1 _ rfl
  have zd := d_18.out.lt
  have qx0 : w17.cell? ⟨w.heap.size + 1, 0, none⟩ = some (.int .i64 xa) := x_18.out.at 0 _ rfl
  have qx1 : w17.cell? ⟨w.heap.size + 1, 1, none⟩ = some (.string xs) := x_18.out.at 1 _ rfl
  have zx := x_18.out.lt
  have qy0 : w17.cell? ⟨w.heap.size + 1 + 1, 0, none⟩ = some (.int .i64 ya) := y_18.out.at 0 _ rfl
  have qy1 : w17.cell? ⟨w.heap.size + 1 + 1, 1, none⟩ = some (.string ys) := y_18.out.at 1 _ rfl
  have zy := y_18.out.lt
  by_cases hxs : 100 < (xs.size : Int)
  · go_wp2
    go_ret
    exact ⟨rfl, X_18.out⟩
  by_cases hys : 100 < (ys.size : Int)
  · go_wp2
    go_ret
    exact ⟨rfl, X_18.out⟩
  cases ht : takesS b.length (xa, xs)
  · have Ht := Lib.hid ht
    clear ht
    go_wp2_with (go_at_call 20; refine stop_here ?_)
    refine stop_on ?_
    clear qd0 qd1 zd qx0 qx1 zx qy0 qy1 zy
    have hc := putD_any A A' b l c c' xa xs _ (by omega) (by omega) A_18.out B_18.out
    rw [putE_no Ht.out, putW_no Ht.out] at hc
    refine hc.mono ?_
    clear hc
    rintro e w19 ⟨v, rfl, ⟨P, kp, Q, kq, rfl, h1, h2⟩, hx⟩
    have A_20 := Lib.hid (A_18.out.ext hx)
    have B_20 := Lib.hid (B_18.out.ext hx)
    have X_20 := Lib.hid (X_18.out.ext hx)
    have d_20 := Lib.hid (d_18.out.ext hx)
    have x_20 := Lib.hid (x_18.out.ext hx)
    have y_20 := Lib.hid (y_18.out.ext hx)
    clear A_18 B_18 X_18 d_18 x_18 y_18
    have P_21 := Lib.hid h1
    have Q_22 := Lib.hid h2
    clear hx h1 h2
    have qd0 : w19.cell? ⟨w.heap.size, 0, none⟩ = some (.slice A b.length c) := d_20.out.at 0 _ rfl
    have qd1 : w19.cell? ⟨w.heap.size, 1, none⟩ = some (.slice A' l.length c') := d_20.out.at 1 _ rfl
    have zd := d_20.out.lt
    have qx0 : w19.cell? ⟨w.heap.size + 1, 0, none⟩ = some (.int .i64 xa) := x_20.out.at 0 _ rfl
    have qx1 : w19.cell? ⟨w.heap.size + 1, 1, none⟩ = some (.string xs) := x_20.out.at 1 _ rfl
    have zx := x_20.out.lt
    have qy0 : w19.cell? ⟨w.heap.size + 1 + 1, 0, none⟩ = some (.int .i64 ya) := y_20.out.at 0 _ rfl
    have qy1 : w19.cell? ⟨w.heap.size + 1 + 1, 1, none⟩ = some (.string ys) := y_20.out.at 1 _ rfl
    have zy := y_20.out.lt
    go_wp2_with (go_at_call 14; refine stop_here ?_)
    refine stop_on ?_
    clear qd0 qd1 zd qx0 qx1 zx qy0 qy1 zy
    generalize hW : (World.alloc w19 _) = W23
    obtain ⟨hx, hb0⟩ := allocs1 hW
    clear hW
    have A_24 := Lib.hid (A_20.out.ext hx)
    have B_24 := Lib.hid (B_20.out.ext hx)
    have X_24 := Lib.hid (X_20.out.ext hx)
    have d_24 := Lib.hid (d_20.out.ext hx)
    have x_24 := Lib.hid (x_20.out.ext hx)
    have y_24 := Lib.hid (y_20.out.ext hx)
    have P_24 := Lib.hid (P_21.out.ext hx)
    have Q_24 := Lib.hid (Q_22.out.ext hx)
    clear A_20 B_20 X_20 d_20 x_20 y_20 P_21 Q_22
    have p_25 := Lib.hid hb0
    clear hx hb0
    have hc := sameR_any P Q A A' b b l l kp kq c c' _ hza hza hzb hzb P_24.out.cells A_24.out.cells Q_24.out.cells B_24.out.cells
    rw [same1] at hc
    refine hc.mono ?_
    clear hc
    rintro e w26 ⟨rfl, hx⟩
    have A_27 := Lib.hid (A_24.out.ext hx)
    have B_27 := Lib.hid (B_24.out.ext hx)
    have X_27 := Lib.hid (X_24.out.ext hx)
    have d_27 := Lib.hid (d_24.out.ext hx)
    have x_27 := Lib.hid (x_24.out.ext hx)
    have y_27 := Lib.hid (y_24.out.ext hx)
    have P_27 := Lib.hid (P_24.out.ext hx)
    have Q_27 := Lib.hid (Q_24.out.ext hx)
    have p_27 := Lib.hid (p_25.out.ext hx)
    clear A_24 B_24 X_24 d_24 x_24 y_24 P_24 Q_24 p_25
    clear hx
    have qd0 : w26.cell? ⟨w.heap.size, 0, none⟩ = some (.slice A b.length c) := d_27.out.at 0 _ rfl
    have qd1 : w26.cell? ⟨w.heap.size, 1, none⟩ = some (.slice A' l.length c') := d_27.out.at 1 _ rfl
    have zd := d_27.out.lt
    have qx0 : w26.cell? ⟨w.heap.size + 1, 0, none⟩ = some (.int .i64 xa) := x_27.out.at 0 _ rfl
    have qx1 : w26.cell? ⟨w.heap.size + 1, 1, none⟩ = some (.string xs) := x_27.out.at 1 _ rfl
    have zx := x_27.out.lt
    have qy0 : w26.cell? ⟨w.heap.size + 1 + 1, 0, none⟩ = some (.int .i64 ya) := y_27.out.at 0 _ rfl
    have qy1 : w26.cell? ⟨w.heap.size + 1 + 1, 1, none⟩ = some (.string ys) := y_27.out.at 1 _ rfl
    have zy := y_27.out.lt
    have qp0 := p_27.out.at 0 _ rfl
    have qp1 := p_27.out.at 1 _ rfl
    have zp := p_27.out.lt
    go_wp2
    go_ret
    exact ⟨rfl, X_27.out⟩
  obtain ⟨l2, hl2⟩ : ∃ l2, l2 = l ++ [(xa, xs)] := ⟨_, rfl⟩
  have ll2 : (l2.length : Int) ≤ 61 := by rw [hl2]; simp; omega
  have Hr2 := Lib.hid (show rightS b l2 = true by rw [hl2]; exact rightS_put Hr.out ht)
  have Hin2 := Lib.hid (show l2.all (takesS b.length) = true by rw [hl2]; exact all_put HIN.out ht)
  have Hne := Lib.hid (show ∀ k : Nat, k < b.length → (k : Int) ≠ xa → readS b l2 k = readS b l k from fun k h1 h2 => by rw [hl2, readS_put _ _ _ _ (hasS_nat h1), if_neg (fun e => h2 e.symm)])
  have Heq := Lib.hid (show ∀ k : Nat, k < b.length → (k : Int) = xa → readS b l2 k = xs from fun k h1 h2 => by rw [hl2, readS_put _ _ _ _ (hasS_nat h1), if_pos h2.symm])
  have Hl2 := Lib.hid hl2
  have Ht := Lib.hid ht
  clear ht hl2
  go_wp2_with (go_at_call 20; refine stop_here ?_)
  refine stop_on ?_
  clear qd0 qd1 zd qx0 qx1 zx qy0 qy1 zy
  have hc := putD_any A A' b l c c' xa xs _ (by omega) (by omega) A_18.out B_18.out
  rw [putE_yes Ht.out, putW_yes Ht.out, ← Hl2.out] at hc
  refine hc.mono ?_
  clear hc
  rintro e w28 ⟨v, rfl, ⟨P, kp, Q, kq, rfl, h1, h2⟩, hx⟩
  have A_29 := Lib.hid (A_18.out.ext hx)
  have B_29 := Lib.hid (B_18.out.ext hx)
  have X_29 := Lib.hid (X_18.out.ext hx)
  have d_29 := Lib.hid (d_18.out.ext hx)
  have x_29 := Lib.hid (x_18.out.ext hx)
  have y_29 := Lib.hid (y_18.out.ext hx)
  clear A_18 B_18 X_18 d_18 x_18 y_18
  have P_30 := Lib.hid h1
  have Q_31 := Lib.hid h2
  clear hx h1 h2
  have qd0 : w28.cell? ⟨w.heap.size, 0, none⟩ = some (.slice A b.length c) := d_29.out.at 0 _ rfl
  have qd1 : w28.cell? ⟨w.heap.size, 1, none⟩ = some (.slice A' l.length c') := d_29.out.at 1 _ rfl
  have zd := d_29.out.lt
  have qx0 : w28.cell? ⟨w.heap.size + 1, 0, none⟩ = some (.int .i64 xa) := x_29.out.at 0 _ rfl
  have qx1 : w28.cell? ⟨w.heap.size + 1, 1, none⟩ = some (.string xs) := x_29.out.at 1 _ rfl
  have zx := x_29.out.lt
  have qy0 : w28.cell? ⟨w.heap.size + 1 + 1, 0, none⟩ = some (.int .i64 ya) := y_29.out.at 0 _ rfl
  have qy1 : w28.cell? ⟨w.heap.size + 1 + 1, 1, none⟩ = some (.string ys) := y_29.out.at 1 _ rfl
  have zy := y_29.out.lt
  go_wp2_with fail
  clear qd0 qd1 zd qx0 qx1 zx qy0 qy1 zy
  generalize hW : (World.alloc w28 _) = W32
  obtain ⟨hx, hb0⟩ := allocs1 hW
  clear hW
  have A_33 := Lib.hid (A_29.out.ext hx)
  have B_33 := Lib.hid (B_29.out.ext hx)
  have X_33 := Lib.hid (X_29.out.ext hx)
  have d_33 := Lib.hid (d_29.out.ext hx)
  have x_33 := Lib.hid (x_29.out.ext hx)
  have y_33 := Lib.hid (y_29.out.ext hx)
  have P_33 := Lib.hid (P_30.out.ext hx)
  have Q_33 := Lib.hid (Q_31.out.ext hx)
  clear A_29 B_29 X_29 d_29 x_29 y_29 P_30 Q_31
  have p_34 := Lib.hid hb0
  clear hx hb0
  have L_35 := Lib.hid (Ext.refl W32)
  have qd0 : W32.cell? ⟨w.heap.size, 0, none⟩ = some (.slice A b.length c) := d_33.out.at 0 _ rfl
  have qd1 : W32.cell? ⟨w.heap.size, 1, none⟩ = some (.slice A' l.length c') := d_33.out.at 1 _ rfl
  have zd := d_33.out.lt
  have qx0 : W32.cell? ⟨w.heap.size + 1, 0, none⟩ = some (.int .i64 xa) := x_33.out.at 0 _ rfl
  have qx1 : W32.cell? ⟨w.heap.size + 1, 1, none⟩ = some (.string xs) := x_33.out.at 1 _ rfl
  have zx := x_33.out.lt
  have qy0 : W32.cell? ⟨w.heap.size + 1 + 1, 0, none⟩ = some (.int .i64 ya) := y_33.out.at 0 _ rfl
  have qy1 : W32.cell? ⟨w.heap.size + 1 + 1, 1, none⟩ = some (.string ys) := y_33.out.at 1 _ rfl
  have zy := y_33.out.lt
  have qp0 : W32.cell? ⟨w28.heap.size, 0, none⟩ = some (.slice P b.length kp) := p_34.out.at 0 _ rfl
  have qp1 : W32.cell? ⟨w28.heap.size, 1, none⟩ = some (.slice Q l2.length kq) := p_34.out.at 1 _ rfl
  have zp := p_34.out.lt
  go_loopw [10] (fun i wx => ∃ k : Nat, k ≤ b.length ∧ i = .int .i64 (k : Int) ∧ Ext W32 wx) (fun i _ => b.length - (intOf i).toNat)
  case atStart => exact ⟨0, Nat.zero_le _, rfl, Ext.refl _⟩
  case round =>
    obtain ⟨k, hk, rfl, hx⟩ := hrel
    clear qd0 qd1 zd qx0 qx1 zx qy0 qy1 zy qp0 qp1 zp
    have A_36 := Lib.hid (A_33.out.ext hx)
    have B_36 := Lib.hid (B_33.out.ext hx)
    have X_36 := Lib.hid (X_33.out.ext hx)
    have d_36 := Lib.hid (d_33.out.ext hx)
    have x_36 := Lib.hid (x_33.out.ext hx)
    have y_36 := Lib.hid (y_33.out.ext hx)
    have P_36 := Lib.hid (P_33.out.ext hx)
    have Q_36 := Lib.hid (Q_33.out.ext hx)
    have p_36 := Lib.hid (p_34.out.ext hx)
    have L_36 := Lib.hid (L_35.out.ext hx)
    clear A_33 B_33 X_33 d_33 x_33 y_33 P_33 Q_33 p_34 L_35
    clear hx
    have qd0 : wr.cell? ⟨w.heap.size, 0, none⟩ = some (.slice A b.length c) := d_36.out.at 0 _ rfl
    have qd1 : wr.cell? ⟨w.heap.size, 1, none⟩ = some (.slice A' l.length c') := d_36.out.at 1 _ rfl
    have zd := d_36.out.lt
    have qx0 : wr.cell? ⟨w.heap.size + 1, 0, none⟩ = some (.int .i64 xa) := x_36.out.at 0 _ rfl
    have qx1 : wr.cell? ⟨w.heap.size + 1, 1, none⟩ = some (.string xs) := x_36.out.at 1 _ rfl
    have zx := x_36.out.lt
    have qy0 : wr.cell? ⟨w.heap.size + 1 + 1, 0, none⟩ = some (.int .i64 ya) := y_36.out.at 0 _ rfl
    have qy1 : wr.cell? ⟨w.heap.size + 1 + 1, 1, none⟩ = some (.string ys) := y_36.out.at 1 _ rfl
    have zy := y_36.out.lt
    have qp0 : wr.cell? ⟨w28.heap.size, 0, none⟩ = some (.slice P b.length kp) := p_36.out.at 0 _ rfl
    have qp1 : wr.cell? ⟨w28.heap.size, 1, none⟩ = some (.slice Q l2.length kq) := p_36.out.at 1 _ rfl
    have zp := p_36.out.lt
    by_cases hlt : k < b.length
    · by_cases hkx : (k : Int) = xa
      · have HR := Lib.hid (Heq.out k hlt hkx)
        subst hkx
        go_wp2_with (go_at_call 16; refine stop_here ?_)
        refine stop_on ?_
        clear qd0 qd1 zd qx0 qx1 zx qy0 qy1 zy qp0 qp1 zp
        have hc := readD_any A A' b l c c' k _ (by omega) (by omega) A_36.out.cells B_36.out.cells
        rw [readE_has (hasS_nat hlt)] at hc
        refine hc.mono ?_
        clear hc
        rintro e w37 ⟨rfl, hx⟩
        have A_38 := Lib.hid (A_36.out.ext hx)
        have B_38 := Lib.hid (B_36.out.ext hx)
        have X_38 := Lib.hid (X_36.out.ext hx)
        have d_38 := Lib.hid (d_36.out.ext hx)
        have x_38 := Lib.hid (x_36.out.ext hx)
        have y_38 := Lib.hid (y_36.out.ext hx)
        have P_38 := Lib.hid (P_36.out.ext hx)
        have Q_38 := Lib.hid (Q_36.out.ext hx)
        have p_38 := Lib.hid (p_36.out.ext hx)
        have L_38 := Lib.hid (L_36.out.ext hx)
        clear A_36 B_36 X_36 d_36 x_36 y_36 P_36 Q_36 p_36 L_36
        clear hx
        have qd0 : w37.cell? ⟨w.heap.size, 0, none⟩ = some (.slice A b.length c) := d_38.out.at 0 _ rfl
        have qd1 : w37.cell? ⟨w.heap.size, 1, none⟩ = some (.slice A' l.length c') := d_38.out.at 1 _ rfl
        have zd := d_38.out.lt
        have qx0 : w37.cell? ⟨w.heap.size + 1, 0, none⟩ = some (.int .i64 (k : Int)) := x_38.out.at 0 _ rfl
        have qx1 : w37.cell? ⟨w.heap.size + 1, 1, none⟩ = some (.string xs) := x_38.out.at 1 _ rfl
        have zx := x_38.out.lt
        have qy0 : w37.cell? ⟨w.heap.size + 1 + 1, 0, none⟩ = some (.int .i64 ya) := y_38.out.at 0 _ rfl
        have qy1 : w37.cell? ⟨w.heap.size + 1 + 1, 1, none⟩ = some (.string ys) := y_38.out.at 1 _ rfl
        have zy := y_38.out.lt
        have qp0 : w37.cell? ⟨w28.heap.size, 0, none⟩ = some (.slice P b.length kp) := p_38.out.at 0 _ rfl
        have qp1 : w37.cell? ⟨w28.heap.size, 1, none⟩ = some (.slice Q l2.length kq) := p_38.out.at 1 _ rfl
        have zp := p_38.out.lt
        go_wp2_with (go_at_call 16; refine stop_here ?_)
        refine stop_on ?_
        clear qd0 qd1 zd qx0 qx1 zx qy0 qy1 zy qp0 qp1 zp
        have hc := readD_any P Q b l2 kp kq k _ (by omega) (by omega) P_38.out.cells Q_38.out.cells
        rw [readE_has (hasS_nat hlt), HR.out] at hc
        refine hc.mono ?_
        clear hc
        rintro e w39 ⟨rfl, hx⟩
        have A_40 := Lib.hid (A_38.out.ext hx)
        have B_40 := Lib.hid (B_38.out.ext hx)
        have X_40 := Lib.hid (X_38.out.ext hx)
        have d_40 := Lib.hid (d_38.out.ext hx)
        have x_40 := Lib.hid (x_38.out.ext hx)
        have y_40 := Lib.hid (y_38.out.ext hx)
        have P_40 := Lib.hid (P_38.out.ext hx)
        have Q_40 := Lib.hid (Q_38.out.ext hx)
        have p_40 := Lib.hid (p_38.out.ext hx)
        have L_40 := Lib.hid (L_38.out.ext hx)
        clear A_38 B_38 X_38 d_38 x_38 y_38 P_38 Q_38 p_38 L_38
        clear hx
        have qd0 : w39.cell? ⟨w.heap.size, 0, none⟩ = some (.slice A b.length c) := d_40.out.at 0 _ rfl
        have qd1 : w39.cell? ⟨w.heap.size, 1, none⟩ = some (.slice A' l.length c') := d_40.out.at 1 _ rfl
        have zd := d_40.out.lt
        have qx0 : w39.cell? ⟨w.heap.size + 1, 0, none⟩ = some (.int .i64 (k : Int)) := x_40.out.at 0 _ rfl
        have qx1 : w39.cell? ⟨w.heap.size + 1, 1, none⟩ = some (.string xs) := x_40.out.at 1 _ rfl
        have zx := x_40.out.lt
        have qy0 : w39.cell? ⟨w.heap.size + 1 + 1, 0, none⟩ = some (.int .i64 ya) := y_40.out.at 0 _ rfl
        have qy1 : w39.cell? ⟨w.heap.size + 1 + 1, 1, none⟩ = some (.string ys) := y_40.out.at 1 _ rfl
        have zy := y_40.out.lt
        have qp0 : w39.cell? ⟨w28.heap.size, 0, none⟩ = some (.slice P b.length kp) := p_40.out.at 0 _ rfl
        have qp1 : w39.cell? ⟨w28.heap.size, 1, none⟩ = some (.slice Q l2.length kq) := p_40.out.at 1 _ rfl
        have zp := p_40.out.lt
        generalize readS b l k = rs at *
        go_wp2
        exact ⟨⟨k + 1, by omega, by go_num, L_40.out⟩, by simp [intOf]; omega⟩
      · have HR := Lib.hid (Hne.out k hlt hkx)
        have e1 : ((k : Int) == xa) = false := by simpa using hkx
        have e2 : ((k : Int) != xa) = true := by simpa using hkx
        go_wp2_with (go_at_call 16; refine stop_here ?_)
        refine stop_on ?_
        clear qd0 qd1 zd qx0 qx1 zx qy0 qy1 zy qp0 qp1 zp
        have hc := readD_any A A' b l c c' k _ (by omega) (by omega) A_36.out.cells B_36.out.cells
        rw [readE_has (hasS_nat hlt)] at hc
        refine hc.mono ?_
        clear hc
        rintro e w41 ⟨rfl, hx⟩
        have A_42 := Lib.hid (A_36.out.ext hx)
        have B_42 := Lib.hid (B_36.out.ext hx)
        have X_42 := Lib.hid (X_36.out.ext hx)
        have d_42 := Lib.hid (d_36.out.ext hx)
        have x_42 := Lib.hid (x_36.out.ext hx)
        have y_42 := Lib.hid (y_36.out.ext hx)
        have P_42 := Lib.hid (P_36.out.ext hx)
        have Q_42 := Lib.hid (Q_36.out.ext hx)
        have p_42 := Lib.hid (p_36.out.ext hx)
        have L_42 := Lib.hid (L_36.out.ext hx)
        clear A_36 B_36 X_36 d_36 x_36 y_36 P_36 Q_36 p_36 L_36
        clear hx
        have qd0 : w41.cell? ⟨w.heap.size, 0, none⟩ = some (.slice A b.length c) := d_42.out.at 0 _ rfl
        have qd1 : w41.cell? ⟨w.heap.size, 1, none⟩ = some (.slice A' l.length c') := d_42.out.at 1 _ rfl
        have zd := d_42.out.lt
        have qx0 : w41.cell? ⟨w.heap.size + 1, 0, none⟩ = some (.int .i64 xa) := x_42.out.at 0 _ rfl
        have qx1 : w41.cell? ⟨w.heap.size + 1, 1, none⟩ = some (.string xs) := x_42.out.at 1 _ rfl
        have zx := x_42.out.lt
        have qy0 : w41.cell? ⟨w.heap.size + 1 + 1, 0, none⟩ = some (.int .i64 ya) := y_42.out.at 0 _ rfl
        have qy1 : w41.cell? ⟨w.heap.size + 1 + 1, 1, none⟩ = some (.string ys) := y_42.out.at 1 _ rfl
        have zy := y_42.out.lt
        have qp0 : w41.cell? ⟨w28.heap.size, 0, none⟩ = some (.slice P b.length kp) := p_42.out.at 0 _ rfl
        have qp1 : w41.cell? ⟨w28.heap.size, 1, none⟩ = some (.slice Q l2.length kq) := p_42.out.at 1 _ rfl
        have zp := p_42.out.lt
        go_wp2_with (go_at_call 16; refine stop_here ?_)
        refine stop_on ?_
        clear qd0 qd1 zd qx0 qx1 zx qy0 qy1 zy qp0 qp1 zp
        have hc := readD_any P Q b l2 kp kq k _ (by omega) (by omega) P_42.out.cells Q_42.out.cells
        rw [readE_has (hasS_nat hlt), HR.out] at hc
        refine hc.mono ?_
        clear hc
        rintro e w43 ⟨rfl, hx⟩
        have A_44 := Lib.hid (A_42.out.ext hx)
        have B_44 := Lib.hid (B_42.out.ext hx)
        have X_44 := Lib.hid (X_42.out.ext hx)
        have d_44 := Lib.hid (d_42.out.ext hx)
        have x_44 := Lib.hid (x_42.out.ext hx)
        have y_44 := Lib.hid (y_42.out.ext hx)
        have P_44 := Lib.hid (P_42.out.ext hx)
        have Q_44 := Lib.hid (Q_42.out.ext hx)
        have p_44 := Lib.hid (p_42.out.ext hx)
        have L_44 := Lib.hid (L_42.out.ext hx)
        clear A_42 B_42 X_42 d_42 x_42 y_42 P_42 Q_42 p_42 L_42
        clear hx
        have qd0 : w43.cell? ⟨w.heap.size, 0, none⟩ = some (.slice A b.length c) := d_44.out.at 0 _ rfl
        have qd1 : w43.cell? ⟨w.heap.size, 1, none⟩ = some (.slice A' l.length c') := d_44.out.at 1 _ rfl
        have zd := d_44.out.lt
        have qx0 : w43.cell? ⟨w.heap.size + 1, 0, none⟩ = some (.int .i64 xa) := x_44.out.at 0 _ rfl
        have qx1 : w43.cell? ⟨w.heap.size + 1, 1, none⟩ = some (.string xs) := x_44.out.at 1 _ rfl
        have zx := x_44.out.lt
        have qy0 : w43.cell? ⟨w.heap.size + 1 + 1, 0, none⟩ = some (.int .i64 ya) := y_44.out.at 0 _ rfl
        have qy1 : w43.cell? ⟨w.heap.size + 1 + 1, 1, none⟩ = some (.string ys) := y_44.out.at 1 _ rfl
        have zy := y_44.out.lt
        have qp0 : w43.cell? ⟨w28.heap.size, 0, none⟩ = some (.slice P b.length kp) := p_44.out.at 0 _ rfl
        have qp1 : w43.cell? ⟨w28.heap.size, 1, none⟩ = some (.slice Q l2.length kq) := p_44.out.at 1 _ rfl
        have zp := p_44.out.lt
        generalize readS b l k = rs at *
        go_wp2
        exact ⟨⟨k + 1, by omega, by go_num, L_44.out⟩, by simp [intOf]; omega⟩
    · cases hy : takesS b.length (ya, ys)
      · have Hy := Lib.hid hy
        clear hy
        go_wp2_with (go_at_call 20; refine stop_here ?_)
        refine stop_on ?_
        clear qd0 qd1 zd qx0 qx1 zx qy0 qy1 zy qp0 qp1 zp
        have hc := putD_any A A' b l c c' ya ys _ (by omega) (by omega) A_36.out B_36.out
        rw [putE_no Hy.out, putW_no Hy.out] at hc
        refine hc.mono ?_
        clear hc
        rintro e w45 ⟨v, rfl, ⟨M, km, N, kn, rfl, h1, h2⟩, hx⟩
        have A_46 := Lib.hid (A_36.out.ext hx)
        have B_46 := Lib.hid (B_36.out.ext hx)
        have X_46 := Lib.hid (X_36.out.ext hx)
        have d_46 := Lib.hid (d_36.out.ext hx)
        have x_46 := Lib.hid (x_36.out.ext hx)
        have y_46 := Lib.hid (y_36.out.ext hx)
        have P_46 := Lib.hid (P_36.out.ext hx)
        have Q_46 := Lib.hid (Q_36.out.ext hx)
        have p_46 := Lib.hid (p_36.out.ext hx)
        have L_46 := Lib.hid (L_36.out.ext hx)
        clear A_36 B_36 X_36 d_36 x_36 y_36 P_36 Q_36 p_36 L_36
        have M_47 := Lib.hid h1
        have N_48 := Lib.hid h2
        clear hx h1 h2
        have qd0 : w45.cell? ⟨w.heap.size, 0, none⟩ = some (.slice A b.length c) := d_46.out.at 0 _ rfl
        have qd1 : w45.cell? ⟨w.heap.size, 1, none⟩ = some (.slice A' l.length c') := d_46.out.at 1 _ rfl
        have zd := d_46.out.lt
        have qx0 : w45.cell? ⟨w.heap.size + 1, 0, none⟩ = some (.int .i64 xa) := x_46.out.at 0 _ rfl
        have qx1 : w45.cell? ⟨w.heap.size + 1, 1, none⟩ = some (.string xs) := x_46.out.at 1 _ rfl
        have zx := x_46.out.lt
        have qy0 : w45.cell? ⟨w.heap.size + 1 + 1, 0, none⟩ = some (.int .i64 ya) := y_46.out.at 0 _ rfl
        have qy1 : w45.cell? ⟨w.heap.size + 1 + 1, 1, none⟩ = some (.string ys) := y_46.out.at 1 _ rfl
        have zy := y_46.out.lt
        have qp0 : w45.cell? ⟨w28.heap.size, 0, none⟩ = some (.slice P b.length kp) := p_46.out.at 0 _ rfl
        have qp1 : w45.cell? ⟨w28.heap.size, 1, none⟩ = some (.slice Q l2.length kq) := p_46.out.at 1 _ rfl
        have zp := p_46.out.lt
        go_wp2_with (go_at_call 13; refine stop_here ?_)
        refine stop_on ?_
        clear qd0 qd1 zd qx0 qx1 zx qy0 qy1 zy qp0 qp1 zp
        generalize hW : (World.alloc w45 _) = W49
        obtain ⟨hx, hb0⟩ := allocs1 hW
        clear hW
        have A_50 := Lib.hid (A_46.out.ext hx)
        have B_50 := Lib.hid (B_46.out.ext hx)
        have X_50 := Lib.hid (X_46.out.ext hx)
        have d_50 := Lib.hid (d_46.out.ext hx)
        have x_50 := Lib.hid (x_46.out.ext hx)
        have y_50 := Lib.hid (y_46.out.ext hx)
        have P_50 := Lib.hid (P_46.out.ext hx)
        have Q_50 := Lib.hid (Q_46.out.ext hx)
        have p_50 := Lib.hid (p_46.out.ext hx)
        have L_50 := Lib.hid (L_46.out.ext hx)
        have M_50 := Lib.hid (M_47.out.ext hx)
        have N_50 := Lib.hid (N_48.out.ext hx)
        clear A_46 B_46 X_46 d_46 x_46 y_46 P_46 Q_46 p_46 L_46 M_47 N_48
        have y2_51 := Lib.hid hb0
        clear hx hb0
        have hc := rightR_any P Q b l2 kp kq _ (by omega) (by unfold maxLen; omega) P_50.out.cells Q_50.out.cells
        rw [Hr2.out] at hc
        refine hc.mono ?_
        clear hc
        rintro e w52 ⟨rfl, hx⟩
        have A_53 := Lib.hid (A_50.out.ext hx)
        have B_53 := Lib.hid (B_50.out.ext hx)
        have X_53 := Lib.hid (X_50.out.ext hx)
        have d_53 := Lib.hid (d_50.out.ext hx)
        have x_53 := Lib.hid (x_50.out.ext hx)
        have y_53 := Lib.hid (y_50.out.ext hx)
        have P_53 := Lib.hid (P_50.out.ext hx)
        have Q_53 := Lib.hid (Q_50.out.ext hx)
        have p_53 := Lib.hid (p_50.out.ext hx)
        have L_53 := Lib.hid (L_50.out.ext hx)
        have M_53 := Lib.hid (M_50.out.ext hx)
        have N_53 := Lib.hid (N_50.out.ext hx)
        have y2_53 := Lib.hid (y2_51.out.ext hx)
        clear A_50 B_50 X_50 d_50 x_50 y_50 P_50 Q_50 p_50 L_50 M_50 N_50 y2_51
        clear hx
        have qd0 : w52.cell? ⟨w.heap.size, 0, none⟩ = some (.slice A b.length c) := d_53.out.at 0 _ rfl
        have qd1 : w52.cell? ⟨w.heap.size, 1, none⟩ = some (.slice A' l.length c') := d_53.out.at 1 _ rfl
        have zd := d_53.out.lt
        have qx0 : w52.cell? ⟨w.heap.size + 1, 0, none⟩ = some (.int .i64 xa) := x_53.out.at 0 _ rfl
        have qx1 : w52.cell? ⟨w.heap.size + 1, 1, none⟩ = some (.string xs) := x_53.out.at 1 _ rfl
        have zx := x_53.out.lt
        have qy0 : w52.cell? ⟨w.heap.size + 1 + 1, 0, none⟩ = some (.int .i64 ya) := y_53.out.at 0 _ rfl
        have qy1 : w52.cell? ⟨w.heap.size + 1 + 1, 1, none⟩ = some (.string ys) := y_53.out.at 1 _ rfl
        have zy := y_53.out.lt
        have qp0 : w52.cell? ⟨w28.heap.size, 0, none⟩ = some (.slice P b.length kp) := p_53.out.at 0 _ rfl
        have qp1 : w52.cell? ⟨w28.heap.size, 1, none⟩ = some (.slice Q l2.length kq) := p_53.out.at 1 _ rfl
        have zp := p_53.out.lt
        have qy20 := y2_53.out.at 0 _ rfl
        have qy21 := y2_53.out.at 1 _ rfl
        have zy2 := y2_53.out.lt
        go_wp2
        go_ret
        exact ⟨rfl, X_53.out⟩
      obtain ⟨l3, hl3⟩ : ∃ l3, l3 = l ++ [(ya, ys)] := ⟨_, rfl⟩
      have ll3 : (l3.length : Int) ≤ 61 := by rw [hl3]; simp; omega
      have Hl3 := Lib.hid hl3
      have Hy := Lib.hid hy
      clear hy hl3
      go_wp2_with (go_at_call 20; refine stop_here ?_)
      refine stop_on ?_
      clear qd0 qd1 zd qx0 qx1 zx qy0 qy1 zy qp0 qp1 zp
      have hc := putD_any A A' b l c c' ya ys _ (by omega) (by omega) A_36.out B_36.out
      rw [putE_yes Hy.out, putW_yes Hy.out, ← Hl3.out] at hc
      refine hc.mono ?_
      clear hc
      rintro e w54 ⟨v, rfl, ⟨M, km, N, kn, rfl, h1, h2⟩, hx⟩
      have A_55 := Lib.hid (A_36.out.ext hx)
      have B_55 := Lib.hid (B_36.out.ext hx)
      have X_55 := Lib.hid (X_36.out.ext hx)
      have d_55 := Lib.hid (d_36.out.ext hx)
      have x_55 := Lib.hid (x_36.out.ext hx)
      have y_55 := Lib.hid (y_36.out.ext hx)
      have P_55 := Lib.hid (P_36.out.ext hx)
      have Q_55 := Lib.hid (Q_36.out.ext hx)
      have p_55 := Lib.hid (p_36.out.ext hx)
      have L_55 := Lib.hid (L_36.out.ext hx)
      clear A_36 B_36 X_36 d_36 x_36 y_36 P_36 Q_36 p_36 L_36
      have M_56 := Lib.hid h1
      have N_57 := Lib.hid h2
      clear hx h1 h2
      have qd0 : w54.cell? ⟨w.heap.size, 0, none⟩ = some (.slice A b.length c) := d_55.out.at 0 _ rfl
      have qd1 : w54.cell? ⟨w.heap.size, 1, none⟩ = some (.slice A' l.length c') := d_55.out.at 1 _ rfl
      have zd := d_55.out.lt
      have qx0 : w54.cell? ⟨w.heap.size + 1, 0, none⟩ = some (.int .i64 xa) := x_55.out.at 0 _ rfl
      have qx1 : w54.cell? ⟨w.heap.size + 1, 1, none⟩ = some (.string xs) := x_55.out.at 1 _ rfl
      have zx := x_55.out.lt
      have qy0 : w54.cell? ⟨w.heap.size + 1 + 1, 0, none⟩ = some (.int .i64 ya) := y_55.out.at 0 _ rfl
      have qy1 : w54.cell? ⟨w.heap.size + 1 + 1, 1, none⟩ = some (.string ys) := y_55.out.at 1 _ rfl
      have zy := y_55.out.lt
      have qp0 : w54.cell? ⟨w28.heap.size, 0, none⟩ = some (.slice P b.length kp) := p_55.out.at 0 _ rfl
      have qp1 : w54.cell? ⟨w28.heap.size, 1, none⟩ = some (.slice Q l2.length kq) := p_55.out.at 1 _ rfl
      have zp := p_55.out.lt
      by_cases hxy : xa = ya
      · subst hxy
        go_wp2_with (go_at_call 13; refine stop_here ?_)
        refine stop_on ?_
        clear qd0 qd1 zd qx0 qx1 zx qy0 qy1 zy qp0 qp1 zp
        generalize hW : (World.alloc w54 _) = W58
        obtain ⟨hx, hb0⟩ := allocs1 hW
        clear hW
        have A_59 := Lib.hid (A_55.out.ext hx)
        have B_59 := Lib.hid (B_55.out.ext hx)
        have X_59 := Lib.hid (X_55.out.ext hx)
        have d_59 := Lib.hid (d_55.out.ext hx)
        have x_59 := Lib.hid (x_55.out.ext hx)
        have y_59 := Lib.hid (y_55.out.ext hx)
        have P_59 := Lib.hid (P_55.out.ext hx)
        have Q_59 := Lib.hid (Q_55.out.ext hx)
        have p_59 := Lib.hid (p_55.out.ext hx)
        have L_59 := Lib.hid (L_55.out.ext hx)
        have M_59 := Lib.hid (M_56.out.ext hx)
        have N_59 := Lib.hid (N_57.out.ext hx)
        clear A_55 B_55 X_55 d_55 x_55 y_55 P_55 Q_55 p_55 L_55 M_56 N_57
        have y2_60 := Lib.hid hb0
        clear hx hb0
        have hc := rightR_any P Q b l2 kp kq _ (by omega) (by unfold maxLen; omega) P_59.out.cells Q_59.out.cells
        rw [Hr2.out] at hc
        refine hc.mono ?_
        clear hc
        rintro e w61 ⟨rfl, hx⟩
        have A_62 := Lib.hid (A_59.out.ext hx)
        have B_62 := Lib.hid (B_59.out.ext hx)
        have X_62 := Lib.hid (X_59.out.ext hx)
        have d_62 := Lib.hid (d_59.out.ext hx)
        have x_62 := Lib.hid (x_59.out.ext hx)
        have y_62 := Lib.hid (y_59.out.ext hx)
        have P_62 := Lib.hid (P_59.out.ext hx)
        have Q_62 := Lib.hid (Q_59.out.ext hx)
        have p_62 := Lib.hid (p_59.out.ext hx)
        have L_62 := Lib.hid (L_59.out.ext hx)
        have M_62 := Lib.hid (M_59.out.ext hx)
        have N_62 := Lib.hid (N_59.out.ext hx)
        have y2_62 := Lib.hid (y2_60.out.ext hx)
        clear A_59 B_59 X_59 d_59 x_59 y_59 P_59 Q_59 p_59 L_59 M_59 N_59 y2_60
        clear hx
        have qd0 : w61.cell? ⟨w.heap.size, 0, none⟩ = some (.slice A b.length c) := d_62.out.at 0 _ rfl
        have qd1 : w61.cell? ⟨w.heap.size, 1, none⟩ = some (.slice A' l.length c') := d_62.out.at 1 _ rfl
        have zd := d_62.out.lt
        have qx0 : w61.cell? ⟨w.heap.size + 1, 0, none⟩ = some (.int .i64 xa) := x_62.out.at 0 _ rfl
        have qx1 : w61.cell? ⟨w.heap.size + 1, 1, none⟩ = some (.string xs) := x_62.out.at 1 _ rfl
        have zx := x_62.out.lt
        have qy0 : w61.cell? ⟨w.heap.size + 1 + 1, 0, none⟩ = some (.int .i64 xa) := y_62.out.at 0 _ rfl
        have qy1 : w61.cell? ⟨w.heap.size + 1 + 1, 1, none⟩ = some (.string ys) := y_62.out.at 1 _ rfl
        have zy := y_62.out.lt
        have qp0 : w61.cell? ⟨w28.heap.size, 0, none⟩ = some (.slice P b.length kp) := p_62.out.at 0 _ rfl
        have qp1 : w61.cell? ⟨w28.heap.size, 1, none⟩ = some (.slice Q l2.length kq) := p_62.out.at 1 _ rfl
        have zp := p_62.out.lt
        have qy20 := y2_62.out.at 0 _ rfl
        have qy21 := y2_62.out.at 1 _ rfl
        have zy2 := y2_62.out.lt
        go_wp2
        go_ret
        exact ⟨rfl, X_62.out⟩
      obtain ⟨l4, hl4⟩ : ∃ l4, l4 = l2 ++ [(ya, ys)] := ⟨_, rfl⟩
      obtain ⟨l5, hl5⟩ : ∃ l5, l5 = l3 ++ [(xa, xs)] := ⟨_, rfl⟩
      have ll4 : (l4.length : Int) ≤ 62 := by rw [hl4]; simp; omega
      have ll5 : (l5.length : Int) ≤ 62 := by rw [hl5]; simp; omega
      obtain ⟨fb, hfb⟩ : ∃ fb, fb = writeL b l4 := ⟨_, rfl⟩
      have lfb : fb.length ≤ 1000000 := by rw [hfb, writeL_length]; omega
      have Hw := Lib.hid (show writeL b l5 = fb by rw [hfb, hl5, hl4, Hl2.out, Hl3.out]; exact (writeL_swap b l _ _ hxy).symm)
      have Hfb := Lib.hid hfb
      have Hl4 := Lib.hid hl4
      have Hl5 := Lib.hid hl5
      have e3 : (xa == ya) = false := by simpa using hxy
      clear hl4 hl5 hfb
      go_wp2_with (go_at_call 20; refine stop_here ?_)
      refine stop_on ?_
      clear qd0 qd1 zd qx0 qx1 zx qy0 qy1 zy qp0 qp1 zp
      generalize hW : (World.alloc w54 _) = W63
      obtain ⟨hx, hb0⟩ := allocs1 hW
      clear hW
      have A_64 := Lib.hid (A_55.out.ext hx)
      have B_64 := Lib.hid (B_55.out.ext hx)
      have X_64 := Lib.hid (X_55.out.ext hx)
      have d_64 := Lib.hid (d_55.out.ext hx)
      have x_64 := Lib.hid (x_55.out.ext hx)
      have y_64 := Lib.hid (y_55.out.ext hx)
      have P_64 := Lib.hid (P_55.out.ext hx)
      have Q_64 := Lib.hid (Q_55.out.ext hx)
      have p_64 := Lib.hid (p_55.out.ext hx)
      have L_64 := Lib.hid (L_55.out.ext hx)
      have M_64 := Lib.hid (M_56.out.ext hx)
      have N_64 := Lib.hid (N_57.out.ext hx)
      clear A_55 B_55 X_55 d_55 x_55 y_55 P_55 Q_55 p_55 L_55 M_56 N_57
      have y2_65 := Lib.hid hb0
      clear hx hb0
      have hc := putD_any P Q b l2 kp kq ya ys _ (by omega) (by omega) P_64.out Q_64.out
      rw [putE_yes Hy.out, putW_yes Hy.out, ← Hl4.out] at hc
      refine hc.mono ?_
      clear hc
      rintro e w66 ⟨v, rfl, ⟨I, ki, J, kj, rfl, h1, h2⟩, hx⟩
      have A_67 := Lib.hid (A_64.out.ext hx)
      have B_67 := Lib.hid (B_64.out.ext hx)
      have X_67 := Lib.hid (X_64.out.ext hx)
      have d_67 := Lib.hid (d_64.out.ext hx)
      have x_67 := Lib.hid (x_64.out.ext hx)
      have y_67 := Lib.hid (y_64.out.ext hx)
      have P_67 := Lib.hid (P_64.out.ext hx)
      have Q_67 := Lib.hid (Q_64.out.ext hx)
      have p_67 := Lib.hid (p_64.out.ext hx)
      have L_67 := Lib.hid (L_64.out.ext hx)
      have M_67 := Lib.hid (M_64.out.ext hx)
      have N_67 := Lib.hid (N_64.out.ext hx)
      have y2_67 := Lib.hid (y2_65.out.ext hx)
      clear A_64 B_64 X_64 d_64 x_64 y_64 P_64 Q_64 p_64 L_64 M_64 N_64 y2_65
      have I_68 := Lib.hid h1
      have J_69 := Lib.hid h2
      clear hx h1 h2
      have qd0 : w66.cell? ⟨w.heap.size, 0, none⟩ = some (.slice A b.length c) := d_67.out.at 0 _ rfl
      have qd1 : w66.cell? ⟨w.heap.size, 1, none⟩ = some (.slice A' l.length c') := d_67.out.at 1 _ rfl
      have zd := d_67.out.lt
      have qx0 : w66.cell? ⟨w.heap.size + 1, 0, none⟩ = some (.int .i64 xa) := x_67.out.at 0 _ rfl
      have qx1 : w66.cell? ⟨w.heap.size + 1, 1, none⟩ = some (.string xs) := x_67.out.at 1 _ rfl
      have zx := x_67.out.lt
      have qy0 : w66.cell? ⟨w.heap.size + 1 + 1, 0, none⟩ = some (.int .i64 ya) := y_67.out.at 0 _ rfl
      have qy1 : w66.cell? ⟨w.heap.size + 1 + 1, 1, none⟩ = some (.string ys) := y_67.out.at 1 _ rfl
      have zy := y_67.out.lt
      have qp0 : w66.cell? ⟨w28.heap.size, 0, none⟩ = some (.slice P b.length kp) := p_67.out.at 0 _ rfl
      have qp1 : w66.cell? ⟨w28.heap.size, 1, none⟩ = some (.slice Q l2.length kq) := p_67.out.at 1 _ rfl
      have zp := p_67.out.lt
      have qy20 : w66.cell? ⟨w54.heap.size, 0, none⟩ = some (.slice M b.length km) := y2_67.out.at 0 _ rfl
      have qy21 : w66.cell? ⟨w54.heap.size, 1, none⟩ = some (.slice N l3.length kn) := y2_67.out.at 1 _ rfl
      have zy2 := y2_67.out.lt
      go_wp2_with (go_at_call 20; refine stop_here ?_)
      refine stop_on ?_
      clear qd0 qd1 zd qx0 qx1 zx qy0 qy1 zy qp0 qp1 zp qy20 qy21 zy2
      generalize hW : (World.alloc w66 _) = W70
      obtain ⟨hx, hb0⟩ := allocs1 hW
      clear hW
      have A_71 := Lib.hid (A_67.out.ext hx)
      have B_71 := Lib.hid (B_67.out.ext hx)
      have X_71 := Lib.hid (X_67.out.ext hx)
      have d_71 := Lib.hid (d_67.out.ext hx)
      have x_71 := Lib.hid (x_67.out.ext hx)
      have y_71 := Lib.hid (y_67.out.ext hx)
      have P_71 := Lib.hid (P_67.out.ext hx)
      have Q_71 := Lib.hid (Q_67.out.ext hx)
      have p_71 := Lib.hid (p_67.out.ext hx)
      have L_71 := Lib.hid (L_67.out.ext hx)
      have M_71 := Lib.hid (M_67.out.ext hx)
      have N_71 := Lib.hid (N_67.out.ext hx)
      have y2_71 := Lib.hid (y2_67.out.ext hx)
      have I_71 := Lib.hid (I_68.out.ext hx)
      have J_71 := Lib.hid (J_69.out.ext hx)
      clear A_67 B_67 X_67 d_67 x_67 y_67 P_67 Q_67 p_67 L_67 M_67 N_67 y2_67 I_68 J_69
      have bp_72 := Lib.hid hb0
      clear hx hb0
      have hc := putD_any M N b l3 km kn xa xs _ (by omega) (by omega) M_71.out N_71.out
      rw [putE_yes Ht.out, putW_yes Ht.out, ← Hl5.out] at hc
      refine hc.mono ?_
      clear hc
      rintro e w73 ⟨v, rfl, ⟨U, ku, V, kv, rfl, h1, h2⟩, hx⟩
      have A_74 := Lib.hid (A_71.out.ext hx)
      have B_74 := Lib.hid (B_71.out.ext hx)
      have X_74 := Lib.hid (X_71.out.ext hx)
      have d_74 := Lib.hid (d_71.out.ext hx)
      have x_74 := Lib.hid (x_71.out.ext hx)
      have y_74 := Lib.hid (y_71.out.ext hx)
      have P_74 := Lib.hid (P_71.out.ext hx)
      have Q_74 := Lib.hid (Q_71.out.ext hx)
      have p_74 := Lib.hid (p_71.out.ext hx)
      have L_74 := Lib.hid (L_71.out.ext hx)
      have M_74 := Lib.hid (M_71.out.ext hx)
      have N_74 := Lib.hid (N_71.out.ext hx)
      have y2_74 := Lib.hid (y2_71.out.ext hx)
      have I_74 := Lib.hid (I_71.out.ext hx)
      have J_74 := Lib.hid (J_71.out.ext hx)
      have bp_74 := Lib.hid (bp_72.out.ext hx)
      clear A_71 B_71 X_71 d_71 x_71 y_71 P_71 Q_71 p_71 L_71 M_71 N_71 y2_71 I_71 J_71 bp_72
      have U_75 := Lib.hid h1
      have V_76 := Lib.hid h2
      clear hx h1 h2
      have qd0 : w73.cell? ⟨w.heap.size, 0, none⟩ = some (.slice A b.length c) := d_74.out.at 0 _ rfl
      have qd1 : w73.cell? ⟨w.heap.size, 1, none⟩ = some (.slice A' l.length c') := d_74.out.at 1 _ rfl
      have zd := d_74.out.lt
      have qx0 : w73.cell? ⟨w.heap.size + 1, 0, none⟩ = some (.int .i64 xa) := x_74.out.at 0 _ rfl
      have qx1 : w73.cell? ⟨w.heap.size + 1, 1, none⟩ = some (.string xs) := x_74.out.at 1 _ rfl
      have zx := x_74.out.lt
      have qy0 : w73.cell? ⟨w.heap.size + 1 + 1, 0, none⟩ = some (.int .i64 ya) := y_74.out.at 0 _ rfl
      have qy1 : w73.cell? ⟨w.heap.size + 1 + 1, 1, none⟩ = some (.string ys) := y_74.out.at 1 _ rfl
      have zy := y_74.out.lt
      have qp0 : w73.cell? ⟨w28.heap.size, 0, none⟩ = some (.slice P b.length kp) := p_74.out.at 0 _ rfl
      have qp1 : w73.cell? ⟨w28.heap.size, 1, none⟩ = some (.slice Q l2.length kq) := p_74.out.at 1 _ rfl
      have zp := p_74.out.lt
      have qy20 : w73.cell? ⟨w54.heap.size, 0, none⟩ = some (.slice M b.length km) := y2_74.out.at 0 _ rfl
      have qy21 : w73.cell? ⟨w54.heap.size, 1, none⟩ = some (.slice N l3.length kn) := y2_74.out.at 1 _ rfl
      have zy2 := y2_74.out.lt
      have qbp0 : w73.cell? ⟨w66.heap.size, 0, none⟩ = some (.slice I b.length ki) := bp_74.out.at 0 _ rfl
      have qbp1 : w73.cell? ⟨w66.heap.size, 1, none⟩ = some (.slice J l4.length kj) := bp_74.out.at 1 _ rfl
      have zbp := bp_74.out.lt
      go_wp2_with fail
      clear qd0 qd1 zd qx0 qx1 zx qy0 qy1 zy qp0 qp1 zp qy20 qy21 zy2 qbp0 qbp1 zbp
      generalize hW : (World.alloc w73 _) = W77
      obtain ⟨hx, hb0⟩ := allocs1 hW
      clear hW
      have A_78 := Lib.hid (A_74.out.ext hx)
      have B_78 := Lib.hid (B_74.out.ext hx)
      have X_78 := Lib.hid (X_74.out.ext hx)
      have d_78 := Lib.hid (d_74.out.ext hx)
      have x_78 := Lib.hid (x_74.out.ext hx)
      have y_78 := Lib.hid (y_74.out.ext hx)
      have P_78 := Lib.hid (P_74.out.ext hx)
      have Q_78 := Lib.hid (Q_74.out.ext hx)
      have p_78 := Lib.hid (p_74.out.ext hx)
      have L_78 := Lib.hid (L_74.out.ext hx)
      have M_78 := Lib.hid (M_74.out.ext hx)
      have N_78 := Lib.hid (N_74.out.ext hx)
      have y2_78 := Lib.hid (y2_74.out.ext hx)
      have I_78 := Lib.hid (I_74.out.ext hx)
      have J_78 := Lib.hid (J_74.out.ext hx)
      have bp_78 := Lib.hid (bp_74.out.ext hx)
      have U_78 := Lib.hid (U_75.out.ext hx)
      have V_78 := Lib.hid (V_76.out.ext hx)
      clear A_74 B_74 X_74 d_74 x_74 y_74 P_74 Q_74 p_74 L_74 M_74 N_74 y2_74 I_74 J_74 bp_74 U_75 V_76
      have bq_79 := Lib.hid hb0
      clear hx hb0
      have qd0 : W77.cell? ⟨w.heap.size, 0, none⟩ = some (.slice A b.length c) := d_78.out.at 0 _ rfl
      have qd1 : W77.cell? ⟨w.heap.size, 1, none⟩ = some (.slice A' l.length c') := d_78.out.at 1 _ rfl
      have zd := d_78.out.lt
      have qx0 : W77.cell? ⟨w.heap.size + 1, 0, none⟩ = some (.int .i64 xa) := x_78.out.at 0 _ rfl
      have qx1 : W77.cell? ⟨w.heap.size + 1, 1, none⟩ = some (.string xs) := x_78.out.at 1 _ rfl
      have zx := x_78.out.lt
      have qy0 : W77.cell? ⟨w.heap.size + 1 + 1, 0, none⟩ = some (.int .i64 ya) := y_78.out.at 0 _ rfl
      have qy1 : W77.cell? ⟨w.heap.size + 1 + 1, 1, none⟩ = some (.string ys) := y_78.out.at 1 _ rfl
      have zy := y_78.out.lt
      have qp0 : W77.cell? ⟨w28.heap.size, 0, none⟩ = some (.slice P b.length kp) := p_78.out.at 0 _ rfl
      have qp1 : W77.cell? ⟨w28.heap.size, 1, none⟩ = some (.slice Q l2.length kq) := p_78.out.at 1 _ rfl
      have zp := p_78.out.lt
      have qy20 : W77.cell? ⟨w54.heap.size, 0, none⟩ = some (.slice M b.length km) := y2_78.out.at 0 _ rfl
      have qy21 : W77.cell? ⟨w54.heap.size, 1, none⟩ = some (.slice N l3.length kn) := y2_78.out.at 1 _ rfl
      have zy2 := y2_78.out.lt
      have qbp0 : W77.cell? ⟨w66.heap.size, 0, none⟩ = some (.slice I b.length ki) := bp_78.out.at 0 _ rfl
      have qbp1 : W77.cell? ⟨w66.heap.size, 1, none⟩ = some (.slice J l4.length kj) := bp_78.out.at 1 _ rfl
      have zbp := bp_78.out.lt
      have qbq0 : W77.cell? ⟨w73.heap.size, 0, none⟩ = some (.slice U b.length ku) := bq_79.out.at 0 _ rfl
      have qbq1 : W77.cell? ⟨w73.heap.size, 1, none⟩ = some (.slice V l5.length kv) := bq_79.out.at 1 _ rfl
      have zbq := bq_79.out.lt
      have HK80 := Lib.hid (fun w' (hx : Ext W77 w') => (show w'.cell? ⟨w66.heap.size, 0, none⟩ = some (.slice I b.length ki) ∧ w'.cell? ⟨w66.heap.size, 1, none⟩ = some (.slice J l4.length kj) ∧ w'.cell? ⟨w73.heap.size, 0, none⟩ = some (.slice U b.length ku) ∧ w'.cell? ⟨w73.heap.size, 1, none⟩ = some (.slice V l5.length kv) from ⟨(bp_78.out.ext hx).at 0 _ rfl, (bp_78.out.ext hx).at 1 _ rfl, (bq_79.out.ext hx).at 0 _ rfl, (bq_79.out.ext hx).at 1 _ rfl⟩))
      have G80_0 := Lib.hid (fun w' (hx : Ext W77 w') => flushD_to I J b l4 fb ki kj w' (by omega) (by omega) Hfb.out.symm (I_78.out.ext hx) (J_78.out.ext hx))
      have G80_1 := Lib.hid (fun w' (hx : Ext W77 w') => flushD_to U V b l5 fb ku kv w' (by omega) (by omega) Hw.out (U_78.out.ext hx) (V_78.out.ext hx))
      clear qd0 qd1 zd qx0 qx1 zx qy0 qy1 zy qp0 qp1 zp qy20 qy21 zy2 qbp0 qbp1 zbp qbq0 qbq1 zbq
      have qbp0 : W77.cell? ⟨w66.heap.size, 0, none⟩ = some (.slice I b.length ki) := bp_78.out.at 0 _ rfl
      have qbp1 : W77.cell? ⟨w66.heap.size, 1, none⟩ = some (.slice J l4.length kj) := bp_78.out.at 1 _ rfl
      have zbp := bp_78.out.lt
      have qbq0 : W77.cell? ⟨w73.heap.size, 0, none⟩ = some (.slice U b.length ku) := bq_79.out.at 0 _ rfl
      have qbq1 : W77.cell? ⟨w73.heap.size, 1, none⟩ = some (.slice V l5.length kv) := bq_79.out.at 1 _ rfl
      have zbq := bq_79.out.lt
      go_region_held3 (fun w' => w'.cell? ⟨w66.heap.size, 0, none⟩ = some (.slice I b.length ki) ∧ w'.cell? ⟨w66.heap.size, 1, none⟩ = some (.slice J l4.length kj) ∧ w'.cell? ⟨w73.heap.size, 0, none⟩ = some (.slice U b.length ku) ∧ w'.cell? ⟨w73.heap.size, 1, none⟩ = some (.slice V l5.length kv))
        (first | exact HK80.out _ E80_2.out | exact HK80.out _ E80_1.out | exact HK80.out _ E80_0.out | exact HK80.out _ (Ext.refl W77).drew | exact HK80.out _ (Ext.refl W77))
        (first
          | ((go_at_call 14
              have hc := same0R_any F Fw G Gw fb kf kfw kg kgw _ lfb FF_80_1.out GG_80_1.out
              with_reducible refine hc.mono ?_
              clear hc
              rintro e v80_2 ⟨rfl, hx⟩
              have E80_2 := Lib.hid (E80_1.out.trans hx)
              have FF_80_2 := Lib.hid (FF_80_1.out.ext hx)
              have GG_80_2 := Lib.hid (GG_80_1.out.ext hx)
              clear hx))
          | ((go_at_call 24
              with_reducible refine (G80_1.out _ E80_0.out).mono ?_
              rintro e v80_1 ⟨v, rfl, ⟨G, kg, Gw, kgw, rfl, h1, h2⟩, hx⟩
              have E80_1 := Lib.hid (E80_0.out.trans hx)
              have FF_80_1 := Lib.hid (FF_80_0.out.ext hx)
              have GG_80_1 := Lib.hid h1
              clear hx h1))
          | ((go_at_call 24
              with_reducible refine (G80_0.out _ ?_).mono ?_
              (first | exact Ext.refl _ | exact (Ext.refl _).drew)
              rintro e v80_0 ⟨v, rfl, ⟨F, kf, Fw, kfw, rfl, h1, h2⟩, hx⟩
              have E80_0 := Lib.hid (show Ext W77 v80_0 from by first | exact hx | exact (Ext.refl W77).drew.trans hx)
              have FF_80_0 := Lib.hid h1
              clear hx h1)))
      clear qbp0 qbp1 zbp qbq0 qbq1 zbq
      go_wp2
      go_ret
      exact ⟨rfl, X_78.out.trans E80_2.out⟩
end Go.Proofs.Ytikdicnpmobidaa

