/- The walk of HeapDoes. -/
import Derived.Test.YtclpeeemnmhdcaaHeapN
import Derived.Deep.AppendLies
import Derived.Deep.RegionHeld3
import Derived.Deep.DeepCutAuto
import Derived.Deep.DrawnRows
import Derived.RegionTactic
namespace Go.Proofs.Ytclpeeemnmhdcaa
open Go.RowKit
attribute [local go_sem ↓] Go.wp_at_zero Go.wp_at_succ

set_option maxRecDepth 100000 in
set_option maxHeartbeats 8000000 in
theorem does_any (R : Option Addr) (l : List HC) (n q : Nat) (keep : Int) (leaf : Bool) (A : Option Addr) (it : List It) (m c : Nat) (H : Option Addr) (held : List Int) (t d : Nat) (p : Int) (w : World) (hA : HcSl w R n q l) (hm : m = it.length) (hI : Sl w A m c (ivs it)) (ht : t = held.length) (hH : Sl w H t d (held.map iv)) :
    Calls Try.prog 4 #[.agg #[.slice R n q, .int .i64 keep, .bool leaf, .slice A m c, .slice H t d, .int .i64 p]] w fun e w' => e = .returned (.bool true) ∧ Ext w w' := by
  have A_1 := Lib.hid (hA)
  have I_2 := Lib.hid (hI)
  have H_3 := Lib.hid (hH)
  have X_4 := Lib.hid (Ext.refl w)
  have HM := Lib.hid hm
  have HT := Lib.hid ht
  have hn := hA.1
  have HN := Lib.hid hn
  have hml := hI.len
  have htl := hH.len
  unfold maxLen at hml htl
  clear hA hI hH hm ht
  cases hr : mayH ⟨l, keep⟩ 60
  · have Hr := Lib.hid hr
    clear hr hn
    go_enter Try.func4, Try.ntmps4
    go_wp2_with (go_at_call 9; refine stop_here ?_)
    refine stop_on ?_
    generalize hW : (World.alloc (World.alloc (World.alloc w _) _) _) = W5
    obtain ⟨hx, hb0, hb1, hb2⟩ := allocs3 hW
    clear hW
    have A_6 := Lib.hid (A_1.out.ext hx)
    have I_6 := Lib.hid (I_2.out.ext hx)
    have H_6 := Lib.hid (H_3.out.ext hx)
    have X_6 := Lib.hid (X_4.out.ext hx)
    clear A_1 I_2 H_3 X_4
    have wi_7 := Lib.hid hb0
    have h_8 := Lib.hid hb1
    have n_9 := Lib.hid hb2
    clear hx hb0 hb1 hb2
    refine (shown_any _).mono ?_
    rintro e w10 ⟨rfl, hx⟩
    have A_11 := Lib.hid (A_6.out.ext hx)
    have I_11 := Lib.hid (I_6.out.ext hx)
    have H_11 := Lib.hid (H_6.out.ext hx)
    have X_11 := Lib.hid (X_6.out.ext hx)
    have wi_11 := Lib.hid (wi_7.out.ext hx)
    have h_11 := Lib.hid (h_8.out.ext hx)
    have n_11 := Lib.hid (n_9.out.ext hx)
    clear A_6 I_6 H_6 X_6 wi_7 h_8 n_9
    clear hx
    have qwi0 : w10.cell? ⟨w.heap.size, 0, none⟩ = some (.slice R n q) := wi_11.out.at 0 _ rfl
    have qwi1 : w10.cell? ⟨w.heap.size, 1, none⟩ = some (.int .i64 keep) := wi_11.out.at 1 _ rfl
    have qwi2 : w10.cell? ⟨w.heap.size, 2, none⟩ = some (.bool leaf) := wi_11.out.at 2 _ rfl
    have qwi3 : w10.cell? ⟨w.heap.size, 3, none⟩ = some (.slice A m c) := wi_11.out.at 3 _ rfl
    have qwi4 : w10.cell? ⟨w.heap.size, 4, none⟩ = some (.slice H t d) := wi_11.out.at 4 _ rfl
    have qwi5 : w10.cell? ⟨w.heap.size, 5, none⟩ = some (.int .i64 p) := wi_11.out.at 5 _ rfl
    have zwi := wi_11.out.lt
    have qh0 : w10.cell? ⟨w.heap.size + 1, 0, none⟩ = some (.slice R n q) := h_11.out.at 0 _ rfl
    have qh1 : w10.cell? ⟨w.heap.size + 1, 1, none⟩ = some (.int .i64 keep) := h_11.out.at 1 _ rfl
    have zh := h_11.out.lt
    have qn0 : w10.cell? ⟨w.heap.size + 1 + 1, 0, none⟩ = some (.bool leaf) := n_11.out.at 0 _ rfl
    have qn1 : w10.cell? ⟨w.heap.size + 1 + 1, 1, none⟩ = some (.slice A m c) := n_11.out.at 1 _ rfl
    have zn := n_11.out.lt
    go_wp2_with (go_at_call 21; refine stop_here ?_)
    refine stop_on ?_
    clear qwi0 qwi1 qwi2 qwi3 qwi4 qwi5 zwi qh0 qh1 zh qn0 qn1 zn
    refine (ref05May_is R l n q keep 60 _ A_11.out Hr.out).mono ?_
    rintro e w12 ⟨rfl, hx⟩
    have A_13 := Lib.hid (A_11.out.ext hx)
    have I_13 := Lib.hid (I_11.out.ext hx)
    have H_13 := Lib.hid (H_11.out.ext hx)
    have X_13 := Lib.hid (X_11.out.ext hx)
    have wi_13 := Lib.hid (wi_11.out.ext hx)
    have h_13 := Lib.hid (h_11.out.ext hx)
    have n_13 := Lib.hid (n_11.out.ext hx)
    clear A_11 I_11 H_11 X_11 wi_11 h_11 n_11
    clear hx
    have zwi := wi_13.out.lt
    have qh0 : w12.cell? ⟨w.heap.size + 1, 0, none⟩ = some (.slice R n q) := h_13.out.at 0 _ rfl
    have qh1 : w12.cell? ⟨w.heap.size + 1, 1, none⟩ = some (.int .i64 keep) := h_13.out.at 1 _ rfl
    have zh := h_13.out.lt
    have qn0 : w12.cell? ⟨w.heap.size + 1 + 1, 0, none⟩ = some (.bool leaf) := n_13.out.at 0 _ rfl
    have qn1 : w12.cell? ⟨w.heap.size + 1 + 1, 1, none⟩ = some (.slice A m c) := n_13.out.at 1 _ rfl
    have zn := n_13.out.lt
    go_wp2
    go_ret
    exact ⟨rfl, X_13.out⟩
  have Hr := Lib.hid hr
  obtain ⟨hl60, hcs, hri⟩ := may_iff hr
  have hb : n ≤ 60 := by omega
  have HBD := Lib.hid (may_bd hr)
  have HRI := Lib.hid hri
  have HB8 := Lib.hid (show ∀ k (hk : k < l.length), l[k].ref ≤ 8000000000000000000 from fun k hk => by have := (hcs k hk).2; omega)
  clear hr hn hcs hri hl60
  rcases Nat.lt_or_ge 10 m with hm | hm
  · have dm : decide ((10 : Int) < (m : Int)) = true := decide_eq_true (by omega)
    have em : decide (10 < m) = true := decide_eq_true (by omega)
    go_enter Try.func4, Try.ntmps4
    go_wp2_with (go_at_call 9; refine stop_here ?_)
    refine stop_on ?_
    generalize hW : (World.alloc (World.alloc (World.alloc w _) _) _) = W14
    obtain ⟨hx, hb0, hb1, hb2⟩ := allocs3 hW
    clear hW
    have A_15 := Lib.hid (A_1.out.ext hx)
    have I_15 := Lib.hid (I_2.out.ext hx)
    have H_15 := Lib.hid (H_3.out.ext hx)
    have X_15 := Lib.hid (X_4.out.ext hx)
    clear A_1 I_2 H_3 X_4
    have wi_16 := Lib.hid hb0
    have h_17 := Lib.hid hb1
    have n_18 := Lib.hid hb2
    clear hx hb0 hb1 hb2
    refine (shown_any _).mono ?_
    rintro e w19 ⟨rfl, hx⟩
    have A_20 := Lib.hid (A_15.out.ext hx)
    have I_20 := Lib.hid (I_15.out.ext hx)
    have H_20 := Lib.hid (H_15.out.ext hx)
    have X_20 := Lib.hid (X_15.out.ext hx)
    have wi_20 := Lib.hid (wi_16.out.ext hx)
    have h_20 := Lib.hid (h_17.out.ext hx)
    have n_20 := Lib.hid (n_18.out.ext hx)
    clear A_15 I_15 H_15 X_15 wi_16 h_17 n_18
    clear hx
    have qwi0 : w19.cell? ⟨w.heap.size, 0, none⟩ = some (.slice R n q) := wi_20.out.at 0 _ rfl
    have qwi1 : w19.cell? ⟨w.heap.size, 1, none⟩ = some (.int .i64 keep) := wi_20.out.at 1 _ rfl
    have qwi2 : w19.cell? ⟨w.heap.size, 2, none⟩ = some (.bool leaf) := wi_20.out.at 2 _ rfl
    have qwi3 : w19.cell? ⟨w.heap.size, 3, none⟩ = some (.slice A m c) := wi_20.out.at 3 _ rfl
    have qwi4 : w19.cell? ⟨w.heap.size, 4, none⟩ = some (.slice H t d) := wi_20.out.at 4 _ rfl
    have qwi5 : w19.cell? ⟨w.heap.size, 5, none⟩ = some (.int .i64 p) := wi_20.out.at 5 _ rfl
    have zwi := wi_20.out.lt
    have qh0 : w19.cell? ⟨w.heap.size + 1, 0, none⟩ = some (.slice R n q) := h_20.out.at 0 _ rfl
    have qh1 : w19.cell? ⟨w.heap.size + 1, 1, none⟩ = some (.int .i64 keep) := h_20.out.at 1 _ rfl
    have zh := h_20.out.lt
    have qn0 : w19.cell? ⟨w.heap.size + 1 + 1, 0, none⟩ = some (.bool leaf) := n_20.out.at 0 _ rfl
    have qn1 : w19.cell? ⟨w.heap.size + 1 + 1, 1, none⟩ = some (.slice A m c) := n_20.out.at 1 _ rfl
    have zn := n_20.out.lt
    go_wp2_with (go_at_call 21; refine stop_here ?_)
    refine stop_on ?_
    clear qwi0 qwi1 qwi2 qwi3 qwi4 qwi5 zwi qh0 qh1 zh qn0 qn1 zn
    refine (ref05May_is R l n q keep 60 _ A_20.out Hr.out).mono ?_
    rintro e w21 ⟨rfl, hx⟩
    have A_22 := Lib.hid (A_20.out.ext hx)
    have I_22 := Lib.hid (I_20.out.ext hx)
    have H_22 := Lib.hid (H_20.out.ext hx)
    have X_22 := Lib.hid (X_20.out.ext hx)
    have wi_22 := Lib.hid (wi_20.out.ext hx)
    have h_22 := Lib.hid (h_20.out.ext hx)
    have n_22 := Lib.hid (n_20.out.ext hx)
    clear A_20 I_20 H_20 X_20 wi_20 h_20 n_20
    clear hx
    have zwi := wi_22.out.lt
    have qh0 : w21.cell? ⟨w.heap.size + 1, 0, none⟩ = some (.slice R n q) := h_22.out.at 0 _ rfl
    have qh1 : w21.cell? ⟨w.heap.size + 1, 1, none⟩ = some (.int .i64 keep) := h_22.out.at 1 _ rfl
    have zh := h_22.out.lt
    have qn0 : w21.cell? ⟨w.heap.size + 1 + 1, 0, none⟩ = some (.bool leaf) := n_22.out.at 0 _ rfl
    have qn1 : w21.cell? ⟨w.heap.size + 1 + 1, 1, none⟩ = some (.slice A m c) := n_22.out.at 1 _ rfl
    have zn := n_22.out.lt
    go_wp2
    go_ret
    exact ⟨rfl, X_22.out⟩
  have dm : decide ((10 : Int) < (m : Int)) = false := decide_eq_false (by omega)
  have em : decide (10 < m) = false := decide_eq_false (by omega)
  rcases Nat.lt_or_ge 20 t with ht | ht
  · have dt : decide ((20 : Int) < (t : Int)) = true := decide_eq_true (by omega)
    have et : decide (20 < t) = true := decide_eq_true (by omega)
    go_enter Try.func4, Try.ntmps4
    go_wp2_with (go_at_call 9; refine stop_here ?_)
    refine stop_on ?_
    generalize hW : (World.alloc (World.alloc (World.alloc w _) _) _) = W23
    obtain ⟨hx, hb0, hb1, hb2⟩ := allocs3 hW
    clear hW
    have A_24 := Lib.hid (A_1.out.ext hx)
    have I_24 := Lib.hid (I_2.out.ext hx)
    have H_24 := Lib.hid (H_3.out.ext hx)
    have X_24 := Lib.hid (X_4.out.ext hx)
    clear A_1 I_2 H_3 X_4
    have wi_25 := Lib.hid hb0
    have h_26 := Lib.hid hb1
    have n_27 := Lib.hid hb2
    clear hx hb0 hb1 hb2
    refine (shown_any _).mono ?_
    rintro e w28 ⟨rfl, hx⟩
    have A_29 := Lib.hid (A_24.out.ext hx)
    have I_29 := Lib.hid (I_24.out.ext hx)
    have H_29 := Lib.hid (H_24.out.ext hx)
    have X_29 := Lib.hid (X_24.out.ext hx)
    have wi_29 := Lib.hid (wi_25.out.ext hx)
    have h_29 := Lib.hid (h_26.out.ext hx)
    have n_29 := Lib.hid (n_27.out.ext hx)
    clear A_24 I_24 H_24 X_24 wi_25 h_26 n_27
    clear hx
    have qwi0 : w28.cell? ⟨w.heap.size, 0, none⟩ = some (.slice R n q) := wi_29.out.at 0 _ rfl
    have qwi1 : w28.cell? ⟨w.heap.size, 1, none⟩ = some (.int .i64 keep) := wi_29.out.at 1 _ rfl
    have qwi2 : w28.cell? ⟨w.heap.size, 2, none⟩ = some (.bool leaf) := wi_29.out.at 2 _ rfl
    have qwi3 : w28.cell? ⟨w.heap.size, 3, none⟩ = some (.slice A m c) := wi_29.out.at 3 _ rfl
    have qwi4 : w28.cell? ⟨w.heap.size, 4, none⟩ = some (.slice H t d) := wi_29.out.at 4 _ rfl
    have qwi5 : w28.cell? ⟨w.heap.size, 5, none⟩ = some (.int .i64 p) := wi_29.out.at 5 _ rfl
    have zwi := wi_29.out.lt
    have qh0 : w28.cell? ⟨w.heap.size + 1, 0, none⟩ = some (.slice R n q) := h_29.out.at 0 _ rfl
    have qh1 : w28.cell? ⟨w.heap.size + 1, 1, none⟩ = some (.int .i64 keep) := h_29.out.at 1 _ rfl
    have zh := h_29.out.lt
    have qn0 : w28.cell? ⟨w.heap.size + 1 + 1, 0, none⟩ = some (.bool leaf) := n_29.out.at 0 _ rfl
    have qn1 : w28.cell? ⟨w.heap.size + 1 + 1, 1, none⟩ = some (.slice A m c) := n_29.out.at 1 _ rfl
    have zn := n_29.out.lt
    go_wp2_with (go_at_call 21; refine stop_here ?_)
    refine stop_on ?_
    clear qwi0 qwi1 qwi2 qwi3 qwi4 qwi5 zwi qh0 qh1 zh qn0 qn1 zn
    refine (ref05May_is R l n q keep 60 _ A_29.out Hr.out).mono ?_
    rintro e w30 ⟨rfl, hx⟩
    have A_31 := Lib.hid (A_29.out.ext hx)
    have I_31 := Lib.hid (I_29.out.ext hx)
    have H_31 := Lib.hid (H_29.out.ext hx)
    have X_31 := Lib.hid (X_29.out.ext hx)
    have wi_31 := Lib.hid (wi_29.out.ext hx)
    have h_31 := Lib.hid (h_29.out.ext hx)
    have n_31 := Lib.hid (n_29.out.ext hx)
    clear A_29 I_29 H_29 X_29 wi_29 h_29 n_29
    clear hx
    have zwi := wi_31.out.lt
    have qh0 : w30.cell? ⟨w.heap.size + 1, 0, none⟩ = some (.slice R n q) := h_31.out.at 0 _ rfl
    have qh1 : w30.cell? ⟨w.heap.size + 1, 1, none⟩ = some (.int .i64 keep) := h_31.out.at 1 _ rfl
    have zh := h_31.out.lt
    have qn0 : w30.cell? ⟨w.heap.size + 1 + 1, 0, none⟩ = some (.bool leaf) := n_31.out.at 0 _ rfl
    have qn1 : w30.cell? ⟨w.heap.size + 1 + 1, 1, none⟩ = some (.slice A m c) := n_31.out.at 1 _ rfl
    have zn := n_31.out.lt
    go_wp2
    go_ret
    exact ⟨rfl, X_31.out⟩
  have dt : decide ((20 : Int) < (t : Int)) = false := decide_eq_false (by omega)
  have et : decide (20 < t) = false := decide_eq_false (by omega)
  go_enter Try.func4, Try.ntmps4
  go_wp2_with (go_at_call 9; refine stop_here ?_)
  refine stop_on ?_
  generalize hW : (World.alloc (World.alloc (World.alloc w _) _) _) = W32
  obtain ⟨hx, hb0, hb1, hb2⟩ := allocs3 hW
  clear hW
  have A_33 := Lib.hid (A_1.out.ext hx)
  have I_33 := Lib.hid (I_2.out.ext hx)
  have H_33 := Lib.hid (H_3.out.ext hx)
  have X_33 := Lib.hid (X_4.out.ext hx)
  clear A_1 I_2 H_3 X_4
  have wi_34 := Lib.hid hb0
  have h_35 := Lib.hid hb1
  have n_36 := Lib.hid hb2
  clear hx hb0 hb1 hb2
  refine (shown_any _).mono ?_
  rintro e w37 ⟨rfl, hx⟩
  have A_38 := Lib.hid (A_33.out.ext hx)
  have I_38 := Lib.hid (I_33.out.ext hx)
  have H_38 := Lib.hid (H_33.out.ext hx)
  have X_38 := Lib.hid (X_33.out.ext hx)
  have wi_38 := Lib.hid (wi_34.out.ext hx)
  have h_38 := Lib.hid (h_35.out.ext hx)
  have n_38 := Lib.hid (n_36.out.ext hx)
  clear A_33 I_33 H_33 X_33 wi_34 h_35 n_36
  clear hx
  have qwi0 : w37.cell? ⟨w.heap.size, 0, none⟩ = some (.slice R n q) := wi_38.out.at 0 _ rfl
  have qwi1 : w37.cell? ⟨w.heap.size, 1, none⟩ = some (.int .i64 keep) := wi_38.out.at 1 _ rfl
  have qwi2 : w37.cell? ⟨w.heap.size, 2, none⟩ = some (.bool leaf) := wi_38.out.at 2 _ rfl
  have qwi3 : w37.cell? ⟨w.heap.size, 3, none⟩ = some (.slice A m c) := wi_38.out.at 3 _ rfl
  have qwi4 : w37.cell? ⟨w.heap.size, 4, none⟩ = some (.slice H t d) := wi_38.out.at 4 _ rfl
  have qwi5 : w37.cell? ⟨w.heap.size, 5, none⟩ = some (.int .i64 p) := wi_38.out.at 5 _ rfl
  have zwi := wi_38.out.lt
  have qh0 : w37.cell? ⟨w.heap.size + 1, 0, none⟩ = some (.slice R n q) := h_38.out.at 0 _ rfl
  have qh1 : w37.cell? ⟨w.heap.size + 1, 1, none⟩ = some (.int .i64 keep) := h_38.out.at 1 _ rfl
  have zh := h_38.out.lt
  have qn0 : w37.cell? ⟨w.heap.size + 1 + 1, 0, none⟩ = some (.bool leaf) := n_38.out.at 0 _ rfl
  have qn1 : w37.cell? ⟨w.heap.size + 1 + 1, 1, none⟩ = some (.slice A m c) := n_38.out.at 1 _ rfl
  have zn := n_38.out.lt
  go_wp2_with (go_at_call 21; refine stop_here ?_)
  refine stop_on ?_
  clear qwi0 qwi1 qwi2 qwi3 qwi4 qwi5 zwi qh0 qh1 zh qn0 qn1 zn
  refine (ref05May_is R l n q keep 60 _ A_38.out Hr.out).mono ?_
  rintro e w39 ⟨rfl, hx⟩
  have A_40 := Lib.hid (A_38.out.ext hx)
  have I_40 := Lib.hid (I_38.out.ext hx)
  have H_40 := Lib.hid (H_38.out.ext hx)
  have X_40 := Lib.hid (X_38.out.ext hx)
  have wi_40 := Lib.hid (wi_38.out.ext hx)
  have h_40 := Lib.hid (h_38.out.ext hx)
  have n_40 := Lib.hid (n_38.out.ext hx)
  clear A_38 I_38 H_38 X_38 wi_38 h_38 n_38
  clear hx
  have zwi := wi_40.out.lt
  have qh0 : w39.cell? ⟨w.heap.size + 1, 0, none⟩ = some (.slice R n q) := h_40.out.at 0 _ rfl
  have qh1 : w39.cell? ⟨w.heap.size + 1, 1, none⟩ = some (.int .i64 keep) := h_40.out.at 1 _ rfl
  have zh := h_40.out.lt
  have qn0 : w39.cell? ⟨w.heap.size + 1 + 1, 0, none⟩ = some (.bool leaf) := n_40.out.at 0 _ rfl
  have qn1 : w39.cell? ⟨w.heap.size + 1 + 1, 1, none⟩ = some (.slice A m c) := n_40.out.at 1 _ rfl
  have zn := n_40.out.lt
  go_wp2_with (go_at_call 22; refine stop_here ?_)
  refine stop_on ?_
  clear zwi qh0 qh1 zh qn0 qn1 zn
  refine (heapAlloc_any R l n q keep _ leaf A it m c H held t d Hr.out (by omega) (by omega) A_40.out HM.out I_40.out HT.out H_40.out).mono ?_
  rintro e w41 ⟨S1, d1, rfl, h1, hx⟩
  have A_42 := Lib.hid (A_40.out.ext hx)
  have I_42 := Lib.hid (I_40.out.ext hx)
  have H_42 := Lib.hid (H_40.out.ext hx)
  have X_42 := Lib.hid (X_40.out.ext hx)
  have wi_42 := Lib.hid (wi_40.out.ext hx)
  have h_42 := Lib.hid (h_40.out.ext hx)
  have n_42 := Lib.hid (n_40.out.ext hx)
  clear A_40 I_40 H_40 X_40 wi_40 h_40 n_40
  have P1_43 := Lib.hid h1
  clear hx h1
  have zwi := wi_42.out.lt
  have qh0 : w41.cell? ⟨w.heap.size + 1, 0, none⟩ = some (.slice R n q) := h_42.out.at 0 _ rfl
  have qh1 : w41.cell? ⟨w.heap.size + 1, 1, none⟩ = some (.int .i64 keep) := h_42.out.at 1 _ rfl
  have zh := h_42.out.lt
  have qn0 : w41.cell? ⟨w.heap.size + 1 + 1, 0, none⟩ = some (.bool leaf) := n_42.out.at 0 _ rfl
  have qn1 : w41.cell? ⟨w.heap.size + 1 + 1, 1, none⟩ = some (.slice A m c) := n_42.out.at 1 _ rfl
  have zn := n_42.out.lt
  go_wp2_with (go_at_call 23; refine stop_here ?_)
  refine stop_on ?_
  clear zwi qh0 qh1 zh qn0 qn1 zn
  generalize hW : (World.alloc w41 _) = W44
  obtain ⟨hx, hb0⟩ := allocs1 hW
  clear hW
  have A_45 := Lib.hid (A_42.out.ext hx)
  have I_45 := Lib.hid (I_42.out.ext hx)
  have H_45 := Lib.hid (H_42.out.ext hx)
  have X_45 := Lib.hid (X_42.out.ext hx)
  have wi_45 := Lib.hid (wi_42.out.ext hx)
  have h_45 := Lib.hid (h_42.out.ext hx)
  have n_45 := Lib.hid (n_42.out.ext hx)
  have P1_45 := Lib.hid (P1_43.out.ext hx)
  clear A_42 I_42 H_42 X_42 wi_42 h_42 n_42 P1_43
  have a_46 := Lib.hid hb0
  clear hx hb0
  refine (ref05Alloc_any R l n q keep leaf A it m c H held t d _ (by omega) HB8.out A_45.out HM.out I_45.out HT.out H_45.out).mono ?_
  rintro e w47 ⟨S2, d2, rfl, h1, hx⟩
  have A_48 := Lib.hid (A_45.out.ext hx)
  have I_48 := Lib.hid (I_45.out.ext hx)
  have H_48 := Lib.hid (H_45.out.ext hx)
  have X_48 := Lib.hid (X_45.out.ext hx)
  have wi_48 := Lib.hid (wi_45.out.ext hx)
  have h_48 := Lib.hid (h_45.out.ext hx)
  have n_48 := Lib.hid (n_45.out.ext hx)
  have P1_48 := Lib.hid (P1_45.out.ext hx)
  have a_48 := Lib.hid (a_46.out.ext hx)
  clear A_45 I_45 H_45 X_45 wi_45 h_45 n_45 P1_45 a_46
  have P2_49 := Lib.hid h1
  clear hx h1
  have zwi := wi_48.out.lt
  have qh0 : w47.cell? ⟨w.heap.size + 1, 0, none⟩ = some (.slice R n q) := h_48.out.at 0 _ rfl
  have qh1 : w47.cell? ⟨w.heap.size + 1, 1, none⟩ = some (.int .i64 keep) := h_48.out.at 1 _ rfl
  have zh := h_48.out.lt
  have qn0 : w47.cell? ⟨w.heap.size + 1 + 1, 0, none⟩ = some (.bool leaf) := n_48.out.at 0 _ rfl
  have qn1 : w47.cell? ⟨w.heap.size + 1 + 1, 1, none⟩ = some (.slice A m c) := n_48.out.at 1 _ rfl
  have zn := n_48.out.lt
  have qa0 : w47.cell? ⟨w41.heap.size, 0, none⟩ = some (.slice S1 n d1) := a_48.out.at 0 _ rfl
  have qa1 : w47.cell? ⟨w41.heap.size, 1, none⟩ = some (.int .i64 keep) := a_48.out.at 1 _ rfl
  have za := a_48.out.lt
  go_wp2_with (go_at_call 24; refine stop_here ?_)
  refine stop_on ?_
  clear zwi qh0 qh1 zh qn0 qn1 zn qa0 qa1 za
  generalize hW : (World.alloc w47 _) = W50
  obtain ⟨hx, hb0⟩ := allocs1 hW
  clear hW
  have A_51 := Lib.hid (A_48.out.ext hx)
  have I_51 := Lib.hid (I_48.out.ext hx)
  have H_51 := Lib.hid (H_48.out.ext hx)
  have X_51 := Lib.hid (X_48.out.ext hx)
  have wi_51 := Lib.hid (wi_48.out.ext hx)
  have h_51 := Lib.hid (h_48.out.ext hx)
  have n_51 := Lib.hid (n_48.out.ext hx)
  have P1_51 := Lib.hid (P1_48.out.ext hx)
  have a_51 := Lib.hid (a_48.out.ext hx)
  have P2_51 := Lib.hid (P2_49.out.ext hx)
  clear A_48 I_48 H_48 X_48 wi_48 h_48 n_48 P1_48 a_48 P2_49
  have b_52 := Lib.hid hb0
  clear hx hb0
  refine (heapHold_any R l n q keep _ p HRI.out HBD.out A_51.out).mono ?_
  rintro e w53 ⟨S3, d3, rfl, h1, hx⟩
  have A_54 := Lib.hid (A_51.out.ext hx)
  have I_54 := Lib.hid (I_51.out.ext hx)
  have H_54 := Lib.hid (H_51.out.ext hx)
  have X_54 := Lib.hid (X_51.out.ext hx)
  have wi_54 := Lib.hid (wi_51.out.ext hx)
  have h_54 := Lib.hid (h_51.out.ext hx)
  have n_54 := Lib.hid (n_51.out.ext hx)
  have P1_54 := Lib.hid (P1_51.out.ext hx)
  have a_54 := Lib.hid (a_51.out.ext hx)
  have P2_54 := Lib.hid (P2_51.out.ext hx)
  have b_54 := Lib.hid (b_52.out.ext hx)
  clear A_51 I_51 H_51 X_51 wi_51 h_51 n_51 P1_51 a_51 P2_51 b_52
  have P3_55 := Lib.hid h1
  clear hx h1
  have zwi := wi_54.out.lt
  have qh0 : w53.cell? ⟨w.heap.size + 1, 0, none⟩ = some (.slice R n q) := h_54.out.at 0 _ rfl
  have qh1 : w53.cell? ⟨w.heap.size + 1, 1, none⟩ = some (.int .i64 keep) := h_54.out.at 1 _ rfl
  have zh := h_54.out.lt
  have qn0 : w53.cell? ⟨w.heap.size + 1 + 1, 0, none⟩ = some (.bool leaf) := n_54.out.at 0 _ rfl
  have qn1 : w53.cell? ⟨w.heap.size + 1 + 1, 1, none⟩ = some (.slice A m c) := n_54.out.at 1 _ rfl
  have zn := n_54.out.lt
  have qa0 : w53.cell? ⟨w41.heap.size, 0, none⟩ = some (.slice S1 n d1) := a_54.out.at 0 _ rfl
  have qa1 : w53.cell? ⟨w41.heap.size, 1, none⟩ = some (.int .i64 keep) := a_54.out.at 1 _ rfl
  have za := a_54.out.lt
  have qb0 : w53.cell? ⟨w47.heap.size, 0, none⟩ = some (.slice S2 n d2) := b_54.out.at 0 _ rfl
  have qb1 : w53.cell? ⟨w47.heap.size, 1, none⟩ = some (.int .i64 keep) := b_54.out.at 1 _ rfl
  have zb := b_54.out.lt
  go_wp2_with (go_at_call 25; refine stop_here ?_)
  refine stop_on ?_
  clear zwi qh0 qh1 zh qn0 qn1 zn qa0 qa1 za qb0 qb1 zb
  generalize hW : (World.alloc w53 _) = W56
  obtain ⟨hx, hb0⟩ := allocs1 hW
  clear hW
  have A_57 := Lib.hid (A_54.out.ext hx)
  have I_57 := Lib.hid (I_54.out.ext hx)
  have H_57 := Lib.hid (H_54.out.ext hx)
  have X_57 := Lib.hid (X_54.out.ext hx)
  have wi_57 := Lib.hid (wi_54.out.ext hx)
  have h_57 := Lib.hid (h_54.out.ext hx)
  have n_57 := Lib.hid (n_54.out.ext hx)
  have P1_57 := Lib.hid (P1_54.out.ext hx)
  have a_57 := Lib.hid (a_54.out.ext hx)
  have P2_57 := Lib.hid (P2_54.out.ext hx)
  have b_57 := Lib.hid (b_54.out.ext hx)
  have P3_57 := Lib.hid (P3_55.out.ext hx)
  clear A_54 I_54 H_54 X_54 wi_54 h_54 n_54 P1_54 a_54 P2_54 b_54 P3_55
  have c_58 := Lib.hid hb0
  clear hx hb0
  refine (ref05Hold_any R l n q keep p _ (by omega) HBD.out A_57.out).mono ?_
  rintro e w59 ⟨S4, d4, rfl, h1, hx⟩
  have A_60 := Lib.hid (A_57.out.ext hx)
  have I_60 := Lib.hid (I_57.out.ext hx)
  have H_60 := Lib.hid (H_57.out.ext hx)
  have X_60 := Lib.hid (X_57.out.ext hx)
  have wi_60 := Lib.hid (wi_57.out.ext hx)
  have h_60 := Lib.hid (h_57.out.ext hx)
  have n_60 := Lib.hid (n_57.out.ext hx)
  have P1_60 := Lib.hid (P1_57.out.ext hx)
  have a_60 := Lib.hid (a_57.out.ext hx)
  have P2_60 := Lib.hid (P2_57.out.ext hx)
  have b_60 := Lib.hid (b_57.out.ext hx)
  have P3_60 := Lib.hid (P3_57.out.ext hx)
  have c_60 := Lib.hid (c_58.out.ext hx)
  clear A_57 I_57 H_57 X_57 wi_57 h_57 n_57 P1_57 a_57 P2_57 b_57 P3_57 c_58
  have P4_61 := Lib.hid h1
  clear hx h1
  have zwi := wi_60.out.lt
  have qh0 : w59.cell? ⟨w.heap.size + 1, 0, none⟩ = some (.slice R n q) := h_60.out.at 0 _ rfl
  have qh1 : w59.cell? ⟨w.heap.size + 1, 1, none⟩ = some (.int .i64 keep) := h_60.out.at 1 _ rfl
  have zh := h_60.out.lt
  have qn0 : w59.cell? ⟨w.heap.size + 1 + 1, 0, none⟩ = some (.bool leaf) := n_60.out.at 0 _ rfl
  have qn1 : w59.cell? ⟨w.heap.size + 1 + 1, 1, none⟩ = some (.slice A m c) := n_60.out.at 1 _ rfl
  have zn := n_60.out.lt
  have qa0 : w59.cell? ⟨w41.heap.size, 0, none⟩ = some (.slice S1 n d1) := a_60.out.at 0 _ rfl
  have qa1 : w59.cell? ⟨w41.heap.size, 1, none⟩ = some (.int .i64 keep) := a_60.out.at 1 _ rfl
  have za := a_60.out.lt
  have qb0 : w59.cell? ⟨w47.heap.size, 0, none⟩ = some (.slice S2 n d2) := b_60.out.at 0 _ rfl
  have qb1 : w59.cell? ⟨w47.heap.size, 1, none⟩ = some (.int .i64 keep) := b_60.out.at 1 _ rfl
  have zb := b_60.out.lt
  have qc0 : w59.cell? ⟨w53.heap.size, 0, none⟩ = some (.slice S3 n d3) := c_60.out.at 0 _ rfl
  have qc1 : w59.cell? ⟨w53.heap.size, 1, none⟩ = some (.int .i64 keep) := c_60.out.at 1 _ rfl
  have zc := c_60.out.lt
  go_wp2_with (go_at_call 26; refine stop_here ?_)
  refine stop_on ?_
  clear zwi qh0 qh1 zh qn0 qn1 zn qa0 qa1 za qb0 qb1 zb qc0 qc1 zc
  generalize hW : (World.alloc w59 _) = W62
  obtain ⟨hx, hb0⟩ := allocs1 hW
  clear hW
  have A_63 := Lib.hid (A_60.out.ext hx)
  have I_63 := Lib.hid (I_60.out.ext hx)
  have H_63 := Lib.hid (H_60.out.ext hx)
  have X_63 := Lib.hid (X_60.out.ext hx)
  have wi_63 := Lib.hid (wi_60.out.ext hx)
  have h_63 := Lib.hid (h_60.out.ext hx)
  have n_63 := Lib.hid (n_60.out.ext hx)
  have P1_63 := Lib.hid (P1_60.out.ext hx)
  have a_63 := Lib.hid (a_60.out.ext hx)
  have P2_63 := Lib.hid (P2_60.out.ext hx)
  have b_63 := Lib.hid (b_60.out.ext hx)
  have P3_63 := Lib.hid (P3_60.out.ext hx)
  have c_63 := Lib.hid (c_60.out.ext hx)
  have P4_63 := Lib.hid (P4_61.out.ext hx)
  clear A_60 I_60 H_60 X_60 wi_60 h_60 n_60 P1_60 a_60 P2_60 b_60 P3_60 c_60 P4_61
  have d_64 := Lib.hid hb0
  clear hx hb0
  refine (heapLoose_is R l n q keep p _ HRI.out HBD.out A_63.out).mono ?_
  rintro e w65 ⟨S5, d5, rfl, h1, hx⟩
  have A_66 := Lib.hid (A_63.out.ext hx)
  have I_66 := Lib.hid (I_63.out.ext hx)
  have H_66 := Lib.hid (H_63.out.ext hx)
  have X_66 := Lib.hid (X_63.out.ext hx)
  have wi_66 := Lib.hid (wi_63.out.ext hx)
  have h_66 := Lib.hid (h_63.out.ext hx)
  have n_66 := Lib.hid (n_63.out.ext hx)
  have P1_66 := Lib.hid (P1_63.out.ext hx)
  have a_66 := Lib.hid (a_63.out.ext hx)
  have P2_66 := Lib.hid (P2_63.out.ext hx)
  have b_66 := Lib.hid (b_63.out.ext hx)
  have P3_66 := Lib.hid (P3_63.out.ext hx)
  have c_66 := Lib.hid (c_63.out.ext hx)
  have P4_66 := Lib.hid (P4_63.out.ext hx)
  have d_66 := Lib.hid (d_64.out.ext hx)
  clear A_63 I_63 H_63 X_63 wi_63 h_63 n_63 P1_63 a_63 P2_63 b_63 P3_63 c_63 P4_63 d_64
  have P5_67 := Lib.hid h1
  clear hx h1
  have zwi := wi_66.out.lt
  have qh0 : w65.cell? ⟨w.heap.size + 1, 0, none⟩ = some (.slice R n q) := h_66.out.at 0 _ rfl
  have qh1 : w65.cell? ⟨w.heap.size + 1, 1, none⟩ = some (.int .i64 keep) := h_66.out.at 1 _ rfl
  have zh := h_66.out.lt
  have qn0 : w65.cell? ⟨w.heap.size + 1 + 1, 0, none⟩ = some (.bool leaf) := n_66.out.at 0 _ rfl
  have qn1 : w65.cell? ⟨w.heap.size + 1 + 1, 1, none⟩ = some (.slice A m c) := n_66.out.at 1 _ rfl
  have zn := n_66.out.lt
  have qa0 : w65.cell? ⟨w41.heap.size, 0, none⟩ = some (.slice S1 n d1) := a_66.out.at 0 _ rfl
  have qa1 : w65.cell? ⟨w41.heap.size, 1, none⟩ = some (.int .i64 keep) := a_66.out.at 1 _ rfl
  have za := a_66.out.lt
  have qb0 : w65.cell? ⟨w47.heap.size, 0, none⟩ = some (.slice S2 n d2) := b_66.out.at 0 _ rfl
  have qb1 : w65.cell? ⟨w47.heap.size, 1, none⟩ = some (.int .i64 keep) := b_66.out.at 1 _ rfl
  have zb := b_66.out.lt
  have qc0 : w65.cell? ⟨w53.heap.size, 0, none⟩ = some (.slice S3 n d3) := c_66.out.at 0 _ rfl
  have qc1 : w65.cell? ⟨w53.heap.size, 1, none⟩ = some (.int .i64 keep) := c_66.out.at 1 _ rfl
  have zc := c_66.out.lt
  have qd0 : w65.cell? ⟨w59.heap.size, 0, none⟩ = some (.slice S4 n d4) := d_66.out.at 0 _ rfl
  have qd1 : w65.cell? ⟨w59.heap.size, 1, none⟩ = some (.int .i64 keep) := d_66.out.at 1 _ rfl
  have zd := d_66.out.lt
  go_wp2_with (go_at_call 27; refine stop_here ?_)
  refine stop_on ?_
  clear zwi qh0 qh1 zh qn0 qn1 zn qa0 qa1 za qb0 qb1 zb qc0 qc1 zc qd0 qd1 zd
  generalize hW : (World.alloc w65 _) = W68
  obtain ⟨hx, hb0⟩ := allocs1 hW
  clear hW
  have A_69 := Lib.hid (A_66.out.ext hx)
  have I_69 := Lib.hid (I_66.out.ext hx)
  have H_69 := Lib.hid (H_66.out.ext hx)
  have X_69 := Lib.hid (X_66.out.ext hx)
  have wi_69 := Lib.hid (wi_66.out.ext hx)
  have h_69 := Lib.hid (h_66.out.ext hx)
  have n_69 := Lib.hid (n_66.out.ext hx)
  have P1_69 := Lib.hid (P1_66.out.ext hx)
  have a_69 := Lib.hid (a_66.out.ext hx)
  have P2_69 := Lib.hid (P2_66.out.ext hx)
  have b_69 := Lib.hid (b_66.out.ext hx)
  have P3_69 := Lib.hid (P3_66.out.ext hx)
  have c_69 := Lib.hid (c_66.out.ext hx)
  have P4_69 := Lib.hid (P4_66.out.ext hx)
  have d_69 := Lib.hid (d_66.out.ext hx)
  have P5_69 := Lib.hid (P5_67.out.ext hx)
  clear A_66 I_66 H_66 X_66 wi_66 h_66 n_66 P1_66 a_66 P2_66 b_66 P3_66 c_66 P4_66 d_66 P5_67
  have e_70 := Lib.hid hb0
  clear hx hb0
  refine (ref05Loose_is R l n q keep p _ (by omega) HBD.out A_69.out).mono ?_
  rintro e w71 ⟨S6, d6, rfl, h1, hx⟩
  have A_72 := Lib.hid (A_69.out.ext hx)
  have I_72 := Lib.hid (I_69.out.ext hx)
  have H_72 := Lib.hid (H_69.out.ext hx)
  have X_72 := Lib.hid (X_69.out.ext hx)
  have wi_72 := Lib.hid (wi_69.out.ext hx)
  have h_72 := Lib.hid (h_69.out.ext hx)
  have n_72 := Lib.hid (n_69.out.ext hx)
  have P1_72 := Lib.hid (P1_69.out.ext hx)
  have a_72 := Lib.hid (a_69.out.ext hx)
  have P2_72 := Lib.hid (P2_69.out.ext hx)
  have b_72 := Lib.hid (b_69.out.ext hx)
  have P3_72 := Lib.hid (P3_69.out.ext hx)
  have c_72 := Lib.hid (c_69.out.ext hx)
  have P4_72 := Lib.hid (P4_69.out.ext hx)
  have d_72 := Lib.hid (d_69.out.ext hx)
  have P5_72 := Lib.hid (P5_69.out.ext hx)
  have e_72 := Lib.hid (e_70.out.ext hx)
  clear A_69 I_69 H_69 X_69 wi_69 h_69 n_69 P1_69 a_69 P2_69 b_69 P3_69 c_69 P4_69 d_69 P5_69 e_70
  have P6_73 := Lib.hid h1
  clear hx h1
  have zwi := wi_72.out.lt
  have qh0 : w71.cell? ⟨w.heap.size + 1, 0, none⟩ = some (.slice R n q) := h_72.out.at 0 _ rfl
  have qh1 : w71.cell? ⟨w.heap.size + 1, 1, none⟩ = some (.int .i64 keep) := h_72.out.at 1 _ rfl
  have zh := h_72.out.lt
  have qn0 : w71.cell? ⟨w.heap.size + 1 + 1, 0, none⟩ = some (.bool leaf) := n_72.out.at 0 _ rfl
  have qn1 : w71.cell? ⟨w.heap.size + 1 + 1, 1, none⟩ = some (.slice A m c) := n_72.out.at 1 _ rfl
  have zn := n_72.out.lt
  have qa0 : w71.cell? ⟨w41.heap.size, 0, none⟩ = some (.slice S1 n d1) := a_72.out.at 0 _ rfl
  have qa1 : w71.cell? ⟨w41.heap.size, 1, none⟩ = some (.int .i64 keep) := a_72.out.at 1 _ rfl
  have za := a_72.out.lt
  have qb0 : w71.cell? ⟨w47.heap.size, 0, none⟩ = some (.slice S2 n d2) := b_72.out.at 0 _ rfl
  have qb1 : w71.cell? ⟨w47.heap.size, 1, none⟩ = some (.int .i64 keep) := b_72.out.at 1 _ rfl
  have zb := b_72.out.lt
  have qc0 : w71.cell? ⟨w53.heap.size, 0, none⟩ = some (.slice S3 n d3) := c_72.out.at 0 _ rfl
  have qc1 : w71.cell? ⟨w53.heap.size, 1, none⟩ = some (.int .i64 keep) := c_72.out.at 1 _ rfl
  have zc := c_72.out.lt
  have qd0 : w71.cell? ⟨w59.heap.size, 0, none⟩ = some (.slice S4 n d4) := d_72.out.at 0 _ rfl
  have qd1 : w71.cell? ⟨w59.heap.size, 1, none⟩ = some (.int .i64 keep) := d_72.out.at 1 _ rfl
  have zd := d_72.out.lt
  have qe0 : w71.cell? ⟨w65.heap.size, 0, none⟩ = some (.slice S5 n d5) := e_72.out.at 0 _ rfl
  have qe1 : w71.cell? ⟨w65.heap.size, 1, none⟩ = some (.int .i64 keep) := e_72.out.at 1 _ rfl
  have ze := e_72.out.lt
  go_wp2_with fail
  clear zwi qh0 qh1 zh qn0 qn1 zn qa0 qa1 za qb0 qb1 zb qc0 qc1 zc qd0 qd1 zd qe0 qe1 ze
  generalize hW : (World.alloc w71 _) = W74
  obtain ⟨hx, hb0⟩ := allocs1 hW
  clear hW
  have A_75 := Lib.hid (A_72.out.ext hx)
  have I_75 := Lib.hid (I_72.out.ext hx)
  have H_75 := Lib.hid (H_72.out.ext hx)
  have X_75 := Lib.hid (X_72.out.ext hx)
  have wi_75 := Lib.hid (wi_72.out.ext hx)
  have h_75 := Lib.hid (h_72.out.ext hx)
  have n_75 := Lib.hid (n_72.out.ext hx)
  have P1_75 := Lib.hid (P1_72.out.ext hx)
  have a_75 := Lib.hid (a_72.out.ext hx)
  have P2_75 := Lib.hid (P2_72.out.ext hx)
  have b_75 := Lib.hid (b_72.out.ext hx)
  have P3_75 := Lib.hid (P3_72.out.ext hx)
  have c_75 := Lib.hid (c_72.out.ext hx)
  have P4_75 := Lib.hid (P4_72.out.ext hx)
  have d_75 := Lib.hid (d_72.out.ext hx)
  have P5_75 := Lib.hid (P5_72.out.ext hx)
  have e_75 := Lib.hid (e_72.out.ext hx)
  have P6_75 := Lib.hid (P6_73.out.ext hx)
  clear A_72 I_72 H_72 X_72 wi_72 h_72 n_72 P1_72 a_72 P2_72 b_72 P3_72 c_72 P4_72 d_72 P5_72 e_72 P6_73
  have f_76 := Lib.hid hb0
  clear hx hb0
  have HK77 := Lib.hid (fun w' (hx : Ext W74 w') => (show w'.cell? ⟨w.heap.size + 1, 0, none⟩ = some (.slice R n q) ∧ w'.cell? ⟨w.heap.size + 1, 1, none⟩ = some (.int .i64 keep) ∧ w'.cell? ⟨w41.heap.size, 0, none⟩ = some (.slice S1 n d1) ∧ w'.cell? ⟨w41.heap.size, 1, none⟩ = some (.int .i64 keep) ∧ w'.cell? ⟨w47.heap.size, 0, none⟩ = some (.slice S2 n d2) ∧ w'.cell? ⟨w47.heap.size, 1, none⟩ = some (.int .i64 keep) ∧ w'.cell? ⟨w53.heap.size, 0, none⟩ = some (.slice S3 n d3) ∧ w'.cell? ⟨w53.heap.size, 1, none⟩ = some (.int .i64 keep) ∧ w'.cell? ⟨w59.heap.size, 0, none⟩ = some (.slice S4 n d4) ∧ w'.cell? ⟨w59.heap.size, 1, none⟩ = some (.int .i64 keep) ∧ w'.cell? ⟨w65.heap.size, 0, none⟩ = some (.slice S5 n d5) ∧ w'.cell? ⟨w65.heap.size, 1, none⟩ = some (.int .i64 keep) ∧ w'.cell? ⟨w71.heap.size, 0, none⟩ = some (.slice S6 n d6) ∧ w'.cell? ⟨w71.heap.size, 1, none⟩ = some (.int .i64 keep) from ⟨(h_75.out.ext hx).at 0 _ rfl, (h_75.out.ext hx).at 1 _ rfl, (a_75.out.ext hx).at 0 _ rfl, (a_75.out.ext hx).at 1 _ rfl, (b_75.out.ext hx).at 0 _ rfl, (b_75.out.ext hx).at 1 _ rfl, (c_75.out.ext hx).at 0 _ rfl, (c_75.out.ext hx).at 1 _ rfl, (d_75.out.ext hx).at 0 _ rfl, (d_75.out.ext hx).at 1 _ rfl, (e_75.out.ext hx).at 0 _ rfl, (e_75.out.ext hx).at 1 _ rfl, (f_76.out.ext hx).at 0 _ rfl, (f_76.out.ext hx).at 1 _ rfl⟩))
  have G77_0 := Lib.hid (fun w' (hx : Ext W74 w') => ref05Same_eq S1 S2 (allocL l leaf it held) n d1 d2 keep w' (P1_75.out.ext hx) (P2_75.out.ext hx))
  have G77_1 := Lib.hid (fun w' (hx : Ext W74 w') => ref05Same_eq S3 S4 (holdH ⟨l, keep⟩ p).c n d3 d4 keep w' (P3_75.out.ext hx) (P4_75.out.ext hx))
  have G77_2 := Lib.hid (fun w' (hx : Ext W74 w') => ref05Same_eq S5 S6 (looseL (l.length + 1) l p) n d5 d6 keep w' (P5_75.out.ext hx) (P6_75.out.ext hx))
  have G77_3 := Lib.hid (fun w' (hx : Ext W74 w') => heapSettle_any R l n q keep w' Hr.out (A_75.out.ext hx))
  have G77_4 := Lib.hid (fun w' (hx : Ext W74 w') => ref05Settle_any R l n q keep w' (by omega) (A_75.out.ext hx))
  have qh0 : W74.cell? ⟨w.heap.size + 1, 0, none⟩ = some (.slice R n q) := h_75.out.at 0 _ rfl
  have qh1 : W74.cell? ⟨w.heap.size + 1, 1, none⟩ = some (.int .i64 keep) := h_75.out.at 1 _ rfl
  have zh := h_75.out.lt
  have qa0 : W74.cell? ⟨w41.heap.size, 0, none⟩ = some (.slice S1 n d1) := a_75.out.at 0 _ rfl
  have qa1 : W74.cell? ⟨w41.heap.size, 1, none⟩ = some (.int .i64 keep) := a_75.out.at 1 _ rfl
  have za := a_75.out.lt
  have qb0 : W74.cell? ⟨w47.heap.size, 0, none⟩ = some (.slice S2 n d2) := b_75.out.at 0 _ rfl
  have qb1 : W74.cell? ⟨w47.heap.size, 1, none⟩ = some (.int .i64 keep) := b_75.out.at 1 _ rfl
  have zb := b_75.out.lt
  have qc0 : W74.cell? ⟨w53.heap.size, 0, none⟩ = some (.slice S3 n d3) := c_75.out.at 0 _ rfl
  have qc1 : W74.cell? ⟨w53.heap.size, 1, none⟩ = some (.int .i64 keep) := c_75.out.at 1 _ rfl
  have zc := c_75.out.lt
  have qd0 : W74.cell? ⟨w59.heap.size, 0, none⟩ = some (.slice S4 n d4) := d_75.out.at 0 _ rfl
  have qd1 : W74.cell? ⟨w59.heap.size, 1, none⟩ = some (.int .i64 keep) := d_75.out.at 1 _ rfl
  have zd := d_75.out.lt
  have qe0 : W74.cell? ⟨w65.heap.size, 0, none⟩ = some (.slice S5 n d5) := e_75.out.at 0 _ rfl
  have qe1 : W74.cell? ⟨w65.heap.size, 1, none⟩ = some (.int .i64 keep) := e_75.out.at 1 _ rfl
  have ze := e_75.out.lt
  have qf0 : W74.cell? ⟨w71.heap.size, 0, none⟩ = some (.slice S6 n d6) := f_76.out.at 0 _ rfl
  have qf1 : W74.cell? ⟨w71.heap.size, 1, none⟩ = some (.int .i64 keep) := f_76.out.at 1 _ rfl
  have zf := f_76.out.lt
  go_region_held3 (fun w' => w'.cell? ⟨w.heap.size + 1, 0, none⟩ = some (.slice R n q) ∧ w'.cell? ⟨w.heap.size + 1, 1, none⟩ = some (.int .i64 keep) ∧ w'.cell? ⟨w41.heap.size, 0, none⟩ = some (.slice S1 n d1) ∧ w'.cell? ⟨w41.heap.size, 1, none⟩ = some (.int .i64 keep) ∧ w'.cell? ⟨w47.heap.size, 0, none⟩ = some (.slice S2 n d2) ∧ w'.cell? ⟨w47.heap.size, 1, none⟩ = some (.int .i64 keep) ∧ w'.cell? ⟨w53.heap.size, 0, none⟩ = some (.slice S3 n d3) ∧ w'.cell? ⟨w53.heap.size, 1, none⟩ = some (.int .i64 keep) ∧ w'.cell? ⟨w59.heap.size, 0, none⟩ = some (.slice S4 n d4) ∧ w'.cell? ⟨w59.heap.size, 1, none⟩ = some (.int .i64 keep) ∧ w'.cell? ⟨w65.heap.size, 0, none⟩ = some (.slice S5 n d5) ∧ w'.cell? ⟨w65.heap.size, 1, none⟩ = some (.int .i64 keep) ∧ w'.cell? ⟨w71.heap.size, 0, none⟩ = some (.slice S6 n d6) ∧ w'.cell? ⟨w71.heap.size, 1, none⟩ = some (.int .i64 keep))
    (first | exact HK77.out _ E77_5.out | exact HK77.out _ E77_4.out | exact HK77.out _ E77_3.out | exact HK77.out _ E77_2.out | exact HK77.out _ E77_1.out | exact HK77.out _ E77_0.out | exact HK77.out _ (Ext.refl W74).drew | exact HK77.out _ (Ext.refl W74))
    (first
      | ((go_at_call 14
          have hc := ref05Same_eq S7 S8 (settleH ⟨l, keep⟩).c n d7 d8 keep _ Q7_77_4.out Q8_77_4.out
          with_reducible refine hc.mono ?_
          clear hc
          rintro e v77_5 ⟨rfl, hx⟩
          have E77_5 := Lib.hid (E77_4.out.trans hx)
          have Q7_77_5 := Lib.hid (Q7_77_4.out.ext hx)
          have Q8_77_5 := Lib.hid (Q8_77_4.out.ext hx)
          clear hx))
      | ((go_at_call 29
          with_reducible refine (G77_4.out _ E77_3.out).mono ?_
          rintro e v77_4 ⟨S8, d8, rfl, h8, hx⟩
          have E77_4 := Lib.hid (E77_3.out.trans hx)
          have Q7_77_4 := Lib.hid (Q7_77_3.out.ext hx)
          have Q8_77_4 := Lib.hid h8
          clear hx h8))
      | ((go_at_call 28
          with_reducible refine (G77_3.out _ E77_2.out).mono ?_
          rintro e v77_3 ⟨S7, d7, rfl, h7, hx⟩
          have E77_3 := Lib.hid (E77_2.out.trans hx)
          have Q7_77_3 := Lib.hid h7
          clear hx h7))
      | ((go_at_call 14
          with_reducible refine (G77_2.out _ E77_1.out).mono ?_
          rintro e v77_2 ⟨rfl, hx⟩
          have E77_2 := Lib.hid (E77_1.out.trans hx)
          clear hx))
      | ((go_at_call 14
          with_reducible refine (G77_1.out _ E77_0.out).mono ?_
          rintro e v77_1 ⟨rfl, hx⟩
          have E77_1 := Lib.hid (E77_0.out.trans hx)
          clear hx))
      | ((go_at_call 14
          with_reducible refine (G77_0.out _ ?_).mono ?_
          (first | exact Ext.refl _ | exact (Ext.refl _).drew)
          rintro e v77_0 ⟨rfl, hx⟩
          have E77_0 := Lib.hid (show Ext W74 v77_0 from by first | exact hx | exact (Ext.refl W74).drew.trans hx)
          clear hx)))
  clear qh0 qh1 zh qa0 qa1 za qb0 qb1 zb qc0 qc1 zc qd0 qd1 zd qe0 qe1 ze qf0 qf1 zf
  go_wp2
  go_ret
  exact ⟨rfl, X_75.out.trans E77_5.out⟩
end Go.Proofs.Ytclpeeemnmhdcaa

