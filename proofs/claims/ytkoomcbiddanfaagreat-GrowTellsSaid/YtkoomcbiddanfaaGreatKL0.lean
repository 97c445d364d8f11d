/- The walk of GrowTells. -/
import Derived.Test.YtkoomcbiddanfaaGreatK33
import Derived.Deep.AppendLies
import Derived.Deep.RegionHeld3
import Derived.Deep.DeepCutAuto
import Derived.Deep.DrawnRows
import Derived.RegionTactic
import Derived.Test.YtkoomcbiddanfaaGreatK38
import Derived.Test.YtkoomcbiddanfaaGreatKQ
namespace Go.Proofs.YtkoomcbiddanfaaGreat
open Go.RowKit
attribute [local go_sem ↓] Go.wp_at_zero Go.wp_at_succ

attribute [local go_sem] beq_self_eq_true bne_self_eq_false
section
variable {l : List HC} {R : Option Addr} {n q : Nat} {keep root : Int} {w : World}
theorem ref09Put_is {most : Int} {key val : Int} {deep : Bool} {c2 : List HC} {r2 e2 : Int} (hmost : most ≤ 60) (hm : mayT ⟨l, keep⟩ root most = true) (h : putR ⟨l, keep⟩ root (key, val) deep = (c2, r2, e2)) (hA : HcSl w R n q l) :
    Calls Tryz.prog 7 #[.agg #[.slice R n q, .int .i64 keep], .int .i64 root, .int .i64 key, .int .i64 val, .bool deep] w fun e w' => ∃ S d, e = .returned (.tuple #[.agg #[.slice S n d, .int .i64 keep], .int .i64 r2, .int .i64 e2]) ∧ HcSl w' S n d c2 ∧ Ext w w' := by
  have h1 := ref09Put_any R l n q keep root most (key, val) deep w hmost hm hA
  rw [h] at h1
  exact h1
theorem tellsFill_is {most : Int} {A : Option Addr} {it : List It} {m c : Nat} {c2 : List HC} {r2 e2 : Int} (hmost : most ≤ 60) (hf : fineB ⟨l, keep⟩ root most = true) (hm : m = it.length) (hmb : m ≤ 90000) (h : fillR keep it l root = (c2, r2, e2)) (hA : HcSl w R n q l) (hI : Sl w A m c (ivs it)) :
    Calls Tryz.prog 12 #[.agg #[.slice R n q, .int .i64 keep], .int .i64 root, .slice A m c] w fun e w' => ∃ S d, e = .returned (.tuple #[.agg #[.slice S n d, .int .i64 keep], .int .i64 r2, .int .i64 e2]) ∧ HcSl w' S n d c2 ∧ Ext w w' := by
  have h1 := growFill_any R l n q keep root most A it m c w hmost hf hm hmb hA hI
  rw [h] at h1
  exact h1
theorem ref09Fill_is {most : Int} {A : Option Addr} {it : List It} {m c : Nat} {c2 : List HC} {r2 e2 : Int} (hmost : most ≤ 60) (hf : fineB ⟨l, keep⟩ root most = true) (hm : m = it.length) (hmb : m ≤ 90000) (h : fillR keep it l root = (c2, r2, e2)) (hA : HcSl w R n q l) (hI : Sl w A m c (ivs it)) :
    Calls Tryz.prog 13 #[.agg #[.slice R n q, .int .i64 keep], .int .i64 root, .slice A m c] w fun e w' => ∃ S d, e = .returned (.tuple #[.agg #[.slice S n d, .int .i64 keep], .int .i64 r2, .int .i64 e2]) ∧ HcSl w' S n d c2 ∧ Ext w w' := by
  have h1 := ref09Fill_any R l n q keep root most A it m c w hmost hf hm hmb hA hI
  rw [h] at h1
  exact h1
theorem growOver_is {A : Option Addr} {it : List It} {m c p : Nat} {c2 : List HC} {e2 : Int} (hr : rightH ⟨l, keep⟩ = true) (hm10 : m ≤ 10) (hm : m = it.length) (h : (allocL l false it (it.map (·.2)), allocP l false it, allocE l false it) = (c2, p, e2)) (hA : HcSl w R n q l) (hI : Sl w A m c (ivs it)) :
    Calls Tryz.prog 8 #[.agg #[.slice R n q, .int .i64 keep], .slice A m c] w fun e w' => ∃ S d, e = .returned (.tuple #[.agg #[.slice S n d, .int .i64 keep], .int .i64 p, .int .i64 e2]) ∧ HcSl w' S n d c2 ∧ Ext w w' := by
  simp only [Prod.mk.injEq] at h
  obtain ⟨rfl, rfl, rfl⟩ := h
  exact growOverF_any R l n q keep A it m c w hr hm10 hA hm hI
theorem ref09Over_is {A : Option Addr} {it : List It} {m c p : Nat} {c2 : List HC} {e2 : Int} (hr : rightH ⟨l, keep⟩ = true) (hm10 : m ≤ 10) (hm : m = it.length) (h : (allocL l false it (it.map (·.2)), allocP l false it, allocE l false it) = (c2, p, e2)) (hA : HcSl w R n q l) (hI : Sl w A m c (ivs it)) :
    Calls Tryz.prog 9 #[.agg #[.slice R n q, .int .i64 keep], .slice A m c] w fun e w' => ∃ S d, e = .returned (.tuple #[.agg #[.slice S n d, .int .i64 keep], .int .i64 p, .int .i64 e2]) ∧ HcSl w' S n d c2 ∧ Ext w w' := by
  simp only [Prod.mk.injEq] at h
  obtain ⟨rfl, rfl, rfl⟩ := h
  have hn := hA.1
  have h2 := (rightH_iff hr).1.1.2
  refine ref09Over_any R l n q keep A it m c w (by omega) (fun k hk => ?_) hA hm (by omega) hI
  have h1 := (rightH_iff hr).2 k hk
  unfold cellR at h1
  split at h1
  · rename_i e; omega
  · simp only [Bool.and_eq_true, decide_eq_true_eq] at h1; omega
end
set_option maxRecDepth 100000 in
set_option maxHeartbeats 4000000 in
theorem tells_not (R : Option Addr) (l : List HC) (n q : Nat) (keep root key val : Int) (deep : Bool) (A : Option Addr) (it : List It) (m c : Nat) (w : World) (hA : HcSl w R n q l) (hI : Sl w A m c (ivs it)) (hr : mayR ⟨l, keep⟩ root 60 = false) :
    Calls Tryz.prog 3 #[.agg #[.slice R n q, .int .i64 keep, .int .i64 root, .int .i64 key, .int .i64 val, .bool deep, .slice A m c]] w fun e w' => e = .returned (.bool true) ∧ Ext w w' := by
  have A_1 := Lib.hid (hA)
  have I_2 := Lib.hid (hI)
  have X_3 := Lib.hid (Ext.refl w)
  clear hA hI
  have HR := Lib.hid hr
  clear hr
  go_enter Tryz.func3, Tryz.ntmps3
  go_wp2_with (go_at_call 4; refine stop_here ?_)
  refine stop_on ?_
  generalize hW : (World.alloc (World.alloc (World.alloc w _) _) _) = W4
  obtain ⟨hx, hb0, hb1, hb2⟩ := allocs3 hW
  clear hW
  have A_5 := Lib.hid (A_1.out.ext hx)
  have I_5 := Lib.hid (I_2.out.ext hx)
  have X_5 := Lib.hid (X_3.out.ext hx)
  clear A_1 I_2 X_3
  have wi_6 := Lib.hid hb0
  have h_7 := Lib.hid hb1
  have x_8 := Lib.hid hb2
  clear hx hb0 hb1 hb2
  refine (shown_any _).mono ?_
  rintro e w9 ⟨rfl, hx⟩
  have A_10 := Lib.hid (A_5.out.ext hx)
  have I_10 := Lib.hid (I_5.out.ext hx)
  have X_10 := Lib.hid (X_5.out.ext hx)
  have wi_10 := Lib.hid (wi_6.out.ext hx)
  have h_10 := Lib.hid (h_7.out.ext hx)
  have x_10 := Lib.hid (x_8.out.ext hx)
  clear A_5 I_5 X_5 wi_6 h_7 x_8
  clear hx
  have qwi0 : w9.cell? ⟨w.heap.size, 0, none⟩ = some (.slice R n q) := wi_10.out.at 0 _ rfl
  have qwi1 : w9.cell? ⟨w.heap.size, 1, none⟩ = some (.int .i64 keep) := wi_10.out.at 1 _ rfl
  have qwi2 : w9.cell? ⟨w.heap.size, 2, none⟩ = some (.int .i64 root) := wi_10.out.at 2 _ rfl
  have qwi3 : w9.cell? ⟨w.heap.size, 3, none⟩ = some (.int .i64 key) := wi_10.out.at 3 _ rfl
  have qwi4 : w9.cell? ⟨w.heap.size, 4, none⟩ = some (.int .i64 val) := wi_10.out.at 4 _ rfl
  have qwi5 : w9.cell? ⟨w.heap.size, 5, none⟩ = some (.bool deep) := wi_10.out.at 5 _ rfl
  have qwi6 : w9.cell? ⟨w.heap.size, 6, none⟩ = some (.slice A m c) := wi_10.out.at 6 _ rfl
  have zwi := wi_10.out.lt
  have qh0 : w9.cell? ⟨w.heap.size + 1, 0, none⟩ = some (.slice R n q) := h_10.out.at 0 _ rfl
  have qh1 : w9.cell? ⟨w.heap.size + 1, 1, none⟩ = some (.int .i64 keep) := h_10.out.at 1 _ rfl
  have zh := h_10.out.lt
  have qx0 : w9.cell? ⟨w.heap.size + 1 + 1, 0, none⟩ = some (.int .i64 key) := x_10.out.at 0 _ rfl
  have qx1 : w9.cell? ⟨w.heap.size + 1 + 1, 1, none⟩ = some (.int .i64 val) := x_10.out.at 1 _ rfl
  have zx := x_10.out.lt
  go_wp2_with (go_at_call 5; refine stop_here ?_)
  refine stop_on ?_
  clear qwi0 qwi1 qwi2 qwi3 qwi4 qwi5 qwi6 zwi qh0 qh1 zh qx0 qx1 zx
  refine (growMay_is 60 HR.out A_10.out).mono ?_
  rintro e w11 ⟨rfl, hx⟩
  have A_12 := Lib.hid (A_10.out.ext hx)
  have I_12 := Lib.hid (I_10.out.ext hx)
  have X_12 := Lib.hid (X_10.out.ext hx)
  have wi_12 := Lib.hid (wi_10.out.ext hx)
  have h_12 := Lib.hid (h_10.out.ext hx)
  have x_12 := Lib.hid (x_10.out.ext hx)
  clear A_10 I_10 X_10 wi_10 h_10 x_10
  clear hx
  have zwi := wi_12.out.lt
  have qh0 : w11.cell? ⟨w.heap.size + 1, 0, none⟩ = some (.slice R n q) := h_12.out.at 0 _ rfl
  have qh1 : w11.cell? ⟨w.heap.size + 1, 1, none⟩ = some (.int .i64 keep) := h_12.out.at 1 _ rfl
  have zh := h_12.out.lt
  have qx0 : w11.cell? ⟨w.heap.size + 1 + 1, 0, none⟩ = some (.int .i64 key) := x_12.out.at 0 _ rfl
  have qx1 : w11.cell? ⟨w.heap.size + 1 + 1, 1, none⟩ = some (.int .i64 val) := x_12.out.at 1 _ rfl
  have zx := x_12.out.lt
  go_wp2
  go_ret
  exact ⟨rfl, X_12.out⟩
set_option maxRecDepth 100000 in
set_option maxHeartbeats 4000000 in
theorem tells_long (R : Option Addr) (l : List HC) (n q : Nat) (keep root key val : Int) (deep : Bool) (A : Option Addr) (it : List It) (m c : Nat) (w : World) (hA : HcSl w R n q l) (hI : Sl w A m c (ivs it)) (hr : mayR ⟨l, keep⟩ root 60 = true) (h : 10 < m) :
    Calls Tryz.prog 3 #[.agg #[.slice R n q, .int .i64 keep, .int .i64 root, .int .i64 key, .int .i64 val, .bool deep, .slice A m c]] w fun e w' => e = .returned (.bool true) ∧ Ext w w' := by
  have A_13 := Lib.hid (hA)
  have I_14 := Lib.hid (hI)
  have X_15 := Lib.hid (Ext.refl w)
  clear hA hI
  have HR := Lib.hid hr
  have d0 : decide ((10 : Int) < (m : Int)) = true := decide_eq_true (by omega)
  have d1 : (10 : Int) < (m : Int) := by omega
  have d2 : decide (10 < m) = true := decide_eq_true h
  clear hr
  go_enter Tryz.func3, Tryz.ntmps3
  go_wp2_with (go_at_call 4; refine stop_here ?_)
  refine stop_on ?_
  generalize hW : (World.alloc (World.alloc (World.alloc w _) _) _) = W16
  obtain ⟨hx, hb0, hb1, hb2⟩ := allocs3 hW
  clear hW
  have A_17 := Lib.hid (A_13.out.ext hx)
  have I_17 := Lib.hid (I_14.out.ext hx)
  have X_17 := Lib.hid (X_15.out.ext hx)
  clear A_13 I_14 X_15
  have wi_18 := Lib.hid hb0
  have h_19 := Lib.hid hb1
  have x_20 := Lib.hid hb2
  clear hx hb0 hb1 hb2
  refine (shown_any _).mono ?_
  rintro e w21 ⟨rfl, hx⟩
  have A_22 := Lib.hid (A_17.out.ext hx)
  have I_22 := Lib.hid (I_17.out.ext hx)
  have X_22 := Lib.hid (X_17.out.ext hx)
  have wi_22 := Lib.hid (wi_18.out.ext hx)
  have h_22 := Lib.hid (h_19.out.ext hx)
  have x_22 := Lib.hid (x_20.out.ext hx)
  clear A_17 I_17 X_17 wi_18 h_19 x_20
  clear hx
  have qwi0 : w21.cell? ⟨w.heap.size, 0, none⟩ = some (.slice R n q) := wi_22.out.at 0 _ rfl
  have qwi1 : w21.cell? ⟨w.heap.size, 1, none⟩ = some (.int .i64 keep) := wi_22.out.at 1 _ rfl
  have qwi2 : w21.cell? ⟨w.heap.size, 2, none⟩ = some (.int .i64 root) := wi_22.out.at 2 _ rfl
  have qwi3 : w21.cell? ⟨w.heap.size, 3, none⟩ = some (.int .i64 key) := wi_22.out.at 3 _ rfl
  have qwi4 : w21.cell? ⟨w.heap.size, 4, none⟩ = some (.int .i64 val) := wi_22.out.at 4 _ rfl
  have qwi5 : w21.cell? ⟨w.heap.size, 5, none⟩ = some (.bool deep) := wi_22.out.at 5 _ rfl
  have qwi6 : w21.cell? ⟨w.heap.size, 6, none⟩ = some (.slice A m c) := wi_22.out.at 6 _ rfl
  have zwi := wi_22.out.lt
  have qh0 : w21.cell? ⟨w.heap.size + 1, 0, none⟩ = some (.slice R n q) := h_22.out.at 0 _ rfl
  have qh1 : w21.cell? ⟨w.heap.size + 1, 1, none⟩ = some (.int .i64 keep) := h_22.out.at 1 _ rfl
  have zh := h_22.out.lt
  have qx0 : w21.cell? ⟨w.heap.size + 1 + 1, 0, none⟩ = some (.int .i64 key) := x_22.out.at 0 _ rfl
  have qx1 : w21.cell? ⟨w.heap.size + 1 + 1, 1, none⟩ = some (.int .i64 val) := x_22.out.at 1 _ rfl
  have zx := x_22.out.lt
  go_wp2_with (go_at_call 5; refine stop_here ?_)
  refine stop_on ?_
  clear qwi0 qwi1 qwi2 qwi3 qwi4 qwi5 qwi6 zwi qh0 qh1 zh qx0 qx1 zx
  refine (growMay_is 60 HR.out A_22.out).mono ?_
  rintro e w23 ⟨rfl, hx⟩
  have A_24 := Lib.hid (A_22.out.ext hx)
  have I_24 := Lib.hid (I_22.out.ext hx)
  have X_24 := Lib.hid (X_22.out.ext hx)
  have wi_24 := Lib.hid (wi_22.out.ext hx)
  have h_24 := Lib.hid (h_22.out.ext hx)
  have x_24 := Lib.hid (x_22.out.ext hx)
  clear A_22 I_22 X_22 wi_22 h_22 x_22
  clear hx
  have zwi := wi_24.out.lt
  have qh0 : w23.cell? ⟨w.heap.size + 1, 0, none⟩ = some (.slice R n q) := h_24.out.at 0 _ rfl
  have qh1 : w23.cell? ⟨w.heap.size + 1, 1, none⟩ = some (.int .i64 keep) := h_24.out.at 1 _ rfl
  have zh := h_24.out.lt
  have qx0 : w23.cell? ⟨w.heap.size + 1 + 1, 0, none⟩ = some (.int .i64 key) := x_24.out.at 0 _ rfl
  have qx1 : w23.cell? ⟨w.heap.size + 1 + 1, 1, none⟩ = some (.int .i64 val) := x_24.out.at 1 _ rfl
  have zx := x_24.out.lt
  go_wp2
  go_ret
  exact ⟨rfl, X_24.out⟩
set_option maxRecDepth 100000 in
set_option maxHeartbeats 4000000 in
theorem tells_some (R : Option Addr) (l : List HC) (n q : Nat) (keep root key val : Int) (deep : Bool) (A : Option Addr) (it : List It) (m c : Nat) (w : World) (hA : HcSl w R n q l) (hI : Sl w A m c (ivs it)) (hr : mayR ⟨l, keep⟩ root 60 = true) (h : m ≤ 10) (hm : m = it.length) (c1 : List HC) (r1 e1 : Int) (hp : putR ⟨l, keep⟩ root (key, val) deep = (c1, r1, e1)) (c2 : List HC) (p2 : Nat) (e2 : Int) (hq : (allocL l false it (it.map (·.2)), allocP l false it, allocE l false it) = (c2, p2, e2)) (hf : fineB ⟨l, keep⟩ root 60 = false) :
    Calls Tryz.prog 3 #[.agg #[.slice R n q, .int .i64 keep, .int .i64 root, .int .i64 key, .int .i64 val, .bool deep, .slice A m c]] w fun e w' => e = .returned (.bool true) ∧ Ext w w' := by
  have A_25 := Lib.hid (hA)
  have I_26 := Lib.hid (hI)
  have X_27 := Lib.hid (Ext.refl w)
  clear hA hI
  have HR := Lib.hid hr
  have HT := Lib.hid (show mayT ⟨l, keep⟩ root 60 = true from hr)
  have HRI := Lib.hid (show rightH ⟨l, keep⟩ = true from by unfold mayR at hr; rw [Bool.and_eq_true] at hr; exact (may_iff hr.1).2.2)
  have HP := Lib.hid hp
  have HQ := Lib.hid hq
  have HM := Lib.hid hm
  have d0 : decide ((10 : Int) < (m : Int)) = false := decide_eq_false (by omega)
  have d1 : ¬ (10 : Int) < (m : Int) := by omega
  have d2 : decide (10 < m) = false := decide_eq_false (by omega)
  clear hr hp hq hm
  have HF := Lib.hid hf
  clear hf
  go_enter Tryz.func3, Tryz.ntmps3
  go_wp2_with (go_at_call 4; refine stop_here ?_)
  refine stop_on ?_
  generalize hW : (World.alloc (World.alloc (World.alloc w _) _) _) = W28
  obtain ⟨hx, hb0, hb1, hb2⟩ := allocs3 hW
  clear hW
  have A_29 := Lib.hid (A_25.out.ext hx)
  have I_29 := Lib.hid (I_26.out.ext hx)
  have X_29 := Lib.hid (X_27.out.ext hx)
  clear A_25 I_26 X_27
  have wi_30 := Lib.hid hb0
  have h_31 := Lib.hid hb1
  have x_32 := Lib.hid hb2
  clear hx hb0 hb1 hb2
  refine (shown_any _).mono ?_
  rintro e w33 ⟨rfl, hx⟩
  have A_34 := Lib.hid (A_29.out.ext hx)
  have I_34 := Lib.hid (I_29.out.ext hx)
  have X_34 := Lib.hid (X_29.out.ext hx)
  have wi_34 := Lib.hid (wi_30.out.ext hx)
  have h_34 := Lib.hid (h_31.out.ext hx)
  have x_34 := Lib.hid (x_32.out.ext hx)
  clear A_29 I_29 X_29 wi_30 h_31 x_32
  clear hx
  have qwi0 : w33.cell? ⟨w.heap.size, 0, none⟩ = some (.slice R n q) := wi_34.out.at 0 _ rfl
  have qwi1 : w33.cell? ⟨w.heap.size, 1, none⟩ = some (.int .i64 keep) := wi_34.out.at 1 _ rfl
  have qwi2 : w33.cell? ⟨w.heap.size, 2, none⟩ = some (.int .i64 root) := wi_34.out.at 2 _ rfl
  have qwi3 : w33.cell? ⟨w.heap.size, 3, none⟩ = some (.int .i64 key) := wi_34.out.at 3 _ rfl
  have qwi4 : w33.cell? ⟨w.heap.size, 4, none⟩ = some (.int .i64 val) := wi_34.out.at 4 _ rfl
  have qwi5 : w33.cell? ⟨w.heap.size, 5, none⟩ = some (.bool deep) := wi_34.out.at 5 _ rfl
  have qwi6 : w33.cell? ⟨w.heap.size, 6, none⟩ = some (.slice A m c) := wi_34.out.at 6 _ rfl
  have zwi := wi_34.out.lt
  have qh0 : w33.cell? ⟨w.heap.size + 1, 0, none⟩ = some (.slice R n q) := h_34.out.at 0 _ rfl
  have qh1 : w33.cell? ⟨w.heap.size + 1, 1, none⟩ = some (.int .i64 keep) := h_34.out.at 1 _ rfl
  have zh := h_34.out.lt
  have qx0 : w33.cell? ⟨w.heap.size + 1 + 1, 0, none⟩ = some (.int .i64 key) := x_34.out.at 0 _ rfl
  have qx1 : w33.cell? ⟨w.heap.size + 1 + 1, 1, none⟩ = some (.int .i64 val) := x_34.out.at 1 _ rfl
  have zx := x_34.out.lt
  go_wp2_with (go_at_call 5; refine stop_here ?_)
  refine stop_on ?_
  clear qwi0 qwi1 qwi2 qwi3 qwi4 qwi5 qwi6 zwi qh0 qh1 zh qx0 qx1 zx
  refine (growMay_is 60 HR.out A_34.out).mono ?_
  rintro e w35 ⟨rfl, hx⟩
  have A_36 := Lib.hid (A_34.out.ext hx)
  have I_36 := Lib.hid (I_34.out.ext hx)
  have X_36 := Lib.hid (X_34.out.ext hx)
  have wi_36 := Lib.hid (wi_34.out.ext hx)
  have h_36 := Lib.hid (h_34.out.ext hx)
  have x_36 := Lib.hid (x_34.out.ext hx)
  clear A_34 I_34 X_34 wi_34 h_34 x_34
  clear hx
  have zwi := wi_36.out.lt
  have qh0 : w35.cell? ⟨w.heap.size + 1, 0, none⟩ = some (.slice R n q) := h_36.out.at 0 _ rfl
  have qh1 : w35.cell? ⟨w.heap.size + 1, 1, none⟩ = some (.int .i64 keep) := h_36.out.at 1 _ rfl
  have zh := h_36.out.lt
  have qx0 : w35.cell? ⟨w.heap.size + 1 + 1, 0, none⟩ = some (.int .i64 key) := x_36.out.at 0 _ rfl
  have qx1 : w35.cell? ⟨w.heap.size + 1 + 1, 1, none⟩ = some (.int .i64 val) := x_36.out.at 1 _ rfl
  have zx := x_36.out.lt
  go_wp2_with (go_at_call 6; refine stop_here ?_)
  refine stop_on ?_
  clear zwi qh0 qh1 zh qx0 qx1 zx
  refine (growPut_is (by decide) HT.out HP.out A_36.out).mono ?_
  rintro e w37 ⟨S1, t1, rfl, h3, hx⟩
  have A_38 := Lib.hid (A_36.out.ext hx)
  have I_38 := Lib.hid (I_36.out.ext hx)
  have X_38 := Lib.hid (X_36.out.ext hx)
  have wi_38 := Lib.hid (wi_36.out.ext hx)
  have h_38 := Lib.hid (h_36.out.ext hx)
  have x_38 := Lib.hid (x_36.out.ext hx)
  clear A_36 I_36 X_36 wi_36 h_36 x_36
  have B1_39 := Lib.hid h3
  clear hx h3
  have zwi := wi_38.out.lt
  have qh0 : w37.cell? ⟨w.heap.size + 1, 0, none⟩ = some (.slice R n q) := h_38.out.at 0 _ rfl
  have qh1 : w37.cell? ⟨w.heap.size + 1, 1, none⟩ = some (.int .i64 keep) := h_38.out.at 1 _ rfl
  have zh := h_38.out.lt
  have qx0 : w37.cell? ⟨w.heap.size + 1 + 1, 0, none⟩ = some (.int .i64 key) := x_38.out.at 0 _ rfl
  have qx1 : w37.cell? ⟨w.heap.size + 1 + 1, 1, none⟩ = some (.int .i64 val) := x_38.out.at 1 _ rfl
  have zx := x_38.out.lt
  go_wp2_with (go_at_call 7; refine stop_here ?_)
  refine stop_on ?_
  clear zwi qh0 qh1 zh qx0 qx1 zx
  generalize hW : (World.alloc w37 _) = W40
  obtain ⟨hx, hb0⟩ := allocs1 hW
  clear hW
  have A_41 := Lib.hid (A_38.out.ext hx)
  have I_41 := Lib.hid (I_38.out.ext hx)
  have X_41 := Lib.hid (X_38.out.ext hx)
  have wi_41 := Lib.hid (wi_38.out.ext hx)
  have h_41 := Lib.hid (h_38.out.ext hx)
  have x_41 := Lib.hid (x_38.out.ext hx)
  have B1_41 := Lib.hid (B1_39.out.ext hx)
  clear A_38 I_38 X_38 wi_38 h_38 x_38 B1_39
  have a_42 := Lib.hid hb0
  clear hx hb0
  refine (ref09Put_is (by decide) HT.out HP.out A_41.out).mono ?_
  rintro e w43 ⟨S2, t2, rfl, h3, hx⟩
  have A_44 := Lib.hid (A_41.out.ext hx)
  have I_44 := Lib.hid (I_41.out.ext hx)
  have X_44 := Lib.hid (X_41.out.ext hx)
  have wi_44 := Lib.hid (wi_41.out.ext hx)
  have h_44 := Lib.hid (h_41.out.ext hx)
  have x_44 := Lib.hid (x_41.out.ext hx)
  have B1_44 := Lib.hid (B1_41.out.ext hx)
  have a_44 := Lib.hid (a_42.out.ext hx)
  clear A_41 I_41 X_41 wi_41 h_41 x_41 B1_41 a_42
  have B2_45 := Lib.hid h3
  clear hx h3
  have zwi := wi_44.out.lt
  have qh0 : w43.cell? ⟨w.heap.size + 1, 0, none⟩ = some (.slice R n q) := h_44.out.at 0 _ rfl
  have qh1 : w43.cell? ⟨w.heap.size + 1, 1, none⟩ = some (.int .i64 keep) := h_44.out.at 1 _ rfl
  have zh := h_44.out.lt
  have qx0 : w43.cell? ⟨w.heap.size + 1 + 1, 0, none⟩ = some (.int .i64 key) := x_44.out.at 0 _ rfl
  have qx1 : w43.cell? ⟨w.heap.size + 1 + 1, 1, none⟩ = some (.int .i64 val) := x_44.out.at 1 _ rfl
  have zx := x_44.out.lt
  have qa0 : w43.cell? ⟨w37.heap.size, 0, none⟩ = some (.slice S1 n t1) := a_44.out.at 0 _ rfl
  have qa1 : w43.cell? ⟨w37.heap.size, 1, none⟩ = some (.int .i64 keep) := a_44.out.at 1 _ rfl
  have za := a_44.out.lt
  go_wp2_with (go_at_call 8; refine stop_here ?_)
  refine stop_on ?_
  clear zwi qh0 qh1 zh qx0 qx1 zx qa0 qa1 za
  generalize hW : (World.alloc w43 _) = W46
  obtain ⟨hx, hb0⟩ := allocs1 hW
  clear hW
  have A_47 := Lib.hid (A_44.out.ext hx)
  have I_47 := Lib.hid (I_44.out.ext hx)
  have X_47 := Lib.hid (X_44.out.ext hx)
  have wi_47 := Lib.hid (wi_44.out.ext hx)
  have h_47 := Lib.hid (h_44.out.ext hx)
  have x_47 := Lib.hid (x_44.out.ext hx)
  have B1_47 := Lib.hid (B1_44.out.ext hx)
  have a_47 := Lib.hid (a_44.out.ext hx)
  have B2_47 := Lib.hid (B2_45.out.ext hx)
  clear A_44 I_44 X_44 wi_44 h_44 x_44 B1_44 a_44 B2_45
  have b_48 := Lib.hid hb0
  clear hx hb0
  refine (growOver_is HRI.out h HM.out HQ.out A_47.out I_47.out).mono ?_
  rintro e w49 ⟨S3, t3, rfl, h3, hx⟩
  have A_50 := Lib.hid (A_47.out.ext hx)
  have I_50 := Lib.hid (I_47.out.ext hx)
  have X_50 := Lib.hid (X_47.out.ext hx)
  have wi_50 := Lib.hid (wi_47.out.ext hx)
  have h_50 := Lib.hid (h_47.out.ext hx)
  have x_50 := Lib.hid (x_47.out.ext hx)
  have B1_50 := Lib.hid (B1_47.out.ext hx)
  have a_50 := Lib.hid (a_47.out.ext hx)
  have B2_50 := Lib.hid (B2_47.out.ext hx)
  have b_50 := Lib.hid (b_48.out.ext hx)
  clear A_47 I_47 X_47 wi_47 h_47 x_47 B1_47 a_47 B2_47 b_48
  have B3_51 := Lib.hid h3
  clear hx h3
  have zwi := wi_50.out.lt
  have qh0 : w49.cell? ⟨w.heap.size + 1, 0, none⟩ = some (.slice R n q) := h_50.out.at 0 _ rfl
  have qh1 : w49.cell? ⟨w.heap.size + 1, 1, none⟩ = some (.int .i64 keep) := h_50.out.at 1 _ rfl
  have zh := h_50.out.lt
  have qx0 : w49.cell? ⟨w.heap.size + 1 + 1, 0, none⟩ = some (.int .i64 key) := x_50.out.at 0 _ rfl
  have qx1 : w49.cell? ⟨w.heap.size + 1 + 1, 1, none⟩ = some (.int .i64 val) := x_50.out.at 1 _ rfl
  have zx := x_50.out.lt
  have qa0 : w49.cell? ⟨w37.heap.size, 0, none⟩ = some (.slice S1 n t1) := a_50.out.at 0 _ rfl
  have qa1 : w49.cell? ⟨w37.heap.size, 1, none⟩ = some (.int .i64 keep) := a_50.out.at 1 _ rfl
  have za := a_50.out.lt
  have qb0 : w49.cell? ⟨w43.heap.size, 0, none⟩ = some (.slice S2 n t2) := b_50.out.at 0 _ rfl
  have qb1 : w49.cell? ⟨w43.heap.size, 1, none⟩ = some (.int .i64 keep) := b_50.out.at 1 _ rfl
  have zb := b_50.out.lt
  go_wp2_with (go_at_call 9; refine stop_here ?_)
  refine stop_on ?_
  clear zwi qh0 qh1 zh qx0 qx1 zx qa0 qa1 za qb0 qb1 zb
  generalize hW : (World.alloc w49 _) = W52
  obtain ⟨hx, hb0⟩ := allocs1 hW
  clear hW
  have A_53 := Lib.hid (A_50.out.ext hx)
  have I_53 := Lib.hid (I_50.out.ext hx)
  have X_53 := Lib.hid (X_50.out.ext hx)
  have wi_53 := Lib.hid (wi_50.out.ext hx)
  have h_53 := Lib.hid (h_50.out.ext hx)
  have x_53 := Lib.hid (x_50.out.ext hx)
  have B1_53 := Lib.hid (B1_50.out.ext hx)
  have a_53 := Lib.hid (a_50.out.ext hx)
  have B2_53 := Lib.hid (B2_50.out.ext hx)
  have b_53 := Lib.hid (b_50.out.ext hx)
  have B3_53 := Lib.hid (B3_51.out.ext hx)
  clear A_50 I_50 X_50 wi_50 h_50 x_50 B1_50 a_50 B2_50 b_50 B3_51
  have c_54 := Lib.hid hb0
  clear hx hb0
  refine (ref09Over_is HRI.out h HM.out HQ.out A_53.out I_53.out).mono ?_
  rintro e w55 ⟨S4, t4, rfl, h3, hx⟩
  have A_56 := Lib.hid (A_53.out.ext hx)
  have I_56 := Lib.hid (I_53.out.ext hx)
  have X_56 := Lib.hid (X_53.out.ext hx)
  have wi_56 := Lib.hid (wi_53.out.ext hx)
  have h_56 := Lib.hid (h_53.out.ext hx)
  have x_56 := Lib.hid (x_53.out.ext hx)
  have B1_56 := Lib.hid (B1_53.out.ext hx)
  have a_56 := Lib.hid (a_53.out.ext hx)
  have B2_56 := Lib.hid (B2_53.out.ext hx)
  have b_56 := Lib.hid (b_53.out.ext hx)
  have B3_56 := Lib.hid (B3_53.out.ext hx)
  have c_56 := Lib.hid (c_54.out.ext hx)
  clear A_53 I_53 X_53 wi_53 h_53 x_53 B1_53 a_53 B2_53 b_53 B3_53 c_54
  have B4_57 := Lib.hid h3
  clear hx h3
  have zwi := wi_56.out.lt
  have qh0 : w55.cell? ⟨w.heap.size + 1, 0, none⟩ = some (.slice R n q) := h_56.out.at 0 _ rfl
  have qh1 : w55.cell? ⟨w.heap.size + 1, 1, none⟩ = some (.int .i64 keep) := h_56.out.at 1 _ rfl
  have zh := h_56.out.lt
  have qx0 : w55.cell? ⟨w.heap.size + 1 + 1, 0, none⟩ = some (.int .i64 key) := x_56.out.at 0 _ rfl
  have qx1 : w55.cell? ⟨w.heap.size + 1 + 1, 1, none⟩ = some (.int .i64 val) := x_56.out.at 1 _ rfl
  have zx := x_56.out.lt
  have qa0 : w55.cell? ⟨w37.heap.size, 0, none⟩ = some (.slice S1 n t1) := a_56.out.at 0 _ rfl
  have qa1 : w55.cell? ⟨w37.heap.size, 1, none⟩ = some (.int .i64 keep) := a_56.out.at 1 _ rfl
  have za := a_56.out.lt
  have qb0 : w55.cell? ⟨w43.heap.size, 0, none⟩ = some (.slice S2 n t2) := b_56.out.at 0 _ rfl
  have qb1 : w55.cell? ⟨w43.heap.size, 1, none⟩ = some (.int .i64 keep) := b_56.out.at 1 _ rfl
  have zb := b_56.out.lt
  have qc0 : w55.cell? ⟨w49.heap.size, 0, none⟩ = some (.slice S3 n t3) := c_56.out.at 0 _ rfl
  have qc1 : w55.cell? ⟨w49.heap.size, 1, none⟩ = some (.int .i64 keep) := c_56.out.at 1 _ rfl
  have zc := c_56.out.lt
  go_wp2_with (go_at_call 10; refine stop_here ?_)
  refine stop_on ?_
  clear zwi qh0 qh1 zh qx0 qx1 zx qa0 qa1 za qb0 qb1 zb qc0 qc1 zc
  generalize hW : (World.alloc w55 _) = W58
  obtain ⟨hx, hb0⟩ := allocs1 hW
  clear hW
  have A_59 := Lib.hid (A_56.out.ext hx)
  have I_59 := Lib.hid (I_56.out.ext hx)
  have X_59 := Lib.hid (X_56.out.ext hx)
  have wi_59 := Lib.hid (wi_56.out.ext hx)
  have h_59 := Lib.hid (h_56.out.ext hx)
  have x_59 := Lib.hid (x_56.out.ext hx)
  have B1_59 := Lib.hid (B1_56.out.ext hx)
  have a_59 := Lib.hid (a_56.out.ext hx)
  have B2_59 := Lib.hid (B2_56.out.ext hx)
  have b_59 := Lib.hid (b_56.out.ext hx)
  have B3_59 := Lib.hid (B3_56.out.ext hx)
  have c_59 := Lib.hid (c_56.out.ext hx)
  have B4_59 := Lib.hid (B4_57.out.ext hx)
  clear A_56 I_56 X_56 wi_56 h_56 x_56 B1_56 a_56 B2_56 b_56 B3_56 c_56 B4_57
  have d_60 := Lib.hid hb0
  clear hx hb0
  refine (growSame_is _ _ _ B1_59.out B2_59.out).mono ?_
  rintro e w61 ⟨rfl, hx⟩
  have A_62 := Lib.hid (A_59.out.ext hx)
  have I_62 := Lib.hid (I_59.out.ext hx)
  have X_62 := Lib.hid (X_59.out.ext hx)
  have wi_62 := Lib.hid (wi_59.out.ext hx)
  have h_62 := Lib.hid (h_59.out.ext hx)
  have x_62 := Lib.hid (x_59.out.ext hx)
  have B1_62 := Lib.hid (B1_59.out.ext hx)
  have a_62 := Lib.hid (a_59.out.ext hx)
  have B2_62 := Lib.hid (B2_59.out.ext hx)
  have b_62 := Lib.hid (b_59.out.ext hx)
  have B3_62 := Lib.hid (B3_59.out.ext hx)
  have c_62 := Lib.hid (c_59.out.ext hx)
  have B4_62 := Lib.hid (B4_59.out.ext hx)
  have d_62 := Lib.hid (d_60.out.ext hx)
  clear A_59 I_59 X_59 wi_59 h_59 x_59 B1_59 a_59 B2_59 b_59 B3_59 c_59 B4_59 d_60
  clear hx
  have zwi := wi_62.out.lt
  have qh0 : w61.cell? ⟨w.heap.size + 1, 0, none⟩ = some (.slice R n q) := h_62.out.at 0 _ rfl
  have qh1 : w61.cell? ⟨w.heap.size + 1, 1, none⟩ = some (.int .i64 keep) := h_62.out.at 1 _ rfl
  have zh := h_62.out.lt
  have qx0 : w61.cell? ⟨w.heap.size + 1 + 1, 0, none⟩ = some (.int .i64 key) := x_62.out.at 0 _ rfl
  have qx1 : w61.cell? ⟨w.heap.size + 1 + 1, 1, none⟩ = some (.int .i64 val) := x_62.out.at 1 _ rfl
  have zx := x_62.out.lt
  have qa0 : w61.cell? ⟨w37.heap.size, 0, none⟩ = some (.slice S1 n t1) := a_62.out.at 0 _ rfl
  have qa1 : w61.cell? ⟨w37.heap.size, 1, none⟩ = some (.int .i64 keep) := a_62.out.at 1 _ rfl
  have za := a_62.out.lt
  have qb0 : w61.cell? ⟨w43.heap.size, 0, none⟩ = some (.slice S2 n t2) := b_62.out.at 0 _ rfl
  have qb1 : w61.cell? ⟨w43.heap.size, 1, none⟩ = some (.int .i64 keep) := b_62.out.at 1 _ rfl
  have zb := b_62.out.lt
  have qc0 : w61.cell? ⟨w49.heap.size, 0, none⟩ = some (.slice S3 n t3) := c_62.out.at 0 _ rfl
  have qc1 : w61.cell? ⟨w49.heap.size, 1, none⟩ = some (.int .i64 keep) := c_62.out.at 1 _ rfl
  have zc := c_62.out.lt
  have qd0 : w61.cell? ⟨w55.heap.size, 0, none⟩ = some (.slice S4 n t4) := d_62.out.at 0 _ rfl
  have qd1 : w61.cell? ⟨w55.heap.size, 1, none⟩ = some (.int .i64 keep) := d_62.out.at 1 _ rfl
  have zd := d_62.out.lt
  go_wp2_with (go_at_call 10; refine stop_here ?_)
  refine stop_on ?_
  clear zwi qh0 qh1 zh qx0 qx1 zx qa0 qa1 za qb0 qb1 zb qc0 qc1 zc qd0 qd1 zd
  refine (growSame_is _ _ _ B3_62.out B4_62.out).mono ?_
  rintro e w63 ⟨rfl, hx⟩
  have A_64 := Lib.hid (A_62.out.ext hx)
  have I_64 := Lib.hid (I_62.out.ext hx)
  have X_64 := Lib.hid (X_62.out.ext hx)
  have wi_64 := Lib.hid (wi_62.out.ext hx)
  have h_64 := Lib.hid (h_62.out.ext hx)
  have x_64 := Lib.hid (x_62.out.ext hx)
  have B1_64 := Lib.hid (B1_62.out.ext hx)
  have a_64 := Lib.hid (a_62.out.ext hx)
  have B2_64 := Lib.hid (B2_62.out.ext hx)
  have b_64 := Lib.hid (b_62.out.ext hx)
  have B3_64 := Lib.hid (B3_62.out.ext hx)
  have c_64 := Lib.hid (c_62.out.ext hx)
  have B4_64 := Lib.hid (B4_62.out.ext hx)
  have d_64 := Lib.hid (d_62.out.ext hx)
  clear A_62 I_62 X_62 wi_62 h_62 x_62 B1_62 a_62 B2_62 b_62 B3_62 c_62 B4_62 d_62
  clear hx
  have zwi := wi_64.out.lt
  have qh0 : w63.cell? ⟨w.heap.size + 1, 0, none⟩ = some (.slice R n q) := h_64.out.at 0 _ rfl
  have qh1 : w63.cell? ⟨w.heap.size + 1, 1, none⟩ = some (.int .i64 keep) := h_64.out.at 1 _ rfl
  have zh := h_64.out.lt
  have qx0 : w63.cell? ⟨w.heap.size + 1 + 1, 0, none⟩ = some (.int .i64 key) := x_64.out.at 0 _ rfl
  have qx1 : w63.cell? ⟨w.heap.size + 1 + 1, 1, none⟩ = some (.int .i64 val) := x_64.out.at 1 _ rfl
  have zx := x_64.out.lt
  have qa0 : w63.cell? ⟨w37.heap.size, 0, none⟩ = some (.slice S1 n t1) := a_64.out.at 0 _ rfl
  have qa1 : w63.cell? ⟨w37.heap.size, 1, none⟩ = some (.int .i64 keep) := a_64.out.at 1 _ rfl
  have za := a_64.out.lt
  have qb0 : w63.cell? ⟨w43.heap.size, 0, none⟩ = some (.slice S2 n t2) := b_64.out.at 0 _ rfl
  have qb1 : w63.cell? ⟨w43.heap.size, 1, none⟩ = some (.int .i64 keep) := b_64.out.at 1 _ rfl
  have zb := b_64.out.lt
  have qc0 : w63.cell? ⟨w49.heap.size, 0, none⟩ = some (.slice S3 n t3) := c_64.out.at 0 _ rfl
  have qc1 : w63.cell? ⟨w49.heap.size, 1, none⟩ = some (.int .i64 keep) := c_64.out.at 1 _ rfl
  have zc := c_64.out.lt
  have qd0 : w63.cell? ⟨w55.heap.size, 0, none⟩ = some (.slice S4 n t4) := d_64.out.at 0 _ rfl
  have qd1 : w63.cell? ⟨w55.heap.size, 1, none⟩ = some (.int .i64 keep) := d_64.out.at 1 _ rfl
  have zd := d_64.out.lt
  go_wp2_with (go_at_call 11; refine stop_here ?_)
  refine stop_on ?_
  clear zwi qh0 qh1 zh qx0 qx1 zx qa0 qa1 za qb0 qb1 zb qc0 qc1 zc qd0 qd1 zd
  generalize hW : (World.alloc w63 _) = W65
  obtain ⟨hx, hb0⟩ := allocs1 hW
  clear hW
  have A_66 := Lib.hid (A_64.out.ext hx)
  have I_66 := Lib.hid (I_64.out.ext hx)
  have X_66 := Lib.hid (X_64.out.ext hx)
  have wi_66 := Lib.hid (wi_64.out.ext hx)
  have h_66 := Lib.hid (h_64.out.ext hx)
  have x_66 := Lib.hid (x_64.out.ext hx)
  have B1_66 := Lib.hid (B1_64.out.ext hx)
  have a_66 := Lib.hid (a_64.out.ext hx)
  have B2_66 := Lib.hid (B2_64.out.ext hx)
  have b_66 := Lib.hid (b_64.out.ext hx)
  have B3_66 := Lib.hid (B3_64.out.ext hx)
  have c_66 := Lib.hid (c_64.out.ext hx)
  have B4_66 := Lib.hid (B4_64.out.ext hx)
  have d_66 := Lib.hid (d_64.out.ext hx)
  clear A_64 I_64 X_64 wi_64 h_64 x_64 B1_64 a_64 B2_64 b_64 B3_64 c_64 B4_64 d_64
  have rt_67 := Lib.hid hb0
  clear hx hb0
  refine (growFine_is _ 1 60 HF.out A_66.out (show Sl _ _ 1 1 ([root].map iv) from rt_67.out.slP 1 (by unfold maxLen; omega))).mono ?_
  rintro e w68 ⟨rfl, hx⟩
  have A_69 := Lib.hid (A_66.out.ext hx)
  have I_69 := Lib.hid (I_66.out.ext hx)
  have X_69 := Lib.hid (X_66.out.ext hx)
  have wi_69 := Lib.hid (wi_66.out.ext hx)
  have h_69 := Lib.hid (h_66.out.ext hx)
  have x_69 := Lib.hid (x_66.out.ext hx)
  have B1_69 := Lib.hid (B1_66.out.ext hx)
  have a_69 := Lib.hid (a_66.out.ext hx)
  have B2_69 := Lib.hid (B2_66.out.ext hx)
  have b_69 := Lib.hid (b_66.out.ext hx)
  have B3_69 := Lib.hid (B3_66.out.ext hx)
  have c_69 := Lib.hid (c_66.out.ext hx)
  have B4_69 := Lib.hid (B4_66.out.ext hx)
  have d_69 := Lib.hid (d_66.out.ext hx)
  have rt_69 := Lib.hid (rt_67.out.ext hx)
  clear A_66 I_66 X_66 wi_66 h_66 x_66 B1_66 a_66 B2_66 b_66 B3_66 c_66 B4_66 d_66 rt_67
  clear hx
  have zwi := wi_69.out.lt
  have qh0 : w68.cell? ⟨w.heap.size + 1, 0, none⟩ = some (.slice R n q) := h_69.out.at 0 _ rfl
  have qh1 : w68.cell? ⟨w.heap.size + 1, 1, none⟩ = some (.int .i64 keep) := h_69.out.at 1 _ rfl
  have zh := h_69.out.lt
  have qx0 : w68.cell? ⟨w.heap.size + 1 + 1, 0, none⟩ = some (.int .i64 key) := x_69.out.at 0 _ rfl
  have qx1 : w68.cell? ⟨w.heap.size + 1 + 1, 1, none⟩ = some (.int .i64 val) := x_69.out.at 1 _ rfl
  have zx := x_69.out.lt
  have qa0 : w68.cell? ⟨w37.heap.size, 0, none⟩ = some (.slice S1 n t1) := a_69.out.at 0 _ rfl
  have qa1 : w68.cell? ⟨w37.heap.size, 1, none⟩ = some (.int .i64 keep) := a_69.out.at 1 _ rfl
  have za := a_69.out.lt
  have qb0 : w68.cell? ⟨w43.heap.size, 0, none⟩ = some (.slice S2 n t2) := b_69.out.at 0 _ rfl
  have qb1 : w68.cell? ⟨w43.heap.size, 1, none⟩ = some (.int .i64 keep) := b_69.out.at 1 _ rfl
  have zb := b_69.out.lt
  have qc0 : w68.cell? ⟨w49.heap.size, 0, none⟩ = some (.slice S3 n t3) := c_69.out.at 0 _ rfl
  have qc1 : w68.cell? ⟨w49.heap.size, 1, none⟩ = some (.int .i64 keep) := c_69.out.at 1 _ rfl
  have zc := c_69.out.lt
  have qd0 : w68.cell? ⟨w55.heap.size, 0, none⟩ = some (.slice S4 n t4) := d_69.out.at 0 _ rfl
  have qd1 : w68.cell? ⟨w55.heap.size, 1, none⟩ = some (.int .i64 keep) := d_69.out.at 1 _ rfl
  have zd := d_69.out.lt
  have qrt0 : w68.cell? ⟨w63.heap.size, 0, none⟩ = some (.int .i64 root) := rt_69.out.at 0 _ rfl
  have zrt := rt_69.out.lt
  go_wp2
  go_ret
  exact ⟨rfl, X_69.out⟩
set_option maxRecDepth 100000 in
set_option maxHeartbeats 4000000 in
theorem tells_all (R : Option Addr) (l : List HC) (n q : Nat) (keep root key val : Int) (deep : Bool) (A : Option Addr) (it : List It) (m c : Nat) (w : World) (hA : HcSl w R n q l) (hI : Sl w A m c (ivs it)) (hr : mayR ⟨l, keep⟩ root 60 = true) (h : m ≤ 10) (hm : m = it.length) (c1 : List HC) (r1 e1 : Int) (hp : putR ⟨l, keep⟩ root (key, val) deep = (c1, r1, e1)) (c2 : List HC) (p2 : Nat) (e2 : Int) (hq : (allocL l false it (it.map (·.2)), allocP l false it, allocE l false it) = (c2, p2, e2)) (hf : fineB ⟨l, keep⟩ root 60 = true) (c3 : List HC) (r3 e3 : Int) (hg : fillR keep it l root = (c3, r3, e3)) :
    Calls Tryz.prog 3 #[.agg #[.slice R n q, .int .i64 keep, .int .i64 root, .int .i64 key, .int .i64 val, .bool deep, .slice A m c]] w fun e w' => e = .returned (.bool true) ∧ Ext w w' := by
  have A_70 := Lib.hid (hA)
  have I_71 := Lib.hid (hI)
  have X_72 := Lib.hid (Ext.refl w)
  clear hA hI
  have HR := Lib.hid hr
  have HT := Lib.hid (show mayT ⟨l, keep⟩ root 60 = true from hr)
  have HRI := Lib.hid (show rightH ⟨l, keep⟩ = true from by unfold mayR at hr; rw [Bool.and_eq_true] at hr; exact (may_iff hr.1).2.2)
  have HP := Lib.hid hp
  have HQ := Lib.hid hq
  have HM := Lib.hid hm
  have d0 : decide ((10 : Int) < (m : Int)) = false := decide_eq_false (by omega)
  have d1 : ¬ (10 : Int) < (m : Int) := by omega
  have d2 : decide (10 < m) = false := decide_eq_false (by omega)
  clear hr hp hq hm
  have HF := Lib.hid hf
  have HG := Lib.hid hg
  clear hf hg
  go_enter Tryz.func3, Tryz.ntmps3
  go_wp2_with (go_at_call 4; refine stop_here ?_)
  refine stop_on ?_
  generalize hW : (World.alloc (World.alloc (World.alloc w _) _) _) = W73
  obtain ⟨hx, hb0, hb1, hb2⟩ := allocs3 hW
  clear hW
  have A_74 := Lib.hid (A_70.out.ext hx)
  have I_74 := Lib.hid (I_71.out.ext hx)
  have X_74 := Lib.hid (X_72.out.ext hx)
  clear A_70 I_71 X_72
  have wi_75 := Lib.hid hb0
  have h_76 := Lib.hid hb1
  have x_77 := Lib.hid hb2
  clear hx hb0 hb1 hb2
  refine (shown_any _).mono ?_
  rintro e w78 ⟨rfl, hx⟩
  have A_79 := Lib.hid (A_74.out.ext hx)
  have I_79 := Lib.hid (I_74.out.ext hx)
  have X_79 := Lib.hid (X_74.out.ext hx)
  have wi_79 := Lib.hid (wi_75.out.ext hx)
  have h_79 := Lib.hid (h_76.out.ext hx)
  have x_79 := Lib.hid (x_77.out.ext hx)
  clear A_74 I_74 X_74 wi_75 h_76 x_77
  clear hx
  have qwi0 : w78.cell? ⟨w.heap.size, 0, none⟩ = some (.slice R n q) := wi_79.out.at 0 _ rfl
  have qwi1 : w78.cell? ⟨w.heap.size, 1, none⟩ = some (.int .i64 keep) := wi_79.out.at 1 _ rfl
  have qwi2 : w78.cell? ⟨w.heap.size, 2, none⟩ = some (.int .i64 root) := wi_79.out.at 2 _ rfl
  have qwi3 : w78.cell? ⟨w.heap.size, 3, none⟩ = some (.int .i64 key) := wi_79.out.at 3 _ rfl
  have qwi4 : w78.cell? ⟨w.heap.size, 4, none⟩ = some (.int .i64 val) := wi_79.out.at 4 _ rfl
  have qwi5 : w78.cell? ⟨w.heap.size, 5, none⟩ = some (.bool deep) := wi_79.out.at 5 _ rfl
  have qwi6 : w78.cell? ⟨w.heap.size, 6, none⟩ = some (.slice A m c) := wi_79.out.at 6 _ rfl
  have zwi := wi_79.out.lt
  have qh0 : w78.cell? ⟨w.heap.size + 1, 0, none⟩ = some (.slice R n q) := h_79.out.at 0 _ rfl
  have qh1 : w78.cell? ⟨w.heap.size + 1, 1, none⟩ = some (.int .i64 keep) := h_79.out.at 1 _ rfl
  have zh := h_79.out.lt
  have qx0 : w78.cell? ⟨w.heap.size + 1 + 1, 0, none⟩ = some (.int .i64 key) := x_79.out.at 0 _ rfl
  have qx1 : w78.cell? ⟨w.heap.size + 1 + 1, 1, none⟩ = some (.int .i64 val) := x_79.out.at 1 _ rfl
  have zx := x_79.out.lt
  go_wp2_with (go_at_call 5; refine stop_here ?_)
  refine stop_on ?_
  clear qwi0 qwi1 qwi2 qwi3 qwi4 qwi5 qwi6 zwi qh0 qh1 zh qx0 qx1 zx
  refine (growMay_is 60 HR.out A_79.out).mono ?_
  rintro e w80 ⟨rfl, hx⟩
  have A_81 := Lib.hid (A_79.out.ext hx)
  have I_81 := Lib.hid (I_79.out.ext hx)
  have X_81 := Lib.hid (X_79.out.ext hx)
  have wi_81 := Lib.hid (wi_79.out.ext hx)
  have h_81 := Lib.hid (h_79.out.ext hx)
  have x_81 := Lib.hid (x_79.out.ext hx)
  clear A_79 I_79 X_79 wi_79 h_79 x_79
  clear hx
  have zwi := wi_81.out.lt
  have qh0 : w80.cell? ⟨w.heap.size + 1, 0, none⟩ = some (.slice R n q) := h_81.out.at 0 _ rfl
  have qh1 : w80.cell? ⟨w.heap.size + 1, 1, none⟩ = some (.int .i64 keep) := h_81.out.at 1 _ rfl
  have zh := h_81.out.lt
  have qx0 : w80.cell? ⟨w.heap.size + 1 + 1, 0, none⟩ = some (.int .i64 key) := x_81.out.at 0 _ rfl
  have qx1 : w80.cell? ⟨w.heap.size + 1 + 1, 1, none⟩ = some (.int .i64 val) := x_81.out.at 1 _ rfl
  have zx := x_81.out.lt
  go_wp2_with (go_at_call 6; refine stop_here ?_)
  refine stop_on ?_
  clear zwi qh0 qh1 zh qx0 qx1 zx
  refine (growPut_is (by decide) HT.out HP.out A_81.out).mono ?_
  rintro e w82 ⟨S1, t1, rfl, h3, hx⟩
  have A_83 := Lib.hid (A_81.out.ext hx)
  have I_83 := Lib.hid (I_81.out.ext hx)
  have X_83 := Lib.hid (X_81.out.ext hx)
  have wi_83 := Lib.hid (wi_81.out.ext hx)
  have h_83 := Lib.hid (h_81.out.ext hx)
  have x_83 := Lib.hid (x_81.out.ext hx)
  clear A_81 I_81 X_81 wi_81 h_81 x_81
  have B1_84 := Lib.hid h3
  clear hx h3
  have zwi := wi_83.out.lt
  have qh0 : w82.cell? ⟨w.heap.size + 1, 0, none⟩ = some (.slice R n q) := h_83.out.at 0 _ rfl
  have qh1 : w82.cell? ⟨w.heap.size + 1, 1, none⟩ = some (.int .i64 keep) := h_83.out.at 1 _ rfl
  have zh := h_83.out.lt
  have qx0 : w82.cell? ⟨w.heap.size + 1 + 1, 0, none⟩ = some (.int .i64 key) := x_83.out.at 0 _ rfl
  have qx1 : w82.cell? ⟨w.heap.size + 1 + 1, 1, none⟩ = some (.int .i64 val) := x_83.out.at 1 _ rfl
  have zx := x_83.out.lt
  go_wp2_with (go_at_call 7; refine stop_here ?_)
  refine stop_on ?_
  clear zwi qh0 qh1 zh qx0 qx1 zx
  generalize hW : (World.alloc w82 _) = W85
  obtain ⟨hx, hb0⟩ := allocs1 hW
  clear hW
  have A_86 := Lib.hid (A_83.out.ext hx)
  have I_86 := Lib.hid (I_83.out.ext hx)
  have X_86 := Lib.hid (X_83.out.ext hx)
  have wi_86 := Lib.hid (wi_83.out.ext hx)
  have h_86 := Lib.hid (h_83.out.ext hx)
  have x_86 := Lib.hid (x_83.out.ext hx)
  have B1_86 := Lib.hid (B1_84.out.ext hx)
  clear A_83 I_83 X_83 wi_83 h_83 x_83 B1_84
  have a_87 := Lib.hid hb0
  clear hx hb0
  refine (ref09Put_is (by decide) HT.out HP.out A_86.out).mono ?_
  rintro e w88 ⟨S2, t2, rfl, h3, hx⟩
  have A_89 := Lib.hid (A_86.out.ext hx)
  have I_89 := Lib.hid (I_86.out.ext hx)
  have X_89 := Lib.hid (X_86.out.ext hx)
  have wi_89 := Lib.hid (wi_86.out.ext hx)
  have h_89 := Lib.hid (h_86.out.ext hx)
  have x_89 := Lib.hid (x_86.out.ext hx)
  have B1_89 := Lib.hid (B1_86.out.ext hx)
  have a_89 := Lib.hid (a_87.out.ext hx)
  clear A_86 I_86 X_86 wi_86 h_86 x_86 B1_86 a_87
  have B2_90 := Lib.hid h3
  clear hx h3
  have zwi := wi_89.out.lt
  have qh0 : w88.cell? ⟨w.heap.size + 1, 0, none⟩ = some (.slice R n q) := h_89.out.at 0 _ rfl
  have qh1 : w88.cell? ⟨w.heap.size + 1, 1, none⟩ = some (.int .i64 keep) := h_89.out.at 1 _ rfl
  have zh := h_89.out.lt
  have qx0 : w88.cell? ⟨w.heap.size + 1 + 1, 0, none⟩ = some (.int .i64 key) := x_89.out.at 0 _ rfl
  have qx1 : w88.cell? ⟨w.heap.size + 1 + 1, 1, none⟩ = some (.int .i64 val) := x_89.out.at 1 _ rfl
  have zx := x_89.out.lt
  have qa0 : w88.cell? ⟨w82.heap.size, 0, none⟩ = some (.slice S1 n t1) := a_89.out.at 0 _ rfl
  have qa1 : w88.cell? ⟨w82.heap.size, 1, none⟩ = some (.int .i64 keep) := a_89.out.at 1 _ rfl
  have za := a_89.out.lt
  go_wp2_with (go_at_call 8; refine stop_here ?_)
  refine stop_on ?_
  clear zwi qh0 qh1 zh qx0 qx1 zx qa0 qa1 za
  generalize hW : (World.alloc w88 _) = W91
  obtain ⟨hx, hb0⟩ := allocs1 hW
  clear hW
  have A_92 := Lib.hid (A_89.out.ext hx)
  have I_92 := Lib.hid (I_89.out.ext hx)
  have X_92 := Lib.hid (X_89.out.ext hx)
  have wi_92 := Lib.hid (wi_89.out.ext hx)
  have h_92 := Lib.hid (h_89.out.ext hx)
  have x_92 := Lib.hid (x_89.out.ext hx)
  have B1_92 := Lib.hid (B1_89.out.ext hx)
  have a_92 := Lib.hid (a_89.out.ext hx)
  have B2_92 := Lib.hid (B2_90.out.ext hx)
  clear A_89 I_89 X_89 wi_89 h_89 x_89 B1_89 a_89 B2_90
  have b_93 := Lib.hid hb0
  clear hx hb0
  refine (growOver_is HRI.out h HM.out HQ.out A_92.out I_92.out).mono ?_
  rintro e w94 ⟨S3, t3, rfl, h3, hx⟩
  have A_95 := Lib.hid (A_92.out.ext hx)
  have I_95 := Lib.hid (I_92.out.ext hx)
  have X_95 := Lib.hid (X_92.out.ext hx)
  have wi_95 := Lib.hid (wi_92.out.ext hx)
  have h_95 := Lib.hid (h_92.out.ext hx)
  have x_95 := Lib.hid (x_92.out.ext hx)
  have B1_95 := Lib.hid (B1_92.out.ext hx)
  have a_95 := Lib.hid (a_92.out.ext hx)
  have B2_95 := Lib.hid (B2_92.out.ext hx)
  have b_95 := Lib.hid (b_93.out.ext hx)
  clear A_92 I_92 X_92 wi_92 h_92 x_92 B1_92 a_92 B2_92 b_93
  have B3_96 := Lib.hid h3
  clear hx h3
  have zwi := wi_95.out.lt
  have qh0 : w94.cell? ⟨w.heap.size + 1, 0, none⟩ = some (.slice R n q) := h_95.out.at 0 _ rfl
  have qh1 : w94.cell? ⟨w.heap.size + 1, 1, none⟩ = some (.int .i64 keep) := h_95.out.at 1 _ rfl
  have zh := h_95.out.lt
  have qx0 : w94.cell? ⟨w.heap.size + 1 + 1, 0, none⟩ = some (.int .i64 key) := x_95.out.at 0 _ rfl
  have qx1 : w94.cell? ⟨w.heap.size + 1 + 1, 1, none⟩ = some (.int .i64 val) := x_95.out.at 1 _ rfl
  have zx := x_95.out.lt
  have qa0 : w94.cell? ⟨w82.heap.size, 0, none⟩ = some (.slice S1 n t1) := a_95.out.at 0 _ rfl
  have qa1 : w94.cell? ⟨w82.heap.size, 1, none⟩ = some (.int .i64 keep) := a_95.out.at 1 _ rfl
  have za := a_95.out.lt
  have qb0 : w94.cell? ⟨w88.heap.size, 0, none⟩ = some (.slice S2 n t2) := b_95.out.at 0 _ rfl
  have qb1 : w94.cell? ⟨w88.heap.size, 1, none⟩ = some (.int .i64 keep) := b_95.out.at 1 _ rfl
  have zb := b_95.out.lt
  go_wp2_with (go_at_call 9; refine stop_here ?_)
  refine stop_on ?_
  clear zwi qh0 qh1 zh qx0 qx1 zx qa0 qa1 za qb0 qb1 zb
  generalize hW : (World.alloc w94 _) = W97
  obtain ⟨hx, hb0⟩ := allocs1 hW
  clear hW
  have A_98 := Lib.hid (A_95.out.ext hx)
  have I_98 := Lib.hid (I_95.out.ext hx)
  have X_98 := Lib.hid (X_95.out.ext hx)
  have wi_98 := Lib.hid (wi_95.out.ext hx)
  have h_98 := Lib.hid (h_95.out.ext hx)
  have x_98 := Lib.hid (x_95.out.ext hx)
  have B1_98 := Lib.hid (B1_95.out.ext hx)
  have a_98 := Lib.hid (a_95.out.ext hx)
  have B2_98 := Lib.hid (B2_95.out.ext hx)
  have b_98 := Lib.hid (b_95.out.ext hx)
  have B3_98 := Lib.hid (B3_96.out.ext hx)
  clear A_95 I_95 X_95 wi_95 h_95 x_95 B1_95 a_95 B2_95 b_95 B3_96
  have c_99 := Lib.hid hb0
  clear hx hb0
  refine (ref09Over_is HRI.out h HM.out HQ.out A_98.out I_98.out).mono ?_
  rintro e w100 ⟨S4, t4, rfl, h3, hx⟩
  have A_101 := Lib.hid (A_98.out.ext hx)
  have I_101 := Lib.hid (I_98.out.ext hx)
  have X_101 := Lib.hid (X_98.out.ext hx)
  have wi_101 := Lib.hid (wi_98.out.ext hx)
  have h_101 := Lib.hid (h_98.out.ext hx)
  have x_101 := Lib.hid (x_98.out.ext hx)
  have B1_101 := Lib.hid (B1_98.out.ext hx)
  have a_101 := Lib.hid (a_98.out.ext hx)
  have B2_101 := Lib.hid (B2_98.out.ext hx)
  have b_101 := Lib.hid (b_98.out.ext hx)
  have B3_101 := Lib.hid (B3_98.out.ext hx)
  have c_101 := Lib.hid (c_99.out.ext hx)
  clear A_98 I_98 X_98 wi_98 h_98 x_98 B1_98 a_98 B2_98 b_98 B3_98 c_99
  have B4_102 := Lib.hid h3
  clear hx h3
  have zwi := wi_101.out.lt
  have qh0 : w100.cell? ⟨w.heap.size + 1, 0, none⟩ = some (.slice R n q) := h_101.out.at 0 _ rfl
  have qh1 : w100.cell? ⟨w.heap.size + 1, 1, none⟩ = some (.int .i64 keep) := h_101.out.at 1 _ rfl
  have zh := h_101.out.lt
  have qx0 : w100.cell? ⟨w.heap.size + 1 + 1, 0, none⟩ = some (.int .i64 key) := x_101.out.at 0 _ rfl
  have qx1 : w100.cell? ⟨w.heap.size + 1 + 1, 1, none⟩ = some (.int .i64 val) := x_101.out.at 1 _ rfl
  have zx := x_101.out.lt
  have qa0 : w100.cell? ⟨w82.heap.size, 0, none⟩ = some (.slice S1 n t1) := a_101.out.at 0 _ rfl
  have qa1 : w100.cell? ⟨w82.heap.size, 1, none⟩ = some (.int .i64 keep) := a_101.out.at 1 _ rfl
  have za := a_101.out.lt
  have qb0 : w100.cell? ⟨w88.heap.size, 0, none⟩ = some (.slice S2 n t2) := b_101.out.at 0 _ rfl
  have qb1 : w100.cell? ⟨w88.heap.size, 1, none⟩ = some (.int .i64 keep) := b_101.out.at 1 _ rfl
  have zb := b_101.out.lt
  have qc0 : w100.cell? ⟨w94.heap.size, 0, none⟩ = some (.slice S3 n t3) := c_101.out.at 0 _ rfl
  have qc1 : w100.cell? ⟨w94.heap.size, 1, none⟩ = some (.int .i64 keep) := c_101.out.at 1 _ rfl
  have zc := c_101.out.lt
  go_wp2_with (go_at_call 10; refine stop_here ?_)
  refine stop_on ?_
  clear zwi qh0 qh1 zh qx0 qx1 zx qa0 qa1 za qb0 qb1 zb qc0 qc1 zc
  generalize hW : (World.alloc w100 _) = W103
  obtain ⟨hx, hb0⟩ := allocs1 hW
  clear hW
  have A_104 := Lib.hid (A_101.out.ext hx)
  have I_104 := Lib.hid (I_101.out.ext hx)
  have X_104 := Lib.hid (X_101.out.ext hx)
  have wi_104 := Lib.hid (wi_101.out.ext hx)
  have h_104 := Lib.hid (h_101.out.ext hx)
  have x_104 := Lib.hid (x_101.out.ext hx)
  have B1_104 := Lib.hid (B1_101.out.ext hx)
  have a_104 := Lib.hid (a_101.out.ext hx)
  have B2_104 := Lib.hid (B2_101.out.ext hx)
  have b_104 := Lib.hid (b_101.out.ext hx)
  have B3_104 := Lib.hid (B3_101.out.ext hx)
  have c_104 := Lib.hid (c_101.out.ext hx)
  have B4_104 := Lib.hid (B4_102.out.ext hx)
  clear A_101 I_101 X_101 wi_101 h_101 x_101 B1_101 a_101 B2_101 b_101 B3_101 c_101 B4_102
  have d_105 := Lib.hid hb0
  clear hx hb0
  refine (growSame_is _ _ _ B1_104.out B2_104.out).mono ?_
  rintro e w106 ⟨rfl, hx⟩
  have A_107 := Lib.hid (A_104.out.ext hx)
  have I_107 := Lib.hid (I_104.out.ext hx)
  have X_107 := Lib.hid (X_104.out.ext hx)
  have wi_107 := Lib.hid (wi_104.out.ext hx)
  have h_107 := Lib.hid (h_104.out.ext hx)
  have x_107 := Lib.hid (x_104.out.ext hx)
  have B1_107 := Lib.hid (B1_104.out.ext hx)
  have a_107 := Lib.hid (a_104.out.ext hx)
  have B2_107 := Lib.hid (B2_104.out.ext hx)
  have b_107 := Lib.hid (b_104.out.ext hx)
  have B3_107 := Lib.hid (B3_104.out.ext hx)
  have c_107 := Lib.hid (c_104.out.ext hx)
  have B4_107 := Lib.hid (B4_104.out.ext hx)
  have d_107 := Lib.hid (d_105.out.ext hx)
  clear A_104 I_104 X_104 wi_104 h_104 x_104 B1_104 a_104 B2_104 b_104 B3_104 c_104 B4_104 d_105
  clear hx
  have zwi := wi_107.out.lt
  have qh0 : w106.cell? ⟨w.heap.size + 1, 0, none⟩ = some (.slice R n q) := h_107.out.at 0 _ rfl
  have qh1 : w106.cell? ⟨w.heap.size + 1, 1, none⟩ = some (.int .i64 keep) := h_107.out.at 1 _ rfl
  have zh := h_107.out.lt
  have qx0 : w106.cell? ⟨w.heap.size + 1 + 1, 0, none⟩ = some (.int .i64 key) := x_107.out.at 0 _ rfl
  have qx1 : w106.cell? ⟨w.heap.size + 1 + 1, 1, none⟩ = some (.int .i64 val) := x_107.out.at 1 _ rfl
  have zx := x_107.out.lt
  have qa0 : w106.cell? ⟨w82.heap.size, 0, none⟩ = some (.slice S1 n t1) := a_107.out.at 0 _ rfl
  have qa1 : w106.cell? ⟨w82.heap.size, 1, none⟩ = some (.int .i64 keep) := a_107.out.at 1 _ rfl
  have za := a_107.out.lt
  have qb0 : w106.cell? ⟨w88.heap.size, 0, none⟩ = some (.slice S2 n t2) := b_107.out.at 0 _ rfl
  have qb1 : w106.cell? ⟨w88.heap.size, 1, none⟩ = some (.int .i64 keep) := b_107.out.at 1 _ rfl
  have zb := b_107.out.lt
  have qc0 : w106.cell? ⟨w94.heap.size, 0, none⟩ = some (.slice S3 n t3) := c_107.out.at 0 _ rfl
  have qc1 : w106.cell? ⟨w94.heap.size, 1, none⟩ = some (.int .i64 keep) := c_107.out.at 1 _ rfl
  have zc := c_107.out.lt
  have qd0 : w106.cell? ⟨w100.heap.size, 0, none⟩ = some (.slice S4 n t4) := d_107.out.at 0 _ rfl
  have qd1 : w106.cell? ⟨w100.heap.size, 1, none⟩ = some (.int .i64 keep) := d_107.out.at 1 _ rfl
  have zd := d_107.out.lt
  go_wp2_with (go_at_call 10; refine stop_here ?_)
  refine stop_on ?_
  clear zwi qh0 qh1 zh qx0 qx1 zx qa0 qa1 za qb0 qb1 zb qc0 qc1 zc qd0 qd1 zd
  refine (growSame_is _ _ _ B3_107.out B4_107.out).mono ?_
  rintro e w108 ⟨rfl, hx⟩
  have A_109 := Lib.hid (A_107.out.ext hx)
  have I_109 := Lib.hid (I_107.out.ext hx)
  have X_109 := Lib.hid (X_107.out.ext hx)
  have wi_109 := Lib.hid (wi_107.out.ext hx)
  have h_109 := Lib.hid (h_107.out.ext hx)
  have x_109 := Lib.hid (x_107.out.ext hx)
  have B1_109 := Lib.hid (B1_107.out.ext hx)
  have a_109 := Lib.hid (a_107.out.ext hx)
  have B2_109 := Lib.hid (B2_107.out.ext hx)
  have b_109 := Lib.hid (b_107.out.ext hx)
  have B3_109 := Lib.hid (B3_107.out.ext hx)
  have c_109 := Lib.hid (c_107.out.ext hx)
  have B4_109 := Lib.hid (B4_107.out.ext hx)
  have d_109 := Lib.hid (d_107.out.ext hx)
  clear A_107 I_107 X_107 wi_107 h_107 x_107 B1_107 a_107 B2_107 b_107 B3_107 c_107 B4_107 d_107
  clear hx
  have zwi := wi_109.out.lt
  have qh0 : w108.cell? ⟨w.heap.size + 1, 0, none⟩ = some (.slice R n q) := h_109.out.at 0 _ rfl
  have qh1 : w108.cell? ⟨w.heap.size + 1, 1, none⟩ = some (.int .i64 keep) := h_109.out.at 1 _ rfl
  have zh := h_109.out.lt
  have qx0 : w108.cell? ⟨w.heap.size + 1 + 1, 0, none⟩ = some (.int .i64 key) := x_109.out.at 0 _ rfl
  have qx1 : w108.cell? ⟨w.heap.size + 1 + 1, 1, none⟩ = some (.int .i64 val) := x_109.out.at 1 _ rfl
  have zx := x_109.out.lt
  have qa0 : w108.cell? ⟨w82.heap.size, 0, none⟩ = some (.slice S1 n t1) := a_109.out.at 0 _ rfl
  have qa1 : w108.cell? ⟨w82.heap.size, 1, none⟩ = some (.int .i64 keep) := a_109.out.at 1 _ rfl
  have za := a_109.out.lt
  have qb0 : w108.cell? ⟨w88.heap.size, 0, none⟩ = some (.slice S2 n t2) := b_109.out.at 0 _ rfl
  have qb1 : w108.cell? ⟨w88.heap.size, 1, none⟩ = some (.int .i64 keep) := b_109.out.at 1 _ rfl
  have zb := b_109.out.lt
  have qc0 : w108.cell? ⟨w94.heap.size, 0, none⟩ = some (.slice S3 n t3) := c_109.out.at 0 _ rfl
  have qc1 : w108.cell? ⟨w94.heap.size, 1, none⟩ = some (.int .i64 keep) := c_109.out.at 1 _ rfl
  have zc := c_109.out.lt
  have qd0 : w108.cell? ⟨w100.heap.size, 0, none⟩ = some (.slice S4 n t4) := d_109.out.at 0 _ rfl
  have qd1 : w108.cell? ⟨w100.heap.size, 1, none⟩ = some (.int .i64 keep) := d_109.out.at 1 _ rfl
  have zd := d_109.out.lt
  go_wp2_with (go_at_call 11; refine stop_here ?_)
  refine stop_on ?_
  clear zwi qh0 qh1 zh qx0 qx1 zx qa0 qa1 za qb0 qb1 zb qc0 qc1 zc qd0 qd1 zd
  generalize hW : (World.alloc w108 _) = W110
  obtain ⟨hx, hb0⟩ := allocs1 hW
  clear hW
  have A_111 := Lib.hid (A_109.out.ext hx)
  have I_111 := Lib.hid (I_109.out.ext hx)
  have X_111 := Lib.hid (X_109.out.ext hx)
  have wi_111 := Lib.hid (wi_109.out.ext hx)
  have h_111 := Lib.hid (h_109.out.ext hx)
  have x_111 := Lib.hid (x_109.out.ext hx)
  have B1_111 := Lib.hid (B1_109.out.ext hx)
  have a_111 := Lib.hid (a_109.out.ext hx)
  have B2_111 := Lib.hid (B2_109.out.ext hx)
  have b_111 := Lib.hid (b_109.out.ext hx)
  have B3_111 := Lib.hid (B3_109.out.ext hx)
  have c_111 := Lib.hid (c_109.out.ext hx)
  have B4_111 := Lib.hid (B4_109.out.ext hx)
  have d_111 := Lib.hid (d_109.out.ext hx)
  clear A_109 I_109 X_109 wi_109 h_109 x_109 B1_109 a_109 B2_109 b_109 B3_109 c_109 B4_109 d_109
  have rt_112 := Lib.hid hb0
  clear hx hb0
  refine (growFine_is _ 1 60 HF.out A_111.out (show Sl _ _ 1 1 ([root].map iv) from rt_112.out.slP 1 (by unfold maxLen; omega))).mono ?_
  rintro e w113 ⟨rfl, hx⟩
  have A_114 := Lib.hid (A_111.out.ext hx)
  have I_114 := Lib.hid (I_111.out.ext hx)
  have X_114 := Lib.hid (X_111.out.ext hx)
  have wi_114 := Lib.hid (wi_111.out.ext hx)
  have h_114 := Lib.hid (h_111.out.ext hx)
  have x_114 := Lib.hid (x_111.out.ext hx)
  have B1_114 := Lib.hid (B1_111.out.ext hx)
  have a_114 := Lib.hid (a_111.out.ext hx)
  have B2_114 := Lib.hid (B2_111.out.ext hx)
  have b_114 := Lib.hid (b_111.out.ext hx)
  have B3_114 := Lib.hid (B3_111.out.ext hx)
  have c_114 := Lib.hid (c_111.out.ext hx)
  have B4_114 := Lib.hid (B4_111.out.ext hx)
  have d_114 := Lib.hid (d_111.out.ext hx)
  have rt_114 := Lib.hid (rt_112.out.ext hx)
  clear A_111 I_111 X_111 wi_111 h_111 x_111 B1_111 a_111 B2_111 b_111 B3_111 c_111 B4_111 d_111 rt_112
  clear hx
  have zwi := wi_114.out.lt
  have qh0 : w113.cell? ⟨w.heap.size + 1, 0, none⟩ = some (.slice R n q) := h_114.out.at 0 _ rfl
  have qh1 : w113.cell? ⟨w.heap.size + 1, 1, none⟩ = some (.int .i64 keep) := h_114.out.at 1 _ rfl
  have zh := h_114.out.lt
  have qx0 : w113.cell? ⟨w.heap.size + 1 + 1, 0, none⟩ = some (.int .i64 key) := x_114.out.at 0 _ rfl
  have qx1 : w113.cell? ⟨w.heap.size + 1 + 1, 1, none⟩ = some (.int .i64 val) := x_114.out.at 1 _ rfl
  have zx := x_114.out.lt
  have qa0 : w113.cell? ⟨w82.heap.size, 0, none⟩ = some (.slice S1 n t1) := a_114.out.at 0 _ rfl
  have qa1 : w113.cell? ⟨w82.heap.size, 1, none⟩ = some (.int .i64 keep) := a_114.out.at 1 _ rfl
  have za := a_114.out.lt
  have qb0 : w113.cell? ⟨w88.heap.size, 0, none⟩ = some (.slice S2 n t2) := b_114.out.at 0 _ rfl
  have qb1 : w113.cell? ⟨w88.heap.size, 1, none⟩ = some (.int .i64 keep) := b_114.out.at 1 _ rfl
  have zb := b_114.out.lt
  have qc0 : w113.cell? ⟨w94.heap.size, 0, none⟩ = some (.slice S3 n t3) := c_114.out.at 0 _ rfl
  have qc1 : w113.cell? ⟨w94.heap.size, 1, none⟩ = some (.int .i64 keep) := c_114.out.at 1 _ rfl
  have zc := c_114.out.lt
  have qd0 : w113.cell? ⟨w100.heap.size, 0, none⟩ = some (.slice S4 n t4) := d_114.out.at 0 _ rfl
  have qd1 : w113.cell? ⟨w100.heap.size, 1, none⟩ = some (.int .i64 keep) := d_114.out.at 1 _ rfl
  have zd := d_114.out.lt
  have qrt0 : w113.cell? ⟨w108.heap.size, 0, none⟩ = some (.int .i64 root) := rt_114.out.at 0 _ rfl
  have zrt := rt_114.out.lt
  go_wp2_with (go_at_call 12; refine stop_here ?_)
  refine stop_on ?_
  clear zwi qh0 qh1 zh qx0 qx1 zx qa0 qa1 za qb0 qb1 zb qc0 qc1 zc qd0 qd1 zd qrt0 zrt
  refine (tellsFill_is (by decide) HF.out HM.out (by omega) HG.out A_114.out I_114.out).mono ?_
  rintro e w115 ⟨S5, t5, rfl, h3, hx⟩
  have A_116 := Lib.hid (A_114.out.ext hx)
  have I_116 := Lib.hid (I_114.out.ext hx)
  have X_116 := Lib.hid (X_114.out.ext hx)
  have wi_116 := Lib.hid (wi_114.out.ext hx)
  have h_116 := Lib.hid (h_114.out.ext hx)
  have x_116 := Lib.hid (x_114.out.ext hx)
  have B1_116 := Lib.hid (B1_114.out.ext hx)
  have a_116 := Lib.hid (a_114.out.ext hx)
  have B2_116 := Lib.hid (B2_114.out.ext hx)
  have b_116 := Lib.hid (b_114.out.ext hx)
  have B3_116 := Lib.hid (B3_114.out.ext hx)
  have c_116 := Lib.hid (c_114.out.ext hx)
  have B4_116 := Lib.hid (B4_114.out.ext hx)
  have d_116 := Lib.hid (d_114.out.ext hx)
  have rt_116 := Lib.hid (rt_114.out.ext hx)
  clear A_114 I_114 X_114 wi_114 h_114 x_114 B1_114 a_114 B2_114 b_114 B3_114 c_114 B4_114 d_114 rt_114
  have B5_117 := Lib.hid h3
  clear hx h3
  have zwi := wi_116.out.lt
  have qh0 : w115.cell? ⟨w.heap.size + 1, 0, none⟩ = some (.slice R n q) := h_116.out.at 0 _ rfl
  have qh1 : w115.cell? ⟨w.heap.size + 1, 1, none⟩ = some (.int .i64 keep) := h_116.out.at 1 _ rfl
  have zh := h_116.out.lt
  have qx0 : w115.cell? ⟨w.heap.size + 1 + 1, 0, none⟩ = some (.int .i64 key) := x_116.out.at 0 _ rfl
  have qx1 : w115.cell? ⟨w.heap.size + 1 + 1, 1, none⟩ = some (.int .i64 val) := x_116.out.at 1 _ rfl
  have zx := x_116.out.lt
  have qa0 : w115.cell? ⟨w82.heap.size, 0, none⟩ = some (.slice S1 n t1) := a_116.out.at 0 _ rfl
  have qa1 : w115.cell? ⟨w82.heap.size, 1, none⟩ = some (.int .i64 keep) := a_116.out.at 1 _ rfl
  have za := a_116.out.lt
  have qb0 : w115.cell? ⟨w88.heap.size, 0, none⟩ = some (.slice S2 n t2) := b_116.out.at 0 _ rfl
  have qb1 : w115.cell? ⟨w88.heap.size, 1, none⟩ = some (.int .i64 keep) := b_116.out.at 1 _ rfl
  have zb := b_116.out.lt
  have qc0 : w115.cell? ⟨w94.heap.size, 0, none⟩ = some (.slice S3 n t3) := c_116.out.at 0 _ rfl
  have qc1 : w115.cell? ⟨w94.heap.size, 1, none⟩ = some (.int .i64 keep) := c_116.out.at 1 _ rfl
  have zc := c_116.out.lt
  have qd0 : w115.cell? ⟨w100.heap.size, 0, none⟩ = some (.slice S4 n t4) := d_116.out.at 0 _ rfl
  have qd1 : w115.cell? ⟨w100.heap.size, 1, none⟩ = some (.int .i64 keep) := d_116.out.at 1 _ rfl
  have zd := d_116.out.lt
  have zrt := rt_116.out.lt
  go_wp2_with (go_at_call 13; refine stop_here ?_)
  refine stop_on ?_
  clear zwi qh0 qh1 zh qx0 qx1 zx qa0 qa1 za qb0 qb1 zb qc0 qc1 zc qd0 qd1 zd zrt
  generalize hW : (World.alloc w115 _) = W118
  obtain ⟨hx, hb0⟩ := allocs1 hW
  clear hW
  have A_119 := Lib.hid (A_116.out.ext hx)
  have I_119 := Lib.hid (I_116.out.ext hx)
  have X_119 := Lib.hid (X_116.out.ext hx)
  have wi_119 := Lib.hid (wi_116.out.ext hx)
  have h_119 := Lib.hid (h_116.out.ext hx)
  have x_119 := Lib.hid (x_116.out.ext hx)
  have B1_119 := Lib.hid (B1_116.out.ext hx)
  have a_119 := Lib.hid (a_116.out.ext hx)
  have B2_119 := Lib.hid (B2_116.out.ext hx)
  have b_119 := Lib.hid (b_116.out.ext hx)
  have B3_119 := Lib.hid (B3_116.out.ext hx)
  have c_119 := Lib.hid (c_116.out.ext hx)
  have B4_119 := Lib.hid (B4_116.out.ext hx)
  have d_119 := Lib.hid (d_116.out.ext hx)
  have rt_119 := Lib.hid (rt_116.out.ext hx)
  have B5_119 := Lib.hid (B5_117.out.ext hx)
  clear A_116 I_116 X_116 wi_116 h_116 x_116 B1_116 a_116 B2_116 b_116 B3_116 c_116 B4_116 d_116 rt_116 B5_117
  have t_120 := Lib.hid hb0
  clear hx hb0
  refine (ref09Fill_is (by decide) HF.out HM.out (by omega) HG.out A_119.out I_119.out).mono ?_
  rintro e w121 ⟨S6, t6, rfl, h3, hx⟩
  have A_122 := Lib.hid (A_119.out.ext hx)
  have I_122 := Lib.hid (I_119.out.ext hx)
  have X_122 := Lib.hid (X_119.out.ext hx)
  have wi_122 := Lib.hid (wi_119.out.ext hx)
  have h_122 := Lib.hid (h_119.out.ext hx)
  have x_122 := Lib.hid (x_119.out.ext hx)
  have B1_122 := Lib.hid (B1_119.out.ext hx)
  have a_122 := Lib.hid (a_119.out.ext hx)
  have B2_122 := Lib.hid (B2_119.out.ext hx)
  have b_122 := Lib.hid (b_119.out.ext hx)
  have B3_122 := Lib.hid (B3_119.out.ext hx)
  have c_122 := Lib.hid (c_119.out.ext hx)
  have B4_122 := Lib.hid (B4_119.out.ext hx)
  have d_122 := Lib.hid (d_119.out.ext hx)
  have rt_122 := Lib.hid (rt_119.out.ext hx)
  have B5_122 := Lib.hid (B5_119.out.ext hx)
  have t_122 := Lib.hid (t_120.out.ext hx)
  clear A_119 I_119 X_119 wi_119 h_119 x_119 B1_119 a_119 B2_119 b_119 B3_119 c_119 B4_119 d_119 rt_119 B5_119 t_120
  have B6_123 := Lib.hid h3
  clear hx h3
  have zwi := wi_122.out.lt
  have qh0 : w121.cell? ⟨w.heap.size + 1, 0, none⟩ = some (.slice R n q) := h_122.out.at 0 _ rfl
  have qh1 : w121.cell? ⟨w.heap.size + 1, 1, none⟩ = some (.int .i64 keep) := h_122.out.at 1 _ rfl
  have zh := h_122.out.lt
  have qx0 : w121.cell? ⟨w.heap.size + 1 + 1, 0, none⟩ = some (.int .i64 key) := x_122.out.at 0 _ rfl
  have qx1 : w121.cell? ⟨w.heap.size + 1 + 1, 1, none⟩ = some (.int .i64 val) := x_122.out.at 1 _ rfl
  have zx := x_122.out.lt
  have qa0 : w121.cell? ⟨w82.heap.size, 0, none⟩ = some (.slice S1 n t1) := a_122.out.at 0 _ rfl
  have qa1 : w121.cell? ⟨w82.heap.size, 1, none⟩ = some (.int .i64 keep) := a_122.out.at 1 _ rfl
  have za := a_122.out.lt
  have qb0 : w121.cell? ⟨w88.heap.size, 0, none⟩ = some (.slice S2 n t2) := b_122.out.at 0 _ rfl
  have qb1 : w121.cell? ⟨w88.heap.size, 1, none⟩ = some (.int .i64 keep) := b_122.out.at 1 _ rfl
  have zb := b_122.out.lt
  have qc0 : w121.cell? ⟨w94.heap.size, 0, none⟩ = some (.slice S3 n t3) := c_122.out.at 0 _ rfl
  have qc1 : w121.cell? ⟨w94.heap.size, 1, none⟩ = some (.int .i64 keep) := c_122.out.at 1 _ rfl
  have zc := c_122.out.lt
  have qd0 : w121.cell? ⟨w100.heap.size, 0, none⟩ = some (.slice S4 n t4) := d_122.out.at 0 _ rfl
  have qd1 : w121.cell? ⟨w100.heap.size, 1, none⟩ = some (.int .i64 keep) := d_122.out.at 1 _ rfl
  have zd := d_122.out.lt
  have zrt := rt_122.out.lt
  have qt0 : w121.cell? ⟨w115.heap.size, 0, none⟩ = some (.slice S5 n t5) := t_122.out.at 0 _ rfl
  have qt1 : w121.cell? ⟨w115.heap.size, 1, none⟩ = some (.int .i64 keep) := t_122.out.at 1 _ rfl
  have zt := t_122.out.lt
  go_wp2_with (go_at_call 10; refine stop_here ?_)
  refine stop_on ?_
  clear zwi qh0 qh1 zh qx0 qx1 zx qa0 qa1 za qb0 qb1 zb qc0 qc1 zc qd0 qd1 zd zrt qt0 qt1 zt
  generalize hW : (World.alloc w121 _) = W124
  obtain ⟨hx, hb0⟩ := allocs1 hW
  clear hW
  have A_125 := Lib.hid (A_122.out.ext hx)
  have I_125 := Lib.hid (I_122.out.ext hx)
  have X_125 := Lib.hid (X_122.out.ext hx)
  have wi_125 := Lib.hid (wi_122.out.ext hx)
  have h_125 := Lib.hid (h_122.out.ext hx)
  have x_125 := Lib.hid (x_122.out.ext hx)
  have B1_125 := Lib.hid (B1_122.out.ext hx)
  have a_125 := Lib.hid (a_122.out.ext hx)
  have B2_125 := Lib.hid (B2_122.out.ext hx)
  have b_125 := Lib.hid (b_122.out.ext hx)
  have B3_125 := Lib.hid (B3_122.out.ext hx)
  have c_125 := Lib.hid (c_122.out.ext hx)
  have B4_125 := Lib.hid (B4_122.out.ext hx)
  have d_125 := Lib.hid (d_122.out.ext hx)
  have rt_125 := Lib.hid (rt_122.out.ext hx)
  have B5_125 := Lib.hid (B5_122.out.ext hx)
  have t_125 := Lib.hid (t_122.out.ext hx)
  have B6_125 := Lib.hid (B6_123.out.ext hx)
  clear A_122 I_122 X_122 wi_122 h_122 x_122 B1_122 a_122 B2_122 b_122 B3_122 c_122 B4_122 d_122 rt_122 B5_122 t_122 B6_123
  have v_126 := Lib.hid hb0
  clear hx hb0
  refine (growSame_is _ _ _ B5_125.out B6_125.out).mono ?_
  rintro e w127 ⟨rfl, hx⟩
  have A_128 := Lib.hid (A_125.out.ext hx)
  have I_128 := Lib.hid (I_125.out.ext hx)
  have X_128 := Lib.hid (X_125.out.ext hx)
  have wi_128 := Lib.hid (wi_125.out.ext hx)
  have h_128 := Lib.hid (h_125.out.ext hx)
  have x_128 := Lib.hid (x_125.out.ext hx)
  have B1_128 := Lib.hid (B1_125.out.ext hx)
  have a_128 := Lib.hid (a_125.out.ext hx)
  have B2_128 := Lib.hid (B2_125.out.ext hx)
  have b_128 := Lib.hid (b_125.out.ext hx)
  have B3_128 := Lib.hid (B3_125.out.ext hx)
  have c_128 := Lib.hid (c_125.out.ext hx)
  have B4_128 := Lib.hid (B4_125.out.ext hx)
  have d_128 := Lib.hid (d_125.out.ext hx)
  have rt_128 := Lib.hid (rt_125.out.ext hx)
  have B5_128 := Lib.hid (B5_125.out.ext hx)
  have t_128 := Lib.hid (t_125.out.ext hx)
  have B6_128 := Lib.hid (B6_125.out.ext hx)
  have v_128 := Lib.hid (v_126.out.ext hx)
  clear A_125 I_125 X_125 wi_125 h_125 x_125 B1_125 a_125 B2_125 b_125 B3_125 c_125 B4_125 d_125 rt_125 B5_125 t_125 B6_125 v_126
  clear hx
  have zwi := wi_128.out.lt
  have qh0 : w127.cell? ⟨w.heap.size + 1, 0, none⟩ = some (.slice R n q) := h_128.out.at 0 _ rfl
  have qh1 : w127.cell? ⟨w.heap.size + 1, 1, none⟩ = some (.int .i64 keep) := h_128.out.at 1 _ rfl
  have zh := h_128.out.lt
  have qx0 : w127.cell? ⟨w.heap.size + 1 + 1, 0, none⟩ = some (.int .i64 key) := x_128.out.at 0 _ rfl
  have qx1 : w127.cell? ⟨w.heap.size + 1 + 1, 1, none⟩ = some (.int .i64 val) := x_128.out.at 1 _ rfl
  have zx := x_128.out.lt
  have qa0 : w127.cell? ⟨w82.heap.size, 0, none⟩ = some (.slice S1 n t1) := a_128.out.at 0 _ rfl
  have qa1 : w127.cell? ⟨w82.heap.size, 1, none⟩ = some (.int .i64 keep) := a_128.out.at 1 _ rfl
  have za := a_128.out.lt
  have qb0 : w127.cell? ⟨w88.heap.size, 0, none⟩ = some (.slice S2 n t2) := b_128.out.at 0 _ rfl
  have qb1 : w127.cell? ⟨w88.heap.size, 1, none⟩ = some (.int .i64 keep) := b_128.out.at 1 _ rfl
  have zb := b_128.out.lt
  have qc0 : w127.cell? ⟨w94.heap.size, 0, none⟩ = some (.slice S3 n t3) := c_128.out.at 0 _ rfl
  have qc1 : w127.cell? ⟨w94.heap.size, 1, none⟩ = some (.int .i64 keep) := c_128.out.at 1 _ rfl
  have zc := c_128.out.lt
  have qd0 : w127.cell? ⟨w100.heap.size, 0, none⟩ = some (.slice S4 n t4) := d_128.out.at 0 _ rfl
  have qd1 : w127.cell? ⟨w100.heap.size, 1, none⟩ = some (.int .i64 keep) := d_128.out.at 1 _ rfl
  have zd := d_128.out.lt
  have zrt := rt_128.out.lt
  have qt0 : w127.cell? ⟨w115.heap.size, 0, none⟩ = some (.slice S5 n t5) := t_128.out.at 0 _ rfl
  have qt1 : w127.cell? ⟨w115.heap.size, 1, none⟩ = some (.int .i64 keep) := t_128.out.at 1 _ rfl
  have zt := t_128.out.lt
  have qv0 : w127.cell? ⟨w121.heap.size, 0, none⟩ = some (.slice S6 n t6) := v_128.out.at 0 _ rfl
  have qv1 : w127.cell? ⟨w121.heap.size, 1, none⟩ = some (.int .i64 keep) := v_128.out.at 1 _ rfl
  have zv := v_128.out.lt
  go_wp2
  go_ret
  exact ⟨rfl, X_128.out⟩
theorem tells_any (R : Option Addr) (l : List HC) (n q : Nat) (keep root key val : Int) (deep : Bool) (A : Option Addr) (it : List It) (m c : Nat) (w : World) (hA : HcSl w R n q l) (hm : m = it.length) (hI : Sl w A m c (ivs it)) :
    Calls Tryz.prog 3 #[.agg #[.slice R n q, .int .i64 keep, .int .i64 root, .int .i64 key, .int .i64 val, .bool deep, .slice A m c]] w fun e w' => e = .returned (.bool true) ∧ Ext w w' := by
  cases hr : mayR ⟨l, keep⟩ root 60
  · exact tells_not R l n q keep root key val deep A it m c w hA hI hr
  · rcases Nat.lt_or_ge 10 m with h | h
    · exact tells_long R l n q keep root key val deep A it m c w hA hI hr h
    · obtain ⟨⟨c1, r1, e1⟩, hp⟩ : ∃ x, putR ⟨l, keep⟩ root (key, val) deep = x := ⟨_, rfl⟩
      obtain ⟨⟨c2, p2, e2⟩, hq⟩ : ∃ x, (allocL l false it (it.map (·.2)), allocP l false it, allocE l false it) = x := ⟨_, rfl⟩
      cases hf : fineB ⟨l, keep⟩ root 60
      · exact tells_some R l n q keep root key val deep A it m c w hA hI hr h hm c1 r1 e1 hp c2 p2 e2 hq hf
      · obtain ⟨⟨c3, r3, e3⟩, hg⟩ : ∃ x, fillR keep it l root = x := ⟨_, rfl⟩
        exact tells_all R l n q keep root key val deep A it m c w hA hI hr h hm c1 r1 e1 hp c2 p2 e2 hq hf c3 r3 e3 hg
end Go.Proofs.YtkoomcbiddanfaaGreat

