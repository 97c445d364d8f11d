/- The walk of the example of layer 5. -/
import Derived.Test.YtclpeeemnmhdcaaHeapM
import Derived.Deep.AppendLies
import Derived.Deep.RegionHeld3
import Derived.Deep.DeepCutAuto
import Derived.Deep.DrawnRows
import Derived.RegionTactic
namespace Go.Proofs.Ytclpeeemnmhdcaa
open Go.RowKit
attribute [local go_sem ↓] Go.wp_at_zero Go.wp_at_succ

def e0 : List HC := [HC.none, HC.none]
def e1 : List HC := [⟨1, false, true, [(1, 2)]⟩, HC.none]
def e2 : List HC := [⟨2, false, true, [(1, 2)]⟩, ⟨1, false, false, [(1, 0)]⟩]
def e3 : List HC := [⟨1, false, true, [(1, 2)]⟩, ⟨0, true, false, []⟩]
def e4 : List HC := [⟨2, false, true, [(1, 2)]⟩, HC.none]
def e5 : List HC := [⟨1, false, true, [(1, 2)]⟩, ⟨0, false, false, []⟩]
theorem may0 : mayH ⟨e0, 1⟩ 60 = true := by decide
theorem may1 : mayH ⟨e1, 1⟩ 60 = true := by decide
theorem may2 : mayH ⟨e2, 1⟩ 60 = true := by decide
theorem may3 : mayH ⟨e3, 1⟩ 60 = true := by decide
theorem may4 : mayH ⟨e4, 1⟩ 60 = true := by decide
theorem may5 : mayH ⟨e5, 1⟩ 60 = true := by decide
theorem HcSl.ad {w : World} {R : Option Addr} {m q : Nat} {l : List HC} (h : HcSl w R m q l) (h0 : 0 < l.length) : ∃ b o, R = some ⟨b, o, none⟩ := by
  obtain ⟨b, o, e, _⟩ := h.cell h0
  exact ⟨b, o, e⟩
theorem HcSl.at_ {w : World} {b o m q : Nat} {l : List HC} (h : HcSl w (some ⟨b, o, none⟩) m q l) {k : Nat} (hk : k < l.length) : w.cell? ⟨b, o + k * 4, none⟩ = some (.int .i64 l[k].ref) ∧ w.cell? ⟨b, o + k * 4 + 1, none⟩ = some (.bool l[k].pin) := by
  obtain ⟨b', o', e, _, A, c, r0, r1, _⟩ := h.cell hk
  cases e
  exact ⟨r0, r1⟩
theorem Bx.item {w : World} {k : Nat} {a b : Int} (h : Bx w k #[.int .i64 a, .int .i64 b]) : Sl w (some ⟨k, 0, none⟩) 1 1 (ivs [(a, b)]) :=
  ⟨(fun e => by cases e), Nat.le_refl _, by unfold maxLen; omega, fun _ => ⟨k, 0, rfl, h.lt, fun j u hu => by
    match j, hu with
    | 0, hu => cases hu; exact h.at 0 _ rfl
    | 1, hu => cases hu; exact h.at 1 _ rfl
    | j + 2, hu => simp [ivs] at hu⟩⟩
theorem ex_new (w : World) : Calls Try.prog 11 #[.int .i64 2, .int .i64 1] w fun e w' => ∃ S d, e = .returned (.tuple #[.agg #[.slice S 2 d, .int .i64 1], .int .i64 0]) ∧ HcSl w' S 2 d e0 ∧ Ext w w' := by
  have h := heapNew_any 2 1 w
  rw [show newH 2 1 = ⟨e0, 1⟩ from by decide, show newHE 2 1 = 0 from by decide] at h
  exact h
theorem ex_alloc1 (S : Option Addr) (d : Nat) (A : Option Addr) (w : World) (hP : HcSl w S 2 d e0) (hI : Sl w A 1 1 (ivs [(1, 2)])) :
    Calls Try.prog 22 #[.agg #[.slice S 2 d, .int .i64 1], .agg #[.bool true, .slice A 1 1], .slice none 0 0] w fun e w' => ∃ S d, e = .returned (.tuple #[.agg #[.slice S 2 d, .int .i64 1], .int .i64 0, .int .i64 0]) ∧ HcSl w' S 2 d e1 ∧ Ext w w' := by
  have h := heapAlloc_any S e0 2 d 1 w true A [(1, 2)] 1 1 none [] 0 0 may0 (by omega) (by omega) hP rfl hI rfl (Sl.nil _)
  rw [show allocP e0 true [(1, 2)] = 0 from by decide, show allocE e0 true [(1, 2)] = 0 from by decide, show allocL e0 true [(1, 2)] [] = e1 from by decide] at h
  exact h
theorem ex_alloc2 (S : Option Addr) (d : Nat) (A : Option Addr) (w : World) (hP : HcSl w S 2 d e1) (hI : Sl w A 1 1 (ivs [(1, 0)])) :
    Calls Try.prog 22 #[.agg #[.slice S 2 d, .int .i64 1], .agg #[.bool false, .slice A 1 1], .slice none 0 0] w fun e w' => ∃ b o d, e = .returned (.tuple #[.agg #[.slice (some ⟨b, o, none⟩) 2 d, .int .i64 1], .int .i64 1, .int .i64 0]) ∧ HcSl w' (some ⟨b, o, none⟩) 2 d e2 ∧ Ext w w' := by
  have h := heapAlloc_any S e1 2 d 1 w false A [(1, 0)] 1 1 none [] 0 0 may1 (by omega) (by omega) hP rfl hI rfl (Sl.nil _)
  rw [show allocP e1 false [(1, 0)] = 1 from by decide, show allocE e1 false [(1, 0)] = 0 from by decide, show allocL e1 false [(1, 0)] [] = e2 from by decide] at h
  refine h.mono ?_
  rintro e w' ⟨S, d, rfl, h1, hx⟩
  obtain ⟨b, o, rfl⟩ := h1.ad (by decide)
  exact ⟨b, o, d, rfl, h1, hx⟩
theorem ex_loose (S : Option Addr) (d : Nat) (w : World) (hP : HcSl w S 2 d e2) :
    Calls Try.prog 26 #[.agg #[.slice S 2 d, .int .i64 1], .int .i64 1] w fun e w' => ∃ b o d, e = .returned (.tuple #[.agg #[.slice (some ⟨b, o, none⟩) 2 d, .int .i64 1], .int .i64 0]) ∧ HcSl w' (some ⟨b, o, none⟩) 2 d e3 ∧ Ext w w' := by
  have h := heapLoose_is S e2 2 d 1 1 w (may_iff may2).2.2 (may_bd may2) hP
  rw [show looseE ⟨e2, 1⟩ 1 = 0 from by decide, show looseL (e2.length + 1) e2 1 = e3 from by decide] at h
  refine h.mono ?_
  rintro e w' ⟨S, d, rfl, h1, hx⟩
  obtain ⟨b, o, rfl⟩ := h1.ad (by decide)
  exact ⟨b, o, d, rfl, h1, hx⟩
theorem ex_hold (S : Option Addr) (d : Nat) (w : World) (hP : HcSl w S 2 d e1) :
    Calls Try.prog 24 #[.agg #[.slice S 2 d, .int .i64 1], .int .i64 0] w fun e w' => ∃ S d, e = .returned (.tuple #[.agg #[.slice S 2 d, .int .i64 1], .int .i64 0]) ∧ HcSl w' S 2 d e4 ∧ Ext w w' := by
  have h := heapHold_any S e1 2 d 1 w 0 (may_iff may1).2.2 (may_bd may1) hP
  rw [show holdE ⟨e1, 1⟩ 0 = 0 from by decide, show (holdH ⟨e1, 1⟩ 0).c = e4 from by decide] at h
  exact h
theorem ex_settle (S : Option Addr) (d : Nat) (w : World) (hP : HcSl w S 2 d e3) :
    Calls Try.prog 28 #[.agg #[.slice S 2 d, .int .i64 1]] w fun e w' => ∃ S d, e = .returned (.agg #[.slice S 2 d, .int .i64 1]) ∧ HcSl w' S 2 d e5 ∧ Ext w w' := by
  have h := heapSettle_any S e3 2 d 1 w may3 hP
  rw [show (settleH ⟨e3, 1⟩).c = e5 from by decide] at h
  exact h
theorem ex_free1 (S : Option Addr) (d : Nat) (w : World) (hP : HcSl w S 2 d e1) : Calls Try.prog 17 #[.agg #[.slice S 2 d, .int .i64 1]] w fun e w' => e = .returned (.int .i64 1) ∧ Ext w w' := heapFree_is S e1 2 d 1 w (m := 1) may1 (by decide) hP
theorem ex_free5 (S : Option Addr) (d : Nat) (w : World) (hP : HcSl w S 2 d e5) : Calls Try.prog 17 #[.agg #[.slice S 2 d, .int .i64 1]] w fun e w' => e = .returned (.int .i64 1) ∧ Ext w w' := heapFree_is S e5 2 d 1 w (m := 1) may5 (by decide) hP
set_option maxRecDepth 100000 in
set_option maxHeartbeats 4000000 in
/-- THE EXAMPLE. -/
theorem shown_any (w : World) : Calls Try.prog 9 #[] w fun e w' => e = .returned (.bool true) ∧ Ext w w' := by
  have X_1 := Lib.hid (Ext.refl w)
  go_enter Try.func9, Try.ntmps9
  go_wp2_with (go_at_call 11; refine stop_here ?_)
  refine stop_on ?_
  refine (ex_new _).mono ?_
  rintro e w2 ⟨S1, d1, rfl, h1, hx⟩
  have X_3 := Lib.hid (X_1.out.ext hx)
  clear X_1
  have P1_4 := Lib.hid h1
  clear hx h1
  go_wp2_with (go_at_call 22; refine stop_here ?_)
  refine stop_on ?_
  generalize hW : (World.alloc (World.alloc w2 _) _) = W5
  obtain ⟨hx, hb0, hb1⟩ := allocs2 hW
  clear hW
  have X_6 := Lib.hid (X_3.out.ext hx)
  have P1_6 := Lib.hid (P1_4.out.ext hx)
  clear X_3 P1_4
  have h_7 := Lib.hid hb0
  have i_8 := Lib.hid hb1
  clear hx hb0 hb1
  refine (ex_alloc1 S1 d1 _ _ P1_6.out i_8.out.item).mono ?_
  rintro e w9 ⟨S2, d2, rfl, h1, hx⟩
  have X_10 := Lib.hid (X_6.out.ext hx)
  have P1_10 := Lib.hid (P1_6.out.ext hx)
  have h_10 := Lib.hid (h_7.out.ext hx)
  have i_10 := Lib.hid (i_8.out.ext hx)
  clear X_6 P1_6 h_7 i_8
  have P2_11 := Lib.hid h1
  clear hx h1
  have qh0 : w9.cell? ⟨w2.heap.size, 0, none⟩ = some (.slice S1 2 d1) := h_10.out.at 0 _ rfl
  have qh1 : w9.cell? ⟨w2.heap.size, 1, none⟩ = some (.int .i64 1) := h_10.out.at 1 _ rfl
  have zh := h_10.out.lt
  have qi0 : w9.cell? ⟨w2.heap.size + 1, 0, none⟩ = some (.int .i64 1) := i_10.out.at 0 _ rfl
  have qi1 : w9.cell? ⟨w2.heap.size + 1, 1, none⟩ = some (.int .i64 2) := i_10.out.at 1 _ rfl
  have zi := i_10.out.lt
  go_wp2_with (go_at_call 22; refine stop_here ?_)
  refine stop_on ?_
  clear qh0 qh1 zh qi0 qi1 zi
  generalize hW : (World.alloc (World.alloc w9 _) _) = W12
  obtain ⟨hx, hb0, hb1⟩ := allocs2 hW
  clear hW
  have X_13 := Lib.hid (X_10.out.ext hx)
  have P1_13 := Lib.hid (P1_10.out.ext hx)
  have h_13 := Lib.hid (h_10.out.ext hx)
  have i_13 := Lib.hid (i_10.out.ext hx)
  have P2_13 := Lib.hid (P2_11.out.ext hx)
  clear X_10 P1_10 h_10 i_10 P2_11
  have a_14 := Lib.hid hb0
  have j_15 := Lib.hid hb1
  clear hx hb0 hb1
  refine (ex_alloc2 S2 d2 _ _ P2_13.out j_15.out.item).mono ?_
  rintro e w16 ⟨b3, o3, d3, rfl, h1, hx⟩
  have X_17 := Lib.hid (X_13.out.ext hx)
  have P1_17 := Lib.hid (P1_13.out.ext hx)
  have h_17 := Lib.hid (h_13.out.ext hx)
  have i_17 := Lib.hid (i_13.out.ext hx)
  have P2_17 := Lib.hid (P2_13.out.ext hx)
  have a_17 := Lib.hid (a_14.out.ext hx)
  have j_17 := Lib.hid (j_15.out.ext hx)
  clear X_13 P1_13 h_13 i_13 P2_13 a_14 j_15
  have P3_18 := Lib.hid h1
  clear hx h1
  have qh0 : w16.cell? ⟨w2.heap.size, 0, none⟩ = some (.slice S1 2 d1) := h_17.out.at 0 _ rfl
  have qh1 : w16.cell? ⟨w2.heap.size, 1, none⟩ = some (.int .i64 1) := h_17.out.at 1 _ rfl
  have zh := h_17.out.lt
  have qi0 : w16.cell? ⟨w2.heap.size + 1, 0, none⟩ = some (.int .i64 1) := i_17.out.at 0 _ rfl
  have qi1 : w16.cell? ⟨w2.heap.size + 1, 1, none⟩ = some (.int .i64 2) := i_17.out.at 1 _ rfl
  have zi := i_17.out.lt
  have qa0 : w16.cell? ⟨w9.heap.size, 0, none⟩ = some (.slice S2 2 d2) := a_17.out.at 0 _ rfl
  have qa1 : w16.cell? ⟨w9.heap.size, 1, none⟩ = some (.int .i64 1) := a_17.out.at 1 _ rfl
  have za := a_17.out.lt
  have qj0 : w16.cell? ⟨w9.heap.size + 1, 0, none⟩ = some (.int .i64 1) := j_17.out.at 0 _ rfl
  have qj1 : w16.cell? ⟨w9.heap.size + 1, 1, none⟩ = some (.int .i64 0) := j_17.out.at 1 _ rfl
  have zj := j_17.out.lt
  go_wp2_with (go_at_call 26; refine stop_here ?_)
  refine stop_on ?_
  clear qh0 qh1 zh qi0 qi1 zi qa0 qa1 za qj0 qj1 zj
  generalize hW : (World.alloc w16 _) = W19
  obtain ⟨hx, hb0⟩ := allocs1 hW
  clear hW
  have X_20 := Lib.hid (X_17.out.ext hx)
  have P1_20 := Lib.hid (P1_17.out.ext hx)
  have h_20 := Lib.hid (h_17.out.ext hx)
  have i_20 := Lib.hid (i_17.out.ext hx)
  have P2_20 := Lib.hid (P2_17.out.ext hx)
  have a_20 := Lib.hid (a_17.out.ext hx)
  have j_20 := Lib.hid (j_17.out.ext hx)
  have P3_20 := Lib.hid (P3_18.out.ext hx)
  clear X_17 P1_17 h_17 i_17 P2_17 a_17 j_17 P3_18
  have b_21 := Lib.hid hb0
  clear hx hb0
  refine (ex_loose _ d3 _ P3_20.out).mono ?_
  rintro e w22 ⟨b4, o4, d4, rfl, h1, hx⟩
  have X_23 := Lib.hid (X_20.out.ext hx)
  have P1_23 := Lib.hid (P1_20.out.ext hx)
  have h_23 := Lib.hid (h_20.out.ext hx)
  have i_23 := Lib.hid (i_20.out.ext hx)
  have P2_23 := Lib.hid (P2_20.out.ext hx)
  have a_23 := Lib.hid (a_20.out.ext hx)
  have j_23 := Lib.hid (j_20.out.ext hx)
  have P3_23 := Lib.hid (P3_20.out.ext hx)
  have b_23 := Lib.hid (b_21.out.ext hx)
  clear X_20 P1_20 h_20 i_20 P2_20 a_20 j_20 P3_20 b_21
  have P4_24 := Lib.hid h1
  clear hx h1
  have qh0 : w22.cell? ⟨w2.heap.size, 0, none⟩ = some (.slice S1 2 d1) := h_23.out.at 0 _ rfl
  have qh1 : w22.cell? ⟨w2.heap.size, 1, none⟩ = some (.int .i64 1) := h_23.out.at 1 _ rfl
  have zh := h_23.out.lt
  have qi0 : w22.cell? ⟨w2.heap.size + 1, 0, none⟩ = some (.int .i64 1) := i_23.out.at 0 _ rfl
  have qi1 : w22.cell? ⟨w2.heap.size + 1, 1, none⟩ = some (.int .i64 2) := i_23.out.at 1 _ rfl
  have zi := i_23.out.lt
  have qa0 : w22.cell? ⟨w9.heap.size, 0, none⟩ = some (.slice S2 2 d2) := a_23.out.at 0 _ rfl
  have qa1 : w22.cell? ⟨w9.heap.size, 1, none⟩ = some (.int .i64 1) := a_23.out.at 1 _ rfl
  have za := a_23.out.lt
  have qj0 : w22.cell? ⟨w9.heap.size + 1, 0, none⟩ = some (.int .i64 1) := j_23.out.at 0 _ rfl
  have qj1 : w22.cell? ⟨w9.heap.size + 1, 1, none⟩ = some (.int .i64 0) := j_23.out.at 1 _ rfl
  have zj := j_23.out.lt
  have qb0 : w22.cell? ⟨w16.heap.size, 0, none⟩ = some (.slice (some ⟨b3, o3, none⟩) 2 d3) := b_23.out.at 0 _ rfl
  have qb1 : w22.cell? ⟨w16.heap.size, 1, none⟩ = some (.int .i64 1) := b_23.out.at 1 _ rfl
  have zb := b_23.out.lt
  go_wp2_with (go_at_call 24; refine stop_here ?_)
  refine stop_on ?_
  clear qh0 qh1 zh qi0 qi1 zi qa0 qa1 za qj0 qj1 zj qb0 qb1 zb
  generalize hW : (World.alloc w22 _) = W25
  obtain ⟨hx, hb0⟩ := allocs1 hW
  clear hW
  have X_26 := Lib.hid (X_23.out.ext hx)
  have P1_26 := Lib.hid (P1_23.out.ext hx)
  have h_26 := Lib.hid (h_23.out.ext hx)
  have i_26 := Lib.hid (i_23.out.ext hx)
  have P2_26 := Lib.hid (P2_23.out.ext hx)
  have a_26 := Lib.hid (a_23.out.ext hx)
  have j_26 := Lib.hid (j_23.out.ext hx)
  have P3_26 := Lib.hid (P3_23.out.ext hx)
  have b_26 := Lib.hid (b_23.out.ext hx)
  have P4_26 := Lib.hid (P4_24.out.ext hx)
  clear X_23 P1_23 h_23 i_23 P2_23 a_23 j_23 P3_23 b_23 P4_24
  have c_27 := Lib.hid hb0
  clear hx hb0
  refine (ex_hold S2 d2 _ P2_26.out).mono ?_
  rintro e w28 ⟨S5, d5, rfl, h1, hx⟩
  have X_29 := Lib.hid (X_26.out.ext hx)
  have P1_29 := Lib.hid (P1_26.out.ext hx)
  have h_29 := Lib.hid (h_26.out.ext hx)
  have i_29 := Lib.hid (i_26.out.ext hx)
  have P2_29 := Lib.hid (P2_26.out.ext hx)
  have a_29 := Lib.hid (a_26.out.ext hx)
  have j_29 := Lib.hid (j_26.out.ext hx)
  have P3_29 := Lib.hid (P3_26.out.ext hx)
  have b_29 := Lib.hid (b_26.out.ext hx)
  have P4_29 := Lib.hid (P4_26.out.ext hx)
  have c_29 := Lib.hid (c_27.out.ext hx)
  clear X_26 P1_26 h_26 i_26 P2_26 a_26 j_26 P3_26 b_26 P4_26 c_27
  have P5_30 := Lib.hid h1
  clear hx h1
  have qh0 : w28.cell? ⟨w2.heap.size, 0, none⟩ = some (.slice S1 2 d1) := h_29.out.at 0 _ rfl
  have qh1 : w28.cell? ⟨w2.heap.size, 1, none⟩ = some (.int .i64 1) := h_29.out.at 1 _ rfl
  have zh := h_29.out.lt
  have qi0 : w28.cell? ⟨w2.heap.size + 1, 0, none⟩ = some (.int .i64 1) := i_29.out.at 0 _ rfl
  have qi1 : w28.cell? ⟨w2.heap.size + 1, 1, none⟩ = some (.int .i64 2) := i_29.out.at 1 _ rfl
  have zi := i_29.out.lt
  have qa0 : w28.cell? ⟨w9.heap.size, 0, none⟩ = some (.slice S2 2 d2) := a_29.out.at 0 _ rfl
  have qa1 : w28.cell? ⟨w9.heap.size, 1, none⟩ = some (.int .i64 1) := a_29.out.at 1 _ rfl
  have za := a_29.out.lt
  have qj0 : w28.cell? ⟨w9.heap.size + 1, 0, none⟩ = some (.int .i64 1) := j_29.out.at 0 _ rfl
  have qj1 : w28.cell? ⟨w9.heap.size + 1, 1, none⟩ = some (.int .i64 0) := j_29.out.at 1 _ rfl
  have zj := j_29.out.lt
  have qb0 : w28.cell? ⟨w16.heap.size, 0, none⟩ = some (.slice (some ⟨b3, o3, none⟩) 2 d3) := b_29.out.at 0 _ rfl
  have qb1 : w28.cell? ⟨w16.heap.size, 1, none⟩ = some (.int .i64 1) := b_29.out.at 1 _ rfl
  have zb := b_29.out.lt
  have qc0 : w28.cell? ⟨w22.heap.size, 0, none⟩ = some (.slice (some ⟨b4, o4, none⟩) 2 d4) := c_29.out.at 0 _ rfl
  have qc1 : w28.cell? ⟨w22.heap.size, 1, none⟩ = some (.int .i64 1) := c_29.out.at 1 _ rfl
  have zc := c_29.out.lt
  go_wp2_with (go_at_call 19; refine stop_here ?_)
  refine stop_on ?_
  clear qh0 qh1 zh qi0 qi1 zi qa0 qa1 za qj0 qj1 zj qb0 qb1 zb qc0 qc1 zc
  generalize hW : (World.alloc w28 _) = W31
  obtain ⟨hx, hb0⟩ := allocs1 hW
  clear hW
  have X_32 := Lib.hid (X_29.out.ext hx)
  have P1_32 := Lib.hid (P1_29.out.ext hx)
  have h_32 := Lib.hid (h_29.out.ext hx)
  have i_32 := Lib.hid (i_29.out.ext hx)
  have P2_32 := Lib.hid (P2_29.out.ext hx)
  have a_32 := Lib.hid (a_29.out.ext hx)
  have j_32 := Lib.hid (j_29.out.ext hx)
  have P3_32 := Lib.hid (P3_29.out.ext hx)
  have b_32 := Lib.hid (b_29.out.ext hx)
  have P4_32 := Lib.hid (P4_29.out.ext hx)
  have c_32 := Lib.hid (c_29.out.ext hx)
  have P5_32 := Lib.hid (P5_30.out.ext hx)
  clear X_29 P1_29 h_29 i_29 P2_29 a_29 j_29 P3_29 b_29 P4_29 c_29 P5_30
  have d_33 := Lib.hid hb0
  clear hx hb0
  refine (heapFits_is S1 e0 2 d1 1 _ (r := true) 1 false may0 (by decide) P1_32.out).mono ?_
  rintro e w34 ⟨rfl, hx⟩
  have X_35 := Lib.hid (X_32.out.ext hx)
  have P1_35 := Lib.hid (P1_32.out.ext hx)
  have h_35 := Lib.hid (h_32.out.ext hx)
  have i_35 := Lib.hid (i_32.out.ext hx)
  have P2_35 := Lib.hid (P2_32.out.ext hx)
  have a_35 := Lib.hid (a_32.out.ext hx)
  have j_35 := Lib.hid (j_32.out.ext hx)
  have P3_35 := Lib.hid (P3_32.out.ext hx)
  have b_35 := Lib.hid (b_32.out.ext hx)
  have P4_35 := Lib.hid (P4_32.out.ext hx)
  have c_35 := Lib.hid (c_32.out.ext hx)
  have P5_35 := Lib.hid (P5_32.out.ext hx)
  have d_35 := Lib.hid (d_33.out.ext hx)
  clear X_32 P1_32 h_32 i_32 P2_32 a_32 j_32 P3_32 b_32 P4_32 c_32 P5_32 d_33
  clear hx
  have qh0 : w34.cell? ⟨w2.heap.size, 0, none⟩ = some (.slice S1 2 d1) := h_35.out.at 0 _ rfl
  have qh1 : w34.cell? ⟨w2.heap.size, 1, none⟩ = some (.int .i64 1) := h_35.out.at 1 _ rfl
  have zh := h_35.out.lt
  have qi0 : w34.cell? ⟨w2.heap.size + 1, 0, none⟩ = some (.int .i64 1) := i_35.out.at 0 _ rfl
  have qi1 : w34.cell? ⟨w2.heap.size + 1, 1, none⟩ = some (.int .i64 2) := i_35.out.at 1 _ rfl
  have zi := i_35.out.lt
  have qa0 : w34.cell? ⟨w9.heap.size, 0, none⟩ = some (.slice S2 2 d2) := a_35.out.at 0 _ rfl
  have qa1 : w34.cell? ⟨w9.heap.size, 1, none⟩ = some (.int .i64 1) := a_35.out.at 1 _ rfl
  have za := a_35.out.lt
  have qj0 : w34.cell? ⟨w9.heap.size + 1, 0, none⟩ = some (.int .i64 1) := j_35.out.at 0 _ rfl
  have qj1 : w34.cell? ⟨w9.heap.size + 1, 1, none⟩ = some (.int .i64 0) := j_35.out.at 1 _ rfl
  have zj := j_35.out.lt
  have qb0 : w34.cell? ⟨w16.heap.size, 0, none⟩ = some (.slice (some ⟨b3, o3, none⟩) 2 d3) := b_35.out.at 0 _ rfl
  have qb1 : w34.cell? ⟨w16.heap.size, 1, none⟩ = some (.int .i64 1) := b_35.out.at 1 _ rfl
  have zb := b_35.out.lt
  have qc0 : w34.cell? ⟨w22.heap.size, 0, none⟩ = some (.slice (some ⟨b4, o4, none⟩) 2 d4) := c_35.out.at 0 _ rfl
  have qc1 : w34.cell? ⟨w22.heap.size, 1, none⟩ = some (.int .i64 1) := c_35.out.at 1 _ rfl
  have zc := c_35.out.lt
  have qd0 : w34.cell? ⟨w28.heap.size, 0, none⟩ = some (.slice S5 2 d5) := d_35.out.at 0 _ rfl
  have qd1 : w34.cell? ⟨w28.heap.size, 1, none⟩ = some (.int .i64 1) := d_35.out.at 1 _ rfl
  have zd := d_35.out.lt
  go_wp2_with (go_at_call 19; refine stop_here ?_)
  refine stop_on ?_
  clear qh0 qh1 zh qi0 qi1 zi qa0 qa1 za qj0 qj1 zj qb0 qb1 zb qc0 qc1 zc qd0 qd1 zd
  refine (heapFits_is S1 e0 2 d1 1 _ (r := false) 2 false may0 (by decide) P1_35.out).mono ?_
  rintro e w36 ⟨rfl, hx⟩
  have X_37 := Lib.hid (X_35.out.ext hx)
  have P1_37 := Lib.hid (P1_35.out.ext hx)
  have h_37 := Lib.hid (h_35.out.ext hx)
  have i_37 := Lib.hid (i_35.out.ext hx)
  have P2_37 := Lib.hid (P2_35.out.ext hx)
  have a_37 := Lib.hid (a_35.out.ext hx)
  have j_37 := Lib.hid (j_35.out.ext hx)
  have P3_37 := Lib.hid (P3_35.out.ext hx)
  have b_37 := Lib.hid (b_35.out.ext hx)
  have P4_37 := Lib.hid (P4_35.out.ext hx)
  have c_37 := Lib.hid (c_35.out.ext hx)
  have P5_37 := Lib.hid (P5_35.out.ext hx)
  have d_37 := Lib.hid (d_35.out.ext hx)
  clear X_35 P1_35 h_35 i_35 P2_35 a_35 j_35 P3_35 b_35 P4_35 c_35 P5_35 d_35
  clear hx
  have qh0 : w36.cell? ⟨w2.heap.size, 0, none⟩ = some (.slice S1 2 d1) := h_37.out.at 0 _ rfl
  have qh1 : w36.cell? ⟨w2.heap.size, 1, none⟩ = some (.int .i64 1) := h_37.out.at 1 _ rfl
  have zh := h_37.out.lt
  have qi0 : w36.cell? ⟨w2.heap.size + 1, 0, none⟩ = some (.int .i64 1) := i_37.out.at 0 _ rfl
  have qi1 : w36.cell? ⟨w2.heap.size + 1, 1, none⟩ = some (.int .i64 2) := i_37.out.at 1 _ rfl
  have zi := i_37.out.lt
  have qa0 : w36.cell? ⟨w9.heap.size, 0, none⟩ = some (.slice S2 2 d2) := a_37.out.at 0 _ rfl
  have qa1 : w36.cell? ⟨w9.heap.size, 1, none⟩ = some (.int .i64 1) := a_37.out.at 1 _ rfl
  have za := a_37.out.lt
  have qj0 : w36.cell? ⟨w9.heap.size + 1, 0, none⟩ = some (.int .i64 1) := j_37.out.at 0 _ rfl
  have qj1 : w36.cell? ⟨w9.heap.size + 1, 1, none⟩ = some (.int .i64 0) := j_37.out.at 1 _ rfl
  have zj := j_37.out.lt
  have qb0 : w36.cell? ⟨w16.heap.size, 0, none⟩ = some (.slice (some ⟨b3, o3, none⟩) 2 d3) := b_37.out.at 0 _ rfl
  have qb1 : w36.cell? ⟨w16.heap.size, 1, none⟩ = some (.int .i64 1) := b_37.out.at 1 _ rfl
  have zb := b_37.out.lt
  have qc0 : w36.cell? ⟨w22.heap.size, 0, none⟩ = some (.slice (some ⟨b4, o4, none⟩) 2 d4) := c_37.out.at 0 _ rfl
  have qc1 : w36.cell? ⟨w22.heap.size, 1, none⟩ = some (.int .i64 1) := c_37.out.at 1 _ rfl
  have zc := c_37.out.lt
  have qd0 : w36.cell? ⟨w28.heap.size, 0, none⟩ = some (.slice S5 2 d5) := d_37.out.at 0 _ rfl
  have qd1 : w36.cell? ⟨w28.heap.size, 1, none⟩ = some (.int .i64 1) := d_37.out.at 1 _ rfl
  have zd := d_37.out.lt
  go_wp2_with (go_at_call 19; refine stop_here ?_)
  refine stop_on ?_
  clear qh0 qh1 zh qi0 qi1 zi qa0 qa1 za qj0 qj1 zj qb0 qb1 zb qc0 qc1 zc qd0 qd1 zd
  refine (heapFits_is S1 e0 2 d1 1 _ (r := true) 2 true may0 (by decide) P1_37.out).mono ?_
  rintro e w38 ⟨rfl, hx⟩
  have X_39 := Lib.hid (X_37.out.ext hx)
  have P1_39 := Lib.hid (P1_37.out.ext hx)
  have h_39 := Lib.hid (h_37.out.ext hx)
  have i_39 := Lib.hid (i_37.out.ext hx)
  have P2_39 := Lib.hid (P2_37.out.ext hx)
  have a_39 := Lib.hid (a_37.out.ext hx)
  have j_39 := Lib.hid (j_37.out.ext hx)
  have P3_39 := Lib.hid (P3_37.out.ext hx)
  have b_39 := Lib.hid (b_37.out.ext hx)
  have P4_39 := Lib.hid (P4_37.out.ext hx)
  have c_39 := Lib.hid (c_37.out.ext hx)
  have P5_39 := Lib.hid (P5_37.out.ext hx)
  have d_39 := Lib.hid (d_37.out.ext hx)
  clear X_37 P1_37 h_37 i_37 P2_37 a_37 j_37 P3_37 b_37 P4_37 c_37 P5_37 d_37
  clear hx
  have qh0 : w38.cell? ⟨w2.heap.size, 0, none⟩ = some (.slice S1 2 d1) := h_39.out.at 0 _ rfl
  have qh1 : w38.cell? ⟨w2.heap.size, 1, none⟩ = some (.int .i64 1) := h_39.out.at 1 _ rfl
  have zh := h_39.out.lt
  have qi0 : w38.cell? ⟨w2.heap.size + 1, 0, none⟩ = some (.int .i64 1) := i_39.out.at 0 _ rfl
  have qi1 : w38.cell? ⟨w2.heap.size + 1, 1, none⟩ = some (.int .i64 2) := i_39.out.at 1 _ rfl
  have zi := i_39.out.lt
  have qa0 : w38.cell? ⟨w9.heap.size, 0, none⟩ = some (.slice S2 2 d2) := a_39.out.at 0 _ rfl
  have qa1 : w38.cell? ⟨w9.heap.size, 1, none⟩ = some (.int .i64 1) := a_39.out.at 1 _ rfl
  have za := a_39.out.lt
  have qj0 : w38.cell? ⟨w9.heap.size + 1, 0, none⟩ = some (.int .i64 1) := j_39.out.at 0 _ rfl
  have qj1 : w38.cell? ⟨w9.heap.size + 1, 1, none⟩ = some (.int .i64 0) := j_39.out.at 1 _ rfl
  have zj := j_39.out.lt
  have qb0 : w38.cell? ⟨w16.heap.size, 0, none⟩ = some (.slice (some ⟨b3, o3, none⟩) 2 d3) := b_39.out.at 0 _ rfl
  have qb1 : w38.cell? ⟨w16.heap.size, 1, none⟩ = some (.int .i64 1) := b_39.out.at 1 _ rfl
  have zb := b_39.out.lt
  have qc0 : w38.cell? ⟨w22.heap.size, 0, none⟩ = some (.slice (some ⟨b4, o4, none⟩) 2 d4) := c_39.out.at 0 _ rfl
  have qc1 : w38.cell? ⟨w22.heap.size, 1, none⟩ = some (.int .i64 1) := c_39.out.at 1 _ rfl
  have zc := c_39.out.lt
  have qd0 : w38.cell? ⟨w28.heap.size, 0, none⟩ = some (.slice S5 2 d5) := d_39.out.at 0 _ rfl
  have qd1 : w38.cell? ⟨w28.heap.size, 1, none⟩ = some (.int .i64 1) := d_39.out.at 1 _ rfl
  have zd := d_39.out.lt
  go_wp2_with (go_at_call 17; refine stop_here ?_)
  refine stop_on ?_
  clear qh0 qh1 zh qi0 qi1 zi qa0 qa1 za qj0 qj1 zj qb0 qb1 zb qc0 qc1 zc qd0 qd1 zd
  refine (ex_free1 S2 d2 _ P2_39.out).mono ?_
  rintro e w40 ⟨rfl, hx⟩
  have X_41 := Lib.hid (X_39.out.ext hx)
  have P1_41 := Lib.hid (P1_39.out.ext hx)
  have h_41 := Lib.hid (h_39.out.ext hx)
  have i_41 := Lib.hid (i_39.out.ext hx)
  have P2_41 := Lib.hid (P2_39.out.ext hx)
  have a_41 := Lib.hid (a_39.out.ext hx)
  have j_41 := Lib.hid (j_39.out.ext hx)
  have P3_41 := Lib.hid (P3_39.out.ext hx)
  have b_41 := Lib.hid (b_39.out.ext hx)
  have P4_41 := Lib.hid (P4_39.out.ext hx)
  have c_41 := Lib.hid (c_39.out.ext hx)
  have P5_41 := Lib.hid (P5_39.out.ext hx)
  have d_41 := Lib.hid (d_39.out.ext hx)
  clear X_39 P1_39 h_39 i_39 P2_39 a_39 j_39 P3_39 b_39 P4_39 c_39 P5_39 d_39
  clear hx
  have qh0 : w40.cell? ⟨w2.heap.size, 0, none⟩ = some (.slice S1 2 d1) := h_41.out.at 0 _ rfl
  have qh1 : w40.cell? ⟨w2.heap.size, 1, none⟩ = some (.int .i64 1) := h_41.out.at 1 _ rfl
  have zh := h_41.out.lt
  have qi0 : w40.cell? ⟨w2.heap.size + 1, 0, none⟩ = some (.int .i64 1) := i_41.out.at 0 _ rfl
  have qi1 : w40.cell? ⟨w2.heap.size + 1, 1, none⟩ = some (.int .i64 2) := i_41.out.at 1 _ rfl
  have zi := i_41.out.lt
  have qa0 : w40.cell? ⟨w9.heap.size, 0, none⟩ = some (.slice S2 2 d2) := a_41.out.at 0 _ rfl
  have qa1 : w40.cell? ⟨w9.heap.size, 1, none⟩ = some (.int .i64 1) := a_41.out.at 1 _ rfl
  have za := a_41.out.lt
  have qj0 : w40.cell? ⟨w9.heap.size + 1, 0, none⟩ = some (.int .i64 1) := j_41.out.at 0 _ rfl
  have qj1 : w40.cell? ⟨w9.heap.size + 1, 1, none⟩ = some (.int .i64 0) := j_41.out.at 1 _ rfl
  have zj := j_41.out.lt
  have qb0 : w40.cell? ⟨w16.heap.size, 0, none⟩ = some (.slice (some ⟨b3, o3, none⟩) 2 d3) := b_41.out.at 0 _ rfl
  have qb1 : w40.cell? ⟨w16.heap.size, 1, none⟩ = some (.int .i64 1) := b_41.out.at 1 _ rfl
  have zb := b_41.out.lt
  have qc0 : w40.cell? ⟨w22.heap.size, 0, none⟩ = some (.slice (some ⟨b4, o4, none⟩) 2 d4) := c_41.out.at 0 _ rfl
  have qc1 : w40.cell? ⟨w22.heap.size, 1, none⟩ = some (.int .i64 1) := c_41.out.at 1 _ rfl
  have zc := c_41.out.lt
  have qd0 : w40.cell? ⟨w28.heap.size, 0, none⟩ = some (.slice S5 2 d5) := d_41.out.at 0 _ rfl
  have qd1 : w40.cell? ⟨w28.heap.size, 1, none⟩ = some (.int .i64 1) := d_41.out.at 1 _ rfl
  have zd := d_41.out.lt
  have r0 := (P3_41.out.at_ (k := 0) (by decide)).1
  have r1 := (P4_41.out.at_ (k := 0) (by decide)).1
  have r2 := (P4_41.out.at_ (k := 1) (by decide)).2
  rw [Nat.zero_mul, Nat.add_zero] at r0 r1
  rw [Nat.one_mul] at r2
  simp only [e2, e3, List.getElem_cons_zero, List.getElem_cons_succ] at r0 r1 r2
  go_wp2_with (go_at_call 28; refine stop_here ?_)
  refine stop_on ?_
  clear qh0 qh1 zh qi0 qi1 zi qa0 qa1 za qj0 qj1 zj qb0 qb1 zb qc0 qc1 zc qd0 qd1 zd r0 r1 r2
  refine (ex_settle _ d4 _ P4_41.out).mono ?_
  rintro e w42 ⟨S6, d6, rfl, h1, hx⟩
  have X_43 := Lib.hid (X_41.out.ext hx)
  have P1_43 := Lib.hid (P1_41.out.ext hx)
  have h_43 := Lib.hid (h_41.out.ext hx)
  have i_43 := Lib.hid (i_41.out.ext hx)
  have P2_43 := Lib.hid (P2_41.out.ext hx)
  have a_43 := Lib.hid (a_41.out.ext hx)
  have j_43 := Lib.hid (j_41.out.ext hx)
  have P3_43 := Lib.hid (P3_41.out.ext hx)
  have b_43 := Lib.hid (b_41.out.ext hx)
  have P4_43 := Lib.hid (P4_41.out.ext hx)
  have c_43 := Lib.hid (c_41.out.ext hx)
  have P5_43 := Lib.hid (P5_41.out.ext hx)
  have d_43 := Lib.hid (d_41.out.ext hx)
  clear X_41 P1_41 h_41 i_41 P2_41 a_41 j_41 P3_41 b_41 P4_41 c_41 P5_41 d_41
  have P6_44 := Lib.hid h1
  clear hx h1
  have qh0 : w42.cell? ⟨w2.heap.size, 0, none⟩ = some (.slice S1 2 d1) := h_43.out.at 0 _ rfl
  have qh1 : w42.cell? ⟨w2.heap.size, 1, none⟩ = some (.int .i64 1) := h_43.out.at 1 _ rfl
  have zh := h_43.out.lt
  have qi0 : w42.cell? ⟨w2.heap.size + 1, 0, none⟩ = some (.int .i64 1) := i_43.out.at 0 _ rfl
  have qi1 : w42.cell? ⟨w2.heap.size + 1, 1, none⟩ = some (.int .i64 2) := i_43.out.at 1 _ rfl
  have zi := i_43.out.lt
  have qa0 : w42.cell? ⟨w9.heap.size, 0, none⟩ = some (.slice S2 2 d2) := a_43.out.at 0 _ rfl
  have qa1 : w42.cell? ⟨w9.heap.size, 1, none⟩ = some (.int .i64 1) := a_43.out.at 1 _ rfl
  have za := a_43.out.lt
  have qj0 : w42.cell? ⟨w9.heap.size + 1, 0, none⟩ = some (.int .i64 1) := j_43.out.at 0 _ rfl
  have qj1 : w42.cell? ⟨w9.heap.size + 1, 1, none⟩ = some (.int .i64 0) := j_43.out.at 1 _ rfl
  have zj := j_43.out.lt
  have qb0 : w42.cell? ⟨w16.heap.size, 0, none⟩ = some (.slice (some ⟨b3, o3, none⟩) 2 d3) := b_43.out.at 0 _ rfl
  have qb1 : w42.cell? ⟨w16.heap.size, 1, none⟩ = some (.int .i64 1) := b_43.out.at 1 _ rfl
  have zb := b_43.out.lt
  have qc0 : w42.cell? ⟨w22.heap.size, 0, none⟩ = some (.slice (some ⟨b4, o4, none⟩) 2 d4) := c_43.out.at 0 _ rfl
  have qc1 : w42.cell? ⟨w22.heap.size, 1, none⟩ = some (.int .i64 1) := c_43.out.at 1 _ rfl
  have zc := c_43.out.lt
  have qd0 : w42.cell? ⟨w28.heap.size, 0, none⟩ = some (.slice S5 2 d5) := d_43.out.at 0 _ rfl
  have qd1 : w42.cell? ⟨w28.heap.size, 1, none⟩ = some (.int .i64 1) := d_43.out.at 1 _ rfl
  have zd := d_43.out.lt
  go_wp2_with (go_at_call 17; refine stop_here ?_)
  refine stop_on ?_
  clear qh0 qh1 zh qi0 qi1 zi qa0 qa1 za qj0 qj1 zj qb0 qb1 zb qc0 qc1 zc qd0 qd1 zd
  refine (ex_free5 S6 d6 _ P6_44.out).mono ?_
  rintro e w45 ⟨rfl, hx⟩
  have X_46 := Lib.hid (X_43.out.ext hx)
  have P1_46 := Lib.hid (P1_43.out.ext hx)
  have h_46 := Lib.hid (h_43.out.ext hx)
  have i_46 := Lib.hid (i_43.out.ext hx)
  have P2_46 := Lib.hid (P2_43.out.ext hx)
  have a_46 := Lib.hid (a_43.out.ext hx)
  have j_46 := Lib.hid (j_43.out.ext hx)
  have P3_46 := Lib.hid (P3_43.out.ext hx)
  have b_46 := Lib.hid (b_43.out.ext hx)
  have P4_46 := Lib.hid (P4_43.out.ext hx)
  have c_46 := Lib.hid (c_43.out.ext hx)
  have P5_46 := Lib.hid (P5_43.out.ext hx)
  have d_46 := Lib.hid (d_43.out.ext hx)
  have P6_46 := Lib.hid (P6_44.out.ext hx)
  clear X_43 P1_43 h_43 i_43 P2_43 a_43 j_43 P3_43 b_43 P4_43 c_43 P5_43 d_43 P6_44
  clear hx
  have qh0 : w45.cell? ⟨w2.heap.size, 0, none⟩ = some (.slice S1 2 d1) := h_46.out.at 0 _ rfl
  have qh1 : w45.cell? ⟨w2.heap.size, 1, none⟩ = some (.int .i64 1) := h_46.out.at 1 _ rfl
  have zh := h_46.out.lt
  have qi0 : w45.cell? ⟨w2.heap.size + 1, 0, none⟩ = some (.int .i64 1) := i_46.out.at 0 _ rfl
  have qi1 : w45.cell? ⟨w2.heap.size + 1, 1, none⟩ = some (.int .i64 2) := i_46.out.at 1 _ rfl
  have zi := i_46.out.lt
  have qa0 : w45.cell? ⟨w9.heap.size, 0, none⟩ = some (.slice S2 2 d2) := a_46.out.at 0 _ rfl
  have qa1 : w45.cell? ⟨w9.heap.size, 1, none⟩ = some (.int .i64 1) := a_46.out.at 1 _ rfl
  have za := a_46.out.lt
  have qj0 : w45.cell? ⟨w9.heap.size + 1, 0, none⟩ = some (.int .i64 1) := j_46.out.at 0 _ rfl
  have qj1 : w45.cell? ⟨w9.heap.size + 1, 1, none⟩ = some (.int .i64 0) := j_46.out.at 1 _ rfl
  have zj := j_46.out.lt
  have qb0 : w45.cell? ⟨w16.heap.size, 0, none⟩ = some (.slice (some ⟨b3, o3, none⟩) 2 d3) := b_46.out.at 0 _ rfl
  have qb1 : w45.cell? ⟨w16.heap.size, 1, none⟩ = some (.int .i64 1) := b_46.out.at 1 _ rfl
  have zb := b_46.out.lt
  have qc0 : w45.cell? ⟨w22.heap.size, 0, none⟩ = some (.slice (some ⟨b4, o4, none⟩) 2 d4) := c_46.out.at 0 _ rfl
  have qc1 : w45.cell? ⟨w22.heap.size, 1, none⟩ = some (.int .i64 1) := c_46.out.at 1 _ rfl
  have zc := c_46.out.lt
  have qd0 : w45.cell? ⟨w28.heap.size, 0, none⟩ = some (.slice S5 2 d5) := d_46.out.at 0 _ rfl
  have qd1 : w45.cell? ⟨w28.heap.size, 1, none⟩ = some (.int .i64 1) := d_46.out.at 1 _ rfl
  have zd := d_46.out.lt
  go_wp2_with (go_at_call 15; refine stop_here ?_)
  refine stop_on ?_
  clear qh0 qh1 zh qi0 qi1 zi qa0 qa1 za qj0 qj1 zj qb0 qb1 zb qc0 qc1 zc qd0 qd1 zd
  refine (heapRight_is _ e2 2 d3 1 _ (may_small may2) P3_46.out (r := true) (by decide)).mono ?_
  rintro e w47 ⟨rfl, hx⟩
  have X_48 := Lib.hid (X_46.out.ext hx)
  have P1_48 := Lib.hid (P1_46.out.ext hx)
  have h_48 := Lib.hid (h_46.out.ext hx)
  have i_48 := Lib.hid (i_46.out.ext hx)
  have P2_48 := Lib.hid (P2_46.out.ext hx)
  have a_48 := Lib.hid (a_46.out.ext hx)
  have j_48 := Lib.hid (j_46.out.ext hx)
  have P3_48 := Lib.hid (P3_46.out.ext hx)
  have b_48 := Lib.hid (b_46.out.ext hx)
  have P4_48 := Lib.hid (P4_46.out.ext hx)
  have c_48 := Lib.hid (c_46.out.ext hx)
  have P5_48 := Lib.hid (P5_46.out.ext hx)
  have d_48 := Lib.hid (d_46.out.ext hx)
  have P6_48 := Lib.hid (P6_46.out.ext hx)
  clear X_46 P1_46 h_46 i_46 P2_46 a_46 j_46 P3_46 b_46 P4_46 c_46 P5_46 d_46 P6_46
  clear hx
  have qh0 : w47.cell? ⟨w2.heap.size, 0, none⟩ = some (.slice S1 2 d1) := h_48.out.at 0 _ rfl
  have qh1 : w47.cell? ⟨w2.heap.size, 1, none⟩ = some (.int .i64 1) := h_48.out.at 1 _ rfl
  have zh := h_48.out.lt
  have qi0 : w47.cell? ⟨w2.heap.size + 1, 0, none⟩ = some (.int .i64 1) := i_48.out.at 0 _ rfl
  have qi1 : w47.cell? ⟨w2.heap.size + 1, 1, none⟩ = some (.int .i64 2) := i_48.out.at 1 _ rfl
  have zi := i_48.out.lt
  have qa0 : w47.cell? ⟨w9.heap.size, 0, none⟩ = some (.slice S2 2 d2) := a_48.out.at 0 _ rfl
  have qa1 : w47.cell? ⟨w9.heap.size, 1, none⟩ = some (.int .i64 1) := a_48.out.at 1 _ rfl
  have za := a_48.out.lt
  have qj0 : w47.cell? ⟨w9.heap.size + 1, 0, none⟩ = some (.int .i64 1) := j_48.out.at 0 _ rfl
  have qj1 : w47.cell? ⟨w9.heap.size + 1, 1, none⟩ = some (.int .i64 0) := j_48.out.at 1 _ rfl
  have zj := j_48.out.lt
  have qb0 : w47.cell? ⟨w16.heap.size, 0, none⟩ = some (.slice (some ⟨b3, o3, none⟩) 2 d3) := b_48.out.at 0 _ rfl
  have qb1 : w47.cell? ⟨w16.heap.size, 1, none⟩ = some (.int .i64 1) := b_48.out.at 1 _ rfl
  have zb := b_48.out.lt
  have qc0 : w47.cell? ⟨w22.heap.size, 0, none⟩ = some (.slice (some ⟨b4, o4, none⟩) 2 d4) := c_48.out.at 0 _ rfl
  have qc1 : w47.cell? ⟨w22.heap.size, 1, none⟩ = some (.int .i64 1) := c_48.out.at 1 _ rfl
  have zc := c_48.out.lt
  have qd0 : w47.cell? ⟨w28.heap.size, 0, none⟩ = some (.slice S5 2 d5) := d_48.out.at 0 _ rfl
  have qd1 : w47.cell? ⟨w28.heap.size, 1, none⟩ = some (.int .i64 1) := d_48.out.at 1 _ rfl
  have zd := d_48.out.lt
  go_wp2_with (go_at_call 16; refine stop_here ?_)
  refine stop_on ?_
  clear qh0 qh1 zh qi0 qi1 zi qa0 qa1 za qj0 qj1 zj qb0 qb1 zb qc0 qc1 zc qd0 qd1 zd
  refine ((show Calls Try.prog 16 #[.agg #[.slice S2 2 d2, .int .i64 1], .agg #[.slice S5 2 d5, .int .i64 1]] _ fun e w' => e = .returned (.bool false) ∧ Ext _ w' from heapSame_all S2 e1 2 d2 1 _ S5 e4 2 d5 1 P2_48.out P5_48.out)).mono ?_
  rintro e w49 ⟨rfl, hx⟩
  have X_50 := Lib.hid (X_48.out.ext hx)
  have P1_50 := Lib.hid (P1_48.out.ext hx)
  have h_50 := Lib.hid (h_48.out.ext hx)
  have i_50 := Lib.hid (i_48.out.ext hx)
  have P2_50 := Lib.hid (P2_48.out.ext hx)
  have a_50 := Lib.hid (a_48.out.ext hx)
  have j_50 := Lib.hid (j_48.out.ext hx)
  have P3_50 := Lib.hid (P3_48.out.ext hx)
  have b_50 := Lib.hid (b_48.out.ext hx)
  have P4_50 := Lib.hid (P4_48.out.ext hx)
  have c_50 := Lib.hid (c_48.out.ext hx)
  have P5_50 := Lib.hid (P5_48.out.ext hx)
  have d_50 := Lib.hid (d_48.out.ext hx)
  have P6_50 := Lib.hid (P6_48.out.ext hx)
  clear X_48 P1_48 h_48 i_48 P2_48 a_48 j_48 P3_48 b_48 P4_48 c_48 P5_48 d_48 P6_48
  clear hx
  have qh0 : w49.cell? ⟨w2.heap.size, 0, none⟩ = some (.slice S1 2 d1) := h_50.out.at 0 _ rfl
  have qh1 : w49.cell? ⟨w2.heap.size, 1, none⟩ = some (.int .i64 1) := h_50.out.at 1 _ rfl
  have zh := h_50.out.lt
  have qi0 : w49.cell? ⟨w2.heap.size + 1, 0, none⟩ = some (.int .i64 1) := i_50.out.at 0 _ rfl
  have qi1 : w49.cell? ⟨w2.heap.size + 1, 1, none⟩ = some (.int .i64 2) := i_50.out.at 1 _ rfl
  have zi := i_50.out.lt
  have qa0 : w49.cell? ⟨w9.heap.size, 0, none⟩ = some (.slice S2 2 d2) := a_50.out.at 0 _ rfl
  have qa1 : w49.cell? ⟨w9.heap.size, 1, none⟩ = some (.int .i64 1) := a_50.out.at 1 _ rfl
  have za := a_50.out.lt
  have qj0 : w49.cell? ⟨w9.heap.size + 1, 0, none⟩ = some (.int .i64 1) := j_50.out.at 0 _ rfl
  have qj1 : w49.cell? ⟨w9.heap.size + 1, 1, none⟩ = some (.int .i64 0) := j_50.out.at 1 _ rfl
  have zj := j_50.out.lt
  have qb0 : w49.cell? ⟨w16.heap.size, 0, none⟩ = some (.slice (some ⟨b3, o3, none⟩) 2 d3) := b_50.out.at 0 _ rfl
  have qb1 : w49.cell? ⟨w16.heap.size, 1, none⟩ = some (.int .i64 1) := b_50.out.at 1 _ rfl
  have zb := b_50.out.lt
  have qc0 : w49.cell? ⟨w22.heap.size, 0, none⟩ = some (.slice (some ⟨b4, o4, none⟩) 2 d4) := c_50.out.at 0 _ rfl
  have qc1 : w49.cell? ⟨w22.heap.size, 1, none⟩ = some (.int .i64 1) := c_50.out.at 1 _ rfl
  have zc := c_50.out.lt
  have qd0 : w49.cell? ⟨w28.heap.size, 0, none⟩ = some (.slice S5 2 d5) := d_50.out.at 0 _ rfl
  have qd1 : w49.cell? ⟨w28.heap.size, 1, none⟩ = some (.int .i64 1) := d_50.out.at 1 _ rfl
  have zd := d_50.out.lt
  go_wp2
  go_ret
  exact ⟨rfl, X_50.out⟩
end Go.Proofs.Ytclpeeemnmhdcaa
