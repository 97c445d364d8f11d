/- Area, Base and Cells of package plan as it landed. Cells of package plan as it landed: a search. A range over an iterator that lays things of its own first: what it asks of a round is told by the world ahead of the first one. -/
import Derived.Test.YtjbfopnkeclfgaaGreatK12
import Derived.Deep.RegionHeld3
import Derived.Test.YtjbfopnkeclfgaaGreatK38
import Derived.Test.YtjbfopnkeclfgaaGreatK03
import Derived.RangeFuncNested
import Derived.RangeFuncBound
import Derived.RangeFuncCalls
import Derived.RangeFuncLeaves
import Derived.RangeFuncBox
import Derived.Shelf.Abstract
import Derived.Shelf.RegionOpen
import Derived.OwnWalkIn
import Derived.TacticsInMore
import Derived.LoopNIn
import Derived.LoopIn
namespace Go.Proofs.YtjbfopnkeclfgaaGreat
set_option maxRecDepth 20000
open Go.RowKit

set_option maxHeartbeats 800000 in
theorem layArea_any (n : Nat) (w : World) (hn : n ≤ 100000) :
    Calls Tryz.prog 69 #[.agg #[.int .i64 n]] w fun e w' => e = .returned (.int .i64 (areaP n : Nat)) ∧ Ext w w' := by
  have hb := Bx.new w #[.int .i64 n] 122
  have HX := Lib.hid ((Ext.refl w).alloc (.cells #[.int .i64 n] 122))
  have p0 := hb.at 0 _ rfl
  have e1 : IntKind.i64.wrap (2 * (n : Int)) = 2 * (n : Int) := by rw [IntKind.wrap_i64]; omega
  have e2 : IntKind.i64.wrap (1631 + 2 * (n : Int)) = 1631 + 2 * (n : Int) := by rw [IntKind.wrap_i64]; omega
  have e3 : IntKind.i64.wrap (1631 + 2 * (n : Int) + 40) = 1631 + 2 * (n : Int) + 40 := by rw [IntKind.wrap_i64]; omega
  have e4 : IntKind.i64.wrap (1631 + 2 * (n : Int) + 40 - 1) = 1631 + 2 * (n : Int) + 40 - 1 := by rw [IntKind.wrap_i64]; omega
  have ha : (1631 + 2 * (n : Int) + 40 - 1).tdiv 40 = (areaP n : Int) := by unfold areaP; rw [Int.tdiv_eq_ediv_of_nonneg (by omega)]; omega
  have hb2 : areaP n ≤ 10000 := by unfold areaP; omega
  have e5 : IntKind.i64.wrap (areaP n : Int) = (areaP n : Int) := by rw [IntKind.wrap_i64]; omega
  go_enter Tryz.func69, Tryz.ntmps69
  go_wp2_with fail
  go_ret
  exact ⟨by first | rfl | (congr 2; omega), HX.out⟩
set_option maxHeartbeats 800000 in
theorem planArea_any (n : Nat) (w : World) (hn : n ≤ 100000) :
    Calls Tryz.prog 41 #[.int .i64 n] w fun e w' => e = .returned (.int .i64 (areaP n : Nat)) ∧ Ext w w' := by
  have HA := Lib.hid (layArea_any n w hn)
  go_enter Tryz.func41, Tryz.ntmps41
  go_wp2_with (go_at_call 69; refine HA.out.mono ?_; rintro e w2 ⟨rfl, hx⟩; have HX := Lib.hid hx; clear hx)
  go_ret
  exact ⟨rfl, HX.out⟩
set_option maxHeartbeats 800000 in
theorem layBase_any (n : Nat) (w : World) (hn : n ≤ 100000) :
    Calls Tryz.prog 72 #[.agg #[.int .i64 n]] w fun e w' => e = .returned (.int .i64 (baseP n : Nat)) ∧ Ext w w' := by
  have hb := Bx.new w #[.int .i64 n] 122
  have hx := (Ext.refl w).alloc (.cells #[.int .i64 n] 122)
  have HX := Lib.hid hx
  have p0 := hb.at 0 _ rfl
  have HA := Lib.hid (fun w' => layArea_any n w' hn)
  have hb2 : areaP n ≤ 10000 := by unfold areaP; omega
  unfold baseP
  generalize areaP n = a at *
  have e1 : IntKind.i64.wrap (2 * (a : Int)) = 2 * (a : Int) := by rw [IntKind.wrap_i64]; omega
  have e2 : IntKind.i64.wrap (2 + 2 * (a : Int)) = 2 + 2 * (a : Int) := by rw [IntKind.wrap_i64]; omega
  clear hx hb
  go_enter Tryz.func72, Tryz.ntmps72
  go_wp2_with (go_at_call 69; refine (HA.out _).mono ?_; rintro e w2 ⟨rfl, hx⟩; have HX2 := Lib.hid (HX.out.trans hx); clear hx)
  go_ret
  exact ⟨by first | rfl | (congr 2; omega), HX2.out⟩
set_option maxHeartbeats 800000 in
theorem planBase_any (n : Nat) (w : World) (hn : n ≤ 100000) :
    Calls Tryz.prog 45 #[.int .i64 n] w fun e w' => e = .returned (.int .i64 (baseP n : Nat)) ∧ Ext w w' := by
  have HA := Lib.hid (layBase_any n w hn)
  go_enter Tryz.func45, Tryz.ntmps45
  go_wp2_with (go_at_call 72; refine HA.out.mono ?_; rintro e w2 ⟨rfl, hx⟩; have HX := Lib.hid hx; clear hx)
  go_ret
  exact ⟨rfl, HX.out⟩
set_option maxHeartbeats 1600000 in
theorem layBlocks_any (n : Nat) (w : World) (hn : n ≤ 100000) :
    Calls Tryz.prog 68 #[.agg #[.int .i64 n]] w fun e w' => e = .returned (.int .i64 (baseP n + n : Nat)) ∧ Ext w w' := by
  have hb := Bx.new w #[.int .i64 n] 122
  have HX := Lib.hid ((Ext.refl w).alloc (.cells #[.int .i64 n] 122))
  have HB := Lib.hid hb
  have p0 := hb.at 0 _ rfl
  have HA := Lib.hid (fun w' => layBase_any n w' hn)
  have hb2 : baseP n ≤ 30000 := by unfold baseP areaP; omega
  generalize baseP n = a at *
  have e1 : IntKind.i64.wrap ((a : Int) + (n : Int)) = (a : Int) + (n : Int) := by rw [IntKind.wrap_i64]; omega
  clear hb
  go_enter Tryz.func68, Tryz.ntmps68
  go_wp2_with fail
  go_region_with (go_at_call 72; refine (HA.out _).mono ?_; rintro e w2 ⟨rfl, hx⟩; have p0 := (HB.out.ext ((Ext.refl _).drew.trans hx)).at 0 _ rfl; have HX2 := Lib.hid ((HX.out.drew).trans hx); clear hx)
  all_goals go_wp2_with fail
  all_goals go_ret
  all_goals exact ⟨by first | rfl | (congr 2; omega), HX2.out⟩
set_option maxHeartbeats 1600000 in
theorem cellsC_any (i b kb : Nat) (w : World) (hi : i < 5000) (hk : w.cell? ⟨kb, 0, none⟩ = some (.int .i64 b)) :
    Calls Tryz.prog 67 #[.int .i64 i, .pointer (some ⟨kb, 0, none⟩)] w fun e w' => e = .returned (.bool (decide (b < baseP (i + 1) + i + 1))) ∧ Ext w w' := by
  have hl := World.block_lt_of_cell? _ _ hk
  have HK := Lib.hid hk
  have HA := Lib.hid (fun w' => layBlocks_any (i + 1) w' (by omega))
  have hb2 : baseP (i + 1) ≤ 30000 := by unfold baseP areaP; omega
  rw [show baseP (i + 1) + i + 1 = baseP (i + 1) + (i + 1) by omega]
  generalize baseP (i + 1) = a at *
  obtain ⟨m, hm⟩ : ∃ m, a + (i + 1) = m := ⟨_, rfl⟩
  rw [hm] at HA ⊢
  have e1 : IntKind.i64.wrap ((i : Int) + 1) = ((i + 1 : Nat) : Int) := by rw [IntKind.wrap_i64]; omega
  have HX := Lib.hid (Ext.refl w)
  clear hm
  go_enter Tryz.func67, Tryz.ntmps67
  go_wp2_with fail
  go_region_with (go_at_call 68; refine (HA.out _).mono ?_; rintro e w2 ⟨rfl, hx⟩; have p0 := (((Ext.refl _).drew.trans hx).cell (p := ⟨kb, 0, none⟩) hl).trans HK.out; have HX2 := Lib.hid ((HX.out.drew).trans hx); clear hx)
  all_goals go_wp2_with fail
  all_goals go_ret
  all_goals exact ⟨by first | rfl | (simp only [Int.ofNat_lt]) | (congr 2; simp), HX2.out⟩
end Go.Proofs.YtjbfopnkeclfgaaGreat
namespace Go.Proofs.YtjbfopnkeclfgaaGreat
set_option maxRecDepth 20000
open Go.RowKit

theorem cells_up {i j : Nat} (h : i ≤ j) : baseP (i + 1) + i + 1 ≤ baseP (j + 1) + j + 1 := by unfold baseP areaP; omega
theorem cells_lt {b i : Nat} (h : i < cellsP b) : baseP (i + 1) + i + 1 ≤ b := by
  obtain ⟨c1, c2, c3⟩ := cells_facts b
  have h1 := c2 (by omega)
  have h2 := cells_up (i := i) (j := cellsP b - 1) (by omega)
  rw [show cellsP b - 1 + 1 = cellsP b by omega] at h2
  omega
theorem cells_ge {b i : Nat} (h : cellsP b ≤ i) (hi : i < 2000) : b < baseP (i + 1) + i + 1 := by
  obtain ⟨c1, c2, c3⟩ := cells_facts b
  have h2 := cells_up h
  omega
set_option maxHeartbeats 1600000 in
theorem planCells_any (b : Nat) (w : World) :
    Calls Tryz.prog 39 #[.int .i64 b] w fun e w' => e = .returned (.int .i64 (cellsP b : Nat)) ∧ Ext w w' := by
  have hb := Bx.new w #[.int .i64 b] 3
  have hx := (Ext.refl w).alloc (.cells #[.int .i64 b] 3)
  obtain ⟨W, hW⟩ : ∃ W, w.alloc (.cells #[.int .i64 b] 3) = W := ⟨_, rfl⟩
  rw [hW] at hb hx
  have HS : Calls Tryz.prog 66 #[.int .i64 2000, .func (.func 67) #[] #[.pointer (some ⟨w.heap.size, 0, none⟩)]] W fun e w' => e = .returned (.int .i64 (cellsP b : Nat)) ∧ Ext W w' := by
    have HF := Lib.hid (fun i (w' : World) (hy : Ext W w') (hi : i < 2000) => cellsC_any i b w.heap.size w' (by omega) ((hb.ext hy).at 0 _ rfl))
    obtain ⟨c1, c2, c3⟩ := cells_facts b
    have C1 := Lib.hid (fun i (h : i < cellsP b) => cells_lt h)
    have C2 := Lib.hid (fun i (h : cellsP b ≤ i) (hi : i < 2000) => cells_ge h hi)
    clear c2 c3 hb hx hW
    generalize cellsP b = c at *
    go_enter Tryz.func66, Tryz.ntmps66
    go_wp2
    go_loopw [5, 6] (fun s5 s6 wr => ∃ lo hi : Nat, s5 = .int .i64 lo ∧ s6 = .int .i64 hi ∧ lo ≤ c ∧ c ≤ hi ∧ hi ≤ 2000 ∧ Ext W wr) (fun s5 s6 _ => (intOf s6 - intOf s5).toNat)
    case atStart => exact ⟨0, 2000, rfl, rfl, Nat.zero_le _, c1, Nat.le_refl _, Ext.refl _⟩
    case round =>
      obtain ⟨lo, hi, rfl, rfl, hlh, hch, hin, hy⟩ := hrel
      have HY := Lib.hid hy
      by_cases hlt : lo < hi
      · have hc := HF.out ((lo + hi) / 2) wr hy (by omega)
        rw [show (((lo + hi) / 2 : Nat) : Int) = ((lo : Int) + (hi : Int)) / 2 by omega] at hc
        obtain ⟨m, hm⟩ : ∃ m, (lo + hi) / 2 = m := ⟨_, rfl⟩
        have hmI : ((lo : Int) + (hi : Int)) / 2 = (m : Int) := by omega
        have hm2 : m < 2000 := by omega
        have K1 := Lib.hid (C1.out m)
        have K2 := Lib.hid (fun h => C2.out m h hm2)
        rw [hm] at hc
        obtain ⟨t, ht⟩ : ∃ t, decide (b < baseP (m + 1) + m + 1) = t := ⟨_, rfl⟩
        rw [ht] at hc
        have HT := Lib.hid ht
        have HM := Lib.hid hm
        have HMI := Lib.hid hmI
        have HC := Lib.hid hc
        clear ht hc hy hm hmI
        cases t
        · go_wp2_with (go_at_call 67; refine HC.out.mono ?_; rintro e w' ⟨rfl, hz⟩; have HZ := Lib.hid (HY.out.trans hz); clear hz)
          go_roundw
          case measure => have h1 := HM.out; simp [intOf]; omega
          case rel =>
            have h1 := HM.out
            have hmc : m < c := by
              rcases Nat.lt_or_ge m c with g | g
              · exact g
              · have h2 := K2.out g; have h3 := of_decide_eq_false HT.out; omega
            exact ⟨m + 1, hi, by rw [HMI.out]; first | rfl | (congr 1; omega), rfl, by omega, hch, hin, HZ.out⟩
        · go_wp2_with (go_at_call 67; refine HC.out.mono ?_; rintro e w' ⟨rfl, hz⟩; have HZ := Lib.hid (HY.out.trans hz); clear hz)
          go_roundw
          case measure => have h1 := HM.out; simp [intOf]; omega
          case rel =>
            have h1 := HM.out
            have hmc : c ≤ m := by
              rcases Nat.lt_or_ge m c with g | g
              · have h2 := K1.out g; have h3 := of_decide_eq_true HT.out; omega
              · exact g
            exact ⟨lo, m, rfl, by rw [HMI.out], hlh, hmc, by omega, HZ.out⟩
      · obtain rfl : hi = lo := by omega
        obtain rfl : c = hi := by omega
        go_wp2
        go_ret
        exact ⟨rfl, HY.out⟩
  have HS := Lib.hid HS
  have HX := Lib.hid hx
  have HW := Lib.hid hW
  clear hb hx hW
  go_enter Tryz.func39, Tryz.ntmps39
  go_wp2_with (go_at_call 66; rw [HW.out]; refine HS.out.mono ?_; rintro e w1 ⟨rfl, hz⟩; have HZ := Lib.hid (HX.out.trans hz); clear hz)
  go_ret
  exact ⟨rfl, HZ.out⟩
end Go.Proofs.YtjbfopnkeclfgaaGreat
namespace Go.Proofs.YtjbfopnkeclfgaaGreat
set_option maxRecDepth 20000
open Go.RowKit Go.Shelf
attribute [local go_sem] Oper.semAt_some

/-- What a round keeps: what lay at first, and these blocks. -/
structure Kp (n₀ : Nat) (S : Nat → Prop) (A B : World) : Prop where
  old : Below n₀ A B
  same : ∀ k, S k → k < A.heap.size → B.heap[k]? = A.heap[k]?
theorem Kp.refl (n₀ : Nat) (S : Nat → Prop) (A : World) : Kp n₀ S A A := ⟨Below.refl _ _, fun _ _ _ => rfl⟩
theorem Kp.trans {n₀ : Nat} {S : Nat → Prop} {A B C : World} (h : Kp n₀ S A B) (k : Kp n₀ S B C) : Kp n₀ S A C :=
  ⟨h.old.trans k.old, fun i hi hl => (k.same i hi (Nat.lt_of_lt_of_le hl h.old.size)).trans (h.same i hi hl)⟩
theorem Kp.ext {n₀ : Nat} (S : Nat → Prop) {A B : World} (h : Ext A B) (hn : n₀ ≤ A.heap.size) : Kp n₀ S A B :=
  ⟨h.mono hn, fun k _ hl => h.block k hl⟩
theorem Kp.sub {n₀ : Nat} {S S' : Nat → Prop} {A B : World} (h : Kp n₀ S A B) (hs : ∀ k, S' k → S k) : Kp n₀ S' A B := ⟨h.old, fun k hk hl => h.same k (hs k hk) hl⟩
theorem Kp.set {n₀ : Nat} {S : Nat → Prop} (A : World) {k : Nat} (hS : ¬ S k) (hn : n₀ ≤ k) (i : Nat) (v : Value) : Kp n₀ S A (A.setCell ⟨k, i, none⟩ v) :=
  ⟨(Below.refl n₀ A).setCell hn v, fun j hj _ => Below.heap_setCell _ _ _ _ (fun e => hS (by subst e; exact hj))⟩
theorem Kp.grown {n₀ : Nat} {S : Nat → Prop} {A B : World} {row : Option Nat} (hg : A.grownBy B row) (hr : ∀ k, row = some k → ¬ S k ∧ n₀ ≤ k) (hn : n₀ ≤ A.heap.size) : Kp n₀ S A B :=
  ⟨(Below.refl n₀ A).grown hg hn (fun k e => (hr k e).2), fun j hj hl => hg.block j hl (fun e => (hr j e.symm).1 hj)⟩
theorem Kp.put {n₀ : Nat} {S : Nat → Prop} (A : World) {k : Nat} (hS : ¬ S k) (hn : n₀ ≤ k) (hl : k < A.heap.size) (o' : Obj) : Kp n₀ S A (A.putObj k o') :=
  Kp.grown (grownBy_putObj' A k o') (fun j e => by cases e; exact ⟨hS, hn⟩) (by omega)
theorem Bt.keptP {W W' : World} {k : Nat} {t : TypeId} {cs : Array Value} (h : Bt W k t cs) {n₀ : Nat} {S : Nat → Prop} (hk : Kp n₀ S W W') (hS : S k) : Bt W' k t cs := (hk.same k hS h.lt).trans h
end Go.Proofs.YtjbfopnkeclfgaaGreat
