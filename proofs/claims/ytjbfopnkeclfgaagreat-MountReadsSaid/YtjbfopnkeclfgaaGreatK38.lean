/- The closure in Right of package tree, that calls itself. A range over a function whose iterator keeps boxes of its own that it writes: what it asks of a round, what a round asks of it, and the law of the loop. The walk of the closure in nodes of package tree, that calls itself and yields. -/
import Derived.Test.YtjbfopnkeclfgaaGreatK37
import Derived.Deep.AppendLies
import Derived.Deep.RegionHeld3
import Derived.Deep.DeepCutAuto
import Derived.Deep.DrawnRows
import Derived.RegionTactic
import Derived.StillTailTactics
import Derived.Test.YtjbfopnkeclfgaaGreatK36
import Derived.RangeFuncNested
import Derived.RangeFuncBound
import Derived.RangeFuncCalls
import Derived.RangeFuncLeaves
import Derived.RangeFuncBox
import Derived.Shelf.Abstract
import Derived.Shelf.RegionOpen
import Derived.OwnWalkIn
import Derived.TacticsInMore
import Derived.LoopNIn
import Derived.LoopIn
namespace Go.Proofs.YtjbfopnkeclfgaaGreat
set_option maxRecDepth 20000
open Go.RowKit

theorem chk_no {l : List HC} {k : Nat} {x : It} {e : Int} (h : usedC l x.2 = false) : chk l (k + 1) x e = false := by unfold chk; rw [h]; rfl
theorem chk_is {l : List HC} {k j : Nat} {xa e : Int} (hj : j < l.length) (hr : 0 < l[j].ref) : chk l (k + 1) (xa, (j : Int)) e = ((l[j].leaf == decide (k = 0)) && (decide (firstK l[j].it = xa) && (decide (lastK l[j].it < e) &&
      (l[j].leaf || (List.range l[j].it.length).all (fun i => chk l k (l[j].it.getD i (0, 0)) (nextT l[j].it i e)))))) := by
  conv => lhs; unfold chk
  simp only
  rw [cellT_at hj, usedC_at hj, decide_eq_true hr, Bool.true_and]
/-- Where the closure is walked. -/
structure RtC (l : List HC) (R : Option Addr) (n q : Nat) (keep : Int) (A : Nat → Option Addr) (C : Nat → Nat) (bh bt : Nat) (w0 : World) : Prop where
  hl : AllR l
  hA : Lie w0 R l A C
  hnl : n = l.length
  h : Bx w0 bh #[.slice R n q, .int .i64 keep]
  t : Bx w0 bt #[.func (.func 88) #[] #[.pointer (some ⟨bh, 0, none⟩), .pointer (some ⟨bt, 0, none⟩)]]
def RtOk (l : List HC) (bh bt : Nat) (w0 : World) (k : Nat) : Prop := ∀ (x : It) (e : Int) (W : World), Ext w0 W →
  Calls Tryz.prog 88 #[.agg #[.int .i64 x.1, .int .i64 x.2], .int .i64 k, .int .i64 e, .pointer (some ⟨bh, 0, none⟩), .pointer (some ⟨bt, 0, none⟩)] W fun r W' => r = .returned (.bool (chk l k x e)) ∧ Ext W W'
set_option maxRecDepth 100000 in
set_option maxHeartbeats 800000 in
theorem rt_step (l : List HC) (R : Option Addr) (n q : Nat) (keep : Int) (A : Nat → Option Addr) (C : Nat → Nat) (bh bt : Nat) (w0 : World) (D : RtC l R n q keep A C bh bt w0) (k : Nat) (hk20 : k + 1 ≤ 20) (ih : 0 < k → RtOk l bh bt w0 k) : RtOk l bh bt w0 (k + 1) := by
  rintro ⟨xa, xb⟩ e W hx
  have HX := Lib.hid hx
  have HUS := Lib.hid (fun W1 (h1 : Ext W W1) => treeUsed_any R l n q keep xb A C W1 D.hl D.hnl (D.hA.ext (hx.trans h1)))
  obtain ⟨W1, hW1⟩ : ∃ W1, W.alloc (.cells #[.int .i64 xa, .int .i64 xb] 146) = W1 := ⟨_, rfl⟩
  obtain ⟨hx1, hb1⟩ := allocs1 hW1
  have HX1 := Lib.hid hx1
  have HB1 := Lib.hid hb1
  obtain ⟨i0, i1, i2⟩ := hb1.read2
  obtain ⟨p0, p1, p2⟩ := (D.h.ext (hx.trans hx1)).read2
  cases hu : usedC l xb
  · rw [show usedV l A C xb = .agg #[.bool false, .slice none 0 0] from by unfold usedV; rw [hu]; rfl, hu] at HUS
    have HC := Lib.hid (chk_no (l := l) (k := k) (x := (xa, xb)) (e := e) hu)
    clear hu hx hx1 hb1 D ih
    go_enter Tryz.func88, Tryz.ntmps88
    go_wp2_with (go_at_call 89; refine stop_here ?_)
    refine stop_on ?_
    refine (HUS.out _ HX1.out).mono ?_
    rintro r w1 ⟨rfl, hx2⟩
    have HX2 := Lib.hid (HX1.out.trans (hx2.alloc (.cells #[.bool false, .slice none 0 0] 59)))
    clear hx2
    go_wp2
    go_quiet (fail)
    go_wp2
    go_ret
    exact ⟨ret_bool HC.out.symm, HX2.out.drewN _⟩
  obtain ⟨j, hj, rfl, hrf⟩ := usedC_iff hu
  have hok := cell_ok (D.hl j hj) hrf
  have HNV := Lib.hid (show NV l A C (j : Int) = .agg #[.bool l[j].leaf, .slice (A j) l[j].it.length (C j)] from by unfold NV; rw [cellT_at hj, Int.toNat_natCast])
  rw [show usedV l A C (j : Int) = .agg #[.bool l[j].leaf, .slice (A j) l[j].it.length (C j)] from by unfold usedV; rw [hu]; exact HNV.out, hu] at HUS
  have HC := Lib.hid (chk_is (k := k) (xa := xa) (e := e) hj hrf)
  obtain ⟨_, _, hRe, _, _, hI⟩ := D.hA j hj
  clear hRe HNV hu hrf
  have HRT := Lib.hid (And.intro D.h D.t)
  have IH := Lib.hid ih
  generalize l[j] = x at *
  obtain ⟨xr, xp, lf, it⟩ := x
  simp only at HUS HC hI hok
  have HND := Lib.hid hok.1
  have h4 := hok.1.1.2
  obtain ⟨m, hm⟩ : ∃ m, it.length = m + 1 := ⟨it.length - 1, by have := hok.1.1.1; omega⟩
  have hF : firstK it = (it[0]'(by omega)).1 := firstK_at (by omega)
  have hG : lastK it = (it[m]'(by omega)).1 := by
    have h1 := lastK_at (it := it) (by omega)
    simp only [hm, Nat.add_sub_cancel] at h1
    exact h1
  obtain ⟨bb, off, hAe, hbb, hc⟩ := hI.cells.it (k := 0) (by omega)
  have g0 := (hc 0 (by omega)).1
  have gm := (hc m (by omega)).1
  rw [← hF] at g0
  rw [← hG] at gm
  rw [show off + 0 * 2 = off by omega] at g0
  have HS := Lib.hid hI
  have HLEN := Lib.hid hm
  have HRG := Lib.hid (fun (h : ∀ i, i < m + 1 → chk l k (it.getD i (0, 0)) (nextT it i e) = true) => (show (List.range (m + 1)).all (fun i => chk l k (it.getD i (0, 0)) (nextT it i e)) = true from range_all.2 h))
  have HRN := Lib.hid (fun i (hi : i < m + 1) (h : chk l k (it.getD i (0, 0)) (nextT it i e) = false) => (show (List.range (m + 1)).all (fun i => chk l k (it.getD i (0, 0)) (nextT it i e)) = false from by
    cases hh : (List.range (m + 1)).all (fun i => chk l k (it.getD i (0, 0)) (nextT it i e))
    · rfl
    · rw [range_all.1 hh i hi] at h; cases h))
  rw [hm] at HUS HC hI HS h4
  rw [hAe] at HUS HS
  generalize firstK it = F at *
  generalize lastK it = G at *
  clear hF hG hc hok hAe hm
  have hm4 : m ≤ 3 := by omega
  have HWX := Lib.hid hx
  clear hx1 hb1 D ih hI hx h4
  go_enter Tryz.func88, Tryz.ntmps88
  go_wp2_with (go_at_call 89; refine stop_here ?_)
  refine stop_on ?_
  refine (HUS.out _ HX1.out).mono ?_
  rintro r w1 ⟨rfl, hx2⟩
  obtain ⟨W3, hW3⟩ : ∃ W3, w1.alloc (.cells #[.bool lf, .slice (some ⟨bb, off, none⟩) (m + 1) (C j)] 59) = W3 := ⟨_, rfl⟩
  obtain ⟨hx3, hb3⟩ := allocs1 hW3
  have HX3 := Lib.hid (HX1.out.trans (hx2.trans hx3))
  have HB3 := Lib.hid hb3
  have HBI := Lib.hid (HB1.out.ext (hx2.trans hx3))
  obtain ⟨n0, n1, n2⟩ := hb3.read2
  obtain ⟨i0, i1, i2⟩ := HBI.out.read2
  have g1 := ((HWX.out.trans HX3.out).cell (p := ⟨bb, off, none⟩) hbb).trans g0
  have g2 := ((HWX.out.trans HX3.out).cell (p := ⟨bb, off + m * 2, none⟩) hbb).trans gm
  clear hx2 hx3 hb3 g0 gm hbb p0 p1 p2 HUS HB1
  have e1 : ((m + 1 : Nat) : Int) - 1 = (m : Int) := by omega
  have e2 : (m : Int) < ((m + 1 : Nat) : Int) := by omega
  have e3 : (0 : Int) < ((m + 1 : Nat) : Int) := by omega
  rcases Nat.eq_zero_or_pos k with hk0 | hk0
  · subst hk0
    cases lf
    · have HCF := Lib.hid (show chk l (0 + 1) (xa, (j : Int)) e = false from by rw [HC.out]; rfl)
      clear HC HRG HRN
      go_wp2
      go_quiet (fail)
      go_wp2
      go_ret
      exact ⟨ret_bool HCF.out.symm, HX3.out.drewN _⟩
    by_cases h1 : F = xa
    rotate_left
    · have t1 : (F != xa) = true := bne_iff_ne.2 h1
      have HCF := Lib.hid (show chk l (0 + 1) (xa, (j : Int)) e = false from by rw [HC.out, decide_eq_false h1]; rfl)
      clear HC HRG HRN h1
      go_wp2
      go_quiet (fail)
      go_wp2
      go_ret
      exact ⟨ret_bool HCF.out.symm, HX3.out.drewN _⟩
    have t1 : (F != xa) = false := by simp [h1]
    by_cases h2 : e ≤ G
    · have t2 : decide (e ≤ G) = true := decide_eq_true h2
      have HCF := Lib.hid (show chk l (0 + 1) (xa, (j : Int)) e = false from by rw [HC.out, decide_eq_true h1, decide_eq_false (show ¬ G < e by omega)]; rfl)
      clear HC HRG HRN h1 h2
      go_wp2
      go_quiet (fail)
      go_wp2
      go_ret
      exact ⟨ret_bool HCF.out.symm, HX3.out.drewN _⟩
    have t2 : decide (e ≤ G) = false := decide_eq_false h2
    have HCF := Lib.hid (show chk l (0 + 1) (xa, (j : Int)) e = true from by rw [HC.out, decide_eq_true h1, decide_eq_true (show G < e by omega)]; rfl)
    clear HC HRG HRN h1 h2
    go_wp2
    go_quiet (fail)
    go_wp2
    go_ret
    exact ⟨ret_bool HCF.out.symm, HX3.out.drewN _⟩
  obtain ⟨k1, rfl⟩ : ∃ k1, k = k1 + 1 := ⟨k - 1, by omega⟩
  have t0 : (((k1 : Int) + 1 + 1) == 1) = false := by rw [beq_eq_false_iff_ne]; omega
  cases lf
  rotate_left
  · have HCF := Lib.hid (show chk l (k1 + 1 + 1) (xa, (j : Int)) e = false from by rw [HC.out]; rfl)
    clear HC HRG HRN
    go_wp2
    go_quiet (fail)
    go_wp2
    go_ret
    exact ⟨ret_bool HCF.out.symm, HX3.out.drewN _⟩
  by_cases h1 : F = xa
  rotate_left
  · have t1 : (F != xa) = true := bne_iff_ne.2 h1
    have HCF := Lib.hid (show chk l (k1 + 1 + 1) (xa, (j : Int)) e = false from by rw [HC.out, decide_eq_false h1]; rfl)
    clear HC HRG HRN h1
    go_wp2
    go_quiet (fail)
    go_wp2
    go_ret
    exact ⟨ret_bool HCF.out.symm, HX3.out.drewN _⟩
  have t1 : (F != xa) = false := by simp [h1]
  by_cases h2 : e ≤ G
  · have t2 : decide (e ≤ G) = true := decide_eq_true h2
    have HCF := Lib.hid (show chk l (k1 + 1 + 1) (xa, (j : Int)) e = false from by rw [HC.out, decide_eq_true h1, decide_eq_false (show ¬ G < e by omega)]; rfl)
    clear HC HRG HRN h1 h2
    go_wp2
    go_quiet (fail)
    go_wp2
    go_ret
    exact ⟨ret_bool HCF.out.symm, HX3.out.drewN _⟩
  have t2 : decide (e ≤ G) = false := decide_eq_false h2
  have HCT := Lib.hid (show chk l (k1 + 1 + 1) (xa, (j : Int)) e = (List.range (m + 1)).all (fun i => chk l (k1 + 1) (it.getD i (0, 0)) (nextT it i e)) from by rw [HC.out, decide_eq_true h1, decide_eq_true (show G < e by omega)]; rfl)
  clear HC h1 h2
  go_wp2
  go_quiet (fail)
  go_wp2
  have HXN := Lib.hid (show Ext W (W3.drewN nq) from HX3.out.drewN _)
  have HBN := Lib.hid (show Bx (W3.drewN nq) w1.heap.size #[.bool false, .slice (some ⟨bb, off, none⟩) (m + 1) (C j)] from HB3.out)
  generalize W3.drewN nq = W5 at *
  clear HX3 HB3 HBI n0 n1 n2 i0 i1 i2 g1 g2 hW3 t0 t1 t2 e1 e2 e3
  go_loopw [57] (fun v wr => ∃ i : Nat, i ≤ m + 1 ∧ v = .int .i64 i ∧ (Ext W wr ∧ Bx wr w1.heap.size #[.bool false, .slice (some ⟨bb, off, none⟩) (m + 1) (C j)]) ∧ ∀ a, a < i → chk l (k1 + 1) (it.getD a (0, 0)) (nextT it a e) = true) (fun v _ => m + 1 - (intOf v).toNat)
  case atStart => exact ⟨0, Nat.zero_le _, rfl, ⟨HXN.out, HBN.out⟩, fun a ha => absurd ha (Nat.not_lt_zero a)⟩
  case round =>
    obtain ⟨i, hi, rfl, ⟨hx, hb⟩, hall⟩ := hrel
    have HXR := Lib.hid hx
    have HBR := Lib.hid hb
    have HAL := Lib.hid hall
    clear hall hb hx
    rcases Nat.lt_or_ge i (m + 1) with hlt | hlt
    rotate_left
    · obtain rfl : i = m + 1 := by omega
      have HCF := Lib.hid (HCT.out.trans (HRG.out HAL.out))
      clear hlt hi HCT HRG HRN
      go_wp2
      go_ret
      exact ⟨ret_bool HCF.out.symm, HXR.out⟩
    have hil : i < it.length := by rw [HLEN.out]; exact hlt
    obtain ⟨b2, off2, he2, hb2, a0, a1⟩ := it_at HS.out hil
    cases he2
    have i0 := ((HWX.out.trans HXR.out).cell (p := ⟨bb, off + i * 2, none⟩) hb2).trans a0
    have i1 := ((HWX.out.trans HXR.out).cell (p := ⟨bb, off + i * 2 + 1, none⟩) hb2).trans a1
    have HNX := Lib.hid (fun w' (h : Ext w0 w') => treeNext_any (some ⟨bb, off, none⟩) it (m + 1) (C j) i e w' HLEN.out.symm hlt (HS.out.ext h) (by omega))
    have HIC := Lib.hid (fun w' (h : Ext w0 w') => IH.out (Nat.succ_pos _) it[i] (nextT it i e) w' h)
    have HGD := Lib.hid (itD_at hil)
    have HRNI := Lib.hid (fun h => HCT.out.trans (HRN.out i hlt h))
    rw [HGD.out] at HRNI
    have HALS := Lib.hid (fun (h : chk l (k1 + 1) it[i] (nextT it i e) = true) => (show ∀ a, a < i + 1 → chk l (k1 + 1) (it.getD a (0, 0)) (nextT it a e) = true from fun a ha => by
      rcases Nat.lt_or_ge a i with h' | h'
      · exact HAL.out a h'
      · obtain rfl : a = i := by omega
        rw [HGD.out]; exact h))
    obtain ⟨y, hye⟩ : ∃ y, it[i] = y := ⟨_, rfl⟩
    rw [hye] at i0 i1 HIC HRNI HALS
    clear a0 a1 hye hil HGD HAL HCT HRG HRN hb2
    obtain ⟨ya, yb⟩ := y
    simp only at i0 i1 HIC
    obtain ⟨nx, hnx⟩ : ∃ nx, nextT it i e = nx := ⟨_, rfl⟩
    rw [hnx] at HNX HIC HRNI HALS
    clear hnx
    have hii : (i : Int) < (m : Int) + 1 := by omega
    have hii2 : (i : Int) < ((m + 1 : Nat) : Int) := by omega
    obtain ⟨W6, hW6⟩ : ∃ W6, wr.alloc (.cells #[.int .i64 ya, .int .i64 yb] 146) = W6 := ⟨_, rfl⟩
    obtain ⟨hx6, hb6⟩ := allocs1 hW6
    have HX6 := Lib.hid (HXR.out.trans hx6)
    have HB6 := Lib.hid (HBR.out.ext hx6)
    have HX0 := Lib.hid (HWX.out.trans HX6.out)
    obtain ⟨n0, n1, n2⟩ := HB6.out.read2
    obtain ⟨y0, y1, y2⟩ := hb6.read2
    have q0 := (HRT.out.2.ext HX0.out).at 0 _ rfl
    have q1 := (HRT.out.2.ext HX0.out).lt
    clear hx6 hb6
    go_wp2
    go_still_tail 9, (by kernel_rfl)
    still_call (HNX.out _ HX0.out.drew)
    refine wpStill_nil ?_
    change wpList _ _ _ _ _ W6.drew
    go_wp2_with (go_at_call 88; refine stop_here ?_)
    refine stop_on ?_
    refine (HIC.out _ HX0.out.drew).mono ?_
    rintro r w7 ⟨rfl, hx7⟩
    have HX7 := Lib.hid (HX6.out.drew.trans hx7)
    have HB7 := Lib.hid ((show Bx W6.drew w1.heap.size _ from HB6.out).ext hx7)
    clear hx7
    obtain ⟨o, ho⟩ : ∃ o, chk l (k1 + 1) (ya, yb) nx = o := ⟨_, rfl⟩
    rw [ho]
    cases o
    · have HCF := Lib.hid (HRNI.out ho)
      clear ho HALS HRNI HIC HNX
      go_wp2
      go_ret
      exact ⟨ret_bool HCF.out.symm, HX7.out⟩
    · have HAN := Lib.hid (HALS.out ho)
      clear ho HALS HRNI HIC HNX
      go_wp2
      go_roundw
      case rel => exact ⟨i + 1, by omega, by go_num, ⟨HX7.out, HB7.out⟩, HAN.out⟩
      case measure => simp [intOf]; omega
theorem rt_all (l : List HC) (R : Option Addr) (n q : Nat) (keep : Int) (A : Nat → Option Addr) (C : Nat → Nat) (bh bt : Nat) (w0 : World) (D : RtC l R n q keep A C bh bt w0) : ∀ k, k + 1 ≤ 20 → RtOk l bh bt w0 (k + 1)
  | 0, h => rt_step l R n q keep A C bh bt w0 D 0 h (fun h => absurd h (Nat.lt_irrefl 0))
  | k + 1, h => rt_step l R n q keep A C bh bt w0 D (k + 1) h (fun _ => rt_all l R n q keep A C bh bt w0 D k (by omega))
end Go.Proofs.YtjbfopnkeclfgaaGreat
namespace Go.Proofs.YtjbfopnkeclfgaaGreat
set_option maxRecDepth 20000
open Go.RowKit Go.Shelf
attribute [local go_sem] Oper.semAt_some

theorem yieldAt_wide {P : Program} {m m' l : Nat} {args : Array Value} {W : World} {R : Ending → World → Prop} (h : YieldAt Fence.wide m P l args W R) : YieldAt Fence.wide m' P l args W R := by
  obtain ⟨fn, tmps, ass, b, h1, h2⟩ := h
  exact ⟨fn, tmps, ass, b, h1, h2.1, fun c cs _ => h2.2 c cs (room_wide _)⟩
/-- A box of a type. -/
def Bt (w : World) (k : Nat) (t : TypeId) (cs : Array Value) : Prop := w.heap[k]? = some (.cells cs t (0, 0))
theorem Bt.bx {w : World} {k : Nat} {t : TypeId} {cs : Array Value} (h : Bt w k t cs) : Bx w k cs := ⟨t, h⟩
theorem Bt.new (w : World) (cs : Array Value) (t : TypeId) : Bt (w.alloc (.cells cs t)) w.heap.size t cs := heap_alloc_new w _
theorem Bt.lt {w : World} {k : Nat} {t : TypeId} {cs : Array Value} (h : Bt w k t cs) : k < w.heap.size := (Array.getElem?_eq_some_iff.1 h).1
theorem Bt.below {w w' : World} {k : Nat} {t : TypeId} {cs : Array Value} (h : Bt w k t cs) (hx : Ext w w') : Bt w' k t cs := (hx.block k h.lt).trans h
theorem Bt.other {w : World} {k : Nat} {t : TypeId} {cs : Array Value} (h : Bt w k t cs) {p : Addr} (hp : p.block ≠ k) (v : Value) : Bt (w.setCell p v) k t cs := by
  unfold Bt at h ⊢
  rw [Below.heap_setCell _ _ _ _ (by simpa using Ne.symm hp), h]
theorem Bt.set1 {w : World} {k : Nat} {t : TypeId} {a : Value} (h : Bt w k t #[a]) (v : Value) : Bt (w.setCell ⟨k, 0, none⟩ v) k t #[v] := by
  unfold Bt at h ⊢
  simp [World.setCell, Array.getElem?_modify, h]
abbrev TN : List TypeId := [59]
/-- What a round keeps: what lay at first, these blocks, and boxes of nodes. -/
structure Kw (n₀ : Nat) (S : Nat → Prop) (A B : World) : Prop where
  old : Below n₀ A B
  same : ∀ k, S k → k < A.heap.size → B.heap[k]? = A.heap[k]?
  typ : ∀ k cs t, t ∈ TN → Bt A k t cs → Bt B k t cs
theorem Kw.refl (n₀ : Nat) (S : Nat → Prop) (A : World) : Kw n₀ S A A := ⟨Below.refl _ _, fun _ _ _ => rfl, fun _ _ _ _ h => h⟩
theorem Kw.trans {n₀ : Nat} {S : Nat → Prop} {A B C : World} (h : Kw n₀ S A B) (k : Kw n₀ S B C) : Kw n₀ S A C :=
  ⟨h.old.trans k.old, fun i hi hl => (k.same i hi (Nat.lt_of_lt_of_le hl h.old.size)).trans (h.same i hi hl), fun i cs t ht hb => k.typ i cs t ht (h.typ i cs t ht hb)⟩
theorem Kw.ext {n₀ : Nat} (S : Nat → Prop) {A B : World} (h : Ext A B) (hn : n₀ ≤ A.heap.size) : Kw n₀ S A B :=
  ⟨h.mono hn, fun k _ hl => h.block k hl, fun _ _ _ _ hb => hb.below h⟩
theorem Kw.sub {n₀ : Nat} {S S' : Nat → Prop} {A B : World} (h : Kw n₀ S A B) (hs : ∀ k, S' k → S k) : Kw n₀ S' A B := ⟨h.old, fun k hk hl => h.same k (hs k hk) hl, h.typ⟩
theorem Kw.set {n₀ : Nat} {S : Nat → Prop} {A : World} {k : Nat} {t : TypeId} {cs : Array Value} (hb : Bt A k t cs) (ht : t ∉ TN) (hS : ¬ S k) (hn : n₀ ≤ k) (i : Nat) (v : Value) : Kw n₀ S A (A.setCell ⟨k, i, none⟩ v) := by
  refine ⟨(Below.refl n₀ A).setCell hn v, fun j hj _ => Below.heap_setCell _ _ _ _ (fun e => hS (by subst e; exact hj)), fun j ds u hu hd => hd.other (fun e => ?_) v⟩
  cases e
  unfold Bt at hb hd
  rw [hb] at hd
  cases hd
  exact ht hu
theorem Kw.put {n₀ : Nat} {S : Nat → Prop} {A : World} {k : Nat} {o : Obj} (h : A.heap[k]? = some o) (hc : o.isCells = false) (hS : ¬ S k) (hn : n₀ ≤ k) (o' : Obj) : Kw n₀ S A (A.putObj k o') := by
  have hg := grownBy_putObj' A k o'
  have hl := (Array.getElem?_eq_some_iff.1 h).1
  refine ⟨(Below.refl n₀ A).grown hg (by omega) (fun j e => by cases e; exact hn), fun j hj hl' => hg.block j hl' (fun e => hS (by cases e; exact hj)), fun j cs t _ hb => ?_⟩
  unfold Bt at hb ⊢
  refine (hg.block j (Array.getElem?_eq_some_iff.1 hb).1 (fun e => ?_)).trans hb
  cases e
  rw [h] at hb
  cases hb
  cases hc
/-- Outside a window all stays. -/
structure Out (B c : Nat) (A A' : World) : Prop where
  os : A'.os = A.os
  tape : A'.tape = A.tape
  output : A'.output = A.output
  size : A.heap.size ≤ A'.heap.size
  same : ∀ k, k < A.heap.size → (k < B ∨ B + c ≤ k) → A'.heap[k]? = A.heap[k]?
theorem Out.ext {B c : Nat} {A A' : World} (h : Ext A A') : Out B c A A' := ⟨h.os, h.tape, h.output, h.size, fun k hk _ => h.block k hk⟩
theorem Out.sup {B c B' c' : Nat} {A A' : World} (h : Out B' c' A A') (h1 : B ≤ B') (h2 : B' + c' ≤ B + c) : Out B c A A' := ⟨h.os, h.tape, h.output, h.size, fun k hk hw => h.same k hk (by omega)⟩
theorem Out.put {B c : Nat} (A : World) {k : Nat} (o : Obj) (h1 : B ≤ k) (h2 : k < B + c) : Out B c A (A.putObj k o) := by
  have hg := grownBy_putObj' A k o
  exact ⟨hg.os, hg.tape, hg.output, hg.size, fun j hj hw => hg.block j hj (fun e => by cases e; omega)⟩
theorem Out.set {B c : Nat} (A : World) {k : Nat} (i : Nat) (v : Value) (h1 : B ≤ k) (h2 : k < B + c) : Out B c A (A.setCell ⟨k, i, none⟩ v) :=
  ⟨rfl, rfl, rfl, by simp, fun j hj hw => Below.heap_setCell _ _ _ _ (by show j ≠ k; omega)⟩
/-- What is said stays where a window's blocks alone are turned. -/
def Stays {β : Type} (B c : Nat) (J : β → World → Prop) : Prop := ∀ s A A', J s A → Out B c A A' → J s A'
theorem Stays.sub {β : Type} {B c B' c' : Nat} {J : β → World → Prop} (h : Stays B c J) (h1 : B ≤ B') (h2 : B' + c' ≤ B + c) : Stays B' c' J := fun s A A' hs ho => h s A A' hs (ho.sup h1 h2)
theorem Stays.and {β : Type} {B c : Nat} {J K : β → World → Prop} (h : Stays B c J) (k : Stays B c K) : Stays B c (fun s W => J s W ∧ K s W) := fun s A A' hs ho => ⟨h s A A' hs.1 ho, k s A A' hs.2 ho⟩
theorem stays_pure {β : Type} (B c : Nat) (p : β → Prop) : Stays B c (fun s (_ : World) => p s) := fun _ _ _ hs _ => hs
theorem stays_below {β : Type} {B c n₀ : Nat} (w₀ : World) (hn : n₀ ≤ B) (h0 : n₀ ≤ w₀.heap.size) : Stays B c (fun (_ : β) W => Below n₀ w₀ W) := fun _ _ _ hs ho =>
  hs.trans ⟨ho.os, ho.tape, ho.output, ho.size, fun k hk => ho.same k (by have := hs.size; omega) (.inl (by omega))⟩
theorem stays_bt {β : Type} {B c k : Nat} {t : TypeId} (cs : β → Array Value) (hk : k < B ∨ B + c ≤ k) : Stays B c (fun s W => Bt W k t (cs s)) := fun _ _ _ hs ho => (ho.same k (Bt.lt hs) hk).trans hs
/-- An iterator over these things: it may turn the blocks that it lays first (so many), and asks the round to keep them, and some elder ones. -/
def SeqO {α : Type} (P : Program) (g : Nat) (lb : Array Value) (encs : α → Array Value) (n₀ : Nat) (Ks : Nat → Prop) (c : Nat) (L : List α) (w : World) : Prop :=
  ∀ (l : Nat) (J Jx : List α → World → Prop) (W : World) (d : Nat), Ext w W → Stays W.heap.size c J → Stays W.heap.size c Jx →
    (∀ pre x W1 m, J pre W1 → W.heap.size + c ≤ W1.heap.size → pre ++ [x] <+: L → YieldAt Fence.wide m P l (encs x) W1 fun e W' =>
      Kw n₀ (fun k => Ks k ∨ (W.heap.size ≤ k ∧ k < W.heap.size + c)) W1 W' ∧ ((e = .returned (.bool true) ∧ J (pre ++ [x]) W') ∨ (e = .returned (.bool false) ∧ Jx (pre ++ [x]) W'))) →
    J [] W →
    CallsIn Fence.wide d P g (#[.func (.yield l) #[] #[]] ++ lb) W fun e W' => (∃ v, e = .returned v) ∧ (J L W' ∨ ∃ q, q <+: L ∧ Jx q W')
/-- The loop's record, and the block of what is put off. -/
structure Rec (W : World) (D : Nat) (r : Loop) : Prop where
  lp : W.heap[D + 1]? = some (.loop r)
  row : W.heap[D]? = some (.deferred (some []))
theorem Rec.keep {W W' : World} {D : Nat} {r : Loop} (h : Rec W D r) {n₀ : Nat} {S : Nat → Prop} (k : Kw n₀ S W W') (h0 : S D) (h1 : S (D + 1)) : Rec W' D r :=
  ⟨(k.same _ h1 (Array.getElem?_eq_some_iff.1 h.lp).1).trans h.lp, (k.same _ h0 (Array.getElem?_eq_some_iff.1 h.row).1).trans h.row⟩
theorem Rec.put {W : World} {D : Nat} {r : Loop} (h : Rec W D r) (r' : Loop) : Rec (W.putObj (D + 1) (.loop r')) D r' :=
  ⟨World.putObj_heap_same (Array.getElem?_eq_some_iff.1 h.lp).1, (World.putObj_heap_other (by omega)).trans h.row⟩
theorem Rec.stays {B c D : Nat} (r : Loop) (h : D + 2 ≤ B) : Stays B c (fun (_ : Unit) W => Rec W D r) := fun _ A A' hs ho =>
  ⟨(ho.same _ (Array.getElem?_eq_some_iff.1 hs.lp).1 (.inl (by omega))).trans hs.lp, (ho.same _ (Array.getElem?_eq_some_iff.1 hs.row).1 (.inl (by omega))).trans hs.row⟩
/-- How a round's body may be left. -/
def leftAt {α : Type} (n₀ : Nat) (S : Nat → Prop) (I : List α → World → Prop) (Ix : Code → List α → World → Prop) (xs : List α) (W : World) : Exit → Act → World → Prop
  | .normal, _, W' => Kw n₀ S W W' ∧ I xs W'
  | .ret, _, W' => Kw n₀ S W W' ∧ Ix .ret xs W'
  | .exit id, _, W' => Kw n₀ S W W' ∧ Ix (.exit id) xs W'
  | .goto t, _, W' => Kw n₀ S W W' ∧ Ix (.goto t) xs W'
  | .panic _, _, _ => False
  | .outgrown, _, _ => False
theorem range_own {α : Type} {P : Program} {g : Operand} {ps : Array Tmp} {assign body : Code} {Q : Exit → Act → World → Prop} {a : Act} {w : World} {n m : Nat}
    {gf : Nat} {lb : Array Value} (hg : a.eval g = .func (.func gf) #[] lb) (eg : ∀ args w, (callFunc gf args).run P w = .ok (.enter gf args) w)
    {encs : α → Array Value} {n₀ : Nat} {Ks : Nat → Prop} {c : Nat} {L : List α} {w0 : World} (hseq : SeqO P gf lb encs n₀ Ks c L w0) (hx : Ext w0 w) (hn₀ : n₀ ≤ w.heap.size) (hKs : ∀ k, Ks k → k < w.heap.size) (hps : ∀ x, (encs x).size = ps.size)
    (I : List α → World → Prop) (Ix : Code → List α → World → Prop) (hI : Stays w.heap.size (2 + c) I) (hIx : ∀ k, Stays w.heap.size (2 + c) (Ix k)) (h0 : I [] w)
    (Ax : α → Act → World → Prop) (hAx : ∀ x a', Stays w.heap.size (2 + c) (fun (_ : Unit) W => Ax x a' W))
    (hassign : ∀ (l : Nat) (pre : List α) (x : α) (W : World) (K : Act → World → Prop), I pre W → w.heap.size + (2 + c) ≤ W.heap.size → pre ++ [x] <+: L →
      (∀ a' W', Kw n₀ (fun k => Ks k ∨ (w.heap.size ≤ k ∧ k < w.heap.size + (2 + c))) W W' → I pre W' → Ax x a' W' → K a' W') →
      assign.wpIn (Fence.wide.inRound l) m P (Exit.then K (fun _ _ _ => False)) { tmps := (ps.zip (encs x)).foldl (fun t (p, v) => t.setIfInBounds p v) a.tmps, defers := [] } W)
    (hbody : ∀ (l : Nat) (pre : List α) (x : α) (a' : Act) (W : World), I pre W → Ax x a' W → w.heap.size + (2 + c) ≤ W.heap.size → pre ++ [x] <+: L →
      body.wpIn (Fence.wide.inRound l) m P (leftAt n₀ (fun k => Ks k ∨ (w.heap.size ≤ k ∧ k < w.heap.size + (2 + c))) I Ix (pre ++ [x]) W) a' W)
    (hdone : ∀ (D : Nat) (W : World), D = w.heap.size → I L W → W.heap[D]? = some (.deferred (some [])) → Q .normal { a with defers := { target := .collected D, args := #[] } :: a.defers } W)
    (hstop : ∀ (D : Nat) (k : Code) (q : List α) (W : World), D = w.heap.size → q <+: L → Ix k q W → W.heap[D]? = some (.deferred (some [])) → k.wpIn Fence.wide n P Q { a with defers := { target := .collected D, args := #[] } :: a.defers } W) :
    (Code.rangeFunc g ps assign body).wpIn Fence.wide n P Q a w := by
  refine wpIn_rangeFunc fun fn hfn => ?_
  let R : LoopState → Option Code → Loop := fun st pe => { state := st, pending := pe, fn, tmps := a.tmps, params := ps, assign, body, defers := w.heap.size }
  obtain ⟨W1, hW1⟩ : ∃ W1, (w.alloc (.deferred (some []))).alloc (.loop (R .ready none)) = W1 := ⟨_, rfl⟩
  have hX1 : Ext w W1 := by rw [← hW1]; exact ((Ext.refl w).alloc _).alloc _
  have hZ1 : W1.heap.size = w.heap.size + 2 := by rw [← hW1]; simp
  have hR1 : Rec W1 w.heap.size (R .ready none) := by
    rw [← hW1]
    refine ⟨?_, (Below.heap_alloc _ _ _ (by simp)).trans (World.alloc_heap_new w _)⟩
    have := World.alloc_heap_new (w.alloc (.deferred (some []))) (.loop (R .ready none))
    rwa [World.size_alloc] at this
  refine ⟨w.heap.size + 1, [{ target := .collected w.heap.size, args := #[] }], W1, { target := .fn (.func gf) lb, args := #[.func (.yield (w.heap.size + 1)) #[] #[]] }, W1, gf, #[.func (.yield (w.heap.size + 1)) #[] #[]] ++ lb, W1,
    by rw [← hW1]; exact run_enterLoop_outer _ _ _ _ _, by simp only [resolve, hg]; simp [go_sem], fun _ _ => trivial, by simp [invoke, go_sem, eg], fun h => by simp [Fence.wide] at h, ?_⟩
  have hS0 : (fun k => Ks k ∨ (w.heap.size ≤ k ∧ k < w.heap.size + (2 + c))) w.heap.size := .inr ⟨Nat.le_refl _, by omega⟩
  have hS1 : (fun k => Ks k ∨ (w.heap.size ≤ k ∧ k < w.heap.size + (2 + c))) (w.heap.size + 1) := .inr ⟨by omega, by omega⟩
  have hsub : ∀ k, (Ks k ∨ (W1.heap.size ≤ k ∧ k < W1.heap.size + c)) → (Ks k ∨ (w.heap.size ≤ k ∧ k < w.heap.size + (2 + c))) := fun k h => h.imp id (fun h => by omega)
  have hnot : ¬ (Ks (w.heap.size + 1) ∨ (W1.heap.size ≤ w.heap.size + 1 ∧ w.heap.size + 1 < W1.heap.size + c)) := fun h => by
    rcases h with h | h
    · have := hKs _ h; omega
    · omega
  have hput : ∀ (W : World) (r r' : Loop), Rec W w.heap.size r → Kw n₀ (fun k => Ks k ∨ (W1.heap.size ≤ k ∧ k < W1.heap.size + c)) W (W.putObj (w.heap.size + 1) (.loop r')) :=
    fun W r r' h => Kw.put h.lp rfl hnot (by omega) _
  refine (hseq (w.heap.size + 1) (fun pre W => I pre W ∧ Rec W w.heap.size (R .ready none)) (fun q W => ∃ k, Ix k q W ∧ Rec W w.heap.size (R .done (some k))) W1 _ (hx.trans hX1)
    ((hI.sub (by omega) (by omega)).and (fun s => Rec.stays _ (by omega) ()))
    (fun s A A' ⟨k, h1, h2⟩ ho => ⟨k, hIx k s A A' h1 (ho.sup (by omega) (by omega)), Rec.stays _ (by omega) () A A' h2 ho⟩) ?_ ⟨hI _ _ _ h0 (.ext hX1), hR1⟩).mono ?_
  · rintro pre x W m' ⟨hi, hr⟩ hz hp
    have hy := run_yield (P := P) (args := encs x) hr.lp (hps x)
    refine yieldAt_wide (m := m) ⟨fn, _, assign, body, hy, roundIn_of_wpIn hfn (hassign _ pre x W _ hi (by omega) hp ?_)⟩
    intro a' Wa hka hia hax
    have hra := hr.keep hka hS0 hS1
    refine ⟨_, run_beginRound hra.lp rfl, ?_⟩
    have hro : Out w.heap.size (2 + c) Wa (Wa.putObj (w.heap.size + 1) (.loop { R .ready none with state := .busy })) := .put _ _ (by omega) (by omega)
    have hrb := hra.put { R .ready none with state := .busy }
    refine wpIn_mono (hbody _ pre x a' _ (hI _ _ _ hia hro) (hAx x a' () _ _ hax hro) (Nat.le_trans (show w.heap.size + (2 + c) ≤ W.heap.size by omega) (Nat.le_trans hka.old.size hro.size)) hp) ?_
    have fin : ∀ (jump : Option Code) (W3 : World), Kw n₀ (fun k => Ks k ∨ (w.heap.size ≤ k ∧ k < w.heap.size + (2 + c))) (Wa.putObj (w.heap.size + 1) (.loop { R .ready none with state := .busy })) W3 →
        ∃ W4, (Instr.endRound (w.heap.size + 1) jump).run P W3 = .ok (.bool jump.isNone) W4 ∧ Rec W4 w.heap.size (R (if jump.isNone then .ready else .done) jump) ∧ Out w.heap.size (2 + c) W3 W4 ∧ Kw n₀ (fun k => Ks k ∨ (W1.heap.size ≤ k ∧ k < W1.heap.size + c)) W W4 := fun jump W3 hk3 => by
      have hr3 := hrb.keep hk3 hS0 hS1
      exact ⟨_, run_endRound jump hr3.lp, hr3.put _, .put _ _ (by omega) (by omega), (((hka.sub hsub).trans (hput _ _ _ hra)).trans (hk3.sub hsub)).trans (hput _ _ _ hr3)⟩
    rintro e a3 W3 hp3
    cases e with
    | normal =>
      obtain ⟨W4, e4, hr4, ho4, hk4⟩ := fin none W3 hp3.1
      exact ⟨_, W4, e4, hk4, .inl ⟨rfl, hI _ _ _ hp3.2 ho4, hr4⟩⟩
    | ret =>
      obtain ⟨W4, e4, hr4, ho4, hk4⟩ := fin (some .ret) W3 hp3.1
      exact ⟨_, W4, e4, hk4, .inr ⟨rfl, _, hIx _ _ _ _ hp3.2 ho4, hr4⟩⟩
    | exit id =>
      obtain ⟨W4, e4, hr4, ho4, hk4⟩ := fin (some (.exit id)) W3 hp3.1
      exact ⟨_, W4, e4, hk4, .inr ⟨rfl, _, hIx _ _ _ _ hp3.2 ho4, hr4⟩⟩
    | goto t =>
      obtain ⟨W4, e4, hr4, ho4, hk4⟩ := fin (some (.goto t)) W3 hp3.1
      exact ⟨_, W4, e4, hk4, .inr ⟨rfl, _, hIx _ _ _ _ hp3.2 ho4, hr4⟩⟩
    | panic ch => exact hp3.elim
    | outgrown => exact hp3.elim
  · rintro e W2 ⟨⟨v, rfl⟩, (⟨hi, hr⟩ | ⟨q, hq, k, hi, hr⟩)⟩
    · exact ⟨none, _, run_endLoop hr.lp (by simp [R]), hdone _ _ rfl (hI _ _ _ hi (.put _ _ (by omega) (by omega))) ((World.putObj_heap_other (by omega)).trans hr.row)⟩
    · exact ⟨some k, _, run_endLoop hr.lp (by simp [R]), hstop _ k q _ rfl hq (hIx _ _ _ _ hi (.put _ _ (by omega) (by omega))) ((World.putObj_heap_other (by omega)).trans hr.row)⟩
end Go.Proofs.YtjbfopnkeclfgaaGreat
namespace Go.Proofs.YtjbfopnkeclfgaaGreat
set_option maxRecDepth 20000
open Go.RowKit Go.Shelf
attribute [local go_sem] Oper.semAt_some

/-- The memory that the closure leans on. -/
structure MemN (W : World) (R : Option Addr) (n q : Nat) (keep key : Int) (bh bf B r c : Nat) : Prop where
  h : Bt W bh 30 #[.slice R n q, .int .i64 keep]
  f : Bt W bf 3 #[.int .i64 key]
  y : Bt W B 92 #[.func (.yield r) #[] #[]]
  l : Bt W (B + 1) 3 #[.int .i64 c]
  d : Bt W (B + 1 + 1) 124 #[.func (.func 145) #[] #[.pointer (some ⟨bh, 0, none⟩), .pointer (some ⟨B + 1, 0, none⟩), .pointer (some ⟨B, 0, none⟩), .pointer (some ⟨bf, 0, none⟩), .pointer (some ⟨B + 1 + 1, 0, none⟩)]]
theorem Bt.kept {W W' : World} {k : Nat} {t : TypeId} {cs : Array Value} (h : Bt W k t cs) {n₀ : Nat} {S : Nat → Prop} (hk : Kw n₀ S W W') (hS : S k) : Bt W' k t cs := (hk.same k hS h.lt).trans h
theorem MemN.keep {W W' : World} {R : Option Addr} {n q : Nat} {keep key : Int} {bh bf B r c : Nat} (h : MemN W R n q keep key bh bf B r c) {n₀ : Nat} {S : Nat → Prop} (hk : Kw n₀ S W W') (s1 : S bh) (s2 : S bf) (s3 : S B) (s4 : S (B + 1)) (s5 : S (B + 1 + 1)) : MemN W' R n q keep key bh bf B r c :=
  ⟨h.h.kept hk s1, h.f.kept hk s2, h.y.kept hk s3, h.l.kept hk s4, h.d.kept hk s5⟩
theorem MemN.ext {W W' : World} {R : Option Addr} {n q : Nat} {keep key : Int} {bh bf B r c : Nat} (h : MemN W R n q keep key bh bf B r c) (hx : Ext W W') : MemN W' R n q keep key bh bf B r c :=
  ⟨h.h.below hx, h.f.below hx, h.y.below hx, h.l.below hx, h.d.below hx⟩
theorem MemN.less {W : World} {R : Option Addr} {n q : Nat} {keep key : Int} {bh bf B r c : Nat} (h : MemN W R n q keep key bh bf B r c) (h1 : bh < B) (h2 : bf < B) (c' : Nat) : MemN (W.setCell ⟨B + 1, 0, none⟩ (.int .i64 c')) R n q keep key bh bf B r c' :=
  ⟨h.h.other (by show B + 1 ≠ bh; omega) _, h.f.other (by show B + 1 ≠ bf; omega) _, h.y.other (by show B + 1 ≠ B; omega) _, h.l.set1 _, h.d.other (by show B + 1 ≠ B + 1 + 1; omega) _⟩
def noS : Nat → Prop := fun _ => False
theorem prefix_app {α : Type} {a b c : List α} (h : a ++ b <+: c) : a <+: c := (List.prefix_append a b).trans h
theorem prefix_mid {α : Type} {a b c d : List α} (h : a ++ (b ++ c) <+: d) : a ++ b <+: d := by rw [← List.append_assoc] at h; exact prefix_app h
/-- What the closure hands back, and leaves. -/
def dnPost (l : List HC) (key : Int) (m c : Nat) (p : Int) (J Jx : List Int → World → Prop) (pre : List Int) (n₀ : Nat) (W : World) (R : Option Addr) (n q : Nat) (keep : Int) (bh bf B r : Nat) (e : Ending) (W' : World) : Prop :=
  (e = .returned (.bool (dn l key m c p).ok) ∧ J (pre ++ (dn l key m c p).ys) W' ∧ MemN W' R n q keep key bh bf B r (dn l key m c p).left ∧ Kw n₀ noS W W') ∨
  (e = .returned (.bool false) ∧ ∃ u, u <+: pre ++ (dn l key m c p).ys ∧ Jx u W')
theorem dn_no {l : List HC} {key : Int} {m c : Nat} {p : Int} (h : usedC l p = false ∨ c = 0) : dn l key (m + 1) c p = ⟨[], c, false⟩ := by
  unfold dn
  rw [if_neg]
  rcases h with h | h
  · rw [h]; simp
  · subst h; simp
theorem dn_leaf {l : List HC} {key : Int} {m c k : Nat} (hk : k < l.length) (h : 0 < l[k].ref) (hc : c ≠ 0) (hl : l[k].leaf = true) : dn l key (m + 1) c (k : Int) = ⟨[(k : Int)], c - 1, true⟩ := by
  unfold dn
  rw [cellT_at hk, usedC_at hk, decide_eq_true h, decide_eq_true hc, hl]
  rfl
theorem dn_other {l : List HC} {key : Int} {m c k : Nat} (hk : k < l.length) (h : 0 < l[k].ref) (hc : c ≠ 0) (hl : l[k].leaf = false) : dn l key (m + 1) c (k : Int) =
    ⟨(k : Int) :: (dnRow (dn l key m) (c - 1) (fromT l[k].it false key)).ys, (dnRow (dn l key m) (c - 1) (fromT l[k].it false key)).left, (dnRow (dn l key m) (c - 1) (fromT l[k].it false key)).ok⟩ := by
  conv => lhs; unfold dn
  rw [cellT_at hk, usedC_at hk, decide_eq_true h, decide_eq_true hc, hl]
  rfl
/-- Where the closure is walked: the heap's cells as they lay at first, the boxes, what a round keeps, and what is said of what was yielded. -/
structure DnC (l : List HC) (R : Option Addr) (n q : Nat) (keep key : Int) (A : Nat → Option Addr) (C : Nat → Nat) (bh bf B r : Nat) (w0 : World) (S : Nat → Prop) (L : List Int) (J Jx : List Int → World → Prop) : Prop where
  hl : AllR l
  hA : Lie w0 R l A C
  hnl : n = l.length
  h0B : w0.heap.size ≤ B
  hbh : bh < B
  hbf : bf < B
  s : S bh ∧ S bf ∧ S B ∧ S (B + 1) ∧ S (B + 1 + 1)
  hJ : Stays B 3 J
  hY : ∀ pre p W m, J pre W → B + 3 ≤ W.heap.size → pre ++ [p] <+: L → YieldAt Fence.wide m Tryz.prog r #[.int .i64 p, NV l A C p] W fun e W' => Kw w0.heap.size S W W' ∧
      ((e = .returned (.bool true) ∧ J (pre ++ [p]) W') ∨ (e = .returned (.bool false) ∧ Jx (pre ++ [p]) W'))
def DnOk (l : List HC) (R : Option Addr) (n q : Nat) (keep key : Int) (bh bf B r : Nat) (w0 : World) (L : List Int) (J Jx : List Int → World → Prop) (m : Nat) : Prop :=
  ∀ (c : Nat) (p : Int) (pre : List Int) (d : Nat) (W : World), 1 ≤ d → c < m → c ≤ 2000 → Ext w0 W → MemN W R n q keep key bh bf B r c → J pre W → B + 3 ≤ W.heap.size → pre ++ (dn l key m c p).ys <+: L →
    CallsIn Fence.wide d Tryz.prog 145 #[.int .i64 p, .pointer (some ⟨bh, 0, none⟩), .pointer (some ⟨B + 1, 0, none⟩), .pointer (some ⟨B, 0, none⟩), .pointer (some ⟨bf, 0, none⟩), .pointer (some ⟨B + 1 + 1, 0, none⟩)] W
      (dnPost l key m c p J Jx pre w0.heap.size W R n q keep bh bf B r)
set_option maxRecDepth 100000 in
set_option maxHeartbeats 800000 in
theorem dn_a (l : List HC) (R : Option Addr) (n q : Nat) (keep key : Int) (A : Nat → Option Addr) (C : Nat → Nat) (bh bf B r : Nat) (w0 : World) (S : Nat → Prop) (L : List Int) (J Jx : List Int → World → Prop) (D : DnC l R n q keep key A C bh bf B r w0 S L J Jx) (m c : Nat) (p : Int) (pre : List Int) (d : Nat) (W : World) (hd : 1 ≤ d) (hx : Ext w0 W) (hM : MemN W R n q keep key bh bf B r c) (hJ0 : J pre W) (hz : B + 3 ≤ W.heap.size) (hu : usedC l p = false) :
    CallsIn Fence.wide d Tryz.prog 145 #[.int .i64 p, .pointer (some ⟨bh, 0, none⟩), .pointer (some ⟨B + 1, 0, none⟩), .pointer (some ⟨B, 0, none⟩), .pointer (some ⟨bf, 0, none⟩), .pointer (some ⟨B + 1 + 1, 0, none⟩)] W
      (dnPost l key (m + 1) c p J Jx pre w0.heap.size W R n q keep bh bf B r) := by
  have HM := Lib.hid hM
  have HX := Lib.hid hx
  have HJ0 := Lib.hid hJ0
  have HZ := Lib.hid hz
  have HDC := Lib.hid D
  have HUS := Lib.hid (fun W1 (h1 : Ext W W1) => treeUsed_any R l n q keep p A C W1 D.hl D.hnl (D.hA.ext (hx.trans h1)))
  obtain ⟨p0, p1, p2⟩ := hM.h.bx.read2
  rw [show usedV l A C p = .agg #[.bool false, .slice none 0 0] from by unfold usedV; rw [hu]; rfl, hu] at HUS
  have HD := Lib.hid (dn_no (l := l) (key := key) (m := m) (c := c) (p := p) (.inl hu))
  clear hM hx hJ0 hz hu D
  refine callsIn_of_wp Tryz.func145 rfl trivial ?_ rfl
  simp only [Tryz.ntmps145, List.size_toArray, List.length_cons, List.length_nil, Nat.reduceAdd, Nat.reduceSub, Array.replicate_succ, Array.replicate_zero, List.push_toArray, List.append_toArray, List.nil_append, List.cons_append]
  gi_wp2_with (refine ⟨trivial, ?_⟩; gi_at_call 89; refine stop_here ?_)
  refine stop_on ?_
  refine (callsIn_wide.2 (HUS.out _ (Ext.refl _))).mono ?_
  rintro e w1 ⟨rfl, hx1⟩
  have HX1 := Lib.hid hx1
  clear hx1
  gi_wp2
  refine ⟨nofun, ?_⟩
  gi_wp2
  go_ret
  have hxa := HX1.out.alloc (.cells #[.bool false, .slice none 0 0] 59)
  refine .inl ⟨by rw [HD.out]; rfl, ?_, by rw [HD.out]; exact HM.out.ext hxa, Kw.ext _ hxa HX.out.size⟩
  rw [HD.out, List.append_nil]
  exact HDC.out.hJ _ _ _ HJ0.out (.ext hxa)
set_option maxRecDepth 100000 in
set_option maxHeartbeats 800000 in
theorem dn_b (l : List HC) (R : Option Addr) (n q : Nat) (keep key : Int) (A : Nat → Option Addr) (C : Nat → Nat) (bh bf B r : Nat) (w0 : World) (S : Nat → Prop) (L : List Int) (J Jx : List Int → World → Prop) (D : DnC l R n q keep key A C bh bf B r w0 S L J Jx) (m c : Nat) (p : Int) (pre : List Int) (d : Nat) (W : World) (hd : 1 ≤ d) (hx : Ext w0 W) (hM : MemN W R n q keep key bh bf B r c) (hJ0 : J pre W) (hz : B + 3 ≤ W.heap.size) (hu : usedC l p = true) (hc : c = 0) :
    CallsIn Fence.wide d Tryz.prog 145 #[.int .i64 p, .pointer (some ⟨bh, 0, none⟩), .pointer (some ⟨B + 1, 0, none⟩), .pointer (some ⟨B, 0, none⟩), .pointer (some ⟨bf, 0, none⟩), .pointer (some ⟨B + 1 + 1, 0, none⟩)] W
      (dnPost l key (m + 1) c p J Jx pre w0.heap.size W R n q keep bh bf B r) := by
  have HM := Lib.hid hM
  have HX := Lib.hid hx
  have HJ0 := Lib.hid hJ0
  have HZ := Lib.hid hz
  have HDC := Lib.hid D
  have HUS := Lib.hid (fun W1 (h1 : Ext W W1) => treeUsed_any R l n q keep p A C W1 D.hl D.hnl (D.hA.ext (hx.trans h1)))
  obtain ⟨p0, p1, p2⟩ := hM.h.bx.read2
  subst hc
  obtain ⟨k, hk, rfl, hrf⟩ := usedC_iff hu
  rw [show usedV l A C (k : Int) = .agg #[.bool l[k].leaf, .slice (A k) l[k].it.length (C k)] from by unfold usedV NV; rw [hu, cellT_at hk, Int.toNat_natCast]; rfl, hu] at HUS
  have HD := Lib.hid (dn_no (l := l) (key := key) (m := m) (c := 0) (p := (k : Int)) (.inr rfl))
  have HLT := Lib.hid (fun W1 (h1 : Ext W W1) => (hM.l.below h1).bx.at 0 _ rfl)
  have HLF := Lib.hid (fun W1 (h1 : Ext W W1) => (hM.l.below h1).lt)
  clear hM hx hJ0 hz hu D hrf
  generalize l[k] = x at *
  refine callsIn_of_wp Tryz.func145 rfl trivial ?_ rfl
  simp only [Tryz.ntmps145, List.size_toArray, List.length_cons, List.length_nil, Nat.reduceAdd, Nat.reduceSub, Array.replicate_succ, Array.replicate_zero, List.push_toArray, List.append_toArray, List.nil_append, List.cons_append]
  gi_wp2_with (refine ⟨trivial, ?_⟩; gi_at_call 89; refine stop_here ?_)
  refine stop_on ?_
  refine (callsIn_wide.2 (HUS.out _ (Ext.refl _))).mono ?_
  rintro e w1 ⟨rfl, hx1⟩
  have HXA := Lib.hid (hx1.alloc (.cells #[.bool x.leaf, .slice (A k) x.it.length (C k)] 59))
  have c0 := HLT.out _ HXA.out
  have c1 := HLT.out _ hx1
  have c2 := HLF.out _ hx1
  clear hx1
  gi_wp2
  refine ⟨nofun, ?_⟩
  gi_wp2
  go_ret
  refine .inl ⟨by rw [HD.out]; rfl, ?_, by rw [HD.out]; exact HM.out.ext HXA.out, Kw.ext _ HXA.out HX.out.size⟩
  rw [HD.out, List.append_nil]
  exact HDC.out.hJ _ _ _ HJ0.out (.ext HXA.out)
end Go.Proofs.YtjbfopnkeclfgaaGreat
