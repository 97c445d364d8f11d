/- The closure in Right of package tree, that calls itself. -/
import Derived.Test.YthlencnlgnbpaaaTreeK
import Derived.Deep.AppendLies
import Derived.Deep.RegionHeld3
import Derived.Deep.DeepCutAuto
import Derived.Deep.DrawnRows
import Derived.RegionTactic
import Derived.StillTailTactics
namespace Go.Proofs.Ythlencnlgnbpaaa
open Go.RowKit

theorem chk_no {l : List HC} {k : Nat} {x : It} {e : Int} (h : usedC l x.2 = false) : chk l (k + 1) x e = false := by unfold chk; rw [h]; rfl
theorem chk_is {l : List HC} {k j : Nat} {xa e : Int} (hj : j < l.length) (hr : 0 < l[j].ref) : chk l (k + 1) (xa, (j : Int)) e = ((l[j].leaf == decide (k = 0)) && (decide (firstK l[j].it = xa) && (decide (lastK l[j].it < e) &&
      (l[j].leaf || (List.range l[j].it.length).all (fun i => chk l k (l[j].it.getD i (0, 0)) (nextT l[j].it i e)))))) := by
  conv => lhs; unfold chk
  simp only
  rw [cellT_at hj, usedC_at hj, decide_eq_true hr, Bool.true_and]
/-- Where the closure is walked. -/
structure RtC (l : List HC) (R : Option Addr) (n q : Nat) (keep : Int) (A : Nat → Option Addr) (C : Nat → Nat) (bh bt : Nat) (w0 : World) : Prop where
  hl : AllR l
  hA : Lie w0 R l A C
  hnl : n = l.length
  h : Bx w0 bh #[.slice R n q, .int .i64 keep]
  t : Bx w0 bt #[.func (.func 31) #[] #[.pointer (some ⟨bh, 0, none⟩), .pointer (some ⟨bt, 0, none⟩)]]
def RtOk (l : List HC) (bh bt : Nat) (w0 : World) (k : Nat) : Prop := ∀ (x : It) (e : Int) (W : World), Ext w0 W →
  Calls Try.prog 31 #[.agg #[.int .i64 x.1, .int .i64 x.2], .int .i64 k, .int .i64 e, .pointer (some ⟨bh, 0, none⟩), .pointer (some ⟨bt, 0, none⟩)] W fun r W' => r = .returned (.bool (chk l k x e)) ∧ Ext W W'
set_option maxRecDepth 100000 in
set_option maxHeartbeats 800000 in
theorem rt_step (l : List HC) (R : Option Addr) (n q : Nat) (keep : Int) (A : Nat → Option Addr) (C : Nat → Nat) (bh bt : Nat) (w0 : World) (D : RtC l R n q keep A C bh bt w0) (k : Nat) (hk20 : k + 1 ≤ 20) (ih : 0 < k → RtOk l bh bt w0 k) : RtOk l bh bt w0 (k + 1) := by
  rintro ⟨xa, xb⟩ e W hx
  have HX := Lib.hid hx
  have HUS := Lib.hid (fun W1 (h1 : Ext W W1) => treeUsed_any R l n q keep xb A C W1 D.hl D.hnl (D.hA.ext (hx.trans h1)))
  obtain ⟨W1, hW1⟩ : ∃ W1, W.alloc (.cells #[.int .i64 xa, .int .i64 xb] 49) = W1 := ⟨_, rfl⟩
  obtain ⟨hx1, hb1⟩ := allocs1 hW1
  have HX1 := Lib.hid hx1
  have HB1 := Lib.hid hb1
  obtain ⟨i0, i1, i2⟩ := hb1.read2
  obtain ⟨p0, p1, p2⟩ := (D.h.ext (hx.trans hx1)).read2
  cases hu : usedC l xb
  · rw [show usedV l A C xb = .agg #[.bool false, .slice none 0 0] from by unfold usedV; rw [hu]; rfl, hu] at HUS
    have HC := Lib.hid (chk_no (l := l) (k := k) (x := (xa, xb)) (e := e) hu)
    clear hu hx hx1 hb1 D ih
    go_enter Try.func31, Try.ntmps31
    go_wp2_with (go_at_call 32; refine stop_here ?_)
    refine stop_on ?_
    refine (HUS.out _ HX1.out).mono ?_
    rintro r w1 ⟨rfl, hx2⟩
    have HX2 := Lib.hid (HX1.out.trans (hx2.alloc (.cells #[.bool false, .slice none 0 0] 53)))
    clear hx2
    go_wp2
    go_quiet (fail)
    go_wp2
    go_ret
    exact ⟨ret_bool HC.out.symm, HX2.out.drewN _⟩
  obtain ⟨j, hj, rfl, hrf⟩ := usedC_iff hu
  have hok := cell_ok (D.hl j hj) hrf
  have HNV := Lib.hid (show NV l A C (j : Int) = .agg #[.bool l[j].leaf, .slice (A j) l[j].it.length (C j)] from by unfold NV; rw [cellT_at hj, Int.toNat_natCast])
  rw [show usedV l A C (j : Int) = .agg #[.bool l[j].leaf, .slice (A j) l[j].it.length (C j)] from by unfold usedV; rw [hu]; exact HNV.out, hu] at HUS
  have HC := Lib.hid (chk_is (k := k) (xa := xa) (e := e) hj hrf)
  obtain ⟨_, _, hRe, _, _, hI⟩ := D.hA j hj
  clear hRe HNV hu hrf
  have HRT := Lib.hid (And.intro D.h D.t)
  have IH := Lib.hid ih
  generalize l[j] = x at *
  obtain ⟨xr, xp, lf, it⟩ := x
  simp only at HUS HC hI hok
  have HND := Lib.hid hok.1
  have h4 := hok.1.1.2
  obtain ⟨m, hm⟩ : ∃ m, it.length = m + 1 := ⟨it.length - 1, by have := hok.1.1.1; omega⟩
  have hF : firstK it = (it[0]'(by omega)).1 := firstK_at (by omega)
  have hG : lastK it = (it[m]'(by omega)).1 := by
    have h1 := lastK_at (it := it) (by omega)
    simp only [hm, Nat.add_sub_cancel] at h1
    exact h1
  obtain ⟨bb, off, hAe, hbb, hc⟩ := hI.cells.it (k := 0) (by omega)
  have g0 := (hc 0 (by omega)).1
  have gm := (hc m (by omega)).1
  rw [← hF] at g0
  rw [← hG] at gm
  rw [show off + 0 * 2 = off by omega] at g0
  have HS := Lib.hid hI
  have HLEN := Lib.hid hm
  have HRG := Lib.hid (fun (h : ∀ i, i < m + 1 → chk l k (it.getD i (0, 0)) (nextT it i e) = true) => (show (List.range (m + 1)).all (fun i => chk l k (it.getD i (0, 0)) (nextT it i e)) = true from range_all.2 h))
  have HRN := Lib.hid (fun i (hi : i < m + 1) (h : chk l k (it.getD i (0, 0)) (nextT it i e) = false) => (show (List.range (m + 1)).all (fun i => chk l k (it.getD i (0, 0)) (nextT it i e)) = false from by
    cases hh : (List.range (m + 1)).all (fun i => chk l k (it.getD i (0, 0)) (nextT it i e))
    · rfl
    · rw [range_all.1 hh i hi] at h; cases h))
  rw [hm] at HUS HC hI HS h4
  rw [hAe] at HUS HS
  generalize firstK it = F at *
  generalize lastK it = G at *
  clear hF hG hc hok hAe hm
  have hm4 : m ≤ 3 := by omega
  have HWX := Lib.hid hx
  clear hx1 hb1 D ih hI hx h4
  go_enter Try.func31, Try.ntmps31
  go_wp2_with (go_at_call 32; refine stop_here ?_)
  refine stop_on ?_
  refine (HUS.out _ HX1.out).mono ?_
  rintro r w1 ⟨rfl, hx2⟩
  obtain ⟨W3, hW3⟩ : ∃ W3, w1.alloc (.cells #[.bool lf, .slice (some ⟨bb, off, none⟩) (m + 1) (C j)] 53) = W3 := ⟨_, rfl⟩
  obtain ⟨hx3, hb3⟩ := allocs1 hW3
  have HX3 := Lib.hid (HX1.out.trans (hx2.trans hx3))
  have HB3 := Lib.hid hb3
  have HBI := Lib.hid (HB1.out.ext (hx2.trans hx3))
  obtain ⟨n0, n1, n2⟩ := hb3.read2
  obtain ⟨i0, i1, i2⟩ := HBI.out.read2
  have g1 := ((HWX.out.trans HX3.out).cell (p := ⟨bb, off, none⟩) hbb).trans g0
  have g2 := ((HWX.out.trans HX3.out).cell (p := ⟨bb, off + m * 2, none⟩) hbb).trans gm
  clear hx2 hx3 hb3 g0 gm hbb p0 p1 p2 HUS HB1
  have e1 : ((m + 1 : Nat) : Int) - 1 = (m : Int) := by omega
  have e2 : (m : Int) < ((m + 1 : Nat) : Int) := by omega
  have e3 : (0 : Int) < ((m + 1 : Nat) : Int) := by omega
  rcases Nat.eq_zero_or_pos k with hk0 | hk0
  · subst hk0
    cases lf
    · have HCF := Lib.hid (show chk l (0 + 1) (xa, (j : Int)) e = false from by rw [HC.out]; rfl)
      clear HC HRG HRN
      go_wp2
      go_quiet (fail)
      go_wp2
      go_ret
      exact ⟨ret_bool HCF.out.symm, HX3.out.drewN _⟩
    by_cases h1 : F = xa
    rotate_left
    · have t1 : (F != xa) = true := bne_iff_ne.2 h1
      have HCF := Lib.hid (show chk l (0 + 1) (xa, (j : Int)) e = false from by rw [HC.out, decide_eq_false h1]; rfl)
      clear HC HRG HRN h1
      go_wp2
      go_quiet (fail)
      go_wp2
      go_ret
      exact ⟨ret_bool HCF.out.symm, HX3.out.drewN _⟩
    have t1 : (F != xa) = false := by simp [h1]
    by_cases h2 : e ≤ G
    · have t2 : decide (e ≤ G) = true := decide_eq_true h2
      have HCF := Lib.hid (show chk l (0 + 1) (xa, (j : Int)) e = false from by rw [HC.out, decide_eq_true h1, decide_eq_false (show ¬ G < e by omega)]; rfl)
      clear HC HRG HRN h1 h2
      go_wp2
      go_quiet (fail)
      go_wp2
      go_ret
      exact ⟨ret_bool HCF.out.symm, HX3.out.drewN _⟩
    have t2 : decide (e ≤ G) = false := decide_eq_false h2
    have HCF := Lib.hid (show chk l (0 + 1) (xa, (j : Int)) e = true from by rw [HC.out, decide_eq_true h1, decide_eq_true (show G < e by omega)]; rfl)
    clear HC HRG HRN h1 h2
    go_wp2
    go_quiet (fail)
    go_wp2
    go_ret
    exact ⟨ret_bool HCF.out.symm, HX3.out.drewN _⟩
  obtain ⟨k1, rfl⟩ : ∃ k1, k = k1 + 1 := ⟨k - 1, by omega⟩
  have t0 : (((k1 : Int) + 1 + 1) == 1) = false := by rw [beq_eq_false_iff_ne]; omega
  cases lf
  rotate_left
  · have HCF := Lib.hid (show chk l (k1 + 1 + 1) (xa, (j : Int)) e = false from by rw [HC.out]; rfl)
    clear HC HRG HRN
    go_wp2
    go_quiet (fail)
    go_wp2
    go_ret
    exact ⟨ret_bool HCF.out.symm, HX3.out.drewN _⟩
  by_cases h1 : F = xa
  rotate_left
  · have t1 : (F != xa) = true := bne_iff_ne.2 h1
    have HCF := Lib.hid (show chk l (k1 + 1 + 1) (xa, (j : Int)) e = false from by rw [HC.out, decide_eq_false h1]; rfl)
    clear HC HRG HRN h1
    go_wp2
    go_quiet (fail)
    go_wp2
    go_ret
    exact ⟨ret_bool HCF.out.symm, HX3.out.drewN _⟩
  have t1 : (F != xa) = false := by simp [h1]
  by_cases h2 : e ≤ G
  · have t2 : decide (e ≤ G) = true := decide_eq_true h2
    have HCF := Lib.hid (show chk l (k1 + 1 + 1) (xa, (j : Int)) e = false from by rw [HC.out, decide_eq_true h1, decide_eq_false (show ¬ G < e by omega)]; rfl)
    clear HC HRG HRN h1 h2
    go_wp2
    go_quiet (fail)
    go_wp2
    go_ret
    exact ⟨ret_bool HCF.out.symm, HX3.out.drewN _⟩
  have t2 : decide (e ≤ G) = false := decide_eq_false h2
  have HCT := Lib.hid (show chk l (k1 + 1 + 1) (xa, (j : Int)) e = (List.range (m + 1)).all (fun i => chk l (k1 + 1) (it.getD i (0, 0)) (nextT it i e)) from by rw [HC.out, decide_eq_true h1, decide_eq_true (show G < e by omega)]; rfl)
  clear HC h1 h2
  go_wp2
  go_quiet (fail)
  go_wp2
  have HXN := Lib.hid (show Ext W (W3.drewN nq) from HX3.out.drewN _)
  have HBN := Lib.hid (show Bx (W3.drewN nq) w1.heap.size #[.bool false, .slice (some ⟨bb, off, none⟩) (m + 1) (C j)] from HB3.out)
  generalize W3.drewN nq = W5 at *
  clear HX3 HB3 HBI n0 n1 n2 i0 i1 i2 g1 g2 hW3 t0 t1 t2 e1 e2 e3
  go_loopw [57] (fun v wr => ∃ i : Nat, i ≤ m + 1 ∧ v = .int .i64 i ∧ (Ext W wr ∧ Bx wr w1.heap.size #[.bool false, .slice (some ⟨bb, off, none⟩) (m + 1) (C j)]) ∧ ∀ a, a < i → chk l (k1 + 1) (it.getD a (0, 0)) (nextT it a e) = true) (fun v _ => m + 1 - (intOf v).toNat)
  case atStart => exact ⟨0, Nat.zero_le _, rfl, ⟨HXN.out, HBN.out⟩, fun a ha => absurd ha (Nat.not_lt_zero a)⟩
  case round =>
    obtain ⟨i, hi, rfl, ⟨hx, hb⟩, hall⟩ := hrel
    have HXR := Lib.hid hx
    have HBR := Lib.hid hb
    have HAL := Lib.hid hall
    clear hall hb hx
    rcases Nat.lt_or_ge i (m + 1) with hlt | hlt
    rotate_left
    · obtain rfl : i = m + 1 := by omega
      have HCF := Lib.hid (HCT.out.trans (HRG.out HAL.out))
      clear hlt hi HCT HRG HRN
      go_wp2
      go_ret
      exact ⟨ret_bool HCF.out.symm, HXR.out⟩
    have hil : i < it.length := by rw [HLEN.out]; exact hlt
    obtain ⟨b2, off2, he2, hb2, a0, a1⟩ := it_at HS.out hil
    cases he2
    have i0 := ((HWX.out.trans HXR.out).cell (p := ⟨bb, off + i * 2, none⟩) hb2).trans a0
    have i1 := ((HWX.out.trans HXR.out).cell (p := ⟨bb, off + i * 2 + 1, none⟩) hb2).trans a1
    have HNX := Lib.hid (fun w' (h : Ext w0 w') => treeNext_any (some ⟨bb, off, none⟩) it (m + 1) (C j) i e w' HLEN.out.symm hlt (HS.out.ext h) (by omega))
    have HIC := Lib.hid (fun w' (h : Ext w0 w') => IH.out (Nat.succ_pos _) it[i] (nextT it i e) w' h)
    have HGD := Lib.hid (getD_at hil)
    have HRNI := Lib.hid (fun h => HCT.out.trans (HRN.out i hlt h))
    rw [HGD.out] at HRNI
    have HALS := Lib.hid (fun (h : chk l (k1 + 1) it[i] (nextT it i e) = true) => (show ∀ a, a < i + 1 → chk l (k1 + 1) (it.getD a (0, 0)) (nextT it a e) = true from fun a ha => by
      rcases Nat.lt_or_ge a i with h' | h'
      · exact HAL.out a h'
      · obtain rfl : a = i := by omega
        rw [HGD.out]; exact h))
    obtain ⟨y, hye⟩ : ∃ y, it[i] = y := ⟨_, rfl⟩
    rw [hye] at i0 i1 HIC HRNI HALS
    clear a0 a1 hye hil HGD HAL HCT HRG HRN hb2
    obtain ⟨ya, yb⟩ := y
    simp only at i0 i1 HIC
    obtain ⟨nx, hnx⟩ : ∃ nx, nextT it i e = nx := ⟨_, rfl⟩
    rw [hnx] at HNX HIC HRNI HALS
    clear hnx
    have hii : (i : Int) < (m : Int) + 1 := by omega
    have hii2 : (i : Int) < ((m + 1 : Nat) : Int) := by omega
    obtain ⟨W6, hW6⟩ : ∃ W6, wr.alloc (.cells #[.int .i64 ya, .int .i64 yb] 49) = W6 := ⟨_, rfl⟩
    obtain ⟨hx6, hb6⟩ := allocs1 hW6
    have HX6 := Lib.hid (HXR.out.trans hx6)
    have HB6 := Lib.hid (HBR.out.ext hx6)
    have HX0 := Lib.hid (HWX.out.trans HX6.out)
    obtain ⟨n0, n1, n2⟩ := HB6.out.read2
    obtain ⟨y0, y1, y2⟩ := hb6.read2
    have q0 := (HRT.out.2.ext HX0.out).at 0 _ rfl
    have q1 := (HRT.out.2.ext HX0.out).lt
    clear hx6 hb6
    go_wp2
    go_still_tail 9, (by kernel_rfl)
    still_call (HNX.out _ HX0.out.drew)
    refine wpStill_nil ?_
    change wpList _ _ _ _ _ W6.drew
    go_wp2_with (go_at_call 31; refine stop_here ?_)
    refine stop_on ?_
    refine (HIC.out _ HX0.out.drew).mono ?_
    rintro r w7 ⟨rfl, hx7⟩
    have HX7 := Lib.hid (HX6.out.drew.trans hx7)
    have HB7 := Lib.hid ((show Bx W6.drew w1.heap.size _ from HB6.out).ext hx7)
    clear hx7
    obtain ⟨o, ho⟩ : ∃ o, chk l (k1 + 1) (ya, yb) nx = o := ⟨_, rfl⟩
    rw [ho]
    cases o
    · have HCF := Lib.hid (HRNI.out ho)
      clear ho HALS HRNI HIC HNX
      go_wp2
      go_ret
      exact ⟨ret_bool HCF.out.symm, HX7.out⟩
    · have HAN := Lib.hid (HALS.out ho)
      clear ho HALS HRNI HIC HNX
      go_wp2
      go_roundw
      case rel => exact ⟨i + 1, by omega, by go_num, ⟨HX7.out, HB7.out⟩, HAN.out⟩
      case measure => simp [intOf]; omega
theorem rt_all (l : List HC) (R : Option Addr) (n q : Nat) (keep : Int) (A : Nat → Option Addr) (C : Nat → Nat) (bh bt : Nat) (w0 : World) (D : RtC l R n q keep A C bh bt w0) : ∀ k, k + 1 ≤ 20 → RtOk l bh bt w0 (k + 1)
  | 0, h => rt_step l R n q keep A C bh bt w0 D 0 h (fun h => absurd h (Nat.lt_irrefl 0))
  | k + 1, h => rt_step l R n q keep A C bh bt w0 D (k + 1) h (fun _ => rt_all l R n q keep A C bh bt w0 D k (by omega))
end Go.Proofs.Ythlencnlgnbpaaa
