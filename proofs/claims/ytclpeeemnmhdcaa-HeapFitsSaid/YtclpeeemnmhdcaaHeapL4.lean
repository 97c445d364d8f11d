/- The walk of HeapFits. -/
import Derived.Test.YtclpeeemnmhdcaaHeapN
import Derived.Test.YtclpeeemnmhdcaaHeapQ
import Derived.Deep.AppendLies
import Derived.Deep.RegionHeld3
import Derived.Deep.DeepCutAuto
import Derived.Deep.DrawnRows
import Derived.RegionTactic
namespace Go.Proofs.Ytclpeeemnmhdcaa
open Go.RowKit
attribute [local go_sem ↓] Go.wp_at_zero Go.wp_at_succ

attribute [local go_sem] beq_self_eq_true bne_self_eq_false
theorem ref04Right_is (leaf : Bool) (A : Option Addr) (it : List It) (m c : Nat) (w : World) (hm : m = it.length) (hA : Sl w A m c (ivs it)) {r : Bool} (h : ndR it = r) :
    Calls Try.prog 32 #[.agg #[.bool leaf, .slice A m c]] w fun e w' => e = .returned (.bool r) ∧ Ext w w' := by subst h; exact ref04Right_any leaf A it m c w hm hA
def zeroC (c : HC) : Bool := decide (c.ref = 0)
theorem settle_free (l : List HC) (keep : Int) : (settleH ⟨l, keep⟩).c.countP freeC = l.countP zeroC := by
  unfold settleH
  simp only [List.countP_map]
  congr 1
  funext c
  simp [freeC, zeroC]
theorem settle_right {l : List HC} {keep : Int} (h : rightH ⟨l, keep⟩ = true) : rightH ⟨(settleH ⟨l, keep⟩).c, keep⟩ = true := by
  obtain ⟨h1, h2⟩ := rightH_iff h
  have hl : (settleH ⟨l, keep⟩).c.length = l.length := by unfold settleH; simp
  refine rightH_yes (by rw [hl]; exact h1) fun k hk => ?_
  have hk' : k < l.length := by rw [← hl]; exact hk
  have h3 := h2 k hk'
  rw [hl]
  have e : (settleH ⟨l, keep⟩).c[k] = ⟨l[k].ref, false, l[k].leaf, l[k].it⟩ := List.getElem_map (f := fun c : HC => (⟨c.ref, false, c.leaf, c.it⟩ : HC)) (l := l) (h := hk)
  rw [e]
  unfold cellR at h3 ⊢
  simp only at h3 ⊢
  split
  · rename_i e0
    rw [if_pos e0] at h3
    exact h3
  · rename_i e0
    rw [if_neg e0] at h3
    simp only [Bool.and_eq_true, Bool.not_eq_true'] at h3 ⊢
    exact ⟨h3.1, h3.2.1, by first | rfl | trivial, h3.2.2.2⟩
theorem settle_may {l : List HC} {keep : Int} (h : mayH ⟨l, keep⟩ 60 = true) : mayH ⟨(settleH ⟨l, keep⟩).c, keep⟩ 60 = true := by
  refine may_of ?_ (settle_right (may_iff h).2.2)
  have h1 := may_small h
  unfold smallH settleH at *
  simp only [List.length_map, List.all_map] at h1 ⊢
  exact h1
theorem settle_twice (l : List HC) (keep : Int) : (settleH ⟨(settleH ⟨l, keep⟩).c, keep⟩).c = (settleH ⟨l, keep⟩).c := by
  unfold settleH
  simp
theorem alloc_free {l : List HC} {keep : Int} {it : List It} (h : rightH ⟨l, keep⟩ = true) (hr : ndR it = true) : (allocE l true it == 0) = decide ((1 : Int) ≤ (l.countP freeC : Nat)) := by
  have hf := first_idx (l := l) (fun k hk => (right_ref h k hk).1)
  have hg : (ndR it && leadsC l true it) = true := by rw [hr]; rfl
  have hc := List.countP_pos_iff (p := freeC) (l := l)
  rcases hf with ⟨h1, h2⟩ | ⟨h1, h2⟩
  · rw [(alloc_full (held := []) hg h1).1]
    have h0 : l.countP freeC = 0 := by
      rcases Nat.eq_zero_or_pos (l.countP freeC) with h' | h'
      · exact h'
      · obtain ⟨c, hc1, hc2⟩ := hc.1 h'
        unfold idxBy at h2
        rw [if_pos (List.any_eq_true.2 ⟨c, hc1, hc2⟩)] at h2
        omega
    rw [h0]
    rfl
  · rw [(alloc_ok (held := []) hg h1 rfl).1]
    have h0 : 0 < l.countP freeC := by
      unfold idxBy at h2
      split at h2
      · rename_i h3
        obtain ⟨c, hc1, hc2⟩ := List.any_eq_true.1 h3
        exact hc.2 ⟨c, hc1, hc2⟩
      · omega
    rw [decide_eq_true (by omega)]
    rfl
theorem fits_deep (l : List HC) (keep n : Int) : fitsH ⟨l, keep⟩ n true = decide (n ≤ (l.countP freeC : Nat)) := by unfold fitsH freeH; simp
theorem fits_flat (l : List HC) (keep n : Int) : fitsH ⟨l, keep⟩ n false = decide (n ≤ ((l.countP freeC : Nat) : Int) - keep) := by unfold fitsH freeH; simp
set_option maxRecDepth 100000 in
set_option maxHeartbeats 8000000 in
theorem fits_any (R : Option Addr) (l : List HC) (n q : Nat) (keep x : Int) (leaf : Bool) (A : Option Addr) (it : List It) (m c : Nat) (w : World) (hA : HcSl w R n q l) (hm : m = it.length) (hI : Sl w A m c (ivs it)) :
    Calls Try.prog 6 #[.agg #[.slice R n q, .int .i64 keep], .int .i64 x, .agg #[.bool leaf, .slice A m c]] w fun e w' => e = .returned (.bool true) ∧ Ext w w' := by
  have A_1 := Lib.hid (hA)
  have I_2 := Lib.hid (hI)
  have X_3 := Lib.hid (Ext.refl w)
  have HM := Lib.hid hm
  have hn := hA.1
  have HN := Lib.hid hn
  have hml := hI.len
  unfold maxLen at hml
  clear hA hI hm
  cases hr : mayH ⟨l, keep⟩ 60
  · have Hr := Lib.hid hr
    clear hr hn
    go_enter Try.func6, Try.ntmps6
    go_wp2_with (go_at_call 9; refine stop_here ?_)
    refine stop_on ?_
    generalize hW : (World.alloc (World.alloc w _) _) = W4
    obtain ⟨hx, hb0, hb1⟩ := allocs2 hW
    clear hW
    have A_5 := Lib.hid (A_1.out.ext hx)
    have I_5 := Lib.hid (I_2.out.ext hx)
    have X_5 := Lib.hid (X_3.out.ext hx)
    clear A_1 I_2 X_3
    have h_6 := Lib.hid hb0
    have n_7 := Lib.hid hb1
    clear hx hb0 hb1
    refine (shown_any _).mono ?_
    rintro e w8 ⟨rfl, hx⟩
    have A_9 := Lib.hid (A_5.out.ext hx)
    have I_9 := Lib.hid (I_5.out.ext hx)
    have X_9 := Lib.hid (X_5.out.ext hx)
    have h_9 := Lib.hid (h_6.out.ext hx)
    have n_9 := Lib.hid (n_7.out.ext hx)
    clear A_5 I_5 X_5 h_6 n_7
    clear hx
    have qh0 : w8.cell? ⟨w.heap.size, 0, none⟩ = some (.slice R n q) := h_9.out.at 0 _ rfl
    have qh1 : w8.cell? ⟨w.heap.size, 1, none⟩ = some (.int .i64 keep) := h_9.out.at 1 _ rfl
    have zh := h_9.out.lt
    have qn0 : w8.cell? ⟨w.heap.size + 1, 0, none⟩ = some (.bool leaf) := n_9.out.at 0 _ rfl
    have qn1 : w8.cell? ⟨w.heap.size + 1, 1, none⟩ = some (.slice A m c) := n_9.out.at 1 _ rfl
    have zn := n_9.out.lt
    go_wp2_with (go_at_call 21; refine stop_here ?_)
    refine stop_on ?_
    clear qh0 qh1 zh qn0 qn1 zn
    refine (ref05May_is R l n q keep 60 _ A_9.out Hr.out).mono ?_
    rintro e w10 ⟨rfl, hx⟩
    have A_11 := Lib.hid (A_9.out.ext hx)
    have I_11 := Lib.hid (I_9.out.ext hx)
    have X_11 := Lib.hid (X_9.out.ext hx)
    have h_11 := Lib.hid (h_9.out.ext hx)
    have n_11 := Lib.hid (n_9.out.ext hx)
    clear A_9 I_9 X_9 h_9 n_9
    clear hx
    have qh0 : w10.cell? ⟨w.heap.size, 0, none⟩ = some (.slice R n q) := h_11.out.at 0 _ rfl
    have qh1 : w10.cell? ⟨w.heap.size, 1, none⟩ = some (.int .i64 keep) := h_11.out.at 1 _ rfl
    have zh := h_11.out.lt
    have qn0 : w10.cell? ⟨w.heap.size + 1, 0, none⟩ = some (.bool leaf) := n_11.out.at 0 _ rfl
    have qn1 : w10.cell? ⟨w.heap.size + 1, 1, none⟩ = some (.slice A m c) := n_11.out.at 1 _ rfl
    have zn := n_11.out.lt
    go_wp2
    go_ret
    exact ⟨rfl, X_11.out⟩
  have Hr := Lib.hid hr
  obtain ⟨hl60, hcs, hri⟩ := may_iff hr
  have hb : n ≤ 60 := by omega
  have HRI := Lib.hid hri
  have hk9 := (rightH_iff hri).1.2
  have hk8 : 0 ≤ keep ∧ keep ≤ 60 := by omega
  clear hr hcs hl60 hk9
  rcases Nat.lt_or_ge 10 m with hm | hm
  · have dm : decide ((10 : Int) < (m : Int)) = true := decide_eq_true (by omega)
    have em : decide (10 < m) = true := decide_eq_true (by omega)
    clear hn hri
    go_enter Try.func6, Try.ntmps6
    go_wp2_with (go_at_call 9; refine stop_here ?_)
    refine stop_on ?_
    generalize hW : (World.alloc (World.alloc w _) _) = W12
    obtain ⟨hx, hb0, hb1⟩ := allocs2 hW
    clear hW
    have A_13 := Lib.hid (A_1.out.ext hx)
    have I_13 := Lib.hid (I_2.out.ext hx)
    have X_13 := Lib.hid (X_3.out.ext hx)
    clear A_1 I_2 X_3
    have h_14 := Lib.hid hb0
    have n_15 := Lib.hid hb1
    clear hx hb0 hb1
    refine (shown_any _).mono ?_
    rintro e w16 ⟨rfl, hx⟩
    have A_17 := Lib.hid (A_13.out.ext hx)
    have I_17 := Lib.hid (I_13.out.ext hx)
    have X_17 := Lib.hid (X_13.out.ext hx)
    have h_17 := Lib.hid (h_14.out.ext hx)
    have n_17 := Lib.hid (n_15.out.ext hx)
    clear A_13 I_13 X_13 h_14 n_15
    clear hx
    have qh0 : w16.cell? ⟨w.heap.size, 0, none⟩ = some (.slice R n q) := h_17.out.at 0 _ rfl
    have qh1 : w16.cell? ⟨w.heap.size, 1, none⟩ = some (.int .i64 keep) := h_17.out.at 1 _ rfl
    have zh := h_17.out.lt
    have qn0 : w16.cell? ⟨w.heap.size + 1, 0, none⟩ = some (.bool leaf) := n_17.out.at 0 _ rfl
    have qn1 : w16.cell? ⟨w.heap.size + 1, 1, none⟩ = some (.slice A m c) := n_17.out.at 1 _ rfl
    have zn := n_17.out.lt
    go_wp2_with (go_at_call 21; refine stop_here ?_)
    refine stop_on ?_
    clear qh0 qh1 zh qn0 qn1 zn
    refine (ref05May_is R l n q keep 60 _ A_17.out Hr.out).mono ?_
    rintro e w18 ⟨rfl, hx⟩
    have A_19 := Lib.hid (A_17.out.ext hx)
    have I_19 := Lib.hid (I_17.out.ext hx)
    have X_19 := Lib.hid (X_17.out.ext hx)
    have h_19 := Lib.hid (h_17.out.ext hx)
    have n_19 := Lib.hid (n_17.out.ext hx)
    clear A_17 I_17 X_17 h_17 n_17
    clear hx
    have qh0 : w18.cell? ⟨w.heap.size, 0, none⟩ = some (.slice R n q) := h_19.out.at 0 _ rfl
    have qh1 : w18.cell? ⟨w.heap.size, 1, none⟩ = some (.int .i64 keep) := h_19.out.at 1 _ rfl
    have zh := h_19.out.lt
    have qn0 : w18.cell? ⟨w.heap.size + 1, 0, none⟩ = some (.bool leaf) := n_19.out.at 0 _ rfl
    have qn1 : w18.cell? ⟨w.heap.size + 1, 1, none⟩ = some (.slice A m c) := n_19.out.at 1 _ rfl
    have zn := n_19.out.lt
    go_wp2
    go_ret
    exact ⟨rfl, X_19.out⟩
  have dm : decide ((10 : Int) < (m : Int)) = false := decide_eq_false (by omega)
  have em : decide (10 < m) = false := decide_eq_false (by omega)
  cases leaf
  · clear hn hri
    go_enter Try.func6, Try.ntmps6
    go_wp2_with (go_at_call 9; refine stop_here ?_)
    refine stop_on ?_
    generalize hW : (World.alloc (World.alloc w _) _) = W20
    obtain ⟨hx, hb0, hb1⟩ := allocs2 hW
    clear hW
    have A_21 := Lib.hid (A_1.out.ext hx)
    have I_21 := Lib.hid (I_2.out.ext hx)
    have X_21 := Lib.hid (X_3.out.ext hx)
    clear A_1 I_2 X_3
    have h_22 := Lib.hid hb0
    have n_23 := Lib.hid hb1
    clear hx hb0 hb1
    refine (shown_any _).mono ?_
    rintro e w24 ⟨rfl, hx⟩
    have A_25 := Lib.hid (A_21.out.ext hx)
    have I_25 := Lib.hid (I_21.out.ext hx)
    have X_25 := Lib.hid (X_21.out.ext hx)
    have h_25 := Lib.hid (h_22.out.ext hx)
    have n_25 := Lib.hid (n_23.out.ext hx)
    clear A_21 I_21 X_21 h_22 n_23
    clear hx
    have qh0 : w24.cell? ⟨w.heap.size, 0, none⟩ = some (.slice R n q) := h_25.out.at 0 _ rfl
    have qh1 : w24.cell? ⟨w.heap.size, 1, none⟩ = some (.int .i64 keep) := h_25.out.at 1 _ rfl
    have zh := h_25.out.lt
    have qn0 : w24.cell? ⟨w.heap.size + 1, 0, none⟩ = some (.bool false) := n_25.out.at 0 _ rfl
    have qn1 : w24.cell? ⟨w.heap.size + 1, 1, none⟩ = some (.slice A m c) := n_25.out.at 1 _ rfl
    have zn := n_25.out.lt
    go_wp2_with (go_at_call 21; refine stop_here ?_)
    refine stop_on ?_
    clear qh0 qh1 zh qn0 qn1 zn
    refine (ref05May_is R l n q keep 60 _ A_25.out Hr.out).mono ?_
    rintro e w26 ⟨rfl, hx⟩
    have A_27 := Lib.hid (A_25.out.ext hx)
    have I_27 := Lib.hid (I_25.out.ext hx)
    have X_27 := Lib.hid (X_25.out.ext hx)
    have h_27 := Lib.hid (h_25.out.ext hx)
    have n_27 := Lib.hid (n_25.out.ext hx)
    clear A_25 I_25 X_25 h_25 n_25
    clear hx
    have qh0 : w26.cell? ⟨w.heap.size, 0, none⟩ = some (.slice R n q) := h_27.out.at 0 _ rfl
    have qh1 : w26.cell? ⟨w.heap.size, 1, none⟩ = some (.int .i64 keep) := h_27.out.at 1 _ rfl
    have zh := h_27.out.lt
    have qn0 : w26.cell? ⟨w.heap.size + 1, 0, none⟩ = some (.bool false) := n_27.out.at 0 _ rfl
    have qn1 : w26.cell? ⟨w.heap.size + 1, 1, none⟩ = some (.slice A m c) := n_27.out.at 1 _ rfl
    have zn := n_27.out.lt
    go_wp2
    go_ret
    exact ⟨rfl, X_27.out⟩
  cases hnd : ndR it
  · have Hnd := Lib.hid hnd
    clear hn hri hnd
    go_enter Try.func6, Try.ntmps6
    go_wp2_with (go_at_call 9; refine stop_here ?_)
    refine stop_on ?_
    generalize hW : (World.alloc (World.alloc w _) _) = W28
    obtain ⟨hx, hb0, hb1⟩ := allocs2 hW
    clear hW
    have A_29 := Lib.hid (A_1.out.ext hx)
    have I_29 := Lib.hid (I_2.out.ext hx)
    have X_29 := Lib.hid (X_3.out.ext hx)
    clear A_1 I_2 X_3
    have h_30 := Lib.hid hb0
    have n_31 := Lib.hid hb1
    clear hx hb0 hb1
    refine (shown_any _).mono ?_
    rintro e w32 ⟨rfl, hx⟩
    have A_33 := Lib.hid (A_29.out.ext hx)
    have I_33 := Lib.hid (I_29.out.ext hx)
    have X_33 := Lib.hid (X_29.out.ext hx)
    have h_33 := Lib.hid (h_30.out.ext hx)
    have n_33 := Lib.hid (n_31.out.ext hx)
    clear A_29 I_29 X_29 h_30 n_31
    clear hx
    have qh0 : w32.cell? ⟨w.heap.size, 0, none⟩ = some (.slice R n q) := h_33.out.at 0 _ rfl
    have qh1 : w32.cell? ⟨w.heap.size, 1, none⟩ = some (.int .i64 keep) := h_33.out.at 1 _ rfl
    have zh := h_33.out.lt
    have qn0 : w32.cell? ⟨w.heap.size + 1, 0, none⟩ = some (.bool true) := n_33.out.at 0 _ rfl
    have qn1 : w32.cell? ⟨w.heap.size + 1, 1, none⟩ = some (.slice A m c) := n_33.out.at 1 _ rfl
    have zn := n_33.out.lt
    go_wp2_with (go_at_call 21; refine stop_here ?_)
    refine stop_on ?_
    clear qh0 qh1 zh qn0 qn1 zn
    refine (ref05May_is R l n q keep 60 _ A_33.out Hr.out).mono ?_
    rintro e w34 ⟨rfl, hx⟩
    have A_35 := Lib.hid (A_33.out.ext hx)
    have I_35 := Lib.hid (I_33.out.ext hx)
    have X_35 := Lib.hid (X_33.out.ext hx)
    have h_35 := Lib.hid (h_33.out.ext hx)
    have n_35 := Lib.hid (n_33.out.ext hx)
    clear A_33 I_33 X_33 h_33 n_33
    clear hx
    have qh0 : w34.cell? ⟨w.heap.size, 0, none⟩ = some (.slice R n q) := h_35.out.at 0 _ rfl
    have qh1 : w34.cell? ⟨w.heap.size, 1, none⟩ = some (.int .i64 keep) := h_35.out.at 1 _ rfl
    have zh := h_35.out.lt
    have qn0 : w34.cell? ⟨w.heap.size + 1, 0, none⟩ = some (.bool true) := n_35.out.at 0 _ rfl
    have qn1 : w34.cell? ⟨w.heap.size + 1, 1, none⟩ = some (.slice A m c) := n_35.out.at 1 _ rfl
    have zn := n_35.out.lt
    go_wp2_with (go_at_call 32; refine stop_here ?_)
    refine stop_on ?_
    clear qh0 qh1 zh qn0 qn1 zn
    refine (ref04Right_is true A it m c _ HM.out I_35.out Hnd.out).mono ?_
    rintro e w36 ⟨rfl, hx⟩
    have A_37 := Lib.hid (A_35.out.ext hx)
    have I_37 := Lib.hid (I_35.out.ext hx)
    have X_37 := Lib.hid (X_35.out.ext hx)
    have h_37 := Lib.hid (h_35.out.ext hx)
    have n_37 := Lib.hid (n_35.out.ext hx)
    clear A_35 I_35 X_35 h_35 n_35
    clear hx
    have qh0 : w36.cell? ⟨w.heap.size, 0, none⟩ = some (.slice R n q) := h_37.out.at 0 _ rfl
    have qh1 : w36.cell? ⟨w.heap.size, 1, none⟩ = some (.int .i64 keep) := h_37.out.at 1 _ rfl
    have zh := h_37.out.lt
    have qn0 : w36.cell? ⟨w.heap.size + 1, 0, none⟩ = some (.bool true) := n_37.out.at 0 _ rfl
    have qn1 : w36.cell? ⟨w.heap.size + 1, 1, none⟩ = some (.slice A m c) := n_37.out.at 1 _ rfl
    have zn := n_37.out.lt
    go_wp2
    go_ret
    exact ⟨rfl, X_37.out⟩
  have Hnd := Lib.hid hnd
  have haf := alloc_free hri hnd
  have hfd := fits_deep l keep x
  have hff := fits_flat l keep x
  have hf1 := fits_deep l keep 1
  have hcl : l.countP freeC ≤ n := by rw [hn]; exact List.countP_le_length
  obtain ⟨fr, hfr⟩ : ∃ fr, l.countP freeC = fr := ⟨_, rfl⟩
  obtain ⟨no, hno⟩ : ∃ no, l.countP zeroC = no := ⟨_, rfl⟩
  rw [hfr] at haf hfd hff hf1 hcl
  have HFR := Lib.hid hfr
  have HNO := Lib.hid hno
  obtain ⟨b1, hb1⟩ : ∃ b, decide (x ≤ (fr : Int)) = b := ⟨_, rfl⟩
  obtain ⟨b2, hb2⟩ : ∃ b, decide (x ≤ (fr : Int) - keep) = b := ⟨_, rfl⟩
  obtain ⟨b3, hb3⟩ : ∃ b, decide ((1 : Int) ≤ (fr : Int)) = b := ⟨_, rfl⟩
  rw [hb1] at hfd
  rw [hb2] at hff
  rw [hb3] at hf1 haf
  have HFD := Lib.hid hfd
  have HFF := Lib.hid hff
  have HF1 := Lib.hid hf1
  have HAF := Lib.hid haf
  have hwr : IntKind.i64.wrap ((fr : Int) - keep) = (fr : Int) - keep := by rw [IntKind.wrap_i64]; omega
  clear hnd hri hfd hff hf1 haf hfr hno hn hcl
  go_enter Try.func6, Try.ntmps6
  go_wp2_with (go_at_call 9; refine stop_here ?_)
  refine stop_on ?_
  generalize hW : (World.alloc (World.alloc w _) _) = W38
  obtain ⟨hx, hb0, hb1⟩ := allocs2 hW
  clear hW
  have A_39 := Lib.hid (A_1.out.ext hx)
  have I_39 := Lib.hid (I_2.out.ext hx)
  have X_39 := Lib.hid (X_3.out.ext hx)
  clear A_1 I_2 X_3
  have h_40 := Lib.hid hb0
  have n_41 := Lib.hid hb1
  clear hx hb0 hb1
  refine (shown_any _).mono ?_
  rintro e w42 ⟨rfl, hx⟩
  have A_43 := Lib.hid (A_39.out.ext hx)
  have I_43 := Lib.hid (I_39.out.ext hx)
  have X_43 := Lib.hid (X_39.out.ext hx)
  have h_43 := Lib.hid (h_40.out.ext hx)
  have n_43 := Lib.hid (n_41.out.ext hx)
  clear A_39 I_39 X_39 h_40 n_41
  clear hx
  have qh0 : w42.cell? ⟨w.heap.size, 0, none⟩ = some (.slice R n q) := h_43.out.at 0 _ rfl
  have qh1 : w42.cell? ⟨w.heap.size, 1, none⟩ = some (.int .i64 keep) := h_43.out.at 1 _ rfl
  have zh := h_43.out.lt
  have qn0 : w42.cell? ⟨w.heap.size + 1, 0, none⟩ = some (.bool true) := n_43.out.at 0 _ rfl
  have qn1 : w42.cell? ⟨w.heap.size + 1, 1, none⟩ = some (.slice A m c) := n_43.out.at 1 _ rfl
  have zn := n_43.out.lt
  go_wp2_with (go_at_call 21; refine stop_here ?_)
  refine stop_on ?_
  clear qh0 qh1 zh qn0 qn1 zn
  refine (ref05May_is R l n q keep 60 _ A_43.out Hr.out).mono ?_
  rintro e w44 ⟨rfl, hx⟩
  have A_45 := Lib.hid (A_43.out.ext hx)
  have I_45 := Lib.hid (I_43.out.ext hx)
  have X_45 := Lib.hid (X_43.out.ext hx)
  have h_45 := Lib.hid (h_43.out.ext hx)
  have n_45 := Lib.hid (n_43.out.ext hx)
  clear A_43 I_43 X_43 h_43 n_43
  clear hx
  have qh0 : w44.cell? ⟨w.heap.size, 0, none⟩ = some (.slice R n q) := h_45.out.at 0 _ rfl
  have qh1 : w44.cell? ⟨w.heap.size, 1, none⟩ = some (.int .i64 keep) := h_45.out.at 1 _ rfl
  have zh := h_45.out.lt
  have qn0 : w44.cell? ⟨w.heap.size + 1, 0, none⟩ = some (.bool true) := n_45.out.at 0 _ rfl
  have qn1 : w44.cell? ⟨w.heap.size + 1, 1, none⟩ = some (.slice A m c) := n_45.out.at 1 _ rfl
  have zn := n_45.out.lt
  go_wp2_with (go_at_call 32; refine stop_here ?_)
  refine stop_on ?_
  clear qh0 qh1 zh qn0 qn1 zn
  refine (ref04Right_is true A it m c _ HM.out I_45.out Hnd.out).mono ?_
  rintro e w46 ⟨rfl, hx⟩
  have A_47 := Lib.hid (A_45.out.ext hx)
  have I_47 := Lib.hid (I_45.out.ext hx)
  have X_47 := Lib.hid (X_45.out.ext hx)
  have h_47 := Lib.hid (h_45.out.ext hx)
  have n_47 := Lib.hid (n_45.out.ext hx)
  clear A_45 I_45 X_45 h_45 n_45
  clear hx
  have qh0 : w46.cell? ⟨w.heap.size, 0, none⟩ = some (.slice R n q) := h_47.out.at 0 _ rfl
  have qh1 : w46.cell? ⟨w.heap.size, 1, none⟩ = some (.int .i64 keep) := h_47.out.at 1 _ rfl
  have zh := h_47.out.lt
  have qn0 : w46.cell? ⟨w.heap.size + 1, 0, none⟩ = some (.bool true) := n_47.out.at 0 _ rfl
  have qn1 : w46.cell? ⟨w.heap.size + 1, 1, none⟩ = some (.slice A m c) := n_47.out.at 1 _ rfl
  have zn := n_47.out.lt
  go_wp2_with fail
  go_loop [8, 9, 10] (fun f o i => ∃ k a b : Nat, k ≤ n ∧ a ≤ k ∧ b ≤ k ∧ i = .int .i64 k ∧ f = .int .i64 a ∧ o = .int .i64 b ∧ (l.take k).countP freeC = a ∧ (l.take k).countP zeroC = b) (fun _ _ i => n - (intOf i).toNat)
  case atStart => exact ⟨0, 0, 0, Nat.zero_le _, Nat.le_refl _, Nat.le_refl _, rfl, rfl, rfl, rfl, rfl⟩
  case round =>
    obtain ⟨k, a, b, hk, hak, hbk, rfl, rfl, rfl, ha, hbb⟩ := hrel
    have HAK := Lib.hid ha
    have HBK := Lib.hid hbb
    clear ha hbb
    rcases Nat.lt_or_ge k n with hlt | hlt
    · have hkl : k < l.length := by rw [← HN.out]; exact hlt
      obtain ⟨bb, off, rfl, hbl, Ac, cc, r0, r1, r2, r3, _⟩ := (A_47.out).cell hkl
      have hki : (k : Int) < (n : Int) := by omega
      have HS1 := Lib.hid (countP_take1 l freeC k hkl)
      have HS2 := Lib.hid (countP_take1 l zeroC k hkl)
      rw [HAK.out] at HS1
      rw [HBK.out] at HS2
      have HF := Lib.hid (show freeC l[k] = (decide (l[k].ref = 0) && !l[k].pin) from rfl)
      have HZ := Lib.hid (show zeroC l[k] = decide (l[k].ref = 0) from rfl)
      clear r2 r3
      generalize freeC l[k] = fc at *
      generalize zeroC l[k] = zc at *
      generalize l[k].ref = rf at *
      generalize l[k].pin = pn at *
      rcases Decidable.em (rf = 0) with h0 | h0
      · subst h0
        cases pn
        · have HT1 := Lib.hid (show (l.take (k + 1)).countP freeC = a + 1 by rw [HS1.out, HF.out]; rfl)
          have HT2 := Lib.hid (show (l.take (k + 1)).countP zeroC = b + 1 by rw [HS2.out, HZ.out]; rfl)
          clear HS1 HS2 HF HZ
          go_wp2
          go_round
          case rel => exact ⟨k + 1, a + 1, b + 1, by omega, by omega, by omega, by go_num, by go_num, by go_num, HT1.out, HT2.out⟩
          case measure => simp [intOf]; omega
        · have HT1 := Lib.hid (show (l.take (k + 1)).countP freeC = a + 0 by rw [HS1.out, HF.out]; rfl)
          have HT2 := Lib.hid (show (l.take (k + 1)).countP zeroC = b + 1 by rw [HS2.out, HZ.out]; rfl)
          clear HS1 HS2 HF HZ
          go_wp2
          go_round
          case rel => exact ⟨k + 1, a + 0, b + 1, by omega, by omega, by omega, by go_num, by go_num, by go_num, HT1.out, HT2.out⟩
          case measure => simp [intOf]; omega
      · have e0 : (rf == 0) = false := by simpa using h0
        have HT1 := Lib.hid (show (l.take (k + 1)).countP freeC = a by rw [HS1.out, HF.out, decide_eq_false h0]; rfl)
        have HT2 := Lib.hid (show (l.take (k + 1)).countP zeroC = b by rw [HS2.out, HZ.out, decide_eq_false h0]; rfl)
        clear HS1 HS2 HF HZ h0
        go_wp2
        go_round
        case rel => exact ⟨k + 1, a, b, by omega, by omega, by omega, by go_num, rfl, rfl, HT1.out, HT2.out⟩
        case measure => simp [intOf]; omega
    obtain rfl : n = k := by omega
    have hta : a = fr := by rw [← HAK.out, ← HFR.out, HN.out, List.take_length]
    have htb : b = no := by rw [← HBK.out, ← HNO.out, HN.out, List.take_length]
    subst hta
    subst htb
    clear hlt hak hbk hk
    go_wp2_with (go_at_call 22; refine stop_here ?_)
    refine stop_on ?_
    clear qh0 qh1 zh qn0 qn1 zn
    refine (heapAlloc_any R l n q keep _ true A it m c none [] 0 0 Hr.out (by omega) (by omega) A_47.out HM.out I_47.out rfl (Sl.nil _)).mono ?_
    rintro e w48 ⟨S1, d1, rfl, h1, hx⟩
    have A_49 := Lib.hid (A_47.out.ext hx)
    have I_49 := Lib.hid (I_47.out.ext hx)
    have X_49 := Lib.hid (X_47.out.ext hx)
    have h_49 := Lib.hid (h_47.out.ext hx)
    have n_49 := Lib.hid (n_47.out.ext hx)
    clear A_47 I_47 X_47 h_47 n_47
    have P1_50 := Lib.hid h1
    clear hx h1
    have qh0 : w48.cell? ⟨w.heap.size, 0, none⟩ = some (.slice R n q) := h_49.out.at 0 _ rfl
    have qh1 : w48.cell? ⟨w.heap.size, 1, none⟩ = some (.int .i64 keep) := h_49.out.at 1 _ rfl
    have zh := h_49.out.lt
    have qn0 : w48.cell? ⟨w.heap.size + 1, 0, none⟩ = some (.bool true) := n_49.out.at 0 _ rfl
    have qn1 : w48.cell? ⟨w.heap.size + 1, 1, none⟩ = some (.slice A m c) := n_49.out.at 1 _ rfl
    have zn := n_49.out.lt
    clear P1_50
    have haf := HAF.out
    generalize (allocP l true it : Nat) = pp at *
    generalize allocE l true it = ee at *
    clear HAF
    go_wp2_with (go_at_call 28; refine stop_here ?_)
    refine stop_on ?_
    clear qh0 qh1 zh qn0 qn1 zn
    generalize hW : (World.alloc w48 _) = W51
    obtain ⟨hx, hb0⟩ := allocs1 hW
    clear hW
    have A_52 := Lib.hid (A_49.out.ext hx)
    have I_52 := Lib.hid (I_49.out.ext hx)
    have X_52 := Lib.hid (X_49.out.ext hx)
    have h_52 := Lib.hid (h_49.out.ext hx)
    have n_52 := Lib.hid (n_49.out.ext hx)
    clear A_49 I_49 X_49 h_49 n_49
    have a_53 := Lib.hid hb0
    clear hx hb0
    refine (heapSettle_any R l n q keep _ Hr.out A_52.out).mono ?_
    rintro e w54 ⟨S2, d2, rfl, h1, hx⟩
    have A_55 := Lib.hid (A_52.out.ext hx)
    have I_55 := Lib.hid (I_52.out.ext hx)
    have X_55 := Lib.hid (X_52.out.ext hx)
    have h_55 := Lib.hid (h_52.out.ext hx)
    have n_55 := Lib.hid (n_52.out.ext hx)
    have a_55 := Lib.hid (a_53.out.ext hx)
    clear A_52 I_52 X_52 h_52 n_52 a_53
    have P2_56 := Lib.hid h1
    clear hx h1
    have qh0 : w54.cell? ⟨w.heap.size, 0, none⟩ = some (.slice R n q) := h_55.out.at 0 _ rfl
    have qh1 : w54.cell? ⟨w.heap.size, 1, none⟩ = some (.int .i64 keep) := h_55.out.at 1 _ rfl
    have zh := h_55.out.lt
    have qn0 : w54.cell? ⟨w.heap.size + 1, 0, none⟩ = some (.bool true) := n_55.out.at 0 _ rfl
    have qn1 : w54.cell? ⟨w.heap.size + 1, 1, none⟩ = some (.slice A m c) := n_55.out.at 1 _ rfl
    have zn := n_55.out.lt
    have qa0 : w54.cell? ⟨w48.heap.size, 0, none⟩ = some (.slice S1 n d1) := a_55.out.at 0 _ rfl
    have qa1 : w54.cell? ⟨w48.heap.size, 1, none⟩ = some (.int .i64 keep) := a_55.out.at 1 _ rfl
    have za := a_55.out.lt
    clear a_55
    clear qa0 qa1 za
    go_wp2_with fail
    clear qh0 qh1 zh qn0 qn1 zn
    generalize hW : (World.alloc w54 _) = W57
    obtain ⟨hx, hb0⟩ := allocs1 hW
    clear hW
    have A_58 := Lib.hid (A_55.out.ext hx)
    have I_58 := Lib.hid (I_55.out.ext hx)
    have X_58 := Lib.hid (X_55.out.ext hx)
    have h_58 := Lib.hid (h_55.out.ext hx)
    have n_58 := Lib.hid (n_55.out.ext hx)
    have P2_58 := Lib.hid (P2_56.out.ext hx)
    clear A_55 I_55 X_55 h_55 n_55 P2_56
    have s_59 := Lib.hid hb0
    clear hx hb0
    have HK60 := Lib.hid (fun w' (hx : Ext W57 w') => (show w'.cell? ⟨w.heap.size, 0, none⟩ = some (.slice R n q) ∧ w'.cell? ⟨w.heap.size, 1, none⟩ = some (.int .i64 keep) ∧ w'.cell? ⟨w54.heap.size, 0, none⟩ = some (.slice S2 n d2) ∧ w'.cell? ⟨w54.heap.size, 1, none⟩ = some (.int .i64 keep) from ⟨(h_58.out.ext hx).at 0 _ rfl, (h_58.out.ext hx).at 1 _ rfl, (s_59.out.ext hx).at 0 _ rfl, (s_59.out.ext hx).at 1 _ rfl⟩))
    have G60_0 := Lib.hid (fun w' (hx : Ext W57 w') => heapFree_is R l n q keep w' Hr.out HFR.out (A_58.out.ext hx))
    have G60_1 := Lib.hid (fun w' (hx : Ext W57 w') => heapFits_is R l n q keep w' x true Hr.out HFD.out (A_58.out.ext hx))
    have G60_2 := Lib.hid (fun w' (hx : Ext W57 w') => heapFits_is R l n q keep w' x false Hr.out HFF.out (A_58.out.ext hx))
    have G60_3 := Lib.hid (fun w' (hx : Ext W57 w') => heapFits_is R l n q keep w' 1 true Hr.out HF1.out (A_58.out.ext hx))
    have G60_4 := Lib.hid (fun w' (hx : Ext W57 w') => heapFree_is S2 (settleH ⟨l, keep⟩).c n d2 keep w' (m := b) (settle_may Hr.out) (by rw [settle_free]; exact HNO.out) (P2_58.out.ext hx))
    have G60_5 := Lib.hid (fun w' (hx : Ext W57 w') => ref05Right_is S2 (settleH ⟨l, keep⟩).c n d2 keep w' (P2_58.out.ext hx) (settle_right HRI.out))
    have G60_6 := Lib.hid (fun w' (hx : Ext W57 w') => (show Calls Try.prog 28 #[.agg #[.slice S2 n d2, .int .i64 keep]] w' fun e w2 => ∃ S d, e = .returned (.agg #[.slice S n d, .int .i64 keep]) ∧ HcSl w2 S n d (settleH ⟨l, keep⟩).c ∧ Ext w' w2 from by have h := heapSettle_any S2 (settleH ⟨l, keep⟩).c n d2 keep w' (settle_may Hr.out) (P2_58.out.ext hx); rw [settle_twice] at h; exact h))
    have qh0 : W57.cell? ⟨w.heap.size, 0, none⟩ = some (.slice R n q) := h_58.out.at 0 _ rfl
    have qh1 : W57.cell? ⟨w.heap.size, 1, none⟩ = some (.int .i64 keep) := h_58.out.at 1 _ rfl
    have zh := h_58.out.lt
    have qs0 : W57.cell? ⟨w54.heap.size, 0, none⟩ = some (.slice S2 n d2) := s_59.out.at 0 _ rfl
    have qs1 : W57.cell? ⟨w54.heap.size, 1, none⟩ = some (.int .i64 keep) := s_59.out.at 1 _ rfl
    have zs := s_59.out.lt
    go_region_held3 (fun w' => w'.cell? ⟨w.heap.size, 0, none⟩ = some (.slice R n q) ∧ w'.cell? ⟨w.heap.size, 1, none⟩ = some (.int .i64 keep) ∧ w'.cell? ⟨w54.heap.size, 0, none⟩ = some (.slice S2 n d2) ∧ w'.cell? ⟨w54.heap.size, 1, none⟩ = some (.int .i64 keep))
      (first | exact HK60.out _ E60_7.out | exact HK60.out _ E60_6.out | exact HK60.out _ E60_5.out | exact HK60.out _ E60_4.out | exact HK60.out _ E60_3.out | exact HK60.out _ E60_2.out | exact HK60.out _ E60_1.out | exact HK60.out _ E60_0.out | exact HK60.out _ (Ext.refl W57).drew | exact HK60.out _ (Ext.refl W57))
      (first
        | ((go_at_call 14
            have hc := ref05Same_eq S3 S2 (settleH ⟨l, keep⟩).c n d3 d2 keep _ Q3_60_6.out (P2_58.out.ext E60_6.out)
            with_reducible refine hc.mono ?_
            clear hc
            rintro e v60_7 ⟨rfl, hx⟩
            have E60_7 := Lib.hid (E60_6.out.trans hx)
            have Q3_60_7 := Lib.hid (Q3_60_6.out.ext hx)
            clear hx))
        | ((go_at_call 28
            with_reducible refine (G60_6.out _ E60_5.out).mono ?_
            rintro e v60_6 ⟨S3, d3, rfl, h3, hx⟩
            have E60_6 := Lib.hid (E60_5.out.trans hx)
            have Q3_60_6 := Lib.hid h3
            clear hx h3))
        | ((go_at_call 13
            with_reducible refine (G60_5.out _ E60_4.out).mono ?_
            rintro e v60_5 ⟨rfl, hx⟩
            have E60_5 := Lib.hid (E60_4.out.trans hx)
            clear hx))
        | ((go_at_call 17
            with_reducible refine (G60_4.out _ E60_3.out).mono ?_
            rintro e v60_4 ⟨rfl, hx⟩
            have E60_4 := Lib.hid (E60_3.out.trans hx)
            clear hx))
        | ((go_at_call 19
            with_reducible refine (G60_3.out _ E60_2.out).mono ?_
            rintro e v60_3 ⟨rfl, hx⟩
            have E60_3 := Lib.hid (E60_2.out.trans hx)
            clear hx))
        | ((go_at_call 19
            with_reducible refine (G60_2.out _ E60_1.out).mono ?_
            rintro e v60_2 ⟨rfl, hx⟩
            have E60_2 := Lib.hid (E60_1.out.trans hx)
            clear hx))
        | ((go_at_call 19
            with_reducible refine (G60_1.out _ E60_0.out).mono ?_
            rintro e v60_1 ⟨rfl, hx⟩
            have E60_1 := Lib.hid (E60_0.out.trans hx)
            clear hx))
        | ((go_at_call 17
            with_reducible refine (G60_0.out _ ?_).mono ?_
            (first | exact Ext.refl _ | exact (Ext.refl _).drew)
            rintro e v60_0 ⟨rfl, hx⟩
            have E60_0 := Lib.hid (show Ext W57 v60_0 from by first | exact hx | exact (Ext.refl W57).drew.trans hx)
            clear hx)))
    clear qh0 qh1 zh qs0 qs1 zs
    go_wp2
    go_ret
    exact ⟨rfl, X_58.out.trans E60_7.out⟩
end Go.Proofs.Ytclpeeemnmhdcaa
