/- A tree hangs on its own cells alone: other Refs above 0, no Pins, another Keep. No program in sight. -/
import Derived.Test.YthlencnlgnbpaaaTreeS
namespace Go.Proofs.Ythlencnlgnbpaaa
open Go.RowKit

def stayC (y : Int) (c : HC) : HC := ⟨if 0 < c.ref then c.ref + y else c.ref, false, c.leaf, c.it⟩
def stayL (y : Int) (l : List HC) : List HC := l.map (stayC y)
theorem stayL_len (y : Int) (l : List HC) : (stayL y l).length = l.length := by unfold stayL; simp
theorem stay_cellT (y : Int) (l : List HC) (p : Int) : cellT (stayL y l) p = stayC y (cellT l p) := by
  unfold cellT stayL
  rw [List.getD_eq_getElem?_getD, List.getD_eq_getElem?_getD, List.getElem?_map]
  cases l[p.toNat]? with
  | none => rfl
  | some c => rfl
theorem stay_ref {y : Int} (hy : 0 ≤ y) (c : HC) : (stayC y c).ref < 1 ↔ c.ref < 1 := by
  unfold stayC
  simp only
  split <;> omega
theorem stay_bel {y : Int} (hy : 0 ≤ y) (l : List HC) : ∀ (m : Nat) (p : Int), bel (stayL y l) m p = bel l m p
  | 0, _ => rfl
  | m + 1, p => by
    have hf : bel (stayL y l) m = bel l m := funext (fun q => stay_bel hy l m q)
    rw [bel, bel, stay_cellT, hf]
    by_cases h : (cellT l p).ref < 1
    · rw [if_pos h, if_pos ((stay_ref hy _).2 h)]
    · rw [if_neg h, if_neg (fun h' => h ((stay_ref hy _).1 h'))]
      rfl
theorem stay_list (y : Int) (l : List HC) : ∀ (m : Nat) (p : Int), listB (stayL y l) m p = listB l m p
  | 0, _ => rfl
  | m + 1, p => by
    rw [listB, listB, stay_cellT]
    have hf : (fun x : It => listB (stayL y l) m x.2) = (fun x : It => listB l m x.2) := funext (fun x => stay_list y l m x.2)
    rw [hf]
    rfl
theorem stay_used {y : Int} (hy : 0 ≤ y) (l : List HC) (p : Int) : usedC (stayL y l) p = usedC l p := by
  unfold usedC
  rw [stayL_len]
  have h : decide (0 < ((stayL y l).getD p.toNat HC.none).ref) = decide (0 < (l.getD p.toNat HC.none).ref) := by
    have h1 := stay_cellT y l p
    unfold cellT at h1
    rw [h1]
    have := stay_ref hy (l.getD p.toNat HC.none)
    by_cases h2 : (l.getD p.toNat HC.none).ref < 1
    · rw [decide_eq_false (by have := this.2 h2; omega), decide_eq_false (by omega)]
    · rw [decide_eq_true (by have h3 : ¬ (stayC y (l.getD p.toNat HC.none)).ref < 1 := fun h' => h2 (this.1 h'); omega), decide_eq_true (by omega)]
  rw [h]
theorem stay_right {y : Int} (hy : 0 ≤ y) (l : List HC) (keep keep' p : Int) : rightR ⟨stayL y l, keep'⟩ p = rightR ⟨l, keep⟩ p := by
  unfold rightR
  show (decide (p = -1) || (usedC (stayL y l) p && (bel (stayL y l) 20 p).is)) = (decide (p = -1) || (usedC l p && (bel l 20 p).is))
  rw [stay_used hy, stay_bel hy]
theorem stay_listT (y : Int) (l : List HC) (p : Int) : listT (stayL y l) p = listT l p := by unfold listT; rw [stay_list]
theorem stay_scan (y : Int) (l : List HC) (p lo hi : Int) : scanT (stayL y l) p lo hi = scanT l p lo hi := by rw [scan_is, scan_is, stay_listT]
theorem stay_get (y : Int) (l : List HC) (p k : Int) : getT (stayL y l) p k = getT l p k := by unfold getT; rw [stay_listT]
theorem stay_high {y : Int} (hy : 0 ≤ y) (l : List HC) (p : Int) : highT (stayL y l) p = highT l p := by unfold highT; rw [stay_bel hy]
theorem stay_cellR {y : Int} (hy : 0 ≤ y) (hy2 : y ≤ 255) {n : Nat} {c : HC} (h : cellR n c = true) (hs : c.ref ≤ 1000000) : cellR n (stayC y c) = true := by
  unfold cellR at h ⊢
  unfold stayC
  simp only
  by_cases h0 : c.ref = 0
  · rw [if_pos h0] at h
    rw [if_neg (show ¬ 0 < c.ref by omega), if_pos h0]
    exact h
  · rw [if_neg h0] at h
    simp only [Bool.and_eq_true, decide_eq_true_eq] at h
    rw [if_pos h.1, if_neg (by omega), decide_eq_true (by omega), decide_eq_true (by omega)]
    simp only [Bool.not_false, Bool.true_and]
    rw [Bool.and_eq_true]
    exact h.2.2.2
theorem stay_rightH {y : Int} (hy : 0 ≤ y) (hy2 : y ≤ 255) {l : List HC} {keep most keep' : Int} (h : mayH ⟨l, keep⟩ most = true) (h0 : 0 ≤ keep') (h1 : keep' ≤ l.length) : rightH ⟨stayL y l, keep'⟩ = true := by
  unfold mayH at h
  rw [Bool.and_eq_true] at h
  obtain ⟨hs, hr⟩ := h
  have hri := rightH_iff hr
  unfold smallH at hs
  rw [Bool.and_eq_true, List.all_eq_true] at hs
  unfold rightH
  rw [Bool.and_eq_true]
  refine ⟨decide_eq_true ?_, ?_⟩
  · show (1 ≤ (stayL y l).length ∧ (stayL y l).length ≤ 2000) ∧ (0 ≤ keep' ∧ keep' ≤ (stayL y l).length)
    rw [stayL_len]
    exact ⟨hri.1.1, h0, h1⟩
  · show (stayL y l).all (cellR (stayL y l).length) = true
    rw [stayL_len, List.all_eq_true]
    intro c hc
    obtain ⟨d, hd, rfl⟩ := List.mem_map.1 hc
    obtain ⟨i, hi, rfl⟩ := List.mem_iff_getElem.1 hd
    have h3 := hs.2 _ hd
    rw [Bool.and_eq_true, decide_eq_true_eq, decide_eq_true_eq] at h3
    exact stay_cellR hy hy2 (hri.2 i hi) h3.2
theorem stay_all {y : Int} {l : List HC} {keep' : Int} (h : rightH ⟨stayL y l, keep'⟩ = true) : AllR (stayL y l) := (rightH_iff h).2
theorem stay_take {y : Int} {l : List HC} {k : Nat} (hk : k < l.length) : stayL y (l.take (k + 1)) = stayL y (l.take k) ++ [stayC y l[k]] := by
  unfold stayL
  rw [List.take_succ_eq_append_getElem hk, List.map_append]; rfl
end Go.Proofs.Ythlencnlgnbpaaa
