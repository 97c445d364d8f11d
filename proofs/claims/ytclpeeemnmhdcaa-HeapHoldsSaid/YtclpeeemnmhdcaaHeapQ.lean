/- Plain lemmas for the laws of layer 5: what stays right. -/
import Derived.Test.YtclpeeemnmhdcaaHeapM
namespace Go.Proofs.Ytclpeeemnmhdcaa
open Go.RowKit

theorem right_set {l : List HC} {keep : Int} (h : rightH ⟨l, keep⟩ = true) (k : Nat) (x : HC) (hx : cellR l.length x = true) : rightH ⟨l.set k x, keep⟩ = true := by
  obtain ⟨h1, h2⟩ := rightH_iff h
  refine rightH_yes (by rw [List.length_set]; exact h1) fun j hj => ?_
  rw [List.length_set] at hj ⊢
  rw [List.getElem_set]
  split
  · exact hx
  · exact h2 j hj
theorem cellR_used {n : Nat} {x : HC} (h : cellR n x = true) (hp : 0 < x.ref) (r : Int) (h0 : 0 < r) (h1 : r ≤ 2147483647) : cellR n ⟨r, x.pin, x.leaf, x.it⟩ = true := by
  unfold cellR at h ⊢
  rw [if_neg (by omega)] at h
  rw [if_neg (by simp only; omega)]
  simp only [Bool.and_eq_true, decide_eq_true_eq] at h ⊢
  exact ⟨h0, h1, h.2.2⟩
theorem used_nopin {n : Nat} {x : HC} (h : cellR n x = true) (hp : 0 < x.ref) : x.pin = false := by
  unfold cellR at h
  rw [if_neg (by omega)] at h
  simp only [Bool.and_eq_true, decide_eq_true_eq, Bool.not_eq_true'] at h
  exact h.2.2.1
theorem right_more {l : List HC} {keep : Int} {k : Nat} (h : rightH ⟨l, keep⟩ = true) (hk : k < l.length) (hp : 0 < l[k].ref) (hm : l[k].ref < 2147483647) : rightH ⟨l.set k l[k].more, keep⟩ = true :=
  right_set h k _ (cellR_used ((rightH_iff h).2 k hk) hp _ (by omega) (by omega))
/-- Held, and loosed, as often as that. -/
def plusC (l : List HC) (k : Nat) (j : Nat) : List HC := l.set k ⟨(l.getD k HC.none).ref + j, (l.getD k HC.none).pin, (l.getD k HC.none).leaf, (l.getD k HC.none).it⟩
theorem plusC_len (l : List HC) (k j : Nat) : (plusC l k j).length = l.length := by unfold plusC; simp
theorem getD_at {l : List HC} {k : Nat} (hk : k < l.length) : l.getD k HC.none = l[k] := by rw [List.getD_eq_getElem?_getD, List.getElem?_eq_getElem hk]; rfl
theorem plusC_zero {l : List HC} {k : Nat} (hk : k < l.length) : plusC l k 0 = l := by
  unfold plusC; rw [getD_at hk]
  have e : (⟨l[k].ref + (0 : Nat), l[k].pin, l[k].leaf, l[k].it⟩ : HC) = l[k] := by
    have : l[k].ref + ((0 : Nat) : Int) = l[k].ref := by omega
    rw [this]
  rw [e, List.set_getElem_self]
theorem plusC_at {l : List HC} {k j : Nat} (hk : k < l.length) : (plusC l k j)[k]'(by rw [plusC_len]; exact hk) = ⟨l[k].ref + j, l[k].pin, l[k].leaf, l[k].it⟩ := by
  unfold plusC; rw [List.getElem_set_self, getD_at hk]
theorem plusC_succ {l : List HC} {k j : Nat} (hk : k < l.length) : (plusC l k j).set k ((plusC l k j)[k]'(by rw [plusC_len]; exact hk)).more = plusC l k (j + 1) := by
  rw [plusC_at hk]
  unfold plusC HC.more
  rw [List.set_set, getD_at hk]
  have : l[k].ref + (j : Int) + 1 = l[k].ref + ((j + 1 : Nat) : Int) := by omega
  simp only [this]
theorem plusC_used {l : List HC} {k j : Nat} (hk : k < l.length) (hp : 0 < l[k].ref) : usedC (plusC l k j) (k : Int) = true := by
  rw [usedC_at (by rw [plusC_len]; exact hk), plusC_at hk]
  simp only [decide_eq_true_eq]; omega
theorem plusC_hold {l : List HC} {keep : Int} {k j : Nat} (hk : k < l.length) (hp : 0 < l[k].ref) : holdH ⟨plusC l k j, keep⟩ (k : Int) = ⟨plusC l k (j + 1), keep⟩ ∧ holdE ⟨plusC l k j, keep⟩ (k : Int) = 0 := by
  obtain ⟨e1, e2⟩ := holdH_at (keep := keep) (by rw [plusC_len]; exact hk) (plusC_used (j := j) hk hp)
  exact ⟨by rw [e1, plusC_succ hk], e2⟩
theorem plusC_loose {l : List HC} {n : Nat} {k j f : Nat} (hk : k < l.length) (hr : cellR n l[k] = true) (hp : 0 < l[k].ref) : looseL (f + 1) (plusC l k (j + 1)) (k : Int) = plusC l k j := by
  have hk' : k < (plusC l k (j + 1)).length := by rw [plusC_len]; exact hk
  rw [looseL_at f hk' (plusC_used hk hp), plusC_at hk, if_pos (by simp only; omega)]
  have hpn := used_nopin hr hp
  unfold plusC
  rw [List.set_set, getD_at hk, hpn]
  have : l[k].ref + ((j + 1 : Nat) : Int) - 1 = l[k].ref + (j : Int) := by omega
  simp only [this]
theorem plusC_right {l : List HC} {keep : Int} {k j : Nat} (h : rightH ⟨l, keep⟩ = true) (hk : k < l.length) (hp : 0 < l[k].ref) (hm : l[k].ref + j ≤ 2147483647) : rightH ⟨plusC l k j, keep⟩ = true := by
  unfold plusC; rw [getD_at hk]
  exact right_set h k _ (cellR_used ((rightH_iff h).2 k hk) hp _ (by omega) (by omega))
theorem plusC_bd {l : List HC} {k j : Nat} (h : Bd l) (hk : k < l.length) (hm : l[k].ref + j ≤ 2147483647) : Bd (plusC l k j) := by
  unfold plusC; rw [getD_at hk]
  exact h.set k _ (by simp only; omega)
end Go.Proofs.Ytclpeeemnmhdcaa
