/- What scans and keys of right trees tell: for the law on scans. No program in sight. -/
import Derived.Test.YthlencnlgnbpaaaTreeQ
import Derived.Test.YthlencnlgnbpaaaTreeW4
namespace Go.Proofs.Ythlencnlgnbpaaa
open Go.RowKit

theorem listT_asc {l : List HC} {keep root : Int} (hl : AllR l) (hr : rightR ⟨l, keep⟩ root = true) : Asc (listT l root) ∧ ∀ x ∈ listT l root, okIt x := by
  unfold listT
  rcases rightR_iff hr with h0 | ⟨h0, h1, hb⟩
  · rw [if_pos h0]
    exact ⟨List.Pairwise.nil, fun x hx => by cases hx⟩
  · rw [if_neg (by omega)]
    have := listB_spans l hl 20 root h0 h1 hb
    exact ⟨this.asc, this.ok⟩
theorem scan_is (l : List HC) (root lo hi : Int) : scanT l root lo hi = (listT l root).filter (inR lo hi) := rfl
theorem get_iff {l : List HC} {keep root : Int} (hl : AllR l) (hr : rightR ⟨l, keep⟩ root = true) (k v : Int) : getT l root k = some v ↔ (k, v) ∈ listT l root := getL_iff (listT_asc hl hr).1 k v
theorem inR_iff (lo hi : Int) (x : It) : inR lo hi x = true ↔ lo ≤ x.1 ∧ x.1 < hi := by unfold inR; rw [Bool.and_eq_true, decide_eq_true_eq, decide_eq_true_eq]
theorem mem_scan {l : List HC} {root lo hi : Int} {x : It} : x ∈ scanT l root lo hi ↔ x ∈ listT l root ∧ lo ≤ x.1 ∧ x.1 < hi := by rw [scan_is, List.mem_filter, inR_iff]
theorem scan_asc {l : List HC} {keep root : Int} (hl : AllR l) (hr : rightR ⟨l, keep⟩ root = true) (lo hi : Int) : Asc (scanT l root lo hi) := by
  rw [scan_is]; exact List.Pairwise.filter _ (listT_asc hl hr).1
def hasK (mid : Int) (xs : List It) : Bool := xs.any (fun x => decide (x.1 = mid))
structure ScanF (l : List HC) (root lo hi mid : Int) (xs : List It) (o : Option Int) : Prop where
  a : ∀ k (hk : k < xs.length), getT l root xs[k].1 = some xs[k].2 ∧ lo ≤ xs[k].1 ∧ xs[k].1 < hi
  b : ∀ k (hk : k < xs.length) (h0 : 0 < k), xs[k - 1].1 < xs[k].1
  c : ∀ k (hk : k < xs.length), xs[k].1 = mid → o = some xs[k].2 ∧ (lo ≤ mid ∧ mid < hi) ∧ hasK mid (xs.take k) = false
  d : ∀ v, o = some v → lo ≤ mid → mid < hi → hasK mid xs = true
  e : lo ≤ mid → mid ≤ hi → scanT l root lo mid ++ scanT l root mid hi = xs
theorem scan_facts {l : List HC} {keep root lo hi mid : Int} {xs : List It} {o : Option Int} (hl : AllR l) (hr : rightR ⟨l, keep⟩ root = true) (hxs : scanT l root lo hi = xs) (ho : getT l root mid = o) : ScanF l root lo hi mid xs o := by
  have hasc := scan_asc hl hr lo hi
  rw [hxs] at hasc
  have hmem : ∀ x, x ∈ xs ↔ x ∈ listT l root ∧ lo ≤ x.1 ∧ x.1 < hi := fun x => by rw [← hxs]; exact mem_scan
  have hpw := List.pairwise_iff_getElem.1 hasc
  refine ⟨fun k hk => ?_, fun k hk h0 => hpw (k - 1) k (by omega) hk (by omega), fun k hk he => ?_, fun v hv h1 h2 => ?_, fun h1 h2 => ?_⟩
  · have h := (hmem xs[k]).1 (List.getElem_mem hk)
    exact ⟨(get_iff hl hr _ _).2 h.1, h.2⟩
  · have h := (hmem xs[k]).1 (List.getElem_mem hk)
    refine ⟨?_, ?_, ?_⟩
    · rw [← ho, ← he]; exact (get_iff hl hr _ _).2 h.1
    · rw [← he]; exact h.2
    · unfold hasK
      rw [List.any_eq_false]
      intro y hy
      obtain ⟨j, hj, rfl⟩ := List.mem_iff_getElem.1 hy
      rw [List.length_take] at hj
      rw [List.getElem_take]
      have := hpw j k (by omega) hk (by omega)
      simp only [decide_eq_true_eq]
      omega
  · unfold hasK
    rw [List.any_eq_true]
    rw [hv] at ho
    exact ⟨(mid, v), (hmem _).2 ⟨(get_iff hl hr _ _).1 ho, h1, h2⟩, by simp⟩
  · rw [← hxs, scan_is, scan_is, scan_is]
    exact filter_parts (listT_asc hl hr).1 h1 h2
theorem hasK_step {mid : Int} {xs : List It} {k : Nat} (hk : k < xs.length) : hasK mid (xs.take (k + 1)) = (hasK mid (xs.take k) || decide (xs[k].1 = mid)) := by
  unfold hasK
  rw [List.take_succ_eq_append_getElem hk, List.any_append]
  simp
theorem scan_len {l : List HC} {keep root : Int} (hl : AllR l) (hr : rightR ⟨l, keep⟩ root = true) (lo hi : Int) : (scanT l root lo hi).length ≤ 1099511627776 := by
  rw [scan_is]
  exact Nat.le_trans (List.length_filter_le _ _) (listT_len hl hr)
end Go.Proofs.Ythlencnlgnbpaaa
