/- What Put and Fill answer. -/
import Derived.Test.YtlbhcakjcklmgaaK10
namespace Go.Proofs.Ytlbhcakjcklmgaa
open Go.RowKit

/-- What Put answers: cells, root, error. -/
def putR (h : Hp) (root : Int) (x : It) (deep : Bool) : List HC × Int × Int :=
  if okIt x then (if highT h.c root = 20 ∨ fitsH h (2 * highT h.c root + 1) deep = false then (h.c, root, 3) else ((putG h.c root x).1, (putG h.c root x).2, 0)) else (h.c, root, 1)
theorem fits_free {l : List HC} {keep n : Int} {deep : Bool} (hk : 0 ≤ keep) (h : fitsH ⟨l, keep⟩ n deep = true) : n ≤ (l.countP freeC : Nat) := by
  unfold fitsH freeH at h
  rw [decide_eq_true_eq] at h
  simp only at h
  split at h <;> omega
theorem may_keep {l : List HC} {keep most : Int} (h : mayH ⟨l, keep⟩ most = true) : 0 ≤ keep ∧ keep ≤ (l.length : Int) := by
  have h3 := (may_iff h).2.2
  unfold rightH at h3
  rw [Bool.and_eq_true, decide_eq_true_eq] at h3
  exact h3.1.2
/-- Items put one by one, up to the first error. -/
def fillR (keep : Int) : List It → List HC → Int → List HC × Int × Int
  | [], c, root => (c, root, 0)
  | x :: r, c, root => if (putR ⟨c, keep⟩ root x false).2.2 = 0 then fillR keep r (putR ⟨c, keep⟩ root x false).1 (putR ⟨c, keep⟩ root x false).2.1 else (c, root, (putR ⟨c, keep⟩ root x false).2.2)
theorem put_zero {h : Hp} {root : Int} {x : It} {deep : Bool} (h0 : (putR h root x deep).2.2 = 0) : okIt x ∧ highT h.c root ≠ 20 ∧ fitsH h (2 * highT h.c root + 1) deep = true ∧ putR h root x deep = ((putG h.c root x).1, (putG h.c root x).2, 0) := by
  unfold putR at h0 ⊢
  split at h0
  · rename_i hx
    split at h0
    · simp at h0
    · rename_i hf
      rw [not_or, Bool.not_eq_false] at hf
      rw [if_pos hx, if_neg (by rw [not_or, Bool.not_eq_false]; exact hf)]
      exact ⟨hx, hf.1, hf.2, rfl⟩
  · simp at h0
theorem fine_next {c : List HC} {keep root most : Int} {x : It} {deep : Bool} (hmost : most ≤ 60) (hf : fineB ⟨c, keep⟩ root most = true) (h0 : (putR ⟨c, keep⟩ root x deep).2.2 = 0) :
    fineB ⟨(putR ⟨c, keep⟩ root x deep).1, keep⟩ (putR ⟨c, keep⟩ root x deep).2.1 most = true := by
  obtain ⟨hx, hh, hn, e⟩ := put_zero h0
  obtain ⟨hm, _, _⟩ := fine_may hf
  have hb : highT c root < 20 := by
    have : highT c root ≤ 20 := by unfold highT; split; · omega
                                   · exact (bel_high c 20 root).2
    have h2 : highT c root ≠ 20 := hh
    omega
  rw [e]
  exact (fine_put hmost hf hx hb (fits_free (may_keep hm).1 hn)).choose_spec.2
theorem fill_step {keep root : Int} {it : List It} {c : List HC} {j : Nat} (hj : j < it.length) : fillR keep (it.drop j) c root = if (putR ⟨c, keep⟩ root it[j] false).2.2 = 0 then fillR keep (it.drop (j + 1)) (putR ⟨c, keep⟩ root it[j] false).1 (putR ⟨c, keep⟩ root it[j] false).2.1 else (c, root, (putR ⟨c, keep⟩ root it[j] false).2.2) := by
  rw [List.drop_eq_getElem_cons hj, fillR]
end Go.Proofs.Ytlbhcakjcklmgaa
