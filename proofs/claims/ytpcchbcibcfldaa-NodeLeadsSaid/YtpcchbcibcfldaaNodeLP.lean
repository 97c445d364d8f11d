/- Where a key leads, in plain numbers: what NodeLeads asks. -/
import Derived.Test.YtpcchbcibcfldaaNodeM
namespace Go.Proofs.Ytpcchbcibcfldaa
open Go.RowKit

/-- Where a key leads, as numbers. -/
theorem leads {leaf : Bool} {l : List It} (h : NdR l) (key : Int) : ∃ i : Nat, atI leaf l key = (i : Int) ∧ i ≤ l.length ∧ (leaf = false → i < l.length) ∧ (atB l key = true → ∃ hi : i < l.length, l[i].1 = key) ∧
    ∀ k (hk : k < l.length), (l[k].1 = key → atB l key = true ∧ k = i) ∧ (leaf = true → (k < i ↔ l[k].1 < key)) ∧ (leaf = false → k > i → key < l[k].1) ∧ (leaf = false → 0 < k → k = i → l[k].1 ≤ key) := by
  have hle : atC l key ≤ l.length := List.countP_le_length
  have h1 := h.1.1
  by_cases hb : atB l key = true
  · obtain ⟨k, hk, he⟩ := atB_ex hb
    have hc := atC_at h hk he
    refine ⟨k, by rw [atI_yes hb, hc], by omega, fun _ => hk, fun _ => ⟨hk, he⟩, fun j hj => ?_⟩
    have hlt := atC_lt h key hj
    rw [hc] at hlt
    refine ⟨fun e => ⟨hb, by have := atC_at h hj e; omega⟩, fun _ => hlt.symm, fun _ hjk => ?_, fun _ _ e => by subst e; omega⟩
    have := h.rise j k hj hjk; omega
  · have hb' : atB l key = false := by simpa using hb
    have hne : ∀ j (hj : j < l.length), l[j].1 ≠ key := fun j hj e => hb (atB_yes hj e)
    cases leaf
    · refine ⟨atC l key - 1, by rw [atI_not hb'], by omega, fun _ => by omega, fun e => absurd e hb, fun j hj => ?_⟩
      have hlt := atC_lt h key hj
      have hn := hne j hj
      refine ⟨fun e => absurd e hn, fun e => absurd e (by decide), fun _ hjk => ?_, fun _ h0 e => ?_⟩
      · have : ¬ l[j].1 < key := fun e => by have := hlt.1 e; omega
        omega
      · have : l[j].1 < key := hlt.2 (by omega)
        omega
    · refine ⟨atC l key, by rw [atI_leaf], hle, fun e => absurd e (by decide), fun e => absurd e hb, fun j hj => ?_⟩
      have hlt := atC_lt h key hj
      exact ⟨fun e => absurd e (hne j hj), fun _ => hlt.symm, fun e => absurd e (by decide), fun e => absurd e (by decide)⟩
end Go.Proofs.Ytpcchbcibcfldaa
