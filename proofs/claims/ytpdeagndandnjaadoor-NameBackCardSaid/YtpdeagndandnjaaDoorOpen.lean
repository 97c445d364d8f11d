/- A slice that came in, opened to a list, whatever its elements; no program in sight. -/
import Derived.Test.YtpdeagndandnjaaDoorDiskP2
import Derived.Deep.Slices
import Derived.Deep.Fields
import Derived.ChangeSame
import Derived.ProofKit
import Derived.OpenShut
namespace Go.Proofs.YtpdeagndandnjaaDoor
set_option maxRecDepth 20000
open Go.ChangeShapes Go.WideShapes Go.ChangeAt Go.RowKit Go.Deep

section
variable {H : Type} {enc : TypeId × Value → H} {P : Program} {w : World} {fuel : Nat} {cs : List Value} {x : DataW H × List MemPlace}

theorem cells_of_addr {w : World} {a : Addr} {xs : List Value} (h : ∀ j u, xs[j]? = some u → w.cell? (a.add j) = some u) : Cells w (some a) xs := fun hne => by
  obtain ⟨b, off, spot⟩ := a
  cases xs with
  | nil => exact absurd rfl hne
  | cons u r =>
    have h0 := h 0 u rfl
    have hspot : spot = none := by simpa [Addr.add] using World.cell?_spot h0
    subst hspot
    refine ⟨b, off, rfl, ?_, fun j u hu => ?_⟩
    · have h0' : w.cell? ⟨b, off, none⟩ = some u := by simpa [Addr.add] using h0
      rcases Nat.lt_or_ge b w.heap.size with h' | h'
      · exact h'
      · simp [World.cell?, Array.getElem?_eq_none h'] at h0'
    · have hc := h j u hu
      rwa [Addr.add_lit] at hc

theorem flatMap_get {α β : Type} (en : α → List β) (k : Nat) (hk : ∀ a, (en a).length = k) : ∀ (l : List α) (i j : Nat) (hi : i < l.length), j < k → (l.flatMap en)[i * k + j]? = (en l[i])[j]?
  | a :: l, 0, j, _, hj => by
    simp only [List.flatMap_cons, Nat.zero_mul, Nat.zero_add, List.getElem_cons_zero]
    rw [List.getElem?_append_left (by rw [hk]; exact hj)]
  | a :: l, i + 1, j, hi, hj => by
    simp only [List.flatMap_cons, List.getElem_cons_succ]
    rw [List.getElem?_append_right (by rw [hk, Nat.succ_mul]; omega), hk]
    rw [show (i + 1) * k + j - k = i * k + j by rw [Nat.succ_mul]; omega]
    exact flatMap_get en k hk l i j (by simpa using hi) hj
theorem flatMap_len {α β : Type} (en : α → List β) (k : Nat) (hk : ∀ a, (en a).length = k) (l : List α) : (l.flatMap en).length = l.length * k := by
  induction l with
  | nil => simp
  | cons a l ih => simp only [List.flatMap_cons, List.length_append, hk, ih, List.length_cons, Nat.succ_mul]; omega

theorem list_of_lt {α : Type} (p : Nat → α → Prop) : ∀ n, (∀ i, i < n → ∃ a, p i a) → ∃ l : List α, l.length = n ∧ ∀ i (hi : i < l.length), p i l[i]
  | 0, _ => ⟨[], rfl, fun i hi => absurd hi (by simp)⟩
  | n + 1, h => by
    obtain ⟨l, hl, hp⟩ := list_of_lt p n (fun i hi => h i (by omega))
    obtain ⟨a, ha⟩ := h n (by omega)
    refine ⟨l ++ [a], by simp [hl], fun i hi => ?_⟩
    rcases Nat.lt_or_ge i l.length with h' | h'
    · rw [List.getElem_append_left h']; exact hp i h'
    · have : i = n := by simp at hi; omega
      subst this
      rw [List.getElem_append_right (by omega)]
      simpa [hl] using ha

/-- A slice that came in: its elements as a list. -/
theorem open_sl {α : Type} {t e : TypeId} (size : Nat) (en : α → List Value) (ok : α → Prop) (ht : P.underlying t = some (.slice e)) (hc : P.cellsOf e = size) (hsz : ∀ a, (en a).length = size) (hpos : 0 < size)
    (dec : ∀ n cs' y, DataW.trod enc P w 0 (fun _ => true) true n e cs' = some y → ∃ a, cs' = en a ∧ ok a)
    (h : DataW.trod enc P w 0 (fun _ => true) true fuel t cs = some x) :
    ∃ (A : Option Addr) (l : List α) (c : Nat), cs = [.slice A l.length c] ∧ Sl w A l.length c (l.flatMap en) ∧ ∀ a ∈ l, ok a := by
  rcases open_slice ht h with ⟨rfl, _⟩ | ⟨a, len, cap, m, n, D, Pl, rfl, _, hl, hm, hmm, _, hx⟩
  · exact ⟨none, [], 0, rfl, Sl.nil w, by simp⟩
  · have hlm : len ≤ m := by rw [hmm]; simpa using hl
    rw [hc] at hx
    obtain ⟨l, hl', hp⟩ := list_of_lt (fun i (b : α) => ok b ∧ w.cells? 0 (a.add (i * size)) size = some (en b)) len (fun i hi => by
      obtain ⟨cs', h1, h2⟩ := hx i (by omega)
      obtain ⟨b, rfl, hb⟩ := dec _ _ _ h2
      exact ⟨b, hb, h1⟩)
    refine ⟨some a, l, cap, by rw [hl'], ⟨(fun h => by cases h), by omega, hm, ?_⟩, fun b hb => ?_⟩
    · apply cells_of_addr
      intro j u hu
      have hj := (List.getElem?_eq_some_iff.1 hu).1
      rw [flatMap_len en size hsz] at hj
      have hi : j / size < l.length := (Nat.div_lt_iff_lt_mul hpos).2 hj
      have hj' : j % size < size := Nat.mod_lt _ hpos
      have e : j = j / size * size + j % size := (Nat.div_add_mod' j size).symm
      obtain ⟨_, hcs⟩ := hp _ hi
      obtain ⟨_, _, hat⟩ := World.cells?_some hcs
      have h1 := hat (j % size) (by omega)
      rw [Go.Deep.add_add, ← e] at h1
      rw [h1, ← flatMap_get en size hsz l _ _ hi hj', ← e, hu]
    · obtain ⟨i, hi, rfl⟩ := List.mem_iff_getElem.1 hb
      exact (hp i hi).1
end
end Go.Proofs.YtpdeagndandnjaaDoor
