/- Tasks, as plain pairs of floats; which are right; rows of tasks. No program in sight. -/
import Derived.Test.YticppegploniaaaFlo
import Derived.Test.YticppegploniaaaNt5
import Derived.Test.YticppegploniaaaLaw
namespace Go.Proofs.Yticppegploniaaa
open Go.RowKit

/-- A task: the bits of its parts. -/
abbrev Tk := Nat × Nat
def cxv (t : Tk) : Value := .complex .f64 t.1 t.2
theorem cxv_one (l : List Tk) : ∀ u ∈ l.map cxv, u.oneCell' = true := by
  intro u hu
  obtain ⟨_, _, rfl⟩ := List.mem_map.1 hu
  rfl
theorem Cells.tk {w : World} {A : Option Addr} {l : List Tk} (h : Cells w A (l.map cxv)) {k : Nat} (hk : k < l.length) :
    ∃ b off, A = some ⟨b, off, none⟩ ∧ b < w.heap.size ∧ ∀ j (hj : j < l.length), w.cell? ⟨b, off + j, none⟩ = some (.complex .f64 l[j].1 l[j].2) := by
  obtain ⟨b, off, rfl, hlt, hc⟩ := h (by intro e; rw [List.map_eq_nil_iff] at e; subst e; simp at hk)
  exact ⟨b, off, rfl, hlt, fun j hj => hc j _ (by simp [hj, cxv])⟩
/-- Is a float one of the whole numbers from 0 to most? -/
def wholeB (x : Nat) (most : Int) : Bool := (List.range (most + 1).toNat).any (fun i => feq x (fN i))
theorem wholeB_iff {x : Nat} {most : Int} (hx : x < 2 ^ 64) (hm : most < 2600) : wholeB x most = true ↔ ∃ i : Nat, (i : Int) ≤ most ∧ isWh x i := by
  unfold wholeB
  rw [List.any_eq_true]
  constructor
  · rintro ⟨i, hi, he⟩
    have h1 : i < (most + 1).toNat := List.mem_range.1 hi
    exact ⟨i, by omega, (feq_whole hx (by omega)).1 he⟩
  · rintro ⟨i, hi, he⟩
    exact ⟨i, List.mem_range.2 (by omega), (feq_whole hx (by omega)).2 he⟩
/-- P6.1: which are right. -/
def okT (n : Int) (t : Tk) : Bool := wholeB t.1 (n - 1) && wholeB t.2 5
def rightT (l : List Tk) (n : Int) : Bool := l.all (okT n) && decide (l.length ≤ 500)
/-- The task of a place, of which so many steps are done. -/
def ofT (p k : Nat) : Tk := (fN p, fN k)
/-- The whole number that a float is. -/
def plN (x : Nat) : Nat := ((List.range 2600).find? (fun i => feq x (fN i))).getD 0
theorem plN_is {x i : Nat} (hi : i < 2600) (h : isWh x i) : plN x = i := by
  have hx := isWh_lt hi h
  unfold plN
  cases hf : (List.range 2600).find? (fun i => feq x (fN i)) with
  | none =>
    have := List.find?_eq_none.1 hf i (List.mem_range.2 hi)
    exact absurd ((feq_whole hx hi).2 h) this
  | some j =>
    have h1 := List.find?_some hf
    have h2 := List.mem_range.1 (List.mem_of_find?_eq_some hf)
    exact isWh_inj h2 hi ((feq_whole hx h2).1 h1) h
/-- What a right task is: a whole place, and whole steps. -/
theorem okT_iff {n : Int} {t : Tk} (h1 : t.1 < 2 ^ 64) (h2 : t.2 < 2 ^ 64) (hn : n ≤ 2000) : okT n t = true ↔ ∃ p k : Nat, (p : Int) < n ∧ k ≤ 5 ∧ isWh t.1 p ∧ isWh t.2 k := by
  unfold okT
  rw [Bool.and_eq_true, wholeB_iff h1 (by omega), wholeB_iff h2 (by omega)]
  constructor
  · rintro ⟨⟨p, hp, h3⟩, k, hk, h4⟩
    exact ⟨p, k, by omega, by omega, h3, h4⟩
  · rintro ⟨p, k, hp, hk, h3, h4⟩
    exact ⟨⟨p, by omega, h3⟩, k, by omega, h4⟩
end Go.Proofs.Yticppegploniaaa
