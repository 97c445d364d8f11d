/- Tasks, as plain pairs of floats (TodoP and TdP once more, over no text of num: for seats that hold all layers). -/
import Derived.Test.YtjbfopnkeclfgaaGreatK16
import Derived.Test.YtjbfopnkeclfgaaGreatK03
import Derived.Test.YtjbfopnkeclfgaaGreatRows
import Derived.WalkKit
import Derived.WalkSpells
import Derived.WalkLawsBesides
import Derived.Lib.Hide
import Derived.Test.YtjbfopnkeclfgaaGreatK02
namespace Go.Proofs.YtjbfopnkeclfgaaGreat
set_option maxRecDepth 20000
open Go.RowKit

/-- A task: the bits of its parts. -/
abbrev Tk := Nat × Nat
def cxv (t : Tk) : Value := .complex .f64 t.1 t.2
theorem cxv_one (l : List Tk) : ∀ u ∈ l.map cxv, u.oneCell' = true := by
  intro u hu
  obtain ⟨_, _, rfl⟩ := List.mem_map.1 hu
  rfl
theorem Cells.tk {w : World} {A : Option Addr} {l : List Tk} (h : Cells w A (l.map cxv)) {k : Nat} (hk : k < l.length) :
    ∃ b off, A = some ⟨b, off, none⟩ ∧ b < w.heap.size ∧ ∀ j (hj : j < l.length), w.cell? ⟨b, off + j, none⟩ = some (.complex .f64 l[j].1 l[j].2) := by
  obtain ⟨b, off, rfl, hlt, hc⟩ := h (by intro e; rw [List.map_eq_nil_iff] at e; subst e; simp at hk)
  exact ⟨b, off, rfl, hlt, fun j hj => hc j _ (by simp [hj, cxv])⟩
/-- The whole number that a float is. -/
def plN (x : Nat) : Nat := ((List.range 2600).find? (fun i => feq x (fN i))).getD 0
theorem plN_is {x i : Nat} (hi : i < 2600) (h : isWh x i) : plN x = i := by
  have hx := isWh_lt hi h
  unfold plN
  cases hf : (List.range 2600).find? (fun i => feq x (fN i)) with
  | none =>
    have := List.find?_eq_none.1 hf i (List.mem_range.2 hi)
    exact absurd ((feq_whole hx hi).2 h) this
  | some j =>
    have h1 := List.find?_some hf
    have h2 := List.mem_range.1 (List.mem_of_find?_eq_some hf)
    exact isWh_inj h2 hi ((feq_whole hx h2).1 h1) h
end Go.Proofs.YtjbfopnkeclfgaaGreat
