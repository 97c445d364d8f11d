/- Trees in a heap of cells, as plain functions; what is right about them. No program in sight. -/
import Derived.Test.YthlencnlgnbpaaaHeapW3
namespace Go.Proofs.Ythlencnlgnbpaaa
open Go.RowKit

/-- What is found below a node. -/
structure Gt where
  lo : Int
  hi : Int
  high : Int
  is : Bool
deriving DecidableEq
def Gt.no : Gt := ⟨0, 0, 0, false⟩
def cellT (l : List HC) (p : Int) : HC := l.getD p.toNat HC.none
def firstK (it : List It) : Int := (it.getD 0 (0, 0)).1
def lastK (it : List It) : Int := (it.getD (it.length - 1) (0, 0)).1
def badR (i : Nat) (x : It) (g o : Gt) : Bool := !g.is || (decide (g.lo ≠ x.1) || (decide (0 < i) && (decide (g.lo ≤ o.hi) || decide (o.high ≠ g.high + 1))))
def nextR (i : Nat) (g o : Gt) : Gt := ⟨if i = 0 then g.lo else o.lo, g.hi, if i = 0 then g.high + 1 else o.high, false⟩
def belRow (f : Int → Gt) : Nat → List It → Gt → Gt
  | _, [], o => ⟨o.lo, o.hi, o.high, true⟩
  | i, x :: r, o => if badR i x (f x.2) o then Gt.no else belRow f (i + 1) r (nextR i (f x.2) o)
def bel (l : List HC) : Nat → Int → Gt
  | 0, _ => Gt.no
  | m + 1, p => if (cellT l p).ref < 1 then Gt.no else if (cellT l p).leaf then ⟨firstK (cellT l p).it, lastK (cellT l p).it, 1, true⟩ else belRow (bel l m) 0 (cellT l p).it Gt.no
def rightR (h : Hp) (root : Int) : Bool := decide (root = -1) || (usedH h root && (bel h.c 20 root).is)
def highT (l : List HC) (root : Int) : Int := if root < 0 then 0 else (bel l 20 root).high
def listB (l : List HC) : Nat → Int → List It
  | 0, _ => []
  | m + 1, p => if (cellT l p).leaf then (cellT l p).it else (cellT l p).it.flatMap (fun x => listB l m x.2)
def listT (l : List HC) (root : Int) : List It := if root < 0 then [] else listB l 20 root
def scanT (l : List HC) (root lo hi : Int) : List It := (listT l root).filter (fun x => decide (lo ≤ x.1) && decide (x.1 < hi))
def getT (l : List HC) (root key : Int) : Option Int := ((listT l root).find? (fun x => decide (x.1 = key))).map (·.2)
def nodesB (l : List HC) : Nat → Int → List Int
  | 0, _ => []
  | m + 1, p => p :: (if (cellT l p).leaf then [] else (cellT l p).it.flatMap (fun x => nodesB l m x.2))
def nodesT (l : List HC) (root : Int) : List Int := if root < 0 then [] else nodesB l 20 root

/-- What each item of a row leads to is right, and as high as the others. -/
theorem belRow_is {f : Int → Gt} : ∀ {r : List It} {i : Nat} {o : Gt}, (belRow f i r o).is = true →
    (∀ x ∈ r, (f x.2).is = true ∧ (f x.2).lo = x.1) ∧ (∀ x ∈ r, (f x.2).high + 1 = (belRow f i r o).high) ∧ (0 < i → (belRow f i r o).high = o.high ∧ (belRow f i r o).lo = o.lo)
  | [], i, o, _ => ⟨by simp, by simp, fun _ => ⟨rfl, rfl⟩⟩
  | x :: r, i, o, h => by
    unfold belRow at h ⊢
    cases hb : badR i x (f x.2) o
    · rw [hb] at h
      simp only [Bool.false_eq_true, if_false] at h ⊢
      obtain ⟨h1, h2, h3⟩ := belRow_is h
      obtain ⟨h4, h5⟩ := h3 (by omega)
      unfold badR at hb
      simp only [Bool.or_eq_false_iff, Bool.not_eq_false', Bool.and_eq_false_iff, decide_eq_false_iff_not, Decidable.not_not] at hb
      obtain ⟨b1, b2, b3⟩ := hb
      have h6 : (f x.2).high + 1 = (belRow f (i + 1) r (nextR i (f x.2) o)).high := by
        rw [h4]
        unfold nextR
        split
        · rfl
        · rcases b3 with b | b
          · omega
          · exact b.2.symm
      refine ⟨fun y hy => ?_, fun y hy => ?_, fun hi => ?_⟩
      · rcases List.mem_cons.1 hy with rfl | hy
        · exact ⟨b1, b2⟩
        · exact h1 y hy
      · rcases List.mem_cons.1 hy with rfl | hy
        · exact h6
        · exact h2 y hy
      · rw [h4, h5]
        unfold nextR
        rw [if_neg (by omega), if_neg (by omega)]
        exact ⟨rfl, rfl⟩
    · rw [hb] at h
      simp [Gt.no] at h
/-- A right tree's root: a cell that is held; a leaf, or one whose items lead to right trees, all as high. -/
theorem bel_is {l : List HC} {m : Nat} {p : Int} (h : (bel l (m + 1) p).is = true) : 0 < (cellT l p).ref ∧ (((cellT l p).leaf = true ∧ bel l (m + 1) p = ⟨firstK (cellT l p).it, lastK (cellT l p).it, 1, true⟩) ∨ ((cellT l p).leaf = false ∧ bel l (m + 1) p = belRow (bel l m) 0 (cellT l p).it Gt.no ∧ ∀ x ∈ (cellT l p).it, (bel l m x.2).is = true ∧ (bel l m x.2).lo = x.1 ∧ (bel l m x.2).high + 1 = (bel l (m + 1) p).high)) := by
  rw [bel] at h ⊢
  by_cases h1 : (cellT l p).ref < 1
  · rw [if_pos h1] at h; simp [Gt.no] at h
  · rw [if_neg h1] at h ⊢
    refine ⟨by omega, ?_⟩
    cases h2 : (cellT l p).leaf
    · right
      rw [h2] at h
      simp only [Bool.false_eq_true, if_false] at h ⊢
      have h3 := belRow_is h
      exact ⟨trivial, trivial, fun x hx => ⟨(h3.1 x hx).1, (h3.1 x hx).2, h3.2.1 x hx⟩⟩
    · left; simp
theorem bel_zero {l : List HC} {p : Int} (h : (bel l 0 p).is = true) : False := by simp [bel, Gt.no] at h
/-- Cells of a right heap that are held have right nodes. -/
theorem cell_ok {n : Nat} {c : HC} (h : cellR n c = true) (hr : 0 < c.ref) : NdR c.it ∧ (c.leaf = false → ∀ x ∈ c.it, 0 ≤ x.2 ∧ x.2 < n) := by
  unfold cellR at h
  rw [if_neg (by omega)] at h
  simp only [Bool.and_eq_true, decide_eq_true_eq] at h
  refine ⟨(ndR_iff _).1 h.2.2.2.1, fun hl x hx => ?_⟩
  have h1 := h.2.2.2.2
  unfold placesC at h1
  rw [hl, Bool.false_or, List.all_eq_true] at h1
  have := h1 x hx
  simpa using this
theorem cellT_at {l : List HC} {k : Nat} (hk : k < l.length) : cellT l (k : Int) = l[k] := by
  unfold cellT
  rw [Int.toNat_natCast, List.getD_eq_getElem?_getD, List.getElem?_eq_getElem hk]
  rfl
/-- All cells are right. -/
def AllR (l : List HC) : Prop := ∀ k (hk : k < l.length), cellR l.length l[k] = true
end Go.Proofs.Ythlencnlgnbpaaa
