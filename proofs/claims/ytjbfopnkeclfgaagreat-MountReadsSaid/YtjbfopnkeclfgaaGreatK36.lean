/- Trees in a heap of cells, as plain functions; what is right about them. No program in sight. The walk of High of the reference of layer 7. The walk of List of the reference of layer 7. Items of right trees rise; what keys tell of them; parts of scans. No program in sight. The walk of Nodes of the reference of layer 7. Walks of List, Nodes of any root, of Scan and of Get of the reference of layer 7. What scans and keys of right trees tell: for the law on scans. No program in sight. What is found hangs on no fuel; what a node's items lead to. No program in sight. The walk of Scan of the reference of layer 7. What the walk of below of the reference of layer 7 leans on: boxes of four cells, heights, first and last keys. A tree's nodes: each once, the root first; their leaves' items are all. No program in sight. -/
import Derived.Test.YtjbfopnkeclfgaaGreatK06
import Derived.Deep.AppendLies
import Derived.Deep.RegionHeld3
import Derived.Deep.DeepCutAuto
import Derived.Deep.DrawnRows
import Derived.RegionTactic
import Derived.Deep.QuietTactic
import Derived.BigQuiet
import Derived.Test.YtjbfopnkeclfgaaGreatK10
namespace Go.Proofs.YtjbfopnkeclfgaaGreat
set_option maxRecDepth 20000
open Go.RowKit

/-- What is found below a node. -/
structure Gt where
  lo : Int
  hi : Int
  high : Int
  is : Bool
deriving DecidableEq
def Gt.no : Gt := ⟨0, 0, 0, false⟩
def cellT (l : List HC) (p : Int) : HC := l.getD p.toNat HC.none
def firstK (it : List It) : Int := (it.getD 0 (0, 0)).1
def lastK (it : List It) : Int := (it.getD (it.length - 1) (0, 0)).1
def badR (i : Nat) (x : It) (g o : Gt) : Bool := !g.is || (decide (g.lo ≠ x.1) || (decide (0 < i) && (decide (g.lo ≤ o.hi) || decide (o.high ≠ g.high + 1))))
def nextR (i : Nat) (g o : Gt) : Gt := ⟨if i = 0 then g.lo else o.lo, g.hi, if i = 0 then g.high + 1 else o.high, false⟩
def belRow (f : Int → Gt) : Nat → List It → Gt → Gt
  | _, [], o => ⟨o.lo, o.hi, o.high, true⟩
  | i, x :: r, o => if badR i x (f x.2) o then Gt.no else belRow f (i + 1) r (nextR i (f x.2) o)
def bel (l : List HC) : Nat → Int → Gt
  | 0, _ => Gt.no
  | m + 1, p => if (cellT l p).ref < 1 then Gt.no else if (cellT l p).leaf then ⟨firstK (cellT l p).it, lastK (cellT l p).it, 1, true⟩ else belRow (bel l m) 0 (cellT l p).it Gt.no
def rightR (h : Hp) (root : Int) : Bool := decide (root = -1) || (usedH h root && (bel h.c 20 root).is)
def highT (l : List HC) (root : Int) : Int := if root < 0 then 0 else (bel l 20 root).high
def listB (l : List HC) : Nat → Int → List It
  | 0, _ => []
  | m + 1, p => if (cellT l p).leaf then (cellT l p).it else (cellT l p).it.flatMap (fun x => listB l m x.2)
def nodesB (l : List HC) : Nat → Int → List Int
  | 0, _ => []
  | m + 1, p => p :: (if (cellT l p).leaf then [] else (cellT l p).it.flatMap (fun x => nodesB l m x.2))
def nodesT (l : List HC) (root : Int) : List Int := if root < 0 then [] else nodesB l 20 root

/-- What each item of a row leads to is right, and as high as the others. -/
theorem belRow_is {f : Int → Gt} : ∀ {r : List It} {i : Nat} {o : Gt}, (belRow f i r o).is = true →
    (∀ x ∈ r, (f x.2).is = true ∧ (f x.2).lo = x.1) ∧ (∀ x ∈ r, (f x.2).high + 1 = (belRow f i r o).high) ∧ (0 < i → (belRow f i r o).high = o.high ∧ (belRow f i r o).lo = o.lo)
  | [], i, o, _ => ⟨by simp, by simp, fun _ => ⟨rfl, rfl⟩⟩
  | x :: r, i, o, h => by
    unfold belRow at h ⊢
    cases hb : badR i x (f x.2) o
    · rw [hb] at h
      simp only [Bool.false_eq_true, if_false] at h ⊢
      obtain ⟨h1, h2, h3⟩ := belRow_is h
      obtain ⟨h4, h5⟩ := h3 (by omega)
      unfold badR at hb
      simp only [Bool.or_eq_false_iff, Bool.not_eq_false', Bool.and_eq_false_iff, decide_eq_false_iff_not, Decidable.not_not] at hb
      obtain ⟨b1, b2, b3⟩ := hb
      have h6 : (f x.2).high + 1 = (belRow f (i + 1) r (nextR i (f x.2) o)).high := by
        rw [h4]
        unfold nextR
        split
        · rfl
        · rcases b3 with b | b
          · omega
          · exact b.2.symm
      refine ⟨fun y hy => ?_, fun y hy => ?_, fun hi => ?_⟩
      · rcases List.mem_cons.1 hy with rfl | hy
        · exact ⟨b1, b2⟩
        · exact h1 y hy
      · rcases List.mem_cons.1 hy with rfl | hy
        · exact h6
        · exact h2 y hy
      · rw [h4, h5]
        unfold nextR
        rw [if_neg (by omega), if_neg (by omega)]
        exact ⟨rfl, rfl⟩
    · rw [hb] at h
      simp [Gt.no] at h
/-- A right tree's root: a cell that is held; a leaf, or one whose items lead to right trees, all as high. -/
theorem bel_is {l : List HC} {m : Nat} {p : Int} (h : (bel l (m + 1) p).is = true) : 0 < (cellT l p).ref ∧ (((cellT l p).leaf = true ∧ bel l (m + 1) p = ⟨firstK (cellT l p).it, lastK (cellT l p).it, 1, true⟩) ∨ ((cellT l p).leaf = false ∧ bel l (m + 1) p = belRow (bel l m) 0 (cellT l p).it Gt.no ∧ ∀ x ∈ (cellT l p).it, (bel l m x.2).is = true ∧ (bel l m x.2).lo = x.1 ∧ (bel l m x.2).high + 1 = (bel l (m + 1) p).high)) := by
  rw [bel] at h ⊢
  by_cases h1 : (cellT l p).ref < 1
  · rw [if_pos h1] at h; simp [Gt.no] at h
  · rw [if_neg h1] at h ⊢
    refine ⟨by omega, ?_⟩
    cases h2 : (cellT l p).leaf
    · right
      rw [h2] at h
      simp only [Bool.false_eq_true, if_false] at h ⊢
      have h3 := belRow_is h
      exact ⟨trivial, trivial, fun x hx => ⟨(h3.1 x hx).1, (h3.1 x hx).2, h3.2.1 x hx⟩⟩
    · left; simp
theorem bel_zero {l : List HC} {p : Int} (h : (bel l 0 p).is = true) : False := by simp [bel, Gt.no] at h
/-- Cells of a right heap that are held have right nodes. -/
theorem cell_ok {n : Nat} {c : HC} (h : cellR n c = true) (hr : 0 < c.ref) : NdR c.it ∧ (c.leaf = false → ∀ x ∈ c.it, 0 ≤ x.2 ∧ x.2 < n) := by
  unfold cellR at h
  rw [if_neg (by omega)] at h
  simp only [Bool.and_eq_true, decide_eq_true_eq] at h
  refine ⟨(ndR_iff _).1 h.2.2.2.1, fun hl x hx => ?_⟩
  have h1 := h.2.2.2.2
  unfold placesC at h1
  rw [hl, Bool.false_or, List.all_eq_true] at h1
  have := h1 x hx
  simpa using this
theorem cellT_at {l : List HC} {k : Nat} (hk : k < l.length) : cellT l (k : Int) = l[k] := by
  unfold cellT
  rw [Int.toNat_natCast, List.getD_eq_getElem?_getD, List.getElem?_eq_getElem hk]
  rfl
/-- All cells are right. -/
def AllR (l : List HC) : Prop := ∀ k (hk : k < l.length), cellR l.length l[k] = true
end Go.Proofs.YtjbfopnkeclfgaaGreat
namespace Go.Proofs.YtjbfopnkeclfgaaGreat
set_option maxRecDepth 20000
open Go.RowKit
attribute [local go_sem ↓] Go.wp_at_zero Go.wp_at_succ

/-- A cell's node, its row opened. -/
theorem it_at {w : World} {A : Option Addr} {n c : Nat} {it : List It} (h : Sl w A n c (ivs it)) {k : Nat} (hk : k < it.length) : ∃ b off, A = some ⟨b, off, none⟩ ∧ b < w.heap.size ∧ w.cell? ⟨b, off + k * 2, none⟩ = some (.int .i64 it[k].1) ∧ w.cell? ⟨b, off + k * 2 + 1, none⟩ = some (.int .i64 it[k].2) := by
  obtain ⟨b, off, e, hlt, hc⟩ := h.cells.it hk
  exact ⟨b, off, e, hlt, hc k hk⟩
end Go.Proofs.YtjbfopnkeclfgaaGreat
namespace Go.Proofs.YtjbfopnkeclfgaaGreat
set_option maxRecDepth 20000
open Go.RowKit
attribute [local go_sem ↓] Go.wp_at_zero Go.wp_at_succ

end Go.Proofs.YtjbfopnkeclfgaaGreat
namespace Go.Proofs.YtjbfopnkeclfgaaGreat
set_option maxRecDepth 20000
open Go.RowKit

def Asc (xs : List It) : Prop := xs.Pairwise (fun a b => a.1 < b.1)
/-- Items that rise, from the key lo to the key hi. -/
structure Spans (xs : List It) (lo hi : Int) : Prop where
  asc : Asc xs
  head : ∃ y r, xs = y :: r ∧ y.1 = lo
  last : ∃ y ∈ xs, y.1 = hi
  le : ∀ x ∈ xs, x.1 ≤ hi
  ok : ∀ x ∈ xs, okIt x
theorem Spans.ge {xs : List It} {lo hi : Int} (h : Spans xs lo hi) : ∀ x ∈ xs, lo ≤ x.1 := by
  obtain ⟨y, r, rfl, rfl⟩ := h.head
  intro x hx
  rcases List.mem_cons.1 hx with rfl | hx
  · exact Int.le_refl _
  · exact Int.le_of_lt ((List.pairwise_cons.1 h.asc).1 x hx)
theorem Spans.le2 {xs : List It} {lo hi : Int} (h : Spans xs lo hi) : lo ≤ hi := by
  obtain ⟨y, hy, rfl⟩ := h.last
  exact h.ge y hy
theorem asc_of {xs : List It} (h : NdR xs) : Asc xs := by
  unfold Asc
  rw [List.pairwise_iff_getElem]
  intro i j hi hj hij
  exact h.rise j i hj hij
theorem spans_leaf {xs : List It} (h : NdR xs) : Spans xs (firstK xs) (lastK xs) := by
  have hlen := h.1.1
  refine ⟨asc_of h, ?_, ?_, ?_, h.ok⟩
  · cases xs with
    | nil => simp at hlen
    | cons y r => exact ⟨y, r, rfl, rfl⟩
  · refine ⟨xs[xs.length - 1], List.getElem_mem _, ?_⟩
    unfold lastK
    rw [List.getD_eq_getElem?_getD, List.getElem?_eq_getElem (by omega)]
    rfl
  · intro x hx
    obtain ⟨i, hi, rfl⟩ := List.mem_iff_getElem.1 hx
    unfold lastK
    rw [List.getD_eq_getElem?_getD, List.getElem?_eq_getElem (by omega)]
    show xs[i].1 ≤ xs[xs.length - 1].1
    rcases Nat.lt_or_ge i (xs.length - 1) with h' | h'
    · exact Int.le_of_lt (h.rise (xs.length - 1) i (by omega) h')
    · have : i = xs.length - 1 := by omega
      subst this
      exact Int.le_refl _
theorem Spans.app {xs ys : List It} {a b c d : Int} (h : Spans xs a b) (k : Spans ys c d) (hbc : b < c) : Spans (xs ++ ys) a d := by
  refine ⟨?_, ?_, ?_, ?_, ?_⟩
  · unfold Asc
    rw [List.pairwise_append]
    exact ⟨h.asc, k.asc, fun x hx y hy => by have h1 := h.le x hx; have h2 := k.ge y hy; omega⟩
  · obtain ⟨y, r, rfl, hy⟩ := h.head
    exact ⟨y, r ++ ys, rfl, hy⟩
  · obtain ⟨y, hy, e⟩ := k.last
    exact ⟨y, List.mem_append_right _ hy, e⟩
  · intro x hx
    rcases List.mem_append.1 hx with hx | hx
    · have h1 := h.le x hx; have h2 := k.le2; omega
    · exact k.le x hx
  · intro x hx
    rcases List.mem_append.1 hx with hx | hx
    · exact h.ok x hx
    · exact k.ok x hx
/-- Rows whose parts span what is found of them: all of it spans from the first part's least key to the last one's greatest. -/
theorem spans_row {f : Int → Gt} {g : Int → List It} : ∀ {r : List It} {i : Nat} {o : Gt} {xs : List It}, (∀ x ∈ r, Spans (g x.2) (f x.2).lo (f x.2).hi) → (belRow f i r o).is = true →
    0 < i → Spans xs o.lo o.hi → Spans (xs ++ r.flatMap (fun x => g x.2)) (belRow f i r o).lo (belRow f i r o).hi
  | [], i, o, xs, _, _, _, h => by simpa [belRow] using h
  | x :: r, i, o, xs, hg, hb, hi, h => by
    unfold belRow at hb ⊢
    cases hbad : badR i x (f x.2) o
    · rw [hbad] at hb
      simp only [Bool.false_eq_true, if_false] at hb ⊢
      unfold badR at hbad
      simp only [Bool.or_eq_false_iff, Bool.and_eq_false_iff, decide_eq_false_iff_not] at hbad
      have hlt : o.hi < (f x.2).lo := by
        rcases hbad.2.2 with b | b
        · omega
        · omega
      have h1 := h.app (hg x List.mem_cons_self) hlt
      have hnx : (nextR i (f x.2) o).lo = o.lo ∧ (nextR i (f x.2) o).hi = (f x.2).hi := by
        unfold nextR
        simp only
        rw [if_neg (by omega)]
        exact ⟨rfl, trivial⟩
      rw [← hnx.1, ← hnx.2] at h1
      have h2 := spans_row (fun y hy => hg y (List.mem_cons_of_mem _ hy)) hb (by omega) h1
      rw [List.flatMap_cons, ← List.append_assoc]
      exact h2
    · rw [hbad] at hb; simp [Gt.no] at hb
/-- A right tree's items span from its least key to its greatest. -/
theorem listB_spans (l : List HC) (hl : AllR l) : ∀ (m : Nat) (p : Int), 0 ≤ p → p < l.length → (bel l m p).is = true → Spans (listB l m p) (bel l m p).lo (bel l m p).hi
  | 0, p, _, _, h => (bel_zero h).elim
  | m + 1, p, h0, h1, h => by
    obtain ⟨k, rfl⟩ := Int.eq_ofNat_of_zero_le h0
    have hk : k < l.length := by omega
    obtain ⟨hr, hc⟩ := bel_is h
    rw [cellT_at hk] at hr hc
    have hok := cell_ok (hl k hk) hr
    unfold listB
    rw [cellT_at hk]
    rcases hc with ⟨hlf, e⟩ | ⟨hlf, e, hch⟩
    · rw [hlf, if_pos rfl, e]
      exact spans_leaf hok.1
    · rw [hlf]
      simp only [Bool.false_eq_true, if_false]
      rw [e] at h ⊢
      have hg : ∀ x ∈ l[k].it, Spans (listB l m x.2) (bel l m x.2).lo (bel l m x.2).hi := fun x hx => listB_spans l hl m x.2 (hok.2 hlf x hx).1 (by have := (hok.2 hlf x hx).2; omega) (hch x hx).1
      have hlen := hok.1.1.1
      generalize l[k].it = it at *
      cases it with
      | nil => simp at hlen
      | cons x r =>
        unfold belRow at h ⊢
        cases hbad : badR 0 x (bel l m x.2) Gt.no
        · rw [hbad] at h
          simp only [Bool.false_eq_true, if_false] at h ⊢
          have h1 := hg x List.mem_cons_self
          have hnx : (nextR 0 (bel l m x.2) Gt.no).lo = (bel l m x.2).lo ∧ (nextR 0 (bel l m x.2) Gt.no).hi = (bel l m x.2).hi := ⟨rfl, rfl⟩
          rw [← hnx.1, ← hnx.2] at h1
          rw [List.flatMap_cons]
          exact spans_row (fun y hy => hg y (List.mem_cons_of_mem _ hy)) h (by omega) h1
        · rw [hbad] at h; simp [Gt.no] at h
end Go.Proofs.YtjbfopnkeclfgaaGreat
namespace Go.Proofs.YtjbfopnkeclfgaaGreat
set_option maxRecDepth 20000
open Go.RowKit
attribute [local go_sem ↓] Go.wp_at_zero Go.wp_at_succ

end Go.Proofs.YtjbfopnkeclfgaaGreat
namespace Go.Proofs.YtjbfopnkeclfgaaGreat
set_option maxRecDepth 20000
open Go.RowKit
attribute [local go_sem ↓] Go.wp_at_zero Go.wp_at_succ

theorem rightR_iff {l : List HC} {keep p : Int} (h : rightR ⟨l, keep⟩ p = true) : p < 0 ∨ (0 ≤ p ∧ p < l.length ∧ (bel l 20 p).is = true) := by
  unfold rightR at h
  rw [Bool.or_eq_true, Bool.and_eq_true] at h
  rcases h with h | ⟨hu, hb⟩
  · have := of_decide_eq_true h; omega
  · obtain ⟨k, hk, rfl, _⟩ := usedC_iff (show usedC l p = true from hu)
    exact .inr ⟨by omega, by omega, hb⟩
end Go.Proofs.YtjbfopnkeclfgaaGreat
namespace Go.Proofs.YtjbfopnkeclfgaaGreat
set_option maxRecDepth 20000
open Go.RowKit

end Go.Proofs.YtjbfopnkeclfgaaGreat
namespace Go.Proofs.YtjbfopnkeclfgaaGreat
set_option maxRecDepth 20000
open Go.RowKit

theorem belRow_congr {f g : Int → Gt} : ∀ {r : List It} {i : Nat} {o : Gt}, (∀ x ∈ r, g x.2 = f x.2) → belRow g i r o = belRow f i r o
  | [], _, _, _ => rfl
  | x :: r, i, o, h => by
    unfold belRow
    rw [h x List.mem_cons_self, belRow_congr (fun y hy => h y (List.mem_cons_of_mem _ hy))]
theorem flatMap_congr' {α β : Type} {f g : α → List β} : ∀ {r : List α}, (∀ x ∈ r, g x = f x) → r.flatMap g = r.flatMap f
  | [], _ => rfl
  | x :: r, h => by
    rw [List.flatMap_cons, List.flatMap_cons, h x List.mem_cons_self, flatMap_congr' (fun y hy => h y (List.mem_cons_of_mem _ hy))]
theorem bel_mono (l : List HC) : ∀ (m m' : Nat) (p : Int), (bel l m p).is = true → m ≤ m' → bel l m' p = bel l m p
  | 0, _, _, h, _ => (bel_zero h).elim
  | m + 1, 0, _, _, h => by omega
  | m + 1, m' + 1, p, h, hm => by
    obtain ⟨hr, hc⟩ := bel_is h
    rw [bel, if_neg (by omega)]
    rcases hc with ⟨hlf, e⟩ | ⟨hlf, e, hch⟩
    · rw [hlf, if_pos rfl, e]
    · rw [hlf, e]
      simp only [Bool.false_eq_true, if_false]
      exact belRow_congr (fun x hx => bel_mono l m m' x.2 (hch x hx).1 (by omega))
theorem listB_mono (l : List HC) : ∀ (m m' : Nat) (p : Int), (bel l m p).is = true → m ≤ m' → listB l m' p = listB l m p
  | 0, _, _, h, _ => (bel_zero h).elim
  | m + 1, 0, _, _, h => by omega
  | m + 1, m' + 1, p, h, hm => by
    obtain ⟨hr, hc⟩ := bel_is h
    rw [listB, listB]
    rcases hc with ⟨hlf, e⟩ | ⟨hlf, e, hch⟩
    · rw [hlf, if_pos rfl, if_pos rfl]
    · rw [hlf]
      simp only [Bool.false_eq_true, if_false]
      exact flatMap_congr' (fun x hx => listB_mono l m m' x.2 (hch x hx).1 (by omega))
theorem rightR_of {l : List HC} {keep p : Int} (h0 : 0 ≤ p) (h1 : p < l.length) (hb : (bel l 20 p).is = true) : rightR ⟨l, keep⟩ p = true := by
  obtain ⟨k, rfl⟩ := Int.eq_ofNat_of_zero_le h0
  have hk : k < l.length := by omega
  have hr := (bel_is (m := 19) hb).1
  rw [cellT_at hk] at hr
  unfold rightR
  rw [show usedH ⟨l, keep⟩ (k : Int) = true from by show usedC l (k : Int) = true; rw [usedC_at hk, decide_eq_true hr], hb]
  simp
end Go.Proofs.YtjbfopnkeclfgaaGreat
namespace Go.Proofs.YtjbfopnkeclfgaaGreat
set_option maxRecDepth 20000
open Go.RowKit
attribute [local go_sem ↓] Go.wp_at_zero Go.wp_at_succ

end Go.Proofs.YtjbfopnkeclfgaaGreat
namespace Go.Proofs.YtjbfopnkeclfgaaGreat
set_option maxRecDepth 20000
open Go.RowKit
attribute [local go_sem ↓] Go.wp_at_zero Go.wp_at_succ

theorem Bx.drew {w : World} {k : Nat} {cs : Array Value} (h : Bx w k cs) : Bx w.drew k cs := h
theorem belRow_high {f : Int → Gt} {b : Int} (hb : 0 ≤ b) : ∀ {r : List It} {i : Nat} {o : Gt}, (∀ x ∈ r, 0 ≤ (f x.2).high ∧ (f x.2).high ≤ b) → (0 ≤ o.high ∧ o.high ≤ b + 1) → 0 ≤ (belRow f i r o).high ∧ (belRow f i r o).high ≤ b + 1
  | [], i, o, _, h => h
  | x :: r, i, o, hf, h => by
    unfold belRow
    split
    · exact ⟨by simp [Gt.no], by simp [Gt.no]; omega⟩
    · refine belRow_high hb (fun y hy => hf y (List.mem_cons_of_mem _ hy)) ?_
      have := hf x List.mem_cons_self
      unfold nextR
      split <;> simp only <;> omega
theorem bel_high (l : List HC) : ∀ (m : Nat) (p : Int), 0 ≤ (bel l m p).high ∧ (bel l m p).high ≤ m
  | 0, p => by simp [bel, Gt.no]
  | m + 1, p => by
    unfold bel
    split
    · exact ⟨by simp [Gt.no], by simp [Gt.no]; omega⟩
    · split
      · exact ⟨by simp, by simp only; omega⟩
      · have h := belRow_high (f := bel l m) (b := m) (by omega) (r := (cellT l p).it) (i := 0) (o := Gt.no) (fun x _ => bel_high l m x.2) (by simp [Gt.no]; omega)
        exact ⟨h.1, by have := h.2; omega⟩
theorem firstK_at {it : List It} (h : 0 < it.length) : firstK it = it[0].1 := by unfold firstK; rw [List.getD_eq_getElem?_getD, List.getElem?_eq_getElem h]; rfl
theorem lastK_at {it : List It} (h : 0 < it.length) : lastK it = (it[it.length - 1]'(by omega)).1 := by unfold lastK; rw [List.getD_eq_getElem?_getD, List.getElem?_eq_getElem (by omega)]; rfl
end Go.Proofs.YtjbfopnkeclfgaaGreat
namespace Go.Proofs.YtjbfopnkeclfgaaGreat
set_option maxRecDepth 20000
open Go.RowKit

/-- What each node of a right tree is. -/
theorem node_in (l : List HC) (hl : AllR l) : ∀ (m : Nat) (p : Int), 0 ≤ p → p < l.length → (bel l m p).is = true → ∀ y ∈ nodesB l m p,
    ∃ m' : Nat, m' ≤ m ∧ (bel l m' y).is = true ∧ (0 ≤ y ∧ y < l.length) ∧ (bel l m' y).high ≤ (bel l m p).high ∧ ∀ z ∈ listB l m' y, z ∈ listB l m p
  | 0, p, _, _, h, _, _ => (bel_zero h).elim
  | m + 1, p, h0, h1, h, y, hy => by
    obtain ⟨k, rfl⟩ := Int.eq_ofNat_of_zero_le h0
    have hk : k < l.length := by omega
    obtain ⟨hr, hc⟩ := bel_is h
    have hr2 := hr
    rw [cellT_at hk] at hr
    have hok := cell_ok (hl k hk) hr
    rw [nodesB] at hy
    rcases List.mem_cons.1 hy with rfl | hy
    · exact ⟨m + 1, Nat.le_refl _, h, ⟨h0, h1⟩, Int.le_refl _, fun z hz => hz⟩
    · rcases hc with ⟨hlf, _⟩ | ⟨hlf, e, hch⟩
      · rw [hlf] at hy; simp at hy
      · rw [hlf] at hy
        simp only [Bool.false_eq_true, if_false] at hy
        obtain ⟨x, hx, hy⟩ := List.mem_flatMap.1 hy
        have hx' : x ∈ l[k].it := by rw [cellT_at hk] at hx; exact hx
        have hlf' : l[k].leaf = false := by rw [cellT_at hk] at hlf; exact hlf
        obtain ⟨c1, c2, c3⟩ := hch x hx
        have hp := hok.2 hlf' x hx'
        obtain ⟨m', d1, d2, d3, d4, d5⟩ := node_in l hl m x.2 hp.1 (by omega) c1 y hy
        refine ⟨m', by omega, d2, d3, by omega, fun z hz => ?_⟩
        rw [listB, hlf]
        simp only [Bool.false_eq_true, if_false]
        exact List.mem_flatMap.2 ⟨x, hx, d5 z hz⟩
theorem belRow_pair {f : Int → Gt} : ∀ {r : List It} {i : Nat} {o : Gt}, (∀ x ∈ r, (f x.2).lo ≤ (f x.2).hi) → (belRow f i r o).is = true →
    r.Pairwise (fun a b => (f a.2).hi < (f b.2).lo) ∧ (0 < i → ∀ x ∈ r, o.hi < (f x.2).lo)
  | [], _, _, _, _ => ⟨List.Pairwise.nil, fun _ x hx => by cases hx⟩
  | x :: r, i, o, hs, hb => by
    unfold belRow at hb
    cases hbad : badR i x (f x.2) o
    · rw [hbad] at hb
      simp only [Bool.false_eq_true, if_false] at hb
      obtain ⟨h1, h2⟩ := belRow_pair (fun y hy => hs y (List.mem_cons_of_mem _ hy)) hb
      have hnx : (nextR i (f x.2) o).hi = (f x.2).hi := rfl
      have h3 := h2 (by omega)
      rw [hnx] at h3
      refine ⟨List.pairwise_cons.2 ⟨fun y hy => h3 y hy, h1⟩, fun hi y hy => ?_⟩
      unfold badR at hbad
      simp only [Bool.or_eq_false_iff, Bool.and_eq_false_iff, decide_eq_false_iff_not] at hbad
      have hlt : o.hi < (f x.2).lo := by
        rcases hbad.2.2 with b | b
        · omega
        · omega
      rcases List.mem_cons.1 hy with rfl | hy
      · exact hlt
      · have h4 := h3 y hy
        have h5 := hs x List.mem_cons_self
        omega
    · rw [hbad] at hb; simp [Gt.no] at hb
theorem nodup_fm {α : Type} {g : α → List Int} : ∀ {r : List α}, (∀ x ∈ r, (g x).Nodup) → r.Pairwise (fun a b => ∀ y, y ∈ g a → y ∉ g b) → (r.flatMap g).Nodup
  | [], _, _ => by simp
  | x :: r, h, hp => by
    obtain ⟨h1, h2⟩ := List.pairwise_cons.1 hp
    rw [List.flatMap_cons, List.nodup_append]
    refine ⟨h x List.mem_cons_self, nodup_fm (fun y hy => h y (List.mem_cons_of_mem _ hy)) h2, ?_⟩
    intro a ha b hb e
    subst e
    obtain ⟨z, hz, hb⟩ := List.mem_flatMap.1 hb
    exact h1 z hz a ha hb
/-- Each node stands once. -/
theorem nodes_once (l : List HC) (hl : AllR l) : ∀ (m : Nat) (p : Int), 0 ≤ p → p < l.length → (bel l m p).is = true → (nodesB l m p).Nodup
  | 0, p, _, _, h => (bel_zero h).elim
  | m + 1, p, h0, h1, h => by
    obtain ⟨k, rfl⟩ := Int.eq_ofNat_of_zero_le h0
    have hk : k < l.length := by omega
    obtain ⟨hr, hc⟩ := bel_is h
    rw [cellT_at hk] at hr
    have hok := cell_ok (hl k hk) hr
    rw [nodesB]
    rcases hc with ⟨hlf, _⟩ | ⟨hlf, e, hch⟩
    · rw [hlf, if_pos rfl]; simp
    · rw [hlf]
      simp only [Bool.false_eq_true, if_false]
      have hx' : ∀ x ∈ (cellT l (k : Int)).it, 0 ≤ x.2 ∧ x.2 < l.length := fun x hx => by
        rw [cellT_at hk] at hx hlf
        exact hok.2 hlf x hx
      rw [List.nodup_cons]
      constructor
      · intro hin
        obtain ⟨x, hx, hy⟩ := List.mem_flatMap.1 hin
        obtain ⟨c1, c2, c3⟩ := hch x hx
        obtain ⟨m', d1, d2, d3, d4, d5⟩ := node_in l hl m x.2 (hx' x hx).1 (hx' x hx).2 c1 _ hy
        rw [bel_mono l m' (m + 1) _ d2 (by omega)] at c3
        omega
      · have hsp : ∀ x ∈ (cellT l (k : Int)).it, Spans (listB l m x.2) (bel l m x.2).lo (bel l m x.2).hi := fun x hx => listB_spans l hl m x.2 (hx' x hx).1 (hx' x hx).2 (hch x hx).1
        rw [e] at h
        have hpw := (belRow_pair (f := bel l m) (fun x hx => (hsp x hx).le2) h).1
        refine nodup_fm (fun x hx => nodes_once l hl m x.2 (hx' x hx).1 (hx' x hx).2 (hch x hx).1) ?_
        refine List.Pairwise.imp_of_mem ?_ hpw
        intro a b ha hb hlt y hya hyb
        obtain ⟨m1, a1, a2, a3, _, a5⟩ := node_in l hl m a.2 (hx' a ha).1 (hx' a ha).2 (hch a ha).1 y hya
        obtain ⟨m2, b1, b2, b3, _, b5⟩ := node_in l hl m b.2 (hx' b hb).1 (hx' b hb).2 (hch b hb).1 y hyb
        have e1 := listB_mono l m1 m y a2 a1
        have e2 := listB_mono l m2 m y b2 b1
        have hs := listB_spans l hl m1 y a3.1 a3.2 a2
        obtain ⟨z, r, hz, _⟩ := hs.head
        have hz1 : z ∈ listB l m1 y := by rw [hz]; exact List.mem_cons_self
        have hz2 : z ∈ listB l m2 y := by rw [← e2, e1]; exact hz1
        have k1 := (hsp a ha).le z (a5 z hz1)
        have k2 := (hsp b hb).ge z (b5 z hz2)
        omega
theorem bel_pos (l : List HC) (hl : AllR l) : ∀ (m : Nat) (p : Int), 0 ≤ p → p < l.length → (bel l m p).is = true → 1 ≤ (bel l m p).high
  | 0, p, _, _, h => (bel_zero h).elim
  | m + 1, p, h0, h1, h => by
    obtain ⟨k, rfl⟩ := Int.eq_ofNat_of_zero_le h0
    have hk : k < l.length := by omega
    obtain ⟨hr, hc⟩ := bel_is h
    rw [cellT_at hk] at hr hc
    have hok := cell_ok (hl k hk) hr
    rcases hc with ⟨hlf, e⟩ | ⟨hlf, e, hch⟩
    · rw [e]; simp
    · have hlen := hok.1.1.1
      have hx : l[k].it[0] ∈ l[k].it := List.getElem_mem (by omega)
      have h2 := (hch _ hx).2.2
      have h3 := (bel_high l m l[k].it[0].2).1
      omega
end Go.Proofs.YtjbfopnkeclfgaaGreat
