/- Items of right trees rise; what keys tell of them; parts of scans. No program in sight. -/
import Derived.Test.YthlencnlgnbpaaaTreeW2
namespace Go.Proofs.Ythlencnlgnbpaaa
open Go.RowKit

def Asc (xs : List It) : Prop := xs.Pairwise (fun a b => a.1 < b.1)
/-- Items that rise, from the key lo to the key hi. -/
structure Spans (xs : List It) (lo hi : Int) : Prop where
  asc : Asc xs
  head : ∃ y r, xs = y :: r ∧ y.1 = lo
  last : ∃ y ∈ xs, y.1 = hi
  le : ∀ x ∈ xs, x.1 ≤ hi
  ok : ∀ x ∈ xs, okIt x
theorem Spans.ge {xs : List It} {lo hi : Int} (h : Spans xs lo hi) : ∀ x ∈ xs, lo ≤ x.1 := by
  obtain ⟨y, r, rfl, rfl⟩ := h.head
  intro x hx
  rcases List.mem_cons.1 hx with rfl | hx
  · exact Int.le_refl _
  · exact Int.le_of_lt ((List.pairwise_cons.1 h.asc).1 x hx)
theorem Spans.le2 {xs : List It} {lo hi : Int} (h : Spans xs lo hi) : lo ≤ hi := by
  obtain ⟨y, hy, rfl⟩ := h.last
  exact h.ge y hy
theorem asc_of {xs : List It} (h : NdR xs) : Asc xs := by
  unfold Asc
  rw [List.pairwise_iff_getElem]
  intro i j hi hj hij
  exact h.rise j i hj hij
theorem spans_leaf {xs : List It} (h : NdR xs) : Spans xs (firstK xs) (lastK xs) := by
  have hlen := h.1.1
  refine ⟨asc_of h, ?_, ?_, ?_, h.ok⟩
  · cases xs with
    | nil => simp at hlen
    | cons y r => exact ⟨y, r, rfl, rfl⟩
  · refine ⟨xs[xs.length - 1], List.getElem_mem _, ?_⟩
    unfold lastK
    rw [List.getD_eq_getElem?_getD, List.getElem?_eq_getElem (by omega)]
    rfl
  · intro x hx
    obtain ⟨i, hi, rfl⟩ := List.mem_iff_getElem.1 hx
    unfold lastK
    rw [List.getD_eq_getElem?_getD, List.getElem?_eq_getElem (by omega)]
    show xs[i].1 ≤ xs[xs.length - 1].1
    rcases Nat.lt_or_ge i (xs.length - 1) with h' | h'
    · exact Int.le_of_lt (h.rise (xs.length - 1) i (by omega) h')
    · have : i = xs.length - 1 := by omega
      subst this
      exact Int.le_refl _
theorem Spans.app {xs ys : List It} {a b c d : Int} (h : Spans xs a b) (k : Spans ys c d) (hbc : b < c) : Spans (xs ++ ys) a d := by
  refine ⟨?_, ?_, ?_, ?_, ?_⟩
  · unfold Asc
    rw [List.pairwise_append]
    exact ⟨h.asc, k.asc, fun x hx y hy => by have h1 := h.le x hx; have h2 := k.ge y hy; omega⟩
  · obtain ⟨y, r, rfl, hy⟩ := h.head
    exact ⟨y, r ++ ys, rfl, hy⟩
  · obtain ⟨y, hy, e⟩ := k.last
    exact ⟨y, List.mem_append_right _ hy, e⟩
  · intro x hx
    rcases List.mem_append.1 hx with hx | hx
    · have h1 := h.le x hx; have h2 := k.le2; omega
    · exact k.le x hx
  · intro x hx
    rcases List.mem_append.1 hx with hx | hx
    · exact h.ok x hx
    · exact k.ok x hx
/-- Rows whose parts span what is found of them: all of it spans from the first part's least key to the last one's greatest. -/
theorem spans_row {f : Int → Gt} {g : Int → List It} : ∀ {r : List It} {i : Nat} {o : Gt} {xs : List It}, (∀ x ∈ r, Spans (g x.2) (f x.2).lo (f x.2).hi) → (belRow f i r o).is = true →
    0 < i → Spans xs o.lo o.hi → Spans (xs ++ r.flatMap (fun x => g x.2)) (belRow f i r o).lo (belRow f i r o).hi
  | [], i, o, xs, _, _, _, h => by simpa [belRow] using h
  | x :: r, i, o, xs, hg, hb, hi, h => by
    unfold belRow at hb ⊢
    cases hbad : badR i x (f x.2) o
    · rw [hbad] at hb
      simp only [Bool.false_eq_true, if_false] at hb ⊢
      unfold badR at hbad
      simp only [Bool.or_eq_false_iff, Bool.and_eq_false_iff, decide_eq_false_iff_not] at hbad
      have hlt : o.hi < (f x.2).lo := by
        rcases hbad.2.2 with b | b
        · omega
        · omega
      have h1 := h.app (hg x List.mem_cons_self) hlt
      have hnx : (nextR i (f x.2) o).lo = o.lo ∧ (nextR i (f x.2) o).hi = (f x.2).hi := by
        unfold nextR
        simp only
        rw [if_neg (by omega)]
        exact ⟨rfl, trivial⟩
      rw [← hnx.1, ← hnx.2] at h1
      have h2 := spans_row (fun y hy => hg y (List.mem_cons_of_mem _ hy)) hb (by omega) h1
      rw [List.flatMap_cons, ← List.append_assoc]
      exact h2
    · rw [hbad] at hb; simp [Gt.no] at hb
/-- A right tree's items span from its least key to its greatest. -/
theorem listB_spans (l : List HC) (hl : AllR l) : ∀ (m : Nat) (p : Int), 0 ≤ p → p < l.length → (bel l m p).is = true → Spans (listB l m p) (bel l m p).lo (bel l m p).hi
  | 0, p, _, _, h => (bel_zero h).elim
  | m + 1, p, h0, h1, h => by
    obtain ⟨k, rfl⟩ := Int.eq_ofNat_of_zero_le h0
    have hk : k < l.length := by omega
    obtain ⟨hr, hc⟩ := bel_is h
    rw [cellT_at hk] at hr hc
    have hok := cell_ok (hl k hk) hr
    unfold listB
    rw [cellT_at hk]
    rcases hc with ⟨hlf, e⟩ | ⟨hlf, e, hch⟩
    · rw [hlf, if_pos rfl, e]
      exact spans_leaf hok.1
    · rw [hlf]
      simp only [Bool.false_eq_true, if_false]
      rw [e] at h ⊢
      have hg : ∀ x ∈ l[k].it, Spans (listB l m x.2) (bel l m x.2).lo (bel l m x.2).hi := fun x hx => listB_spans l hl m x.2 (hok.2 hlf x hx).1 (by have := (hok.2 hlf x hx).2; omega) (hch x hx).1
      have hlen := hok.1.1.1
      generalize l[k].it = it at *
      cases it with
      | nil => simp at hlen
      | cons x r =>
        unfold belRow at h ⊢
        cases hbad : badR 0 x (bel l m x.2) Gt.no
        · rw [hbad] at h
          simp only [Bool.false_eq_true, if_false] at h ⊢
          have h1 := hg x List.mem_cons_self
          have hnx : (nextR 0 (bel l m x.2) Gt.no).lo = (bel l m x.2).lo ∧ (nextR 0 (bel l m x.2) Gt.no).hi = (bel l m x.2).hi := ⟨rfl, rfl⟩
          rw [← hnx.1, ← hnx.2] at h1
          rw [List.flatMap_cons]
          exact spans_row (fun y hy => hg y (List.mem_cons_of_mem _ hy)) h (by omega) h1
        · rw [hbad] at h; simp [Gt.no] at h
/-- In items that rise each key stands once. -/
theorem asc_one {xs : List It} (h : Asc xs) : ∀ x ∈ xs, ∀ y ∈ xs, x.1 = y.1 → x = y := by
  induction xs with
  | nil => intro x hx; cases hx
  | cons z r ih =>
    intro x hx y hy e
    obtain ⟨h1, h2⟩ := List.pairwise_cons.1 h
    rcases List.mem_cons.1 hx with e1 | e1 <;> rcases List.mem_cons.1 hy with e2 | e2
    · rw [e1, e2]
    · have := h1 y e2; rw [e1] at e; omega
    · have := h1 x e1; rw [e2] at e; omega
    · exact ih h2 x e1 y e2 e
theorem getL_iff {xs : List It} (h : Asc xs) (k v : Int) : (xs.find? (fun x => decide (x.1 = k))).map (·.2) = some v ↔ (k, v) ∈ xs := by
  cases hf : xs.find? (fun x => decide (x.1 = k)) with
  | none =>
    have h1 := List.find?_eq_none.1 hf
    constructor
    · intro h; cases h
    · intro hm; have := h1 _ hm; simp at this
  | some z =>
    have h1 := List.find?_some hf
    have h2 := List.mem_of_find?_eq_some hf
    simp only [decide_eq_true_eq] at h1
    constructor
    · intro he
      have : z.2 = v := by simpa using he
      rw [← h1, ← this]; exact h2
    · intro hm
      have := asc_one h z h2 (k, v) hm h1
      subst this
      rfl
def inR (lo hi : Int) (x : It) : Bool := decide (lo ≤ x.1) && decide (x.1 < hi)
/-- Scans of two parts, one behind the other, are the scan of both. -/
theorem filter_parts {xs : List It} (h : Asc xs) {lo mid hi : Int} (h1 : lo ≤ mid) (h2 : mid ≤ hi) : xs.filter (inR lo mid) ++ xs.filter (inR mid hi) = xs.filter (inR lo hi) := by
  induction xs with
  | nil => rfl
  | cons z r ih =>
    obtain ⟨h3, h4⟩ := List.pairwise_cons.1 h
    have ih := ih h4
    simp only [List.filter_cons]
    by_cases hz : z.1 < mid
    · have e1 : inR mid hi z = false := by unfold inR; rw [decide_eq_false (show ¬ mid ≤ z.1 by omega)]; rfl
      have e2 : inR lo mid z = inR lo hi z := by unfold inR; rw [decide_eq_true hz, decide_eq_true (show z.1 < hi by omega)]
      rw [e1, e2]
      cases inR lo hi z
      · simpa using ih
      · simpa using ih
    · have e0 : ∀ y ∈ z :: r, inR lo mid y = false := by
        intro y hy
        have : z.1 ≤ y.1 := by
          rcases List.mem_cons.1 hy with rfl | hy
          · exact Int.le_refl _
          · exact Int.le_of_lt (h3 y hy)
        unfold inR
        rw [decide_eq_false (show ¬ y.1 < mid by omega)]; simp
      have e1 : r.filter (inR lo mid) = [] := by
        rw [List.filter_eq_nil_iff]
        intro y hy
        rw [e0 y (List.mem_cons_of_mem _ hy)]
        simp
      have e2 : inR mid hi z = inR lo hi z := by unfold inR; rw [decide_eq_true (show mid ≤ z.1 by omega), decide_eq_true (show lo ≤ z.1 by omega)]
      rw [e0 z List.mem_cons_self, e2]
      rw [e1] at ih ⊢
      simp only [List.nil_append] at ih
      cases inR lo hi z
      · simpa using ih
      · simpa using ih
end Go.Proofs.Ythlencnlgnbpaaa
