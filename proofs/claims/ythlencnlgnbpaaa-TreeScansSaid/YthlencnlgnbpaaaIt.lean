/- Items, and right nodes, as plain lists; slices of items. No program in sight. -/
import Derived.Test.YthlencnlgnbpaaaLaw
namespace Go.Proofs.Ythlencnlgnbpaaa
open Go.RowKit

/-- An item: its key, and what it tells. -/
abbrev It := Int × Int
def ivs : List It → List Value
  | [] => []
  | x :: l => .int .i64 x.1 :: .int .i64 x.2 :: ivs l
theorem ivs_length (l : List It) : (ivs l).length = l.length * 2 := by
  induction l with
  | nil => rfl
  | cons x l ih => simp only [ivs, List.length_cons, ih]; omega
theorem ivs_append (l m : List It) : ivs (l ++ m) = ivs l ++ ivs m := by
  induction l with
  | nil => rfl
  | cons x l ih => simp [ivs, ih]
theorem ivs_at (l : List It) : ∀ (k : Nat) (h : k < l.length), (ivs l)[k * 2]? = some (.int .i64 l[k].1) ∧ (ivs l)[k * 2 + 1]? = some (.int .i64 l[k].2) := by
  induction l with
  | nil => intro k h; simp at h
  | cons x l ih =>
    intro k h
    match k with
    | 0 => exact ⟨rfl, rfl⟩
    | k + 1 =>
      have := ih k (by simpa using h)
      have e1 : (k + 1) * 2 = k * 2 + 1 + 1 := by omega
      rw [e1]
      simpa [ivs] using this
theorem ivs_oneCell (l : List It) : ∀ u ∈ ivs l, u.oneCell' = true := by
  induction l with
  | nil => intro u h; simp [ivs] at h
  | cons x l ih =>
    intro u h
    simp only [ivs, List.mem_cons] at h
    rcases h with rfl | rfl | h
    · rfl
    · rfl
    · exact ih u h
theorem flat_ivs (l : List It) : ∀ u ∈ ivs l, flat u = true := by
  induction l with
  | nil => intro u h; simp [ivs] at h
  | cons x l ih =>
    intro u h
    simp only [ivs, List.mem_cons] at h
    rcases h with rfl | rfl | h
    · rfl
    · rfl
    · exact ih u h
theorem ivs_drop (l : List It) : ∀ k, (ivs l).drop (k * 2) = ivs (l.drop k) := by
  induction l with
  | nil => intro k; simp [ivs]
  | cons x l ih =>
    intro k
    match k with
    | 0 => rfl
    | k + 1 => rw [show (k + 1) * 2 = k * 2 + 1 + 1 by omega]; simp only [ivs, List.drop_succ_cons]; exact ih k
theorem ivs_take (l : List It) : ∀ k, (ivs l).take (k * 2) = ivs (l.take k) := by
  induction l with
  | nil => intro k; simp [ivs]
  | cons x l ih =>
    intro k
    match k with
    | 0 => simp [ivs]
    | k + 1 => rw [show (k + 1) * 2 = k * 2 + 1 + 1 by omega]; simp only [ivs, List.take_succ_cons]; rw [ih k]
theorem ivs_nil {l : List It} (h : ivs l = []) : l = [] := by
  cases l with
  | nil => rfl
  | cons x l => simp [ivs] at h
/-- Where an item stands. -/
theorem Cells.it {w : World} {A : Option Addr} {l : List It} (h : Cells w A (ivs l)) {k : Nat} (hk : k < l.length) :
    ∃ b off, A = some ⟨b, off, none⟩ ∧ b < w.heap.size ∧ ∀ j (hj : j < l.length), w.cell? ⟨b, off + j * 2, none⟩ = some (.int .i64 l[j].1) ∧ w.cell? ⟨b, off + j * 2 + 1, none⟩ = some (.int .i64 l[j].2) := by
  obtain ⟨b, off, rfl, hlt, hc⟩ := h (by intro e; have := ivs_length l; rw [e] at this; simp at this; omega)
  exact ⟨b, off, rfl, hlt, fun j hj => ⟨hc _ _ (ivs_at l j hj).1, by rw [Nat.add_assoc]; exact hc _ _ (ivs_at l j hj).2⟩⟩
/-- A piece of a slice. -/
theorem Sl.cut {w : World} {A : Option Addr} {n c size : Nat} {xs : List Value} (h : Sl w A n c xs) (hx : xs.length = n * size) (lo hi : Nat) (h1 : lo ≤ hi) (h2 : hi ≤ n) :
    Sl w (if c = lo then A else A.map (fun p => p.add (lo * size))) (hi - lo) (c - lo) ((xs.drop (lo * size)).take ((hi - lo) * size)) := by
  obtain ⟨ha, hb, hc, hd⟩ := h
  refine ⟨fun e => ?_, by omega, by omega, fun hne => ?_⟩
  · by_cases hcl : c = lo
    · omega
    · rw [if_neg hcl] at e
      cases A with
      | none => have := ha rfl; omega
      | some a => simp at e
  · have hlh : lo < hi := by
      rcases Nat.lt_or_ge lo hi with h | h
      · exact h
      · have : hi - lo = 0 := by omega
        rw [this] at hne; simp at hne
    have hsz : 0 < size := by
      rcases Nat.eq_zero_or_pos size with h | h
      · subst h; simp at hne
      · exact h
    have hne2 : xs ≠ [] := by intro e; subst e; simp at hne
    obtain ⟨b, off, rfl, hlt, hcell⟩ := hd hne2
    rw [if_neg (by omega)]
    refine ⟨b, off + lo * size, by simp [Addr.add_lit], hlt, fun j u hu => ?_⟩
    rw [Nat.add_assoc]
    refine hcell _ _ ?_
    rw [List.getElem?_take] at hu
    split at hu
    · rwa [List.getElem?_drop] at hu
    · cases hu
theorem Sl.items {w : World} {A : Option Addr} {n c : Nat} {l : List It} (h : Sl w A n c (ivs l)) (hn : n = l.length) (lo hi : Nat) (h1 : lo ≤ hi) (h2 : hi ≤ n) :
    Sl w (if c = lo then A else A.map (fun p => p.add (lo * 2))) (hi - lo) (c - lo) (ivs ((l.drop lo).take (hi - lo))) := by
  have k := h.cut (size := 2) (by rw [ivs_length, hn]) lo hi h1 h2
  rw [ivs_drop, ivs_take] at k
  exact k

theorem Bx.read2 {w : World} {k : Nat} {a b : Value} (h : Bx w k #[a, b]) : w.cell? ⟨k, 0, none⟩ = some a ∧ w.cell? ⟨k, 1, none⟩ = some b ∧ k < w.heap.size := ⟨h.at 0 _ rfl, h.at 1 _ rfl, h.lt⟩
/-- P4.1: which are right. -/
def okIt (x : It) : Prop := (0 ≤ x.1 ∧ x.1 ≤ 2147483647) ∧ (0 ≤ x.2 ∧ x.2 ≤ 2147483647)
instance (x : It) : Decidable (okIt x) := by unfold okIt; infer_instance
def NdK (l : List It) (k : Nat) : Prop := ∀ i (h : i < l.length), i < k → okIt l[i] ∧ (∀ h0 : 0 < i, l[i - 1].1 < l[i].1)
def NdR (l : List It) : Prop := (1 ≤ l.length ∧ l.length ≤ 4) ∧ ∀ i (h : i < l.length), okIt l[i] ∧ (∀ h0 : 0 < i, l[i - 1].1 < l[i].1)
instance (l : List It) : Decidable (NdR l) := by unfold NdR; infer_instance
def ndR (l : List It) : Bool := decide (NdR l)
theorem ndR_iff (l : List It) : ndR l = true ↔ NdR l := by unfold ndR; simp
theorem ndR_no {l : List It} (h : ¬ NdR l) : ndR l = false := by unfold ndR; simpa using h
theorem NdK.zero (l : List It) : NdK l 0 := fun _ _ h => by omega
theorem NdK.succ {l : List It} {k : Nat} (h : NdK l k) (hk : k < l.length) (h1 : okIt l[k]) (h2 : ∀ h0 : 0 < k, l[k - 1].1 < l[k].1) : NdK l (k + 1) := fun i hi hik => by
  rcases Nat.lt_or_ge i k with h' | h'
  · exact h i hi h'
  · obtain rfl : i = k := by omega
    exact ⟨h1, h2⟩
theorem NdK.all {l : List It} (h : NdK l l.length) (h1 : 1 ≤ l.length ∧ l.length ≤ 4) : NdR l := ⟨h1, fun i hi => h i hi hi⟩
/-- Keys rise. -/
theorem NdR.rise {l : List It} (h : NdR l) : ∀ (j i : Nat) (hj : j < l.length) (hi : i < j), (l[i]'(by omega)).1 < l[j].1
  | 0, i, hj, hi => by omega
  | j + 1, i, hj, hi => by
    have h1 := (h.2 (j + 1) hj).2 (by omega)
    simp only [Nat.add_sub_cancel] at h1
    rcases Nat.lt_or_ge i j with h' | h'
    · have := NdR.rise h j i (by omega) h'; omega
    · obtain rfl : i = j := by omega
      exact h1

theorem NdR.ok {l : List It} (h : NdR l) : ∀ x ∈ l, okIt x := fun x hx => by
  obtain ⟨i, hi, rfl⟩ := List.mem_iff_getElem.1 hx
  exact (h.2 i hi).1
end Go.Proofs.Ythlencnlgnbpaaa
