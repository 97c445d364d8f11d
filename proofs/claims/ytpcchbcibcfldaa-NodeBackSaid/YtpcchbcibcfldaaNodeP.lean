/- Items, nodes and their blocks, as plain lists and bytes; slices of items. No program in sight but bytes' own. -/
import Derived.Test.YtpcchbcibcfldaaNumB
import Derived.Test.YtpcchbcibcfldaaLaw
namespace Go.Proofs.Ytpcchbcibcfldaa
open Go.RowKit

/-- An item: its key, and what it tells. -/
abbrev It := Int × Int
def ivs : List It → List Value
  | [] => []
  | x :: l => .int .i64 x.1 :: .int .i64 x.2 :: ivs l
theorem ivs_length (l : List It) : (ivs l).length = l.length * 2 := by
  induction l with
  | nil => rfl
  | cons x l ih => simp only [ivs, List.length_cons, ih]; omega
theorem ivs_append (l m : List It) : ivs (l ++ m) = ivs l ++ ivs m := by
  induction l with
  | nil => rfl
  | cons x l ih => simp [ivs, ih]
theorem ivs_at (l : List It) : ∀ (k : Nat) (h : k < l.length), (ivs l)[k * 2]? = some (.int .i64 l[k].1) ∧ (ivs l)[k * 2 + 1]? = some (.int .i64 l[k].2) := by
  induction l with
  | nil => intro k h; simp at h
  | cons x l ih =>
    intro k h
    match k with
    | 0 => exact ⟨rfl, rfl⟩
    | k + 1 =>
      have := ih k (by simpa using h)
      have e1 : (k + 1) * 2 = k * 2 + 1 + 1 := by omega
      rw [e1]
      simpa [ivs] using this
theorem ivs_oneCell (l : List It) : ∀ u ∈ ivs l, u.oneCell' = true := by
  induction l with
  | nil => intro u h; simp [ivs] at h
  | cons x l ih =>
    intro u h
    simp only [ivs, List.mem_cons] at h
    rcases h with rfl | rfl | h
    · rfl
    · rfl
    · exact ih u h
theorem flat_ivs (l : List It) : ∀ u ∈ ivs l, flat u = true := by
  induction l with
  | nil => intro u h; simp [ivs] at h
  | cons x l ih =>
    intro u h
    simp only [ivs, List.mem_cons] at h
    rcases h with rfl | rfl | h
    · rfl
    · rfl
    · exact ih u h
theorem ivs_drop (l : List It) : ∀ k, (ivs l).drop (k * 2) = ivs (l.drop k) := by
  induction l with
  | nil => intro k; simp [ivs]
  | cons x l ih =>
    intro k
    match k with
    | 0 => rfl
    | k + 1 => rw [show (k + 1) * 2 = k * 2 + 1 + 1 by omega]; simp only [ivs, List.drop_succ_cons]; exact ih k
theorem ivs_take (l : List It) : ∀ k, (ivs l).take (k * 2) = ivs (l.take k) := by
  induction l with
  | nil => intro k; simp [ivs]
  | cons x l ih =>
    intro k
    match k with
    | 0 => simp [ivs]
    | k + 1 => rw [show (k + 1) * 2 = k * 2 + 1 + 1 by omega]; simp only [ivs, List.take_succ_cons]; rw [ih k]
theorem ivs_nil {l : List It} (h : ivs l = []) : l = [] := by
  cases l with
  | nil => rfl
  | cons x l => simp [ivs] at h
/-- Where an item stands. -/
theorem Cells.it {w : World} {A : Option Addr} {l : List It} (h : Cells w A (ivs l)) {k : Nat} (hk : k < l.length) :
    ∃ b off, A = some ⟨b, off, none⟩ ∧ b < w.heap.size ∧ ∀ j (hj : j < l.length), w.cell? ⟨b, off + j * 2, none⟩ = some (.int .i64 l[j].1) ∧ w.cell? ⟨b, off + j * 2 + 1, none⟩ = some (.int .i64 l[j].2) := by
  obtain ⟨b, off, rfl, hlt, hc⟩ := h (by intro e; have := ivs_length l; rw [e] at this; simp at this; omega)
  exact ⟨b, off, rfl, hlt, fun j hj => ⟨hc _ _ (ivs_at l j hj).1, by rw [Nat.add_assoc]; exact hc _ _ (ivs_at l j hj).2⟩⟩
/-- A piece of a slice. -/
theorem Sl.cut {w : World} {A : Option Addr} {n c size : Nat} {xs : List Value} (h : Sl w A n c xs) (hx : xs.length = n * size) (lo hi : Nat) (h1 : lo ≤ hi) (h2 : hi ≤ n) :
    Sl w (if c = lo then A else A.map (fun p => p.add (lo * size))) (hi - lo) (c - lo) ((xs.drop (lo * size)).take ((hi - lo) * size)) := by
  obtain ⟨ha, hb, hc, hd⟩ := h
  refine ⟨fun e => ?_, by omega, by omega, fun hne => ?_⟩
  · by_cases hcl : c = lo
    · omega
    · rw [if_neg hcl] at e
      cases A with
      | none => have := ha rfl; omega
      | some a => simp at e
  · have hlh : lo < hi := by
      rcases Nat.lt_or_ge lo hi with h | h
      · exact h
      · have : hi - lo = 0 := by omega
        rw [this] at hne; simp at hne
    have hsz : 0 < size := by
      rcases Nat.eq_zero_or_pos size with h | h
      · subst h; simp at hne
      · exact h
    have hne2 : xs ≠ [] := by intro e; subst e; simp at hne
    obtain ⟨b, off, rfl, hlt, hcell⟩ := hd hne2
    rw [if_neg (by omega)]
    refine ⟨b, off + lo * size, by simp [Addr.add_lit], hlt, fun j u hu => ?_⟩
    rw [Nat.add_assoc]
    refine hcell _ _ ?_
    rw [List.getElem?_take] at hu
    split at hu
    · rwa [List.getElem?_drop] at hu
    · cases hu
theorem Sl.items {w : World} {A : Option Addr} {n c : Nat} {l : List It} (h : Sl w A n c (ivs l)) (hn : n = l.length) (lo hi : Nat) (h1 : lo ≤ hi) (h2 : hi ≤ n) :
    Sl w (if c = lo then A else A.map (fun p => p.add (lo * 2))) (hi - lo) (c - lo) (ivs ((l.drop lo).take (hi - lo))) := by
  have k := h.cut (size := 2) (by rw [ivs_length, hn]) lo hi h1 h2
  rw [ivs_drop, ivs_take] at k
  exact k

theorem Bx.read2 {w : World} {k : Nat} {a b : Value} (h : Bx w k #[a, b]) : w.cell? ⟨k, 0, none⟩ = some a ∧ w.cell? ⟨k, 1, none⟩ = some b ∧ k < w.heap.size := ⟨h.at 0 _ rfl, h.at 1 _ rfl, h.lt⟩
/-- P4.1: which are right. -/
def okIt (x : It) : Prop := (0 ≤ x.1 ∧ x.1 ≤ 2147483647) ∧ (0 ≤ x.2 ∧ x.2 ≤ 2147483647)
instance (x : It) : Decidable (okIt x) := by unfold okIt; infer_instance
def NdK (l : List It) (k : Nat) : Prop := ∀ i (h : i < l.length), i < k → okIt l[i] ∧ (∀ h0 : 0 < i, l[i - 1].1 < l[i].1)
def NdR (l : List It) : Prop := (1 ≤ l.length ∧ l.length ≤ 4) ∧ ∀ i (h : i < l.length), okIt l[i] ∧ (∀ h0 : 0 < i, l[i - 1].1 < l[i].1)
instance (l : List It) : Decidable (NdR l) := by unfold NdR; infer_instance
def ndR (l : List It) : Bool := decide (NdR l)
theorem ndR_iff (l : List It) : ndR l = true ↔ NdR l := by unfold ndR; simp
theorem ndR_no {l : List It} (h : ¬ NdR l) : ndR l = false := by unfold ndR; simpa using h
theorem NdK.zero (l : List It) : NdK l 0 := fun _ _ h => by omega
theorem NdK.succ {l : List It} {k : Nat} (h : NdK l k) (hk : k < l.length) (h1 : okIt l[k]) (h2 : ∀ h0 : 0 < k, l[k - 1].1 < l[k].1) : NdK l (k + 1) := fun i hi hik => by
  rcases Nat.lt_or_ge i k with h' | h'
  · exact h i hi h'
  · obtain rfl : i = k := by omega
    exact ⟨h1, h2⟩
theorem NdK.all {l : List It} (h : NdK l l.length) (h1 : 1 ≤ l.length ∧ l.length ≤ 4) : NdR l := ⟨h1, fun i hi => h i hi hi⟩
/-- Keys rise. -/
theorem NdR.rise {l : List It} (h : NdR l) : ∀ (j i : Nat) (hj : j < l.length) (hi : i < j), (l[i]'(by omega)).1 < l[j].1
  | 0, i, hj, hi => by omega
  | j + 1, i, hj, hi => by
    have h1 := (h.2 (j + 1) hj).2 (by omega)
    simp only [Nat.add_sub_cancel] at h1
    rcases Nat.lt_or_ge i j with h' | h'
    · have := NdR.rise h j i (by omega) h'; omega
    · obtain rfl : i = j := by omega
      exact h1

def itB (x : It) : List UInt8 := putL x.1.toNat 4 ++ putL x.2.toNat 4
theorem itB_length (x : It) : (itB x).length = 8 := by simp [itB, putL_length]
def itsB (l : List It) : List UInt8 := l.flatMap itB
theorem itsB_length (l : List It) : (itsB l).length = l.length * 8 := by
  induction l with
  | nil => rfl
  | cons x l ih => simp only [itsB, List.flatMap_cons, List.length_append, itB_length, List.length_cons] at *; omega
theorem itsB_append (l m : List It) : itsB (l ++ m) = itsB l ++ itsB m := by simp [itsB]
def ndH (leaf : Bool) (n : Nat) : List UInt8 := [if leaf then 1 else 2, UInt8.ofNat n]
def ndL (leaf : Bool) (l : List It) : List UInt8 := ndH leaf l.length ++ itsB l
theorem ndL_length (leaf : Bool) (l : List It) : (ndL leaf l).length = 2 + l.length * 8 := by simp [ndL, ndH, itsB_length]; omega
def ndB (leaf : Bool) (l : List It) : ByteArray := if ndR l then sealB (ndL leaf l) else ⟨#[]⟩
def ndE (l : List It) : Int := if ndR l then 0 else 1
def rawIt (o : List UInt8) : Nat → List It
  | 0 => []
  | n + 1 => rawIt o n ++ [(((leNat ((o.drop (2 + 8 * n)).take 4) : Nat) : Int), ((leNat ((o.drop (6 + 8 * n)).take 4) : Nat) : Int))]
theorem rawIt_length (o : List UInt8) (n : Nat) : (rawIt o n).length = n := by
  induction n with
  | zero => rfl
  | succ n ih => simp [rawIt, ih]
def rawLeaf (o : List UInt8) : Bool := o[0]? == some 1
def rawN (o : List UInt8) : Nat := (o[1]?.getD 0).toNat
/-- P4.1: what node a block is. -/
def ndP (b : ByteArray) : Option (Bool × List It) :=
  if openE b.data.toList = 0 ∧ rawN (openL b.data.toList) ≤ 4 ∧ ndR (rawIt (openL b.data.toList) (rawN (openL b.data.toList))) = true ∧ ndB (rawLeaf (openL b.data.toList)) (rawIt (openL b.data.toList) (rawN (openL b.data.toList))) = b
  then some (rawLeaf (openL b.data.toList), rawIt (openL b.data.toList) (rawN (openL b.data.toList))) else none
def ndPL (b : ByteArray) : Bool := match ndP b with | some p => p.1 | none => false
def ndPI (b : ByteArray) : List It := match ndP b with | some p => p.2 | none => []
def ndPE (b : ByteArray) : Int := if (ndP b).isSome then 0 else 2

theorem rawIt_take (l : List It) (h : ∀ x ∈ l, okIt x) (p : List UInt8) (hp : p.length = 2) (m : List UInt8) : ∀ k, k ≤ l.length → rawIt (p ++ (itsB l ++ m)) k = l.take k
  | 0, _ => rfl
  | k + 1, hk => by
    have hk' : k < l.length := hk
    rw [rawIt, rawIt_take l h p hp m k (by omega), List.take_succ_eq_append_getElem hk']
    have hx := h l[k] (List.getElem_mem hk')
    generalize hxe : l[k] = x at *
    unfold okIt at hx
    have l4 := fun n => putL_length 4 n
    have hs : itsB l = itsB (l.take k) ++ (itB x ++ itsB (l.drop (k + 1))) := by
      conv => lhs; rw [← List.take_append_drop k l, List.drop_eq_getElem_cons hk', hxe]
      rw [itsB_append]; simp [itsB]
    have hl : (itsB (l.take k)).length = k * 8 := by rw [itsB_length, List.length_take, Nat.min_eq_left (by omega)]
    have e1 : p ++ (itsB l ++ m) = (p ++ itsB (l.take k)) ++ (putL x.1.toNat 4 ++ (putL x.2.toNat 4 ++ (itsB (l.drop (k + 1)) ++ m))) := by rw [hs]; simp [itB]
    have e2 : p ++ (itsB l ++ m) = (p ++ itsB (l.take k) ++ putL x.1.toNat 4) ++ (putL x.2.toNat 4 ++ (itsB (l.drop (k + 1)) ++ m)) := by rw [hs]; simp [itB]
    have t1 : ((p ++ (itsB l ++ m)).drop (2 + 8 * k)).take 4 = putL x.1.toNat 4 := by
      rw [e1, List.drop_left' (by rw [List.length_append, hp, hl]; omega), List.take_append_of_le_length (by rw [l4]; exact Nat.le_refl _), List.take_of_length_le (by rw [l4]; exact Nat.le_refl _)]
    have t2 : ((p ++ (itsB l ++ m)).drop (6 + 8 * k)).take 4 = putL x.2.toNat 4 := by
      rw [e2, List.drop_left' (by rw [List.length_append, List.length_append, hp, hl, l4]; omega), List.take_append_of_le_length (by rw [l4]; exact Nat.le_refl _), List.take_of_length_le (by rw [l4]; exact Nat.le_refl _)]
    rw [t1, t2, leNat_putL, leNat_putL]
    congr 2
    exact Prod.ext (by show ((x.1.toNat % 256 ^ 4 : Nat) : Int) = x.1; omega) (by show ((x.2.toNat % 256 ^ 4 : Nat) : Int) = x.2; omega)
theorem rawIt_app (l : List It) (h : ∀ x ∈ l, okIt x) (p : List UInt8) (hp : p.length = 2) (m : List UInt8) : rawIt (p ++ (itsB l ++ m)) l.length = l := by
  rw [rawIt_take l h p hp m l.length (Nat.le_refl _), List.take_length]
theorem NdR.ok {l : List It} (h : NdR l) : ∀ x ∈ l, okIt x := fun x hx => by
  obtain ⟨i, hi, rfl⟩ := List.mem_iff_getElem.1 hx
  exact (h.2 i hi).1
theorem nd_open (leaf : Bool) (l : List It) (h : ndR l = true) : openE (ndB leaf l).data.toList = 0 ∧ rawN (openL (ndB leaf l).data.toList) = l.length ∧ rawLeaf (openL (ndB leaf l).data.toList) = leaf ∧ rawIt (openL (ndB leaf l).data.toList) l.length = l := by
  have hN := (ndR_iff l).1 h
  have ho := open_sealB (ndL leaf l)
  have hl := ndL_length leaf l
  have h4 := hN.1
  unfold ndB
  rw [if_pos h]
  refine ⟨by rw [ho.2.1, if_pos (by omega)], ?_⟩
  rw [ho.1]
  unfold unsealed padL
  rw [if_pos (by omega)]
  unfold ndL
  rw [List.append_assoc]
  refine ⟨?_, ?_, rawIt_app l hN.ok _ rfl _⟩
  · unfold rawN ndH
    simp
    omega
  · unfold rawLeaf ndH
    cases leaf <;> simp
theorem ndP_print (leaf : Bool) (l : List It) (h : ndR l = true) : ndP (ndB leaf l) = some (leaf, l) := by
  obtain ⟨h1, h2, h3, h4⟩ := nd_open leaf l h
  have hN := ((ndR_iff l).1 h).1
  unfold ndP
  rw [h2, h3, h4, if_pos ⟨h1, hN.2, h, rfl⟩]
theorem ndP_some {b : ByteArray} {leaf : Bool} {l : List It} (h : ndP b = some (leaf, l)) : ndR l = true ∧ ndB leaf l = b := by
  unfold ndP at h
  split at h
  · rename_i hh
    cases h
    exact ⟨hh.2.2.1, hh.2.2.2⟩
  · cases h
theorem ndB_size (leaf : Bool) (l : List It) (h : ndR l = true) : (ndB leaf l).size = 40 := by
  have hN := ((ndR_iff l).1 h).1
  unfold ndB; rw [if_pos h]
  have := (open_sealB (ndL leaf l)).2.2
  rw [this, if_pos (by rw [ndL_length]; omega)]
theorem ndB_inj {f g : Bool} {l m : List It} (hl : ndR l = true) (hm : ndR m = true) (h : ndB f l = ndB g m) : f = g ∧ l = m := by
  have h1 := ndP_print f l hl
  rw [h, ndP_print g m hm] at h1
  cases h1; exact ⟨rfl, rfl⟩

/-- P4.2: where a key stands, or leads. -/
def atC (l : List It) (key : Int) : Nat := l.countP (fun x => decide (x.1 < key))
def atB (l : List It) (key : Int) : Bool := l.any (fun x => decide (x.1 = key))
def atI (leaf : Bool) (l : List It) (key : Int) : Int := if atB l key || leaf then (atC l key : Nat) else ((atC l key - 1 : Nat) : Int)
/-- P4.3. -/
def withS (l : List It) (at_ gone : Nat) (more : List It) : List It := l.take at_ ++ more ++ l.drop (at_ + gone)
def splitS (l : List It) : List (List It) :=
  if _h : l.length ≤ 4 then (if l.length = 0 then [] else [l]) else l.take 3 :: splitS (l.drop 3)
termination_by l.length
decreasing_by simp; omega
theorem splitS_nil : splitS [] = [] := by rw [splitS]; simp
theorem splitS_few {l : List It} (h0 : l.length ≠ 0) (h : l.length ≤ 4) : splitS l = [l] := by rw [splitS, dif_pos h, if_neg h0]
theorem splitS_more {l : List It} (h : ¬ l.length ≤ 4) : splitS l = l.take 3 :: splitS (l.drop 3) := by rw [splitS, dif_neg h]
end Go.Proofs.Ytpcchbcibcfldaa
