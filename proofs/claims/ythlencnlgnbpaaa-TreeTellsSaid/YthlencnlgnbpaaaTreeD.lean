/- The program's way through a tree: nodes from a key on, each ahead of those below, at most so many; what they are for right trees. No program in sight. -/
import Derived.Test.YthlencnlgnbpaaaTreeU
import Derived.Test.YthlencnlgnbpaaaTreeR
import Derived.Test.YthlencnlgnbpaaaNdAt
namespace Go.Proofs.Ythlencnlgnbpaaa
open Go.RowKit

/-- What the way meets: the nodes' places; how many more it may meet; whether it came to the end. -/
structure Dn where
  ys : List Int
  left : Nat
  ok : Bool
def dnRow (f : Nat → Int → Dn) : Nat → List It → Dn
  | c, [] => ⟨[], c, true⟩
  | c, x :: r => if (f c x.2).ok then ⟨(f c x.2).ys ++ (dnRow f (f c x.2).left r).ys, (dnRow f (f c x.2).left r).left, (dnRow f (f c x.2).left r).ok⟩ else f c x.2
def fromT (it : List It) (leaf : Bool) (key : Int) : List It := it.drop (atI leaf it key).toNat
def dn (l : List HC) (key : Int) : Nat → Nat → Int → Dn
  | 0, c, _ => ⟨[], c, false⟩
  | m + 1, c, p => if usedC l p && decide (c ≠ 0) then (if (cellT l p).leaf then ⟨[p], c - 1, true⟩ else
      ⟨p :: (dnRow (dn l key m) (c - 1) (fromT (cellT l p).it false key)).ys, (dnRow (dn l key m) (c - 1) (fromT (cellT l p).it false key)).left, (dnRow (dn l key m) (c - 1) (fromT (cellT l p).it false key)).ok⟩) else ⟨[], c, false⟩
theorem dnRow_count {f : Nat → Int → Dn} : ∀ {r : List It} {c : Nat}, (∀ x ∈ r, ∀ c, (f c x.2).ys.length + (f c x.2).left = c) → (dnRow f c r).ys.length + (dnRow f c r).left = c
  | [], c, _ => by simp [dnRow]
  | x :: r, c, h => by
    unfold dnRow
    have h1 := h x List.mem_cons_self c
    split
    · have h2 := dnRow_count (r := r) (c := (f c x.2).left) (fun y hy => h y (List.mem_cons_of_mem _ hy))
      simp only [List.length_append]
      omega
    · exact h1
theorem dn_count (l : List HC) (key : Int) : ∀ (m c : Nat) (p : Int), (dn l key m c p).ys.length + (dn l key m c p).left = c
  | 0, c, p => by simp [dn]
  | m + 1, c, p => by
    unfold dn
    by_cases h : (usedC l p && decide (c ≠ 0)) = true
    · rw [if_pos h]
      simp only [Bool.and_eq_true, decide_eq_true_eq] at h
      split
      · simp only [List.length_singleton]; omega
      · have h2 := dnRow_count (f := dn l key m) (r := fromT (cellT l p).it false key) (c := c - 1) (fun x _ c => dn_count l key m c x.2)
        simp only [List.length_cons]
        omega
    · rw [if_neg h]; simp
theorem dnRow_used {l : List HC} {f : Nat → Int → Dn} : ∀ {r : List It} {c : Nat}, (∀ x ∈ r, ∀ c, ∀ y ∈ (f c x.2).ys, usedC l y = true) → ∀ y ∈ (dnRow f c r).ys, usedC l y = true
  | [], c, _, y, hy => by simp [dnRow] at hy
  | x :: r, c, h, y, hy => by
    unfold dnRow at hy
    split at hy
    · rcases List.mem_append.1 hy with hy | hy
      · exact h x List.mem_cons_self _ y hy
      · exact dnRow_used (fun z hz => h z (List.mem_cons_of_mem _ hz)) y hy
    · exact h x List.mem_cons_self _ y hy
theorem dn_used (l : List HC) (key : Int) : ∀ (m c : Nat) (p : Int), ∀ y ∈ (dn l key m c p).ys, usedC l y = true
  | 0, c, p, y, hy => by simp [dn] at hy
  | m + 1, c, p, y, hy => by
    unfold dn at hy
    by_cases h : (usedC l p && decide (c ≠ 0)) = true
    · rw [if_pos h] at hy
      simp only [Bool.and_eq_true, decide_eq_true_eq] at h
      split at hy
      · simp only [List.mem_singleton] at hy; subst hy; exact h.1
      · rcases List.mem_cons.1 hy with rfl | hy
        · exact h.1
        · exact dnRow_used (fun x _ c => dn_used l key m c x.2) y hy
    · rw [if_neg h] at hy; simp at hy
/-- The nodes that the program meets from a root. -/
def nodesP (l : List HC) (root key : Int) : List Int := (dn l key 2001 2000 root).ys
theorem nodesP_len (l : List HC) (root key : Int) : (nodesP l root key).length ≤ 2000 := by
  have := dn_count l key 2001 2000 root
  unfold nodesP
  omega
/-- A right tree's nodes from a key on. -/
def fromB (l : List HC) (key : Int) : Nat → Int → List Int
  | 0, _ => []
  | m + 1, p => p :: (if (cellT l p).leaf then [] else (fromT (cellT l p).it false key).flatMap (fun x => fromB l key m x.2))
theorem sub_flatMap {α β : Type} {f g : α → List β} : ∀ {r : List α}, (∀ x ∈ r, (f x).Sublist (g x)) → (r.flatMap f).Sublist (r.flatMap g)
  | [], _ => by simp
  | x :: r, h => by
    rw [List.flatMap_cons, List.flatMap_cons]
    exact (h x List.mem_cons_self).append (sub_flatMap (fun y hy => h y (List.mem_cons_of_mem _ hy)))
theorem sub_flatMap' {α β : Type} (g : α → List β) : ∀ {r s : List α}, r.Sublist s → (r.flatMap g).Sublist (s.flatMap g) := fun {r s} h => by
  induction h with
  | slnil => simp
  | cons a h ih => rw [List.flatMap_cons]; exact ih.trans (List.sublist_append_right _ _)
  | cons_cons a h ih => rw [List.flatMap_cons, List.flatMap_cons]; exact (List.Sublist.refl _).append ih
theorem fromB_sub (l : List HC) (key : Int) : ∀ (m : Nat) (p : Int), (fromB l key m p).Sublist (nodesB l m p)
  | 0, p => by simp [fromB, nodesB]
  | m + 1, p => by
    unfold fromB nodesB
    refine List.Sublist.cons_cons _ ?_
    cases (cellT l p).leaf
    · simp only [Bool.false_eq_true, if_false]
      exact (sub_flatMap (fun x _ => fromB_sub l key m x.2)).trans (sub_flatMap' _ (List.drop_sublist _ _))
    · simp
/-- As many as there are, at most, where each is there once. -/
theorem nodup_len : ∀ (n : Nat) (xs : List Int), xs.Nodup → (∀ x ∈ xs, 0 ≤ x ∧ x < n) → xs.length ≤ n
  | 0, xs, _, h => by
    cases xs with
    | nil => simp
    | cons x r => have := h x List.mem_cons_self; omega
  | n + 1, xs, hn, h => by
    by_cases hm : (n : Int) ∈ xs
    · have h1 := List.length_erase_of_mem hm
      have h2 := nodup_len n (xs.erase (n : Int)) (hn.erase _) (fun x hx => by
        have h3 := (hn.mem_erase_iff).1 hx
        have h4 := h x h3.2
        have h5 := h3.1
        omega)
      have := List.length_pos_of_mem hm
      omega
    · have := nodup_len n xs hn (fun x hx => by
        have h4 := h x hx
        have : x ≠ n := fun e => hm (by subst e; exact hx)
        omega)
      omega
theorem fromB_len {l : List HC} (hl : AllR l) (hn : l.length ≤ 2000) (key : Int) {m : Nat} {p : Int} (h0 : 0 ≤ p) (h1 : p < l.length) (h : (bel l m p).is = true) : (fromB l key m p).length ≤ 2000 := by
  have h2 := (fromB_sub l key m p).length_le
  have h3 := nodup_len l.length (nodesB l m p) (nodes_once l hl m p h0 h1 h) (fun y hy => by
    obtain ⟨_, _, _, h5, _, _⟩ := node_in l hl m p h0 h1 h y hy
    exact h5)
  omega
theorem dnRow_right {f : Nat → Int → Dn} {g : Int → List Int} : ∀ {r : List It} {c : Nat}, (∀ x ∈ r, ∀ c, (g x.2).length ≤ c → f c x.2 = ⟨g x.2, c - (g x.2).length, true⟩) → (r.flatMap (fun x => g x.2)).length ≤ c →
    dnRow f c r = ⟨r.flatMap (fun x => g x.2), c - (r.flatMap (fun x => g x.2)).length, true⟩
  | [], c, _, _ => by simp [dnRow]
  | x :: r, c, h, hc => by
    rw [List.flatMap_cons, List.length_append] at hc
    unfold dnRow
    rw [h x List.mem_cons_self c (by omega)]
    simp only [if_true]
    rw [dnRow_right (fun y hy => h y (List.mem_cons_of_mem _ hy)) (by omega), List.flatMap_cons, List.length_append]
    simp only [Dn.mk.injEq, and_true, true_and]
    omega
theorem dn_right {l : List HC} (hl : AllR l) (key : Int) : ∀ (m m' c : Nat) (p : Int), 0 ≤ p → p < l.length → (bel l m p).is = true → m ≤ m' → (fromB l key m p).length ≤ c → dn l key m' c p = ⟨fromB l key m p, c - (fromB l key m p).length, true⟩
  | 0, _, _, p, _, _, h, _, _ => (bel_zero h).elim
  | _ + 1, 0, _, _, _, _, _, hm, _ => by omega
  | m + 1, m' + 1, c, p, h0, h1, h, hm, hc => by
    obtain ⟨k, rfl⟩ := Int.eq_ofNat_of_zero_le h0
    have hk : k < l.length := by omega
    obtain ⟨hr, hch⟩ := bel_is h
    rw [cellT_at hk] at hr hch
    have hok := cell_ok (hl k hk) hr
    unfold fromB at hc ⊢
    unfold dn
    rw [cellT_at hk] at hc ⊢
    simp only [List.length_cons] at hc
    rw [usedC_at hk, decide_eq_true hr, decide_eq_true (show c ≠ 0 by omega)]
    simp only [Bool.and_self, if_true]
    rcases hch with ⟨hlf, _⟩ | ⟨hlf, _, hch⟩
    · rw [hlf]; simp
    · rw [hlf] at hc ⊢
      simp only [Bool.false_eq_true, if_false] at hc ⊢
      have h2 := dnRow_right (f := dn l key m') (g := fromB l key m) (r := fromT l[k].it false key) (c := c - 1) (fun x hx c hc => by
        have hx' : x ∈ l[k].it := List.mem_of_mem_drop hx
        exact dn_right hl key m m' c x.2 (hok.2 hlf x hx').1 (by have := (hok.2 hlf x hx').2; omega) (hch x hx').1 (by omega) hc) (by omega)
      rw [h2]
      simp only [List.length_cons, Dn.mk.injEq, and_true, true_and]
      omega
/-- A right tree's nodes, as the program meets them. -/
theorem nodesP_right {l : List HC} (hl : AllR l) (hn : l.length ≤ 2000) {keep root : Int} (hr : rightR ⟨l, keep⟩ root = true) (key : Int) : nodesP l root key = if root < 0 then [] else fromB l key 20 root := by
  unfold nodesP
  rcases rightR_iff hr with h | ⟨h0, h1, hb⟩
  · rw [if_pos h]
    unfold dn
    rw [usedC_neg h]
    rfl
  · rw [if_neg (by omega), dn_right hl key 20 2001 2000 root h0 h1 hb (by omega) (fromB_len hl hn key h0 h1 hb)]
/-- With a key below all others it is all nodes. -/
theorem atI_low {it : List It} (h : NdR it) {key : Int} (hk : key < 0) : atI false it key = 0 := by
  have h1 : atB it key = false := atB_no (fun j hj e => by have := (h.2 j hj).1.1.1; omega)
  rw [atI_not h1]
  have h2 : atC it key = 0 := by
    unfold atC
    rw [List.countP_eq_zero]
    intro x hx
    have := (h.ok x hx).1.1
    simp only [decide_eq_true_eq]
    omega
  rw [h2]
  rfl
theorem fromB_low {l : List HC} (hl : AllR l) {key : Int} (hkey : key < 0) : ∀ (m : Nat) (p : Int), 0 ≤ p → p < l.length → (bel l m p).is = true → fromB l key m p = nodesB l m p
  | 0, p, _, _, h => (bel_zero h).elim
  | m + 1, p, h0, h1, h => by
    obtain ⟨k, rfl⟩ := Int.eq_ofNat_of_zero_le h0
    have hk : k < l.length := by omega
    obtain ⟨hr, hch⟩ := bel_is h
    rw [cellT_at hk] at hr hch
    have hok := cell_ok (hl k hk) hr
    unfold fromB nodesB
    rw [cellT_at hk]
    rcases hch with ⟨hlf, _⟩ | ⟨hlf, _, hch⟩
    · rw [hlf]; simp
    · rw [hlf]
      simp only [Bool.false_eq_true, if_false]
      unfold fromT
      rw [atI_low hok.1 hkey]
      simp only [Int.toNat_zero, List.drop_zero]
      rw [flatMap_congr' (fun x hx => fromB_low hl hkey m x.2 (hok.2 hlf x hx).1 (by have := (hok.2 hlf x hx).2; omega) (hch x hx).1)]
theorem nodesP_all {l : List HC} (hl : AllR l) (hn : l.length ≤ 2000) {keep root : Int} (hr : rightR ⟨l, keep⟩ root = true) {key : Int} (hkey : key < 0) : nodesP l root key = nodesT l root := by
  rw [nodesP_right hl hn hr key]
  unfold nodesT
  rcases rightR_iff hr with h | ⟨h0, h1, hb⟩
  · rw [if_pos h, if_pos h]
  · rw [if_neg (by omega), if_neg (by omega), fromB_low hl hkey 20 root h0 h1 hb]
/-- How high the program finds it: how many nodes come to the first leaf. -/
def upTo (l : List HC) : List Int → Nat
  | [] => 0
  | y :: r => if (cellT l y).leaf then 1 else (if upTo l r = 0 then 0 else upTo l r + 1)
def hgtP (l : List HC) (root : Int) : Nat := upTo l (nodesP l root (-9223372036854775808))
theorem upTo_app {l : List HC} : ∀ {xs : List Int} (ys : List Int), upTo l xs ≠ 0 → upTo l (xs ++ ys) = upTo l xs
  | [], _, h => by simp [upTo] at h
  | x :: xs, ys, h => by
    unfold upTo at h
    rw [List.cons_append]
    unfold upTo
    split
    · rfl
    · rename_i hl
      rw [if_neg hl] at h
      have h2 : upTo l xs ≠ 0 := fun e => by rw [if_pos e] at h; exact h rfl
      rw [upTo_app ys h2]
theorem upTo_nodes {l : List HC} (hl : AllR l) : ∀ (m : Nat) (p : Int), 0 ≤ p → p < l.length → (bel l m p).is = true → (upTo l (nodesB l m p) : Int) = (bel l m p).high
  | 0, p, _, _, h => (bel_zero h).elim
  | m + 1, p, h0, h1, h => by
    obtain ⟨k, rfl⟩ := Int.eq_ofNat_of_zero_le h0
    have hk : k < l.length := by omega
    obtain ⟨hr, hch⟩ := bel_is h
    rw [cellT_at hk] at hr hch
    have hok := cell_ok (hl k hk) hr
    unfold nodesB upTo
    rw [cellT_at hk]
    rcases hch with ⟨hlf, e⟩ | ⟨hlf, _, hch⟩
    · rw [hlf, e]; simp
    · rw [hlf]
      simp only [Bool.false_eq_true, if_false]
      have hlen := hok.1.1.1
      obtain ⟨it, hit⟩ : ∃ it, l[k].it = it := ⟨_, rfl⟩
      rw [hit] at hch hok hlen ⊢
      cases it with
      | nil => simp at hlen
      | cons x r =>
        have hx := hok.2 hlf x List.mem_cons_self
        have h2 := upTo_nodes hl m x.2 hx.1 (by omega) (hch x List.mem_cons_self).1
        have h3 := (hch x List.mem_cons_self).2.2
        have h4 := bel_pos l hl m x.2 hx.1 (by omega) (hch x List.mem_cons_self).1
        rw [List.flatMap_cons, upTo_app _ (by omega), if_neg (by omega)]
        omega
theorem hgtP_right {l : List HC} (hl : AllR l) (hn : l.length ≤ 2000) {keep root : Int} (hr : rightR ⟨l, keep⟩ root = true) : (hgtP l root : Int) = highT l root := by
  unfold hgtP
  rw [nodesP_all hl hn hr (by omega)]
  unfold nodesT highT
  rcases rightR_iff hr with h | ⟨h0, h1, hb⟩
  · rw [if_pos h, if_pos h]; rfl
  · rw [if_neg (by omega), if_neg (by omega)]
    exact upTo_nodes hl 20 root h0 h1 hb
end Go.Proofs.Ythlencnlgnbpaaa
