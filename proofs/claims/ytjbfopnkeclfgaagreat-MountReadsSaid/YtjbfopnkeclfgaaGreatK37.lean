/- The program's way through a tree: nodes from a key on, each ahead of those below, at most so many; what they are for right trees. No program in sight. What the program's way tells of right trees: items from a key on; and how it tells right trees from others. No program in sight. Walks of used, next and Need of package tree. -/
import Derived.Test.YtjbfopnkeclfgaaGreatK36
import Derived.Test.YtjbfopnkeclfgaaGreatK34
namespace Go.Proofs.YtjbfopnkeclfgaaGreat
set_option maxRecDepth 20000
open Go.RowKit

/-- What the way meets: the nodes' places; how many more it may meet; whether it came to the end. -/
structure Dn where
  ys : List Int
  left : Nat
  ok : Bool
def dnRow (f : Nat → Int → Dn) : Nat → List It → Dn
  | c, [] => ⟨[], c, true⟩
  | c, x :: r => if (f c x.2).ok then ⟨(f c x.2).ys ++ (dnRow f (f c x.2).left r).ys, (dnRow f (f c x.2).left r).left, (dnRow f (f c x.2).left r).ok⟩ else f c x.2
def fromT (it : List It) (leaf : Bool) (key : Int) : List It := it.drop (atI leaf it key).toNat
def dn (l : List HC) (key : Int) : Nat → Nat → Int → Dn
  | 0, c, _ => ⟨[], c, false⟩
  | m + 1, c, p => if usedC l p && decide (c ≠ 0) then (if (cellT l p).leaf then ⟨[p], c - 1, true⟩ else
      ⟨p :: (dnRow (dn l key m) (c - 1) (fromT (cellT l p).it false key)).ys, (dnRow (dn l key m) (c - 1) (fromT (cellT l p).it false key)).left, (dnRow (dn l key m) (c - 1) (fromT (cellT l p).it false key)).ok⟩) else ⟨[], c, false⟩
theorem dnRow_count {f : Nat → Int → Dn} : ∀ {r : List It} {c : Nat}, (∀ x ∈ r, ∀ c, (f c x.2).ys.length + (f c x.2).left = c) → (dnRow f c r).ys.length + (dnRow f c r).left = c
  | [], c, _ => by simp [dnRow]
  | x :: r, c, h => by
    unfold dnRow
    have h1 := h x List.mem_cons_self c
    split
    · have h2 := dnRow_count (r := r) (c := (f c x.2).left) (fun y hy => h y (List.mem_cons_of_mem _ hy))
      simp only [List.length_append]
      omega
    · exact h1
theorem dn_count (l : List HC) (key : Int) : ∀ (m c : Nat) (p : Int), (dn l key m c p).ys.length + (dn l key m c p).left = c
  | 0, c, p => by simp [dn]
  | m + 1, c, p => by
    unfold dn
    by_cases h : (usedC l p && decide (c ≠ 0)) = true
    · rw [if_pos h]
      simp only [Bool.and_eq_true, decide_eq_true_eq] at h
      split
      · simp only [List.length_singleton]; omega
      · have h2 := dnRow_count (f := dn l key m) (r := fromT (cellT l p).it false key) (c := c - 1) (fun x _ c => dn_count l key m c x.2)
        simp only [List.length_cons]
        omega
    · rw [if_neg h]; simp
/-- The nodes that the program meets from a root. -/
def nodesP (l : List HC) (root key : Int) : List Int := (dn l key 2001 2000 root).ys
theorem nodesP_len (l : List HC) (root key : Int) : (nodesP l root key).length ≤ 2000 := by
  have := dn_count l key 2001 2000 root
  unfold nodesP
  omega
/-- A right tree's nodes from a key on. -/
def fromB (l : List HC) (key : Int) : Nat → Int → List Int
  | 0, _ => []
  | m + 1, p => p :: (if (cellT l p).leaf then [] else (fromT (cellT l p).it false key).flatMap (fun x => fromB l key m x.2))
theorem sub_flatMap {α β : Type} {f g : α → List β} : ∀ {r : List α}, (∀ x ∈ r, (f x).Sublist (g x)) → (r.flatMap f).Sublist (r.flatMap g)
  | [], _ => by simp
  | x :: r, h => by
    rw [List.flatMap_cons, List.flatMap_cons]
    exact (h x List.mem_cons_self).append (sub_flatMap (fun y hy => h y (List.mem_cons_of_mem _ hy)))
theorem sub_flatMap' {α β : Type} (g : α → List β) : ∀ {r s : List α}, r.Sublist s → (r.flatMap g).Sublist (s.flatMap g) := fun {r s} h => by
  induction h with
  | slnil => simp
  | cons a h ih => rw [List.flatMap_cons]; exact ih.trans (List.sublist_append_right _ _)
  | cons_cons a h ih => rw [List.flatMap_cons, List.flatMap_cons]; exact (List.Sublist.refl _).append ih
theorem fromB_sub (l : List HC) (key : Int) : ∀ (m : Nat) (p : Int), (fromB l key m p).Sublist (nodesB l m p)
  | 0, p => by simp [fromB, nodesB]
  | m + 1, p => by
    unfold fromB nodesB
    refine List.Sublist.cons_cons _ ?_
    cases (cellT l p).leaf
    · simp only [Bool.false_eq_true, if_false]
      exact (sub_flatMap (fun x _ => fromB_sub l key m x.2)).trans (sub_flatMap' _ (List.drop_sublist _ _))
    · simp
/-- As many as there are, at most, where each is there once. -/
theorem nodup_len : ∀ (n : Nat) (xs : List Int), xs.Nodup → (∀ x ∈ xs, 0 ≤ x ∧ x < n) → xs.length ≤ n
  | 0, xs, _, h => by
    cases xs with
    | nil => simp
    | cons x r => have := h x List.mem_cons_self; omega
  | n + 1, xs, hn, h => by
    by_cases hm : (n : Int) ∈ xs
    · have h1 := List.length_erase_of_mem hm
      have h2 := nodup_len n (xs.erase (n : Int)) (hn.erase _) (fun x hx => by
        have h3 := (hn.mem_erase_iff).1 hx
        have h4 := h x h3.2
        have h5 := h3.1
        omega)
      have := List.length_pos_of_mem hm
      omega
    · have := nodup_len n xs hn (fun x hx => by
        have h4 := h x hx
        have : x ≠ n := fun e => hm (by subst e; exact hx)
        omega)
      omega
theorem fromB_len {l : List HC} (hl : AllR l) (hn : l.length ≤ 2000) (key : Int) {m : Nat} {p : Int} (h0 : 0 ≤ p) (h1 : p < l.length) (h : (bel l m p).is = true) : (fromB l key m p).length ≤ 2000 := by
  have h2 := (fromB_sub l key m p).length_le
  have h3 := nodup_len l.length (nodesB l m p) (nodes_once l hl m p h0 h1 h) (fun y hy => by
    obtain ⟨_, _, _, h5, _, _⟩ := node_in l hl m p h0 h1 h y hy
    exact h5)
  omega
theorem dnRow_right {f : Nat → Int → Dn} {g : Int → List Int} : ∀ {r : List It} {c : Nat}, (∀ x ∈ r, ∀ c, (g x.2).length ≤ c → f c x.2 = ⟨g x.2, c - (g x.2).length, true⟩) → (r.flatMap (fun x => g x.2)).length ≤ c →
    dnRow f c r = ⟨r.flatMap (fun x => g x.2), c - (r.flatMap (fun x => g x.2)).length, true⟩
  | [], c, _, _ => by simp [dnRow]
  | x :: r, c, h, hc => by
    rw [List.flatMap_cons, List.length_append] at hc
    unfold dnRow
    rw [h x List.mem_cons_self c (by omega)]
    simp only [if_true]
    rw [dnRow_right (fun y hy => h y (List.mem_cons_of_mem _ hy)) (by omega), List.flatMap_cons, List.length_append]
    simp only [Dn.mk.injEq, and_true, true_and]
    omega
theorem dn_right {l : List HC} (hl : AllR l) (key : Int) : ∀ (m m' c : Nat) (p : Int), 0 ≤ p → p < l.length → (bel l m p).is = true → m ≤ m' → (fromB l key m p).length ≤ c → dn l key m' c p = ⟨fromB l key m p, c - (fromB l key m p).length, true⟩
  | 0, _, _, p, _, _, h, _, _ => (bel_zero h).elim
  | _ + 1, 0, _, _, _, _, _, hm, _ => by omega
  | m + 1, m' + 1, c, p, h0, h1, h, hm, hc => by
    obtain ⟨k, rfl⟩ := Int.eq_ofNat_of_zero_le h0
    have hk : k < l.length := by omega
    obtain ⟨hr, hch⟩ := bel_is h
    rw [cellT_at hk] at hr hch
    have hok := cell_ok (hl k hk) hr
    unfold fromB at hc ⊢
    unfold dn
    rw [cellT_at hk] at hc ⊢
    simp only [List.length_cons] at hc
    rw [usedC_at hk, decide_eq_true hr, decide_eq_true (show c ≠ 0 by omega)]
    simp only [Bool.and_self, if_true]
    rcases hch with ⟨hlf, _⟩ | ⟨hlf, _, hch⟩
    · rw [hlf]; simp
    · rw [hlf] at hc ⊢
      simp only [Bool.false_eq_true, if_false] at hc ⊢
      have h2 := dnRow_right (f := dn l key m') (g := fromB l key m) (r := fromT l[k].it false key) (c := c - 1) (fun x hx c hc => by
        have hx' : x ∈ l[k].it := List.mem_of_mem_drop hx
        exact dn_right hl key m m' c x.2 (hok.2 hlf x hx').1 (by have := (hok.2 hlf x hx').2; omega) (hch x hx').1 (by omega) hc) (by omega)
      rw [h2]
      simp only [List.length_cons, Dn.mk.injEq, and_true, true_and]
      omega
/-- A right tree's nodes, as the program meets them. -/
theorem nodesP_right {l : List HC} (hl : AllR l) (hn : l.length ≤ 2000) {keep root : Int} (hr : rightR ⟨l, keep⟩ root = true) (key : Int) : nodesP l root key = if root < 0 then [] else fromB l key 20 root := by
  unfold nodesP
  rcases rightR_iff hr with h | ⟨h0, h1, hb⟩
  · rw [if_pos h]
    unfold dn
    rw [usedC_neg h]
    rfl
  · rw [if_neg (by omega), dn_right hl key 20 2001 2000 root h0 h1 hb (by omega) (fromB_len hl hn key h0 h1 hb)]
/-- With a key below all others it is all nodes. -/
theorem atI_low {it : List It} (h : NdR it) {key : Int} (hk : key < 0) : atI false it key = 0 := by
  have h1 : atB it key = false := atB_no (fun j hj e => by have := (h.2 j hj).1.1.1; omega)
  rw [atI_not h1]
  have h2 : atC it key = 0 := by
    unfold atC
    rw [List.countP_eq_zero]
    intro x hx
    have := (h.ok x hx).1.1
    simp only [decide_eq_true_eq]
    omega
  rw [h2]
  rfl
theorem fromB_low {l : List HC} (hl : AllR l) {key : Int} (hkey : key < 0) : ∀ (m : Nat) (p : Int), 0 ≤ p → p < l.length → (bel l m p).is = true → fromB l key m p = nodesB l m p
  | 0, p, _, _, h => (bel_zero h).elim
  | m + 1, p, h0, h1, h => by
    obtain ⟨k, rfl⟩ := Int.eq_ofNat_of_zero_le h0
    have hk : k < l.length := by omega
    obtain ⟨hr, hch⟩ := bel_is h
    rw [cellT_at hk] at hr hch
    have hok := cell_ok (hl k hk) hr
    unfold fromB nodesB
    rw [cellT_at hk]
    rcases hch with ⟨hlf, _⟩ | ⟨hlf, _, hch⟩
    · rw [hlf]; simp
    · rw [hlf]
      simp only [Bool.false_eq_true, if_false]
      unfold fromT
      rw [atI_low hok.1 hkey]
      simp only [Int.toNat_zero, List.drop_zero]
      rw [flatMap_congr' (fun x hx => fromB_low hl hkey m x.2 (hok.2 hlf x hx).1 (by have := (hok.2 hlf x hx).2; omega) (hch x hx).1)]
theorem nodesP_all {l : List HC} (hl : AllR l) (hn : l.length ≤ 2000) {keep root : Int} (hr : rightR ⟨l, keep⟩ root = true) {key : Int} (hkey : key < 0) : nodesP l root key = nodesT l root := by
  rw [nodesP_right hl hn hr key]
  unfold nodesT
  rcases rightR_iff hr with h | ⟨h0, h1, hb⟩
  · rw [if_pos h, if_pos h]
  · rw [if_neg (by omega), if_neg (by omega), fromB_low hl hkey 20 root h0 h1 hb]
/-- How high the program finds it: how many nodes come to the first leaf. -/
def upTo (l : List HC) : List Int → Nat
  | [] => 0
  | y :: r => if (cellT l y).leaf then 1 else (if upTo l r = 0 then 0 else upTo l r + 1)
def hgtP (l : List HC) (root : Int) : Nat := upTo l (nodesP l root (-9223372036854775808))
theorem upTo_app {l : List HC} : ∀ {xs : List Int} (ys : List Int), upTo l xs ≠ 0 → upTo l (xs ++ ys) = upTo l xs
  | [], _, h => by simp [upTo] at h
  | x :: xs, ys, h => by
    unfold upTo at h
    rw [List.cons_append]
    unfold upTo
    split
    · rfl
    · rename_i hl
      rw [if_neg hl] at h
      have h2 : upTo l xs ≠ 0 := fun e => by rw [if_pos e] at h; exact h rfl
      rw [upTo_app ys h2]
theorem upTo_nodes {l : List HC} (hl : AllR l) : ∀ (m : Nat) (p : Int), 0 ≤ p → p < l.length → (bel l m p).is = true → (upTo l (nodesB l m p) : Int) = (bel l m p).high
  | 0, p, _, _, h => (bel_zero h).elim
  | m + 1, p, h0, h1, h => by
    obtain ⟨k, rfl⟩ := Int.eq_ofNat_of_zero_le h0
    have hk : k < l.length := by omega
    obtain ⟨hr, hch⟩ := bel_is h
    rw [cellT_at hk] at hr hch
    have hok := cell_ok (hl k hk) hr
    unfold nodesB upTo
    rw [cellT_at hk]
    rcases hch with ⟨hlf, e⟩ | ⟨hlf, _, hch⟩
    · rw [hlf, e]; simp
    · rw [hlf]
      simp only [Bool.false_eq_true, if_false]
      have hlen := hok.1.1.1
      obtain ⟨it, hit⟩ : ∃ it, l[k].it = it := ⟨_, rfl⟩
      rw [hit] at hch hok hlen ⊢
      cases it with
      | nil => simp at hlen
      | cons x r =>
        have hx := hok.2 hlf x List.mem_cons_self
        have h2 := upTo_nodes hl m x.2 hx.1 (by omega) (hch x List.mem_cons_self).1
        have h3 := (hch x List.mem_cons_self).2.2
        have h4 := bel_pos l hl m x.2 hx.1 (by omega) (hch x List.mem_cons_self).1
        rw [List.flatMap_cons, upTo_app _ (by omega), if_neg (by omega)]
        omega
theorem hgtP_right {l : List HC} (hl : AllR l) (hn : l.length ≤ 2000) {keep root : Int} (hr : rightR ⟨l, keep⟩ root = true) : (hgtP l root : Int) = highT l root := by
  unfold hgtP
  rw [nodesP_all hl hn hr (by omega)]
  unfold nodesT highT
  rcases rightR_iff hr with h | ⟨h0, h1, hb⟩
  · rw [if_pos h, if_pos h]; rfl
  · rw [if_neg (by omega), if_neg (by omega)]
    exact upTo_nodes hl 20 root h0 h1 hb
end Go.Proofs.YtjbfopnkeclfgaaGreat
namespace Go.Proofs.YtjbfopnkeclfgaaGreat
set_option maxRecDepth 20000
open Go.RowKit

theorem at_low {it : List It} (h : NdR it) (key : Int) : ∃ hi : (atI false it key).toNat < it.length, 0 < (atI false it key).toNat → (it[(atI false it key).toNat]'hi).1 ≤ key := by
  cases hb : atB it key
  · rw [atI_not hb, Int.toNat_natCast]
    have h1 : atC it key ≤ it.length := List.countP_le_length
    have h2 := h.1.1
    refine ⟨by omega, fun h0 => ?_⟩
    have := (atC_lt h key (j := atC it key - 1) (by omega)).2 (by omega)
    omega
  · obtain ⟨k, hk, he⟩ := atB_ex hb
    rw [atI_yes hb, Int.toNat_natCast, atC_at h hk he]
    exact ⟨hk, fun _ => by omega⟩
/-! How the program tells right trees. -/
def nextT (it : List It) (i : Nat) (e : Int) : Int := if i + 1 < it.length then (it.getD (i + 1) (0, 0)).1 else e
def chk (l : List HC) : Nat → It → Int → Bool
  | 0, _, _ => false
  | k + 1, x, e => usedC l x.2 && (((cellT l x.2).leaf == decide (k = 0)) && (decide (firstK (cellT l x.2).it = x.1) && (decide (lastK (cellT l x.2).it < e) &&
      ((cellT l x.2).leaf || (List.range (cellT l x.2).it.length).all (fun i => chk l k ((cellT l x.2).it.getD i (0, 0)) (nextT (cellT l x.2).it i e))))))
theorem nextT_cons (x : It) (r : List It) (j : Nat) (e : Int) : nextT (x :: r) (j + 1) e = nextT r j e := by
  unfold nextT
  simp only [List.length_cons, List.getD_cons_succ]
  by_cases h : j + 1 < r.length
  · rw [if_pos h, if_pos (by omega)]
  · rw [if_neg h, if_neg (by omega)]
def headK (r : List It) (e : Int) : Int := match r with | [] => e | x :: _ => x.1
theorem belRow_mk {f : Int → Gt} {e h : Int} : ∀ {r : List It} {i : Nat} {o : Gt}, (∀ j (hj : j < r.length), (f r[j].2).is = true ∧ (f r[j].2).high = h ∧ (f r[j].2).lo = r[j].1 ∧ (f r[j].2).hi < nextT r j e) → (0 < r.length ∨ 0 < i) →
    (0 < i → o.high = h + 1 ∧ o.hi < headK r e) → (belRow f i r o).is = true ∧ (belRow f i r o).high = h + 1 ∧ (belRow f i r o).hi < e ∧ (belRow f i r o).lo = if i = 0 then headK r 0 else o.lo
  | [], i, o, _, hne, ho => by
    have hi : 0 < i := hne.elim (fun h => by simp at h) id
    obtain ⟨h1, h2⟩ := ho hi
    unfold belRow
    rw [if_neg (by omega)]
    exact ⟨rfl, h1, h2, rfl⟩
  | x :: r, i, o, hf, _, ho => by
    obtain ⟨a1, a2, a3, a4⟩ := hf 0 (by simp)
    simp only [List.getElem_cons_zero] at a1 a2 a3 a4
    have hbad : badR i x (f x.2) o = false := by
      unfold badR
      rw [a1, decide_eq_false (show ¬ (f x.2).lo ≠ x.1 from fun h => h a3)]
      rcases Nat.eq_zero_or_pos i with h | h
      · subst h; rfl
      · obtain ⟨h1, h2⟩ := ho h
        have h2' : o.hi < x.1 := h2
        rw [decide_eq_false (show ¬ (f x.2).lo ≤ o.hi by omega), decide_eq_false (show ¬ o.high ≠ (f x.2).high + 1 by omega)]
        simp
    unfold belRow
    rw [hbad]
    simp only [Bool.false_eq_true, if_false]
    have hnx : (nextR i (f x.2) o).high = h + 1 ∧ (nextR i (f x.2) o).hi = (f x.2).hi ∧ (nextR i (f x.2) o).lo = if i = 0 then x.1 else o.lo := by
      unfold nextR
      refine ⟨?_, rfl, ?_⟩
      · simp only
        split
        · omega
        · exact (ho (by omega)).1
      · simp only
        split
        · exact a3
        · rfl
    have h1 := belRow_mk (f := f) (e := e) (h := h) (r := r) (i := i + 1) (o := nextR i (f x.2) o) (fun j hj => by
      have := hf (j + 1) (by simp; omega)
      rw [nextT_cons] at this
      simpa using this) (.inr (by omega)) (fun _ => ⟨hnx.1, by
        rw [hnx.2.1]
        cases r with
        | nil => exact a4
        | cons y r => exact a4⟩)
    rw [if_neg (by omega)] at h1
    exact ⟨h1.1, h1.2.1, h1.2.2.1, by rw [h1.2.2.2, hnx.2.2]; rfl⟩
theorem range_all {n : Nat} {p : Nat → Bool} : (List.range n).all p = true ↔ ∀ i, i < n → p i = true := by
  rw [List.all_eq_true]
  exact ⟨fun h i hi => h i (List.mem_range.2 hi), fun h i hi => h i (List.mem_range.1 hi)⟩
theorem itD_at {it : List It} {i : Nat} (h : i < it.length) : it.getD i (0, 0) = it[i] := by rw [List.getD_eq_getElem?_getD, List.getElem?_eq_getElem h]; rfl
theorem chk_iff {l : List HC} (hl : AllR l) : ∀ (k m : Nat) (x : It) (e : Int), 0 ≤ x.2 → k ≤ m → (chk l k x e = true ↔ x.2 < l.length ∧ (bel l m x.2).is = true ∧ (bel l m x.2).high = k ∧ (bel l m x.2).lo = x.1 ∧ (bel l m x.2).hi < e)
  | 0, m, x, e, h0, hm => by
    constructor
    · intro h; simp [chk] at h
    · rintro ⟨h1, h2, h3, _⟩
      have := bel_pos l hl m x.2 h0 h1 h2
      omega
  | k + 1, 0, x, e, h0, hm => by omega
  | k + 1, m + 1, (xa, xb), e, h0, hm => by
    obtain ⟨j, rfl⟩ := Int.eq_ofNat_of_zero_le h0
    unfold chk
    simp only
    rcases Nat.lt_or_ge j l.length with hj | hj
    rotate_left
    · rw [usedC_big (show (l.length : Int) ≤ (j : Int) by omega)]
      simp only [Bool.false_and, Bool.false_eq_true, false_iff]
      omega
    rw [usedC_at hj, cellT_at hj]
    by_cases hrf : 0 < l[j].ref
    rotate_left
    · rw [decide_eq_false hrf]
      simp only [Bool.false_and, Bool.false_eq_true, false_iff]
      rintro ⟨_, h2, _⟩
      have := (bel_is h2).1
      rw [cellT_at hj] at this
      omega
    have hok := cell_ok (hl j hj) hrf
    have hlen := hok.1.1.1
    rw [decide_eq_true hrf, Bool.true_and]
    cases hlf : l[j].leaf
    · simp only [Bool.false_or, Bool.and_eq_true, decide_eq_true_eq, beq_iff_eq, range_all]
      have hcl : cellT l (j : Int) = l[j] := cellT_at hj
      constructor
      · rintro ⟨h1, h2, h3, h4⟩
        have hk : k ≠ 0 := by simpa using h1
        have hb : bel l (m + 1) (j : Int) = belRow (bel l m) 0 l[j].it Gt.no := by rw [bel, hcl, if_neg (by omega), hlf]; rfl
        have h5 := belRow_mk (f := bel l m) (e := e) (h := (k : Int)) (r := l[j].it) (i := 0) (o := Gt.no) (fun i hi => by
          have := (chk_iff hl k m _ _ (by rw [itD_at hi]; exact (hok.2 hlf _ (List.getElem_mem hi)).1) (by omega)).1 (h4 i hi)
          rw [itD_at hi] at this
          exact this.2) (.inl (by omega)) (fun h => by omega)
        rw [hb]
        refine ⟨by omega, h5.1, by rw [h5.2.1]; omega, ?_, h5.2.2.1⟩
        rw [h5.2.2.2, if_pos rfl, ← h2]
        cases hit : l[j].it with
        | nil => rw [hit] at hlen; simp at hlen
        | cons y r => rfl
      · rintro ⟨_, h2, h3, h4, h5⟩
        obtain ⟨_, hc⟩ := bel_is h2
        rw [hcl] at hc
        rcases hc with ⟨h, _⟩ | ⟨_, eb, hch⟩
        · rw [hlf] at h; cases h
        have hpos : ∀ y ∈ l[j].it, 0 ≤ y.2 ∧ y.2 < l.length := fun y hy => hok.2 hlf y hy
        have hsp : ∀ y ∈ l[j].it, Spans (listB l m y.2) (bel l m y.2).lo (bel l m y.2).hi := fun y hy => listB_spans l hl m y.2 (hpos y hy).1 (hpos y hy).2 (hch y hy).1
        have hwhole := listB_spans l hl (m + 1) (j : Int) h0 (by omega) h2
        have hhi : ∀ y ∈ l[j].it, (bel l m y.2).hi < e := fun y hy => by
          obtain ⟨z, hz, e1⟩ := (hsp y hy).last
          have : z ∈ listB l (m + 1) (j : Int) := by
            rw [listB, hcl, hlf]
            simp only [Bool.false_eq_true, if_false]
            exact List.mem_flatMap.2 ⟨y, hy, hz⟩
          have := hwhole.le z this
          omega
        have h2' := h2
        rw [eb] at h2'
        have hpw := (belRow_pair (f := bel l m) (fun y hy => (hsp y hy).le2) h2').1
        rw [List.pairwise_iff_getElem] at hpw
        have hf : l[j].it[0] ∈ l[j].it := List.getElem_mem (by omega)
        have hpos0 := bel_pos l hl m _ (hpos _ hf).1 (hpos _ hf).2 (hch _ hf).1
        have hk : k ≠ 0 := by have := (hch _ hf).2.2; omega
        refine ⟨by simpa using hk, ?_, ?_, fun i hi => ?_⟩
        · rw [← h4, eb]
          cases hit : l[j].it with
          | nil => rw [hit] at hlen; simp at hlen
          | cons y r =>
            rw [eb, hit] at h2
            unfold belRow at h2 ⊢
            cases hbad : badR 0 y (bel l m y.2) Gt.no
            · rw [hbad] at h2
              simp only [Bool.false_eq_true, if_false] at h2 ⊢
              have := ((belRow_is h2).2.2 (by omega)).2
              rw [this]
              show y.1 = (bel l m y.2).lo
              exact ((hch y (by rw [hit]; exact List.mem_cons_self)).2.1).symm
            · rw [hbad] at h2; simp [Gt.no] at h2
        · rw [lastK_at (by omega)]
          have hm2 : l[j].it[l[j].it.length - 1] ∈ l[j].it := List.getElem_mem (by omega)
          have h6 := (hsp _ hm2).le2
          have h7 := hhi _ hm2
          have h8 := (hch _ hm2).2.1
          omega
        · have hm2 : l[j].it[i] ∈ l[j].it := List.getElem_mem hi
          rw [itD_at hi]
          refine (chk_iff hl k m _ _ (hpos _ hm2).1 (by omega)).2 ⟨(hpos _ hm2).2, (hch _ hm2).1, by have := (hch _ hm2).2.2; omega, (hch _ hm2).2.1, ?_⟩
          unfold nextT
          by_cases hlt : i + 1 < l[j].it.length
          · rw [if_pos hlt, itD_at hlt]
            have h6 := hpw i (i + 1) hi hlt (by omega)
            have h7 := (hch _ (List.getElem_mem hlt)).2.1
            omega
          · rw [if_neg hlt]
            exact hhi _ hm2
    · have hb : bel l (m + 1) (j : Int) = ⟨firstK l[j].it, lastK l[j].it, 1, true⟩ := by rw [bel, cellT_at hj, if_neg (by omega), hlf]; rfl
      rw [hb]
      simp only [Bool.true_or, Bool.and_true, Bool.and_eq_true, decide_eq_true_eq, beq_iff_eq]
      constructor
      · rintro ⟨h1, h2, h3⟩
        have hk : k = 0 := by simpa using h1.symm
        exact ⟨by omega, trivial, by omega, h2, h3⟩
      · rintro ⟨_, _, h1, h2, h3⟩
        exact ⟨by have : k = 0 := by omega
                  simp [this], h2, h3⟩
/-- Which trees the program calls right. -/
def rightPE (l : List HC) (p : Int) : Bool := decide (p = -1) || ((decide (1 ≤ hgtP l p) && decide (hgtP l p ≤ 20)) && chk l (hgtP l p) (firstK (cellT l p).it, p) 9223372036854775807)
theorem hgtP_used {l : List HC} {p : Int} (h : hgtP l p ≠ 0) : usedC l p = true := by
  unfold hgtP nodesP dn at h
  cases hu : usedC l p
  · rw [hu] at h; exact absurd rfl h
  · rfl
theorem rightPE_is {l : List HC} (hl : AllR l) (hn : l.length ≤ 2000) (keep p : Int) : rightPE l p = rightR ⟨l, keep⟩ p := by
  rw [Bool.eq_iff_iff]
  constructor
  · intro h
    unfold rightPE at h
    simp only [Bool.or_eq_true, Bool.and_eq_true, decide_eq_true_eq] at h
    rcases h with rfl | ⟨⟨h1, h2⟩, h3⟩
    · unfold rightR; simp
    · obtain ⟨k, hk, rfl, _⟩ := usedC_iff (hgtP_used (l := l) (p := p) (by omega))
      have := (chk_iff hl (hgtP l (k : Int)) 20 _ _ (by simp) h2).1 h3
      exact rightR_of (by omega) this.1 this.2.1
  · intro h
    have hh := hgtP_right hl hn h
    unfold rightPE
    simp only [Bool.or_eq_true, Bool.and_eq_true, decide_eq_true_eq]
    by_cases hp : p = -1
    · exact .inl hp
    · right
      rcases rightR_iff h with h0 | ⟨h0, h1, hb⟩
      · have : usedH ⟨l, keep⟩ p = true := by unfold rightR at h; simp [hp] at h; exact h.1
        have h5 : usedC l p = true := this
        rw [usedC_neg h0] at h5
        cases h5
      · have hp1 := bel_pos l hl 20 p h0 h1 hb
        have hp2 := (bel_high l 20 p).2
        unfold highT at hh
        rw [if_neg (by omega)] at hh
        refine ⟨⟨by omega, by omega⟩, ?_⟩
        refine (chk_iff hl (hgtP l p) 20 _ _ h0 (by omega)).2 ⟨h1, hb, hh.symm, ?_, ?_⟩
        · have hsp := listB_spans l hl 20 p h0 h1 hb
          obtain ⟨k, rfl⟩ := Int.eq_ofNat_of_zero_le h0
          have hk : k < l.length := by omega
          obtain ⟨hrf, hc⟩ := bel_is (m := 19) hb
          rcases hc with ⟨_, e⟩ | ⟨hlf, e, hch⟩
          · rw [e]
          · have hx20 := (chk_iff hl (hgtP l (k : Int)) 20 ((bel l 20 (k : Int)).lo, (k : Int)) ((bel l 20 (k : Int)).hi + 1) h0 (by omega)).2 ⟨h1, hb, hh.symm, rfl, by show (bel l 20 (k : Int)).hi < (bel l 20 (k : Int)).hi + 1; omega⟩
            obtain ⟨j, hj⟩ : ∃ j, hgtP l (k : Int) = j + 1 := ⟨hgtP l (k : Int) - 1, by omega⟩
            rw [hj] at hx20
            unfold chk at hx20
            simp only [Bool.and_eq_true, decide_eq_true_eq] at hx20
            exact hx20.2.2.1.symm
        · have hsp := listB_spans l hl 20 p h0 h1 hb
          obtain ⟨y, hy, e1⟩ := hsp.last
          have := (hsp.ok y hy).1.2
          show (bel l 20 p).hi < 9223372036854775807
          omega
end Go.Proofs.YtjbfopnkeclfgaaGreat
namespace Go.Proofs.YtjbfopnkeclfgaaGreat
set_option maxRecDepth 20000
open Go.RowKit

/-- Where each cell's node stands. -/
def Lie (w : World) (R : Option Addr) (l : List HC) (A : Nat → Option Addr) (C : Nat → Nat) : Prop := ∀ k (hk : k < l.length), ∃ b off, R = some ⟨b, off, none⟩ ∧ b < w.heap.size ∧
  (w.cell? ⟨b, off + k * 4, none⟩ = some (.int .i64 l[k].ref) ∧ w.cell? ⟨b, off + k * 4 + 2, none⟩ = some (.bool l[k].leaf) ∧ w.cell? ⟨b, off + k * 4 + 3, none⟩ = some (.slice (A k) l[k].it.length (C k))) ∧ Sl w (A k) l[k].it.length (C k) (ivs l[k].it)
theorem lie_ex {w : World} {R : Option Addr} {n q : Nat} {l : List HC} (h : HcSl w R n q l) : ∃ A C, Lie w R l A C := by
  have hc := fun k (hk : k < l.length) => h.cell hk
  refine ⟨fun k => if hk : k < l.length then (hc k hk).choose_spec.choose_spec.2.2.choose else none, fun k => if hk : k < l.length then (hc k hk).choose_spec.choose_spec.2.2.choose_spec.choose else 0, fun k hk => ?_⟩
  simp only [dif_pos hk]
  have h1 := (hc k hk).choose_spec.choose_spec
  have h2 := h1.2.2.choose_spec.choose_spec
  exact ⟨_, _, h1.1, h1.2.1, ⟨h2.1, h2.2.2.1, h2.2.2.2.1⟩, h2.2.2.2.2⟩
theorem Lie.ext {w w' : World} {R : Option Addr} {l : List HC} {A : Nat → Option Addr} {C : Nat → Nat} (h : Lie w R l A C) (hx : Ext w w') : Lie w' R l A C := fun k hk => by
  obtain ⟨b, off, e, hb, ⟨h1, h2, h3⟩, h4⟩ := h k hk
  exact ⟨b, off, e, Nat.lt_of_lt_of_le hb hx.size, ⟨(hx.cell (p := ⟨b, off + k * 4, none⟩) hb).trans h1, (hx.cell (p := ⟨b, off + k * 4 + 2, none⟩) hb).trans h2, (hx.cell (p := ⟨b, off + k * 4 + 3, none⟩) hb).trans h3⟩, h4.ext hx⟩
def NV (l : List HC) (A : Nat → Option Addr) (C : Nat → Nat) (p : Int) : Value := .agg #[.bool (cellT l p).leaf, .slice (A p.toNat) (cellT l p).it.length (C p.toNat)]
def usedV (l : List HC) (A : Nat → Option Addr) (C : Nat → Nat) (p : Int) : Value := if usedC l p then NV l A C p else .agg #[.bool false, .slice none 0 0]
set_option maxRecDepth 100000 in
set_option maxHeartbeats 800000 in
theorem treeUsed_any (R : Option Addr) (l : List HC) (n q : Nat) (keep p : Int) (A : Nat → Option Addr) (C : Nat → Nat) (w : World) (hl : AllR l) (hn : n = l.length) (hA : Lie w R l A C) :
    Calls Tryz.prog 89 #[.agg #[.slice R n q, .int .i64 keep], .int .i64 p] w fun e w' => e = .returned (.tuple #[usedV l A C p, .bool (usedC l p)]) ∧ Ext w w' := by
  obtain ⟨W, hW⟩ : ∃ W, (w.alloc (.cells #[.slice R n q, .int .i64 keep] 30)).alloc (.cells #[.bool false, .slice none 0 0] 59) = W := ⟨_, rfl⟩
  obtain ⟨hx, hb0, hb1⟩ := allocs2 hW
  have HX := Lib.hid hx
  have HB0 := Lib.hid hb0
  have HB1 := Lib.hid hb1
  obtain ⟨b0, b1, b2⟩ := hb0.read2
  obtain ⟨f0, f1⟩ := hb1.free2
  obtain ⟨c0, c1, fl⟩ := hb1.read2
  have HN := Lib.hid hn
  have HXS := Lib.hid (fun x y => (hx.set (p := ⟨w.heap.size + 1, 0, none⟩) (by show w.heap.size ≤ w.heap.size + 1; omega) x).set (p := ⟨w.heap.size + 1, 1, none⟩) (by show w.heap.size ≤ w.heap.size + 1; omega) y)
  clear hx hb0 hb1
  by_cases hp : p < 0
  · have d0 : decide (p < 0) = true := decide_eq_true hp
    have HU := Lib.hid (usedC_neg (l := l) hp)
    clear hn hp hl hA
    go_enter Tryz.func89, Tryz.ntmps89
    go_wp2
    refine ret2_cell (k := w.heap.size + 1) (x := .bool false) (y := .slice none 0 0) (v := .tuple #[.agg #[.bool false, .slice none 0 0], .bool false]) ?hb1 (fun r0 r1 => by simp [results, Tryz.results89, go_sem, r0, r1]) rfl ?hx1
    case hb1 => exact HB1.out.set2 _ _
    case hx1 => exact ⟨by unfold usedV; rw [HU.out]; rfl, HXS.out _ _⟩
  obtain ⟨k, rfl⟩ := Int.eq_ofNat_of_zero_le (show 0 ≤ p by omega)
  have d0 : decide ((k : Int) < 0) = false := decide_eq_false hp
  rcases Nat.lt_or_ge k n with hk | hk
  rotate_left
  · have d1 : decide ((n : Int) ≤ (k : Int)) = true := decide_eq_true (by omega)
    have d3 : decide (n ≤ k) = true := decide_eq_true hk
    have HU := Lib.hid (usedC_big (l := l) (p := (k : Int)) (by omega))
    clear hn hp hl hA hk
    go_enter Tryz.func89, Tryz.ntmps89
    go_wp2
    refine ret2_cell (k := w.heap.size + 1) (x := .bool false) (y := .slice none 0 0) (v := .tuple #[.agg #[.bool false, .slice none 0 0], .bool false]) ?hb2 (fun r0 r1 => by simp [results, Tryz.results89, go_sem, r0, r1]) rfl ?hx2
    case hb2 => exact HB1.out.set2 _ _
    case hx2 => exact ⟨by unfold usedV; rw [HU.out]; rfl, HXS.out _ _⟩
  have d1 : decide ((n : Int) ≤ (k : Int)) = false := decide_eq_false (by omega)
  have d3 : decide (n ≤ k) = false := decide_eq_false (by omega)
  have hkl : k < l.length := by omega
  obtain ⟨b, off, rfl, hbl, ⟨q0, q2, q3⟩, hI⟩ := hA k hkl
  have r0 := (HX.out.cell (p := ⟨b, off + k * 4, none⟩) hbl).trans q0
  have r2 := (HX.out.cell (p := ⟨b, off + k * 4 + 2, none⟩) hbl).trans q2
  have r3 := (HX.out.cell (p := ⟨b, off + k * 4 + 3, none⟩) hbl).trans q3
  have HI := Lib.hid (hI.ext HX.out)
  have HQ := Lib.hid (And.intro q0 (And.intro q2 q3))
  have hkn : (k : Int) < (n : Int) := by omega
  by_cases hrf : 0 < l[k].ref
  rotate_left
  · have d2 : decide (l[k].ref ≤ 0) = true := decide_eq_true (by omega)
    have HU := Lib.hid (show usedC l (k : Int) = false from by rw [usedC_at hkl, decide_eq_false hrf])
    generalize l[k] = x at *
    clear hn hp hl hA hk hI hkl q0 q2 q3 hrf
    go_enter Tryz.func89, Tryz.ntmps89
    go_wp2
    refine ret2_cell (k := w.heap.size + 1) (x := .bool false) (y := .slice none 0 0) (v := .tuple #[.agg #[.bool false, .slice none 0 0], .bool false]) ?hb3 (fun r0 r1 => by simp [results, Tryz.results89, go_sem, r0, r1]) rfl ?hx3
    case hb3 => exact HB1.out.set2 _ _
    case hx3 => exact ⟨by unfold usedV; rw [HU.out]; rfl, HXS.out _ _⟩
  have d2 : decide (l[k].ref ≤ 0) = false := decide_eq_false (by omega)
  have HU := Lib.hid (show usedC l (k : Int) = true from by rw [usedC_at hkl, decide_eq_true hrf])
  have HV := Lib.hid (show NV l A C (k : Int) = .agg #[.bool l[k].leaf, .slice (A k) l[k].it.length (C k)] from by unfold NV; rw [cellT_at hkl, Int.toNat_natCast])
  have hnd := (ndR_iff _).2 (cell_ok (hl k hkl) hrf).1
  have HC := Lib.hid (nodeRight_any l[k].leaf (A k) l[k].it l[k].it.length (C k) W rfl HI.out)
  rw [hnd] at HC
  generalize l[k] = x at *
  clear hn hp hl hA hk hI hkl q0 q2 q3 hrf hnd
  go_enter Tryz.func89, Tryz.ntmps89
  go_wp2_with (go_at_call 80; refine stop_here ?_)
  refine stop_on ?_
  refine HC.out.mono ?_
  rintro e w1 ⟨rfl, hx1⟩
  have HX1 := Lib.hid (HX.out.trans hx1)
  obtain ⟨b0, b1, b2⟩ := (show Bx W w.heap.size _ from HB0.out).ext hx1 |>.read2
  obtain ⟨f0, f1⟩ := (HB1.out.ext hx1).free2
  obtain ⟨c0, c1, fl⟩ := (HB1.out.ext hx1).read2
  have HB2 := Lib.hid (HB1.out.ext hx1)
  have r0 := (HX1.out.cell (p := ⟨b, off + k * 4, none⟩) hbl).trans HQ.out.1
  have r2 := (HX1.out.cell (p := ⟨b, off + k * 4 + 2, none⟩) hbl).trans HQ.out.2.1
  have r3 := (HX1.out.cell (p := ⟨b, off + k * 4 + 3, none⟩) hbl).trans HQ.out.2.2
  clear hx1
  go_wp2
  refine ret2_cell (k := w.heap.size + 1) (x := .bool x.leaf) (y := .slice (A k) x.it.length (C k)) (v := .tuple #[.agg #[.bool x.leaf, .slice (A k) x.it.length (C k)], .bool true]) ?hb4 (fun r0 r1 => by simp [results, Tryz.results89, go_sem, r0, r1]) rfl ?hx4
  case hb4 => exact HB2.out.set2 _ _
  case hx4 => exact ⟨by unfold usedV; rw [HU.out, HV.out]; rfl, (HX1.out.set (p := ⟨w.heap.size + 1, 0, none⟩) (by show w.heap.size ≤ w.heap.size + 1; omega) _).set (p := ⟨w.heap.size + 1, 1, none⟩) (by show w.heap.size ≤ w.heap.size + 1; omega) _⟩
set_option maxHeartbeats 400000 in
theorem treeNext_any (A : Option Addr) (it : List It) (n c i : Nat) (e : Int) (w : World) (hn : n = it.length) (hi : i < n) (hA : Sl w A n c (ivs it)) (hn4 : n ≤ 4) :
    Calls Tryz.prog 90 #[.slice A n c, .int .i64 i, .int .i64 e] w fun r w' => r = .returned (.int .i64 (nextT it i e)) ∧ w' = w := by
  by_cases h : i + 1 < n
  · obtain ⟨b, off, rfl, _, hc⟩ := hA.cells.it (k := i + 1) (by omega)
    have hck := (hc (i + 1) (by omega)).1
    have HE := Lib.hid (show nextT it i e = (it[i + 1]'(by omega)).1 from by unfold nextT; rw [if_pos (by omega), itD_at (by omega)])
    have d0 : decide ((i : Int) + 1 < (n : Int)) = true := decide_eq_true (by omega)
    have d1 : decide (i + 1 < n) = true := decide_eq_true h
    have d2 : ((i + 1 : Nat) : Int) < (n : Int) := by omega
    generalize (it[i + 1]'(by omega)).1 = x at *
    clear hc hn hi hA
    go_enter Tryz.func90, Tryz.ntmps90
    go_wp2
    go_ret
    exact ⟨by rw [HE.out]; rfl, rfl⟩
  · have hi4 : i ≤ 4 := by omega
    have HE := Lib.hid (show nextT it i e = e from by unfold nextT; rw [if_neg (by omega)])
    have d0 : decide ((i : Int) + 1 < (n : Int)) = false := decide_eq_false (by omega)
    have d1 : decide (i + 1 < n) = false := decide_eq_false h
    clear hn hi hA
    go_enter Tryz.func90, Tryz.ntmps90
    go_wp2
    go_ret
    exact ⟨by rw [HE.out]; rfl, rfl⟩
end Go.Proofs.YtjbfopnkeclfgaaGreat
