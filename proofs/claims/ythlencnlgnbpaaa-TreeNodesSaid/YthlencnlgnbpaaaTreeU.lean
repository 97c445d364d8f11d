/- A tree's nodes: each once, the root first; their leaves' items are all. No program in sight. -/
import Derived.Test.YthlencnlgnbpaaaTreeS
import Derived.Test.YthlencnlgnbpaaaTreeW6a
namespace Go.Proofs.Ythlencnlgnbpaaa
open Go.RowKit

/-- What each node of a right tree is. -/
theorem node_in (l : List HC) (hl : AllR l) : ∀ (m : Nat) (p : Int), 0 ≤ p → p < l.length → (bel l m p).is = true → ∀ y ∈ nodesB l m p,
    ∃ m' : Nat, m' ≤ m ∧ (bel l m' y).is = true ∧ (0 ≤ y ∧ y < l.length) ∧ (bel l m' y).high ≤ (bel l m p).high ∧ ∀ z ∈ listB l m' y, z ∈ listB l m p
  | 0, p, _, _, h, _, _ => (bel_zero h).elim
  | m + 1, p, h0, h1, h, y, hy => by
    obtain ⟨k, rfl⟩ := Int.eq_ofNat_of_zero_le h0
    have hk : k < l.length := by omega
    obtain ⟨hr, hc⟩ := bel_is h
    have hr2 := hr
    rw [cellT_at hk] at hr
    have hok := cell_ok (hl k hk) hr
    rw [nodesB] at hy
    rcases List.mem_cons.1 hy with rfl | hy
    · exact ⟨m + 1, Nat.le_refl _, h, ⟨h0, h1⟩, Int.le_refl _, fun z hz => hz⟩
    · rcases hc with ⟨hlf, _⟩ | ⟨hlf, e, hch⟩
      · rw [hlf] at hy; simp at hy
      · rw [hlf] at hy
        simp only [Bool.false_eq_true, if_false] at hy
        obtain ⟨x, hx, hy⟩ := List.mem_flatMap.1 hy
        have hx' : x ∈ l[k].it := by rw [cellT_at hk] at hx; exact hx
        have hlf' : l[k].leaf = false := by rw [cellT_at hk] at hlf; exact hlf
        obtain ⟨c1, c2, c3⟩ := hch x hx
        have hp := hok.2 hlf' x hx'
        obtain ⟨m', d1, d2, d3, d4, d5⟩ := node_in l hl m x.2 hp.1 (by omega) c1 y hy
        refine ⟨m', by omega, d2, d3, by omega, fun z hz => ?_⟩
        rw [listB, hlf]
        simp only [Bool.false_eq_true, if_false]
        exact List.mem_flatMap.2 ⟨x, hx, d5 z hz⟩
theorem belRow_pair {f : Int → Gt} : ∀ {r : List It} {i : Nat} {o : Gt}, (∀ x ∈ r, (f x.2).lo ≤ (f x.2).hi) → (belRow f i r o).is = true →
    r.Pairwise (fun a b => (f a.2).hi < (f b.2).lo) ∧ (0 < i → ∀ x ∈ r, o.hi < (f x.2).lo)
  | [], _, _, _, _ => ⟨List.Pairwise.nil, fun _ x hx => by cases hx⟩
  | x :: r, i, o, hs, hb => by
    unfold belRow at hb
    cases hbad : badR i x (f x.2) o
    · rw [hbad] at hb
      simp only [Bool.false_eq_true, if_false] at hb
      obtain ⟨h1, h2⟩ := belRow_pair (fun y hy => hs y (List.mem_cons_of_mem _ hy)) hb
      have hnx : (nextR i (f x.2) o).hi = (f x.2).hi := rfl
      have h3 := h2 (by omega)
      rw [hnx] at h3
      refine ⟨List.pairwise_cons.2 ⟨fun y hy => h3 y hy, h1⟩, fun hi y hy => ?_⟩
      unfold badR at hbad
      simp only [Bool.or_eq_false_iff, Bool.and_eq_false_iff, decide_eq_false_iff_not] at hbad
      have hlt : o.hi < (f x.2).lo := by
        rcases hbad.2.2 with b | b
        · omega
        · omega
      rcases List.mem_cons.1 hy with rfl | hy
      · exact hlt
      · have h4 := h3 y hy
        have h5 := hs x List.mem_cons_self
        omega
    · rw [hbad] at hb; simp [Gt.no] at hb
theorem nodup_fm {α : Type} {g : α → List Int} : ∀ {r : List α}, (∀ x ∈ r, (g x).Nodup) → r.Pairwise (fun a b => ∀ y, y ∈ g a → y ∉ g b) → (r.flatMap g).Nodup
  | [], _, _ => by simp
  | x :: r, h, hp => by
    obtain ⟨h1, h2⟩ := List.pairwise_cons.1 hp
    rw [List.flatMap_cons, List.nodup_append]
    refine ⟨h x List.mem_cons_self, nodup_fm (fun y hy => h y (List.mem_cons_of_mem _ hy)) h2, ?_⟩
    intro a ha b hb e
    subst e
    obtain ⟨z, hz, hb⟩ := List.mem_flatMap.1 hb
    exact h1 z hz a ha hb
/-- Each node stands once. -/
theorem nodes_once (l : List HC) (hl : AllR l) : ∀ (m : Nat) (p : Int), 0 ≤ p → p < l.length → (bel l m p).is = true → (nodesB l m p).Nodup
  | 0, p, _, _, h => (bel_zero h).elim
  | m + 1, p, h0, h1, h => by
    obtain ⟨k, rfl⟩ := Int.eq_ofNat_of_zero_le h0
    have hk : k < l.length := by omega
    obtain ⟨hr, hc⟩ := bel_is h
    rw [cellT_at hk] at hr
    have hok := cell_ok (hl k hk) hr
    rw [nodesB]
    rcases hc with ⟨hlf, _⟩ | ⟨hlf, e, hch⟩
    · rw [hlf, if_pos rfl]; simp
    · rw [hlf]
      simp only [Bool.false_eq_true, if_false]
      have hx' : ∀ x ∈ (cellT l (k : Int)).it, 0 ≤ x.2 ∧ x.2 < l.length := fun x hx => by
        rw [cellT_at hk] at hx hlf
        exact hok.2 hlf x hx
      rw [List.nodup_cons]
      constructor
      · intro hin
        obtain ⟨x, hx, hy⟩ := List.mem_flatMap.1 hin
        obtain ⟨c1, c2, c3⟩ := hch x hx
        obtain ⟨m', d1, d2, d3, d4, d5⟩ := node_in l hl m x.2 (hx' x hx).1 (hx' x hx).2 c1 _ hy
        rw [bel_mono l m' (m + 1) _ d2 (by omega)] at c3
        omega
      · have hsp : ∀ x ∈ (cellT l (k : Int)).it, Spans (listB l m x.2) (bel l m x.2).lo (bel l m x.2).hi := fun x hx => listB_spans l hl m x.2 (hx' x hx).1 (hx' x hx).2 (hch x hx).1
        rw [e] at h
        have hpw := (belRow_pair (f := bel l m) (fun x hx => (hsp x hx).le2) h).1
        refine nodup_fm (fun x hx => nodes_once l hl m x.2 (hx' x hx).1 (hx' x hx).2 (hch x hx).1) ?_
        refine List.Pairwise.imp_of_mem ?_ hpw
        intro a b ha hb hlt y hya hyb
        obtain ⟨m1, a1, a2, a3, _, a5⟩ := node_in l hl m a.2 (hx' a ha).1 (hx' a ha).2 (hch a ha).1 y hya
        obtain ⟨m2, b1, b2, b3, _, b5⟩ := node_in l hl m b.2 (hx' b hb).1 (hx' b hb).2 (hch b hb).1 y hyb
        have e1 := listB_mono l m1 m y a2 a1
        have e2 := listB_mono l m2 m y b2 b1
        have hs := listB_spans l hl m1 y a3.1 a3.2 a2
        obtain ⟨z, r, hz, _⟩ := hs.head
        have hz1 : z ∈ listB l m1 y := by rw [hz]; exact List.mem_cons_self
        have hz2 : z ∈ listB l m2 y := by rw [← e2, e1]; exact hz1
        have k1 := (hsp a ha).le z (a5 z hz1)
        have k2 := (hsp b hb).ge z (b5 z hz2)
        omega
/-- A node's own items, if it is a leaf. -/
def leafI (l : List HC) (y : Int) : List It := if (cellT l y).leaf then (cellT l y).it else []
theorem leaves_all (l : List HC) : ∀ (m : Nat) (p : Int), (bel l m p).is = true → (nodesB l m p).flatMap (leafI l) = listB l m p
  | 0, p, h => (bel_zero h).elim
  | m + 1, p, h => by
    obtain ⟨hr, hc⟩ := bel_is h
    rw [nodesB, listB, List.flatMap_cons]
    rcases hc with ⟨hlf, _⟩ | ⟨hlf, e, hch⟩
    · unfold leafI
      rw [hlf]; simp
    · have h0 : leafI l p = [] := by unfold leafI; rw [hlf]; rfl
      rw [hlf, h0]
      simp only [Bool.false_eq_true, if_false, List.nil_append]
      rw [List.flatMap_assoc]
      exact flatMap_congr' (fun x hx => leaves_all l m x.2 (hch x hx).1)
structure NodesF (l : List HC) (root : Int) (L : List Int) : Prop where
  once : L.Nodup
  used : ∀ i (hi : i < L.length), ∃ j, ∃ hj : j < l.length, L[i] = (j : Int) ∧ 0 < l[j].ref
  head : 0 < L.length ∧ ∀ h : 0 < L.length, L[0] = root
  all : L.flatMap (leafI l) = listT l root
  kids : ∀ x ∈ (cellT l root).it, (cellT l root).leaf = false → x.2 ∈ L
  high : 1 ≤ highT l root ∧ highT l root ≤ 20
  len : L.length ≤ 4398046511104
theorem self_node {l : List HC} {m : Nat} {p : Int} (h : (bel l m p).is = true) : p ∈ nodesB l m p := by
  cases m with
  | zero => exact (bel_zero h).elim
  | succ m => rw [nodesB]; exact List.mem_cons_self
theorem bel_pos (l : List HC) (hl : AllR l) : ∀ (m : Nat) (p : Int), 0 ≤ p → p < l.length → (bel l m p).is = true → 1 ≤ (bel l m p).high
  | 0, p, _, _, h => (bel_zero h).elim
  | m + 1, p, h0, h1, h => by
    obtain ⟨k, rfl⟩ := Int.eq_ofNat_of_zero_le h0
    have hk : k < l.length := by omega
    obtain ⟨hr, hc⟩ := bel_is h
    rw [cellT_at hk] at hr hc
    have hok := cell_ok (hl k hk) hr
    rcases hc with ⟨hlf, e⟩ | ⟨hlf, e, hch⟩
    · rw [e]; simp
    · have hlen := hok.1.1.1
      have hx : l[k].it[0] ∈ l[k].it := List.getElem_mem (by omega)
      have h2 := (hch _ hx).2.2
      have h3 := (bel_high l m l[k].it[0].2).1
      omega
theorem nodes_facts {l : List HC} {keep root : Int} (hl : AllR l) (hr : rightR ⟨l, keep⟩ root = true) (h0 : 0 ≤ root) {L : List Int} (hL : nodesT l root = L) : NodesF l root L := by
  rcases rightR_iff hr with h | ⟨_, h1, hb⟩
  · omega
  have hL' : nodesB l 20 root = L := by rw [← hL]; unfold nodesT; rw [if_neg (by omega)]
  subst hL'
  refine ⟨nodes_once l hl 20 root h0 h1 hb, fun i hi => ?_, ⟨List.length_pos_of_mem (self_node hb), fun h => rfl⟩, ?_, fun x hx hlf => ?_, ?_, ?_⟩
  · obtain ⟨m', a1, a2, a3, _, _⟩ := node_in l hl 20 root h0 h1 hb _ (List.getElem_mem hi)
    obtain ⟨j, hj⟩ := Int.eq_ofNat_of_zero_le a3.1
    have hjl : j < l.length := by omega
    refine ⟨j, hjl, hj, ?_⟩
    cases m' with
    | zero => exact (bel_zero a2).elim
    | succ m' =>
      have := (bel_is a2).1
      rw [hj, cellT_at hjl] at this
      exact this
  · rw [leaves_all l 20 root hb]
    unfold listT
    rw [if_neg (by omega)]
  · obtain ⟨hrf, hc⟩ := bel_is (m := 19) hb
    rcases hc with ⟨hlf', _⟩ | ⟨_, e, hch⟩
    · rw [hlf] at hlf'; cases hlf'
    · show x.2 ∈ nodesB l (19 + 1) root
      rw [nodesB, hlf]
      simp only [Bool.false_eq_true, if_false]
      exact List.mem_cons_of_mem _ (List.mem_flatMap.2 ⟨x, hx, self_node (hch x hx).1⟩)
  · unfold highT
    rw [if_neg (by omega)]
    exact ⟨bel_pos l hl 20 root h0 h1 hb, (bel_high l 20 root).2⟩
  · have := nodesB_len l hl 20 root h0 h1 hb
    have h4 : 2 * 4 ^ 20 ≤ 4398046511104 := by decide
    omega
end Go.Proofs.Ythlencnlgnbpaaa
