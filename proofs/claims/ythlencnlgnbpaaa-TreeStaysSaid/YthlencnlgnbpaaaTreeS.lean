/- What is found hangs on no fuel; what a node's items lead to. No program in sight. -/
import Derived.Test.YthlencnlgnbpaaaTreeR
namespace Go.Proofs.Ythlencnlgnbpaaa
open Go.RowKit

theorem belRow_congr {f g : Int → Gt} : ∀ {r : List It} {i : Nat} {o : Gt}, (∀ x ∈ r, g x.2 = f x.2) → belRow g i r o = belRow f i r o
  | [], _, _, _ => rfl
  | x :: r, i, o, h => by
    unfold belRow
    rw [h x List.mem_cons_self, belRow_congr (fun y hy => h y (List.mem_cons_of_mem _ hy))]
theorem flatMap_congr' {α β : Type} {f g : α → List β} : ∀ {r : List α}, (∀ x ∈ r, g x = f x) → r.flatMap g = r.flatMap f
  | [], _ => rfl
  | x :: r, h => by
    rw [List.flatMap_cons, List.flatMap_cons, h x List.mem_cons_self, flatMap_congr' (fun y hy => h y (List.mem_cons_of_mem _ hy))]
theorem bel_mono (l : List HC) : ∀ (m m' : Nat) (p : Int), (bel l m p).is = true → m ≤ m' → bel l m' p = bel l m p
  | 0, _, _, h, _ => (bel_zero h).elim
  | m + 1, 0, _, _, h => by omega
  | m + 1, m' + 1, p, h, hm => by
    obtain ⟨hr, hc⟩ := bel_is h
    rw [bel, if_neg (by omega)]
    rcases hc with ⟨hlf, e⟩ | ⟨hlf, e, hch⟩
    · rw [hlf, if_pos rfl, e]
    · rw [hlf, e]
      simp only [Bool.false_eq_true, if_false]
      exact belRow_congr (fun x hx => bel_mono l m m' x.2 (hch x hx).1 (by omega))
theorem listB_mono (l : List HC) : ∀ (m m' : Nat) (p : Int), (bel l m p).is = true → m ≤ m' → listB l m' p = listB l m p
  | 0, _, _, h, _ => (bel_zero h).elim
  | m + 1, 0, _, _, h => by omega
  | m + 1, m' + 1, p, h, hm => by
    obtain ⟨hr, hc⟩ := bel_is h
    rw [listB, listB]
    rcases hc with ⟨hlf, e⟩ | ⟨hlf, e, hch⟩
    · rw [hlf, if_pos rfl, if_pos rfl]
    · rw [hlf]
      simp only [Bool.false_eq_true, if_false]
      exact flatMap_congr' (fun x hx => listB_mono l m m' x.2 (hch x hx).1 (by omega))
theorem nodesB_mono (l : List HC) : ∀ (m m' : Nat) (p : Int), (bel l m p).is = true → m ≤ m' → nodesB l m' p = nodesB l m p
  | 0, _, _, h, _ => (bel_zero h).elim
  | m + 1, 0, _, _, h => by omega
  | m + 1, m' + 1, p, h, hm => by
    obtain ⟨hr, hc⟩ := bel_is h
    rw [nodesB, nodesB]
    rcases hc with ⟨hlf, e⟩ | ⟨hlf, e, hch⟩
    · rw [hlf, if_pos rfl, if_pos rfl]
    · rw [hlf]
      simp only [Bool.false_eq_true, if_false]
      rw [flatMap_congr' (fun x hx => nodesB_mono l m m' x.2 (hch x hx).1 (by omega))]
theorem filter_all' {xs : List It} {P : It → Bool} (h : ∀ x ∈ xs, P x = true) : xs.filter P = xs := List.filter_eq_self.2 h
/-- All keys: a scan from 0 to behind the greatest number is all. -/
theorem scan_whole {l : List HC} {keep root : Int} (hl : AllR l) (hr : rightR ⟨l, keep⟩ root = true) : scanT l root 0 2147483648 = listT l root := by
  rw [scan_is]
  refine filter_all' (fun x hx => ?_)
  have h := (listT_asc hl hr).2 x hx
  unfold okIt at h
  rw [inR_iff]
  omega
/-- The root of a right tree that has one: its cell, and what is below. -/
structure RootF (l : List HC) (keep root : Int) (k : Nat) (hk : k < l.length) : Prop where
  at_ : root = (k : Int)
  ref : 0 < l[k].ref
  nd : NdR l[k].it
  leaf : l[k].leaf = true → listT l root = l[k].it
  inner : l[k].leaf = false → (listT l root = l[k].it.flatMap (fun x => listT l x.2)) ∧ ∀ x ∈ l[k].it, rightR ⟨l, keep⟩ x.2 = true ∧ 0 ≤ x.2 ∧ x.2 < l.length ∧ highT l x.2 = highT l root - 1 ∧ (∃ y r, listT l x.2 = y :: r ∧ y.1 = x.1)
theorem rightR_of {l : List HC} {keep p : Int} (h0 : 0 ≤ p) (h1 : p < l.length) (hb : (bel l 20 p).is = true) : rightR ⟨l, keep⟩ p = true := by
  obtain ⟨k, rfl⟩ := Int.eq_ofNat_of_zero_le h0
  have hk : k < l.length := by omega
  have hr := (bel_is (m := 19) hb).1
  rw [cellT_at hk] at hr
  unfold rightR
  rw [show usedH ⟨l, keep⟩ (k : Int) = true from by show usedC l (k : Int) = true; rw [usedC_at hk, decide_eq_true hr], hb]
  simp
theorem root_facts {l : List HC} {keep root : Int} (hl : AllR l) (hr : rightR ⟨l, keep⟩ root = true) (h0 : 0 ≤ root) : ∃ k, ∃ hk : k < l.length, RootF l keep root k hk := by
  rcases rightR_iff hr with h | ⟨_, h1, hb⟩
  · omega
  obtain ⟨k, rfl⟩ := Int.eq_ofNat_of_zero_le h0
  have hk : k < l.length := by omega
  obtain ⟨hrf, hc⟩ := bel_is (m := 19) hb
  rw [cellT_at hk] at hrf hc
  have hok := cell_ok (hl k hk) hrf
  refine ⟨k, hk, rfl, hrf, hok.1, fun hlf => ?_, fun hlf => ?_⟩
  · unfold listT
    rw [if_neg (by omega), listB, cellT_at hk, hlf, if_pos rfl]
  · rcases hc with ⟨hlf', _⟩ | ⟨_, e, hch⟩
    · rw [hlf] at hlf'; cases hlf'
    have hx20 : ∀ x ∈ l[k].it, (bel l 20 x.2).is = true ∧ bel l 20 x.2 = bel l 19 x.2 := fun x hx => by
      have := bel_mono l 19 20 x.2 (hch x hx).1 (by omega)
      exact ⟨by rw [this]; exact (hch x hx).1, this⟩
    refine ⟨?_, fun x hx => ?_⟩
    · unfold listT
      rw [if_neg (by omega), listB, cellT_at hk, hlf]
      simp only [Bool.false_eq_true, if_false]
      refine flatMap_congr' (fun x hx => ?_)
      have hp := (hok.2 hlf x hx).1
      rw [if_neg (by omega)]
      exact (listB_mono l 19 20 x.2 (hch x hx).1 (by omega)).symm
    · have hp := hok.2 hlf x hx
      have hs := listB_spans l hl 20 x.2 hp.1 (by omega) (hx20 x hx).1
      obtain ⟨y, r, he, hy⟩ := hs.head
      refine ⟨rightR_of hp.1 (by omega) (hx20 x hx).1, hp.1, by omega, ?_, y, r, ?_, ?_⟩
      · unfold highT
        rw [if_neg (by omega), if_neg (by omega), (hx20 x hx).2]
        have h9 : (bel l 19 x.2).high + 1 = (bel l 20 (k : Int)).high := (hch x hx).2.2
        omega
      · unfold listT
        rw [if_neg (by omega)]
        exact he
      · rw [hy, (hx20 x hx).2]
        exact (hch x hx).2.1
end Go.Proofs.Ythlencnlgnbpaaa
