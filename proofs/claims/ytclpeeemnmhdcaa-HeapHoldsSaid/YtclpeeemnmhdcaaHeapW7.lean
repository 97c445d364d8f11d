/- Loosing on plain lists; the walk of Loose of the reference. -/
import Derived.Test.YtclpeeemnmhdcaaHeapW6
namespace Go.Proofs.Ytclpeeemnmhdcaa
open Go.RowKit
attribute [local go_sem ↓] Go.wp_at_zero Go.wp_at_succ

theorem looseL_no {l : List HC} {p : Int} (f : Nat) (h : usedC l p = false) : looseL f l p = l := by
  cases f with
  | zero => rfl
  | succ f => unfold looseL; rw [h]; rfl
theorem looseL_at {l : List HC} {k : Nat} (f : Nat) (hk : k < l.length) (h : usedC l (k : Int) = true) :
    looseL (f + 1) l (k : Int) = if 1 < l[k].ref then l.set k ⟨l[k].ref - 1, false, l[k].leaf, l[k].it⟩ else if l[k].leaf then l.set k ⟨0, true, false, []⟩ else l[k].it.foldl (fun g x => looseL f g x.2) (l.set k ⟨0, true, false, []⟩) := by
  rw [looseL]
  simp only [h, if_true, Int.toNat_natCast, List.getD_eq_getElem?_getD, List.getElem?_eq_getElem hk, Option.getD_some]
theorem foldl_inv {α β : Type} {P : β → Prop} {g : β → α → β} (hg : ∀ b a, P b → P (g b a)) : ∀ (l : List α) (b : β), P b → P (l.foldl g b)
  | [], _, h => h
  | x :: l, b, h => foldl_inv hg l (g b x) (hg b x h)
theorem loose_len : ∀ (f : Nat) (l : List HC) (p : Int), (looseL f l p).length = l.length
  | 0, _, _ => rfl
  | f + 1, l, p => by
    cases h : usedC l p
    · rw [looseL_no _ h]
    · obtain ⟨k, hk, rfl, _⟩ := usedC_iff h
      rw [looseL_at f hk h]
      split
      · simp
      · split
        · simp
        · exact foldl_inv (P := fun g : List HC => g.length = l.length) (g := fun g (x : It) => looseL f g x.2) (fun b a hb => (loose_len f b a.2).trans hb) _ _ (List.length_set ..)
def Bd (l : List HC) : Prop := ∀ k (hk : k < l.length), l[k].ref ≤ 9000000000000000000
theorem Bd.set {l : List HC} (h : Bd l) (k : Nat) (x : HC) (hx : x.ref ≤ 9000000000000000000) : Bd (l.set k x) := fun j hj => by
  rw [List.length_set] at hj
  rw [List.getElem_set]
  split
  · exact hx
  · exact h j hj
theorem loose_bd : ∀ (f : Nat) (l : List HC) (p : Int), Bd l → Bd (looseL f l p)
  | 0, _, _, h => h
  | f + 1, l, p, hb => by
    cases h : usedC l p
    · rw [looseL_no _ h]; exact hb
    · obtain ⟨k, hk, rfl, _⟩ := usedC_iff h
      rw [looseL_at f hk h]
      split
      · exact hb.set _ _ (by have := hb k hk; simp only; omega)
      · split
        · exact hb.set _ _ (by simp only; omega)
        · exact foldl_inv (P := Bd) (g := fun g (x : It) => looseL f g x.2) (fun b a hb => loose_bd f b a.2 hb) _ _ (hb.set _ _ (by simp only; omega))
theorem usedN_set {l : List HC} {k : Nat} (hk : k < l.length) (x : HC) (hx : ¬ 0 < x.ref) (h : 0 < l[k].ref) : usedN (l.set k x) + 1 = usedN l := by
  unfold usedN
  have e : l = l.take k ++ l[k] :: l.drop (k + 1) := by
    conv => lhs; rw [← List.take_append_drop k l]
    rw [← List.drop_eq_getElem_cons hk]
  have e2 : l.set k x = l.take k ++ x :: l.drop (k + 1) := by rw [List.set_eq_take_append_cons_drop, if_pos hk]
  rw [e2]
  conv => rhs; rw [e]
  rw [List.countP_append, List.countP_append, List.countP_cons, List.countP_cons, decide_eq_false hx, decide_eq_true h]
  simp
  omega
theorem usedN_keep {l : List HC} {k : Nat} (hk : k < l.length) (x : HC) (h : 0 < l[k].ref) : usedN (l.set k x) ≤ usedN l := by
  unfold usedN
  have e : l = l.take k ++ l[k] :: l.drop (k + 1) := by
    conv => lhs; rw [← List.take_append_drop k l]
    rw [← List.drop_eq_getElem_cons hk]
  have e2 : l.set k x = l.take k ++ x :: l.drop (k + 1) := by rw [List.set_eq_take_append_cons_drop, if_pos hk]
  rw [e2]
  conv => rhs; rw [e]
  rw [List.countP_append, List.countP_append, List.countP_cons, List.countP_cons, decide_eq_true h]
  split <;> simp
theorem loose_used : ∀ (f : Nat) (l : List HC) (p : Int), usedN (looseL f l p) ≤ usedN l
  | 0, _, _ => Nat.le_refl _
  | f + 1, l, p => by
    cases h : usedC l p
    · rw [looseL_no _ h]; exact Nat.le_refl _
    · obtain ⟨k, hk, rfl, hp⟩ := usedC_iff h
      rw [looseL_at f hk h]
      split
      · exact usedN_keep hk _ hp
      · split
        · exact usedN_keep hk _ hp
        · exact foldl_inv (P := fun g => usedN g ≤ usedN l) (g := fun g (x : It) => looseL f g x.2) (fun b a hb => Nat.le_trans (loose_used f b a.2) hb) _ _ (usedN_keep hk _ hp)
theorem foldl_take {β : Type} (g : β → It → β) (b : β) {it : List It} {k : Nat} (hk : k < it.length) : (it.take (k + 1)).foldl g b = g ((it.take k).foldl g b) it[k] := by
  rw [List.take_succ_eq_append_getElem hk, List.foldl_append]; rfl
end Go.Proofs.Ytclpeeemnmhdcaa
