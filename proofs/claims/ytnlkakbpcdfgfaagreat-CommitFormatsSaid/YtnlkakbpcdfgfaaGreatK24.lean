/- Loosing on plain lists; the walk of Loose of the reference. The walk of Loose of the reference. The walk of Alloc of the reference. The walk of Alloc of the reference, where the node may be laid. Walks of isSize, isPlace, isFree, used, hold and settle of package heap. Walks of told, copied and waiting of package heap. Walks of slices.Index, Contains, IndexFunc, ContainsFunc and of the closures of package heap. The walk of loose of package heap. Walks of changed and changedUsed of package heap, at each thing that is done. Walks of slices.DeleteFunc and of without of package heap. -/
import Derived.Test.YtnlkakbpcdfgfaaGreatK11
import Derived.Test.YtnlkakbpcdfgfaaGreatK23
import Derived.Test.YtnlkakbpcdfgfaaGreatK18
import Derived.Lib.SliceRun
namespace Go.Proofs.YtnlkakbpcdfgfaaGreat
set_option maxRecDepth 20000
open Go.RowKit
attribute [local go_sem ↓] Go.wp_at_zero Go.wp_at_succ

theorem looseL_no {l : List HC} {p : Int} (f : Nat) (h : usedC l p = false) : looseL f l p = l := by
  cases f with
  | zero => rfl
  | succ f => unfold looseL; rw [h]; rfl
theorem looseL_at {l : List HC} {k : Nat} (f : Nat) (hk : k < l.length) (h : usedC l (k : Int) = true) :
    looseL (f + 1) l (k : Int) = if 1 < l[k].ref then l.set k ⟨l[k].ref - 1, false, l[k].leaf, l[k].it⟩ else if l[k].leaf then l.set k ⟨0, true, false, []⟩ else l[k].it.foldl (fun g x => looseL f g x.2) (l.set k ⟨0, true, false, []⟩) := by
  rw [looseL]
  simp only [h, if_true, Int.toNat_natCast, List.getD_eq_getElem?_getD, List.getElem?_eq_getElem hk, Option.getD_some]
theorem foldl_inv {α β : Type} {P : β → Prop} {g : β → α → β} (hg : ∀ b a, P b → P (g b a)) : ∀ (l : List α) (b : β), P b → P (l.foldl g b)
  | [], _, h => h
  | x :: l, b, h => foldl_inv hg l (g b x) (hg b x h)
theorem loose_len : ∀ (f : Nat) (l : List HC) (p : Int), (looseL f l p).length = l.length
  | 0, _, _ => rfl
  | f + 1, l, p => by
    cases h : usedC l p
    · rw [looseL_no _ h]
    · obtain ⟨k, hk, rfl, _⟩ := usedC_iff h
      rw [looseL_at f hk h]
      split
      · simp
      · split
        · simp
        · exact foldl_inv (P := fun g : List HC => g.length = l.length) (g := fun g (x : It) => looseL f g x.2) (fun b a hb => (loose_len f b a.2).trans hb) _ _ (List.length_set ..)
def Bd (l : List HC) : Prop := ∀ k (hk : k < l.length), l[k].ref ≤ 9000000000000000000
theorem Bd.set {l : List HC} (h : Bd l) (k : Nat) (x : HC) (hx : x.ref ≤ 9000000000000000000) : Bd (l.set k x) := fun j hj => by
  rw [List.length_set] at hj
  rw [List.getElem_set]
  split
  · exact hx
  · exact h j hj
theorem loose_bd : ∀ (f : Nat) (l : List HC) (p : Int), Bd l → Bd (looseL f l p)
  | 0, _, _, h => h
  | f + 1, l, p, hb => by
    cases h : usedC l p
    · rw [looseL_no _ h]; exact hb
    · obtain ⟨k, hk, rfl, _⟩ := usedC_iff h
      rw [looseL_at f hk h]
      split
      · exact hb.set _ _ (by have := hb k hk; simp only; omega)
      · split
        · exact hb.set _ _ (by simp only; omega)
        · exact foldl_inv (P := Bd) (g := fun g (x : It) => looseL f g x.2) (fun b a hb => loose_bd f b a.2 hb) _ _ (hb.set _ _ (by simp only; omega))
theorem usedN_set {l : List HC} {k : Nat} (hk : k < l.length) (x : HC) (hx : ¬ 0 < x.ref) (h : 0 < l[k].ref) : usedN (l.set k x) + 1 = usedN l := by
  unfold usedN
  have e : l = l.take k ++ l[k] :: l.drop (k + 1) := by
    conv => lhs; rw [← List.take_append_drop k l]
    rw [← List.drop_eq_getElem_cons hk]
  have e2 : l.set k x = l.take k ++ x :: l.drop (k + 1) := by rw [List.set_eq_take_append_cons_drop, if_pos hk]
  rw [e2]
  conv => rhs; rw [e]
  rw [List.countP_append, List.countP_append, List.countP_cons, List.countP_cons, decide_eq_false hx, decide_eq_true h]
  simp
  omega
theorem usedN_keep {l : List HC} {k : Nat} (hk : k < l.length) (x : HC) (h : 0 < l[k].ref) : usedN (l.set k x) ≤ usedN l := by
  unfold usedN
  have e : l = l.take k ++ l[k] :: l.drop (k + 1) := by
    conv => lhs; rw [← List.take_append_drop k l]
    rw [← List.drop_eq_getElem_cons hk]
  have e2 : l.set k x = l.take k ++ x :: l.drop (k + 1) := by rw [List.set_eq_take_append_cons_drop, if_pos hk]
  rw [e2]
  conv => rhs; rw [e]
  rw [List.countP_append, List.countP_append, List.countP_cons, List.countP_cons, decide_eq_true h]
  split <;> simp
theorem loose_used : ∀ (f : Nat) (l : List HC) (p : Int), usedN (looseL f l p) ≤ usedN l
  | 0, _, _ => Nat.le_refl _
  | f + 1, l, p => by
    cases h : usedC l p
    · rw [looseL_no _ h]; exact Nat.le_refl _
    · obtain ⟨k, hk, rfl, hp⟩ := usedC_iff h
      rw [looseL_at f hk h]
      split
      · exact usedN_keep hk _ hp
      · split
        · exact usedN_keep hk _ hp
        · exact foldl_inv (P := fun g => usedN g ≤ usedN l) (g := fun g (x : It) => looseL f g x.2) (fun b a hb => Nat.le_trans (loose_used f b a.2) hb) _ _ (usedN_keep hk _ hp)
theorem foldl_take {β : Type} (g : β → It → β) (b : β) {it : List It} {k : Nat} (hk : k < it.length) : (it.take (k + 1)).foldl g b = g ((it.take k).foldl g b) it[k] := by
  rw [List.take_succ_eq_append_getElem hk, List.foldl_append]; rfl
end Go.Proofs.YtnlkakbpcdfgfaaGreat
namespace Go.Proofs.YtnlkakbpcdfgfaaGreat
set_option maxRecDepth 20000
open Go.RowKit
attribute [local go_sem ↓] Go.wp_at_zero Go.wp_at_succ

end Go.Proofs.YtnlkakbpcdfgfaaGreat
namespace Go.Proofs.YtnlkakbpcdfgfaaGreat
set_option maxRecDepth 20000
open Go.RowKit
attribute [local go_sem ↓] Go.wp_at_zero Go.wp_at_succ

/-- Refs of the same cells, up to so many more. -/
def Up (l g : List HC) (j : Nat) : Prop := g.length = l.length ∧ ∀ k (hk : k < l.length) (hg : k < g.length), l[k].ref ≤ g[k].ref ∧ g[k].ref ≤ l[k].ref + j
theorem Up.refl (l : List HC) : Up l l 0 := ⟨rfl, fun k hk hg => by omega⟩
theorem Up.keep {l g : List HC} {j : Nat} (h : Up l g j) : Up l g (j + 1) := ⟨h.1, fun k hk hg => by have := h.2 k hk hg; omega⟩
theorem Up.more {l g : List HC} {j k : Nat} (h : Up l g j) (hk : k < g.length) : Up l (g.set k g[k].more) (j + 1) := by
  refine ⟨by rw [List.length_set]; exact h.1, fun i hi hg => ?_⟩
  rw [List.length_set] at hg
  have h1 := h.2 i hi hg
  rw [List.getElem_set]
  split
  · rename_i e; subst e; unfold HC.more; simp only; omega
  · omega
theorem first_at {l : List HC} {k : Nat} (hk : k < l.length) (h : ∀ j (hj : j < l.length), j < k → stopC l[j] = false) (h1 : stopC l[k] = true) : firstF l = k := by
  unfold firstF
  rw [List.findIdx_eq hk]
  exact ⟨h1, fun j hj => h j (by omega) hj⟩
theorem first_no {l : List HC} (h : ∀ j (hj : j < l.length), stopC l[j] = false) : firstF l = l.length := by
  unfold firstF
  rw [List.findIdx_eq_length]
  intro x hx
  obtain ⟨j, hj, rfl⟩ := List.mem_iff_getElem.1 hx
  exact h j hj
theorem alloc_bad {l : List HC} {leaf : Bool} {it : List It} {held : List Int} (h : (ndR it && leadsC l leaf it) = false) : allocE l leaf it = 1 ∧ allocP l leaf it = 0 ∧ allocL l leaf it held = l := by
  have e : allocE l leaf it = 1 := by unfold allocE; rw [h]; rfl
  exact ⟨e, by unfold allocP; rw [e]; rfl, by unfold allocL; rw [e]; rfl⟩
theorem alloc_full {l : List HC} {leaf : Bool} {it : List It} {held : List Int} (h : (ndR it && leadsC l leaf it) = true) (h2 : firstF l = l.length) : allocE l leaf it = 3 ∧ allocP l leaf it = 0 ∧ allocL l leaf it held = l := by
  have e : allocE l leaf it = 3 := by unfold allocE; rw [h, if_pos rfl, if_neg (by omega)]
  exact ⟨e, by unfold allocP; rw [e]; rfl, by unfold allocL; rw [e]; rfl⟩
theorem alloc_ok {l : List HC} {leaf : Bool} {it : List It} {held : List Int} {k : Nat} (h : (ndR it && leadsC l leaf it) = true) (hk : k < l.length) (h2 : firstF l = k) : allocE l leaf it = 0 ∧ allocP l leaf it = k ∧ allocL l leaf it held = (if leaf then l else moreL held l it).set k ⟨1, false, leaf, it⟩ := by
  have e : allocE l leaf it = 0 := by unfold allocE; rw [h, if_pos rfl, if_pos (by omega)]
  exact ⟨e, by unfold allocP; rw [e, h2]; rfl, by unfold allocL; rw [e, h2]; rfl⟩
theorem leads_used {l : List HC} {it : List It} (h : leadsC l false it = true) {j : Nat} (hj : j < it.length) : usedC l it[j].2 = true := by
  unfold leadsC at h
  simp only [Bool.false_or, List.all_eq_true] at h
  exact h _ (List.getElem_mem hj)
def moreS (held : List Int) (g : List HC) (x : It) : List HC := if inL held x.2 then g else g.set x.2.toNat (g.getD x.2.toNat HC.none).more
theorem moreL_eq (held : List Int) (l : List HC) (it : List It) : moreL held l it = it.foldl (moreS held) l := rfl

end Go.Proofs.YtnlkakbpcdfgfaaGreat
namespace Go.Proofs.YtnlkakbpcdfgfaaGreat
set_option maxRecDepth 20000
open Go.RowKit
attribute [local go_sem ↓] Go.wp_at_zero Go.wp_at_succ

end Go.Proofs.YtnlkakbpcdfgfaaGreat
namespace Go.Proofs.YtnlkakbpcdfgfaaGreat
set_option maxRecDepth 20000
open Go.RowKit
attribute [local go_sem ↓] Go.wp_at_zero Go.wp_at_succ

set_option maxHeartbeats 800000 in
theorem hpIsSize_any (n keep : Int) (w : World) :
    Calls Tryz.prog 51 #[.int .i64 n, .int .i64 keep] w fun e w' => e = .returned (.bool (decide (newOk n keep))) ∧ w = w' := by
  have hc : n < 1 ∨ (1 ≤ n ∧ 2000 < n) ∨ (1 ≤ n ∧ n ≤ 2000 ∧ keep < 0) ∨ (1 ≤ n ∧ n ≤ 2000 ∧ 0 ≤ keep ∧ n < keep) ∨ (1 ≤ n ∧ n ≤ 2000 ∧ 0 ≤ keep ∧ keep ≤ n) := by omega
  rcases hc with h | ⟨h, h1⟩ | ⟨h, h1, h2⟩ | ⟨h, h1, h2, h3⟩ | ⟨h, h1, h2, h3⟩
  · rw [decide_eq_false (by unfold newOk; omega)]
    have d0 : decide (1 ≤ n) = false := decide_eq_false (by omega)
    go_enter Tryz.func51, Tryz.ntmps51
    go_wp2
    go_ret
    exact ⟨rfl, rfl⟩
  · rw [decide_eq_false (by unfold newOk; omega)]
    have d0 : decide (1 ≤ n) = true := decide_eq_true (by omega)
    have d1 : decide (n ≤ 2000) = false := decide_eq_false (by omega)
    go_enter Tryz.func51, Tryz.ntmps51
    go_wp2
    go_ret
    exact ⟨rfl, rfl⟩
  · rw [decide_eq_false (by unfold newOk; omega)]
    have d0 : decide (1 ≤ n) = true := decide_eq_true (by omega)
    have d1 : decide (n ≤ 2000) = true := decide_eq_true (by omega)
    have d2 : decide (0 ≤ keep) = false := decide_eq_false (by omega)
    go_enter Tryz.func51, Tryz.ntmps51
    go_wp2
    go_ret
    exact ⟨rfl, rfl⟩
  · rw [decide_eq_false (by unfold newOk; omega)]
    have d0 : decide (1 ≤ n) = true := decide_eq_true (by omega)
    have d1 : decide (n ≤ 2000) = true := decide_eq_true (by omega)
    have d2 : decide (0 ≤ keep) = true := decide_eq_true (by omega)
    have d3 : decide (keep ≤ n) = false := decide_eq_false (by omega)
    go_enter Tryz.func51, Tryz.ntmps51
    go_wp2
    go_ret
    exact ⟨rfl, rfl⟩
  · rw [decide_eq_true (by unfold newOk; omega)]
    have d0 : decide (1 ≤ n) = true := decide_eq_true (by omega)
    have d1 : decide (n ≤ 2000) = true := decide_eq_true (by omega)
    have d2 : decide (0 ≤ keep) = true := decide_eq_true (by omega)
    have d3 : decide (keep ≤ n) = true := decide_eq_true (by omega)
    go_enter Tryz.func51, Tryz.ntmps51
    go_wp2
    go_ret
    exact ⟨rfl, rfl⟩
def isPl (p n : Int) : Bool := decide (0 ≤ p) && decide (p < n)
/-- A row of cells of the call's own: it was made behind the world v, in which the nodes of its cells lie. -/
def Own (v w : World) (g cap : Nat) (l : List HC) : Prop := ∃ cs, w.ownsRow v.heap.size 72 4 (.slice (some ⟨g, 0, none⟩) l.length cap) l.length cs ∧ HcAt v cs l ∧ Ext v w
theorem Own.ext {v w w' : World} {g cap : Nat} {l : List HC} (h : Own v w g cap l) (hx : Ext w w') : Own v w' g cap l := by
  obtain ⟨cs, h1, h2, h3⟩ := h
  exact ⟨cs, own_ext h1 hx, h2, h3.trans hx⟩
theorem Own.sl {v w : World} {g cap : Nat} {l : List HC} (h : Own v w g cap l) : HcSl w (some ⟨g, 0, none⟩) l.length cap l := by
  obtain ⟨cs, h1, h2, h3⟩ := h
  exact ⟨rfl, cs, own_sl h1, h2.ext h3⟩
theorem Own.ge {v w : World} {g cap : Nat} {l : List HC} (h : Own v w g cap l) : v.heap.size ≤ g ∧ g < w.heap.size := by
  obtain ⟨cs, h1, h2, h3⟩ := h
  exact h1.lt g rfl
theorem Own.free {v w : World} {g cap : Nat} {l : List HC} (h : Own v w g cap l) (j : Nat) : w.frozen? ⟨g, j, none⟩ = false := by
  obtain ⟨cs, h1, h2, h3⟩ := h
  exact own_free h1 j
theorem Own.cell {v w : World} {g cap : Nat} {l : List HC} (h : Own v w g cap l) {k : Nat} (hk : k < l.length) :
    ∃ A c, w.cell? ⟨g, k * 4, none⟩ = some (.int .i64 l[k].ref) ∧ w.cell? ⟨g, k * 4 + 1, none⟩ = some (.bool l[k].pin) ∧ w.cell? ⟨g, k * 4 + 2, none⟩ = some (.bool l[k].leaf) ∧ w.cell? ⟨g, k * 4 + 3, none⟩ = some (.slice A l[k].it.length c) ∧ Sl v A l[k].it.length c (ivs l[k].it) := by
  obtain ⟨cs, h1, h2, h3⟩ := h
  obtain ⟨A, c, e1, e2, e3, e4, h5⟩ := h2.2 k hk
  have hl := h1.1
  exact ⟨A, c, (h1.cellAt (k * 4) (by omega)).trans e1, (h1.cellAt (k * 4 + 1) (by omega)).trans e2, (h1.cellAt (k * 4 + 2) (by omega)).trans e3, (h1.cellAt (k * 4 + 3) (by omega)).trans e4, h5⟩
theorem set_same {α : Type} {l : List α} {k : Nat} {x : α} (h : l[k]? = some x) : l.set k x = l := by
  obtain ⟨hk, rfl⟩ := List.getElem?_eq_some_iff.1 h
  exact List.set_getElem_self hk
/-- One number of a cell is written. -/
theorem Own.ref {v w : World} {g cap : Nat} {l : List HC} (h : Own v w g cap l) {k : Nat} (hk : k < l.length) (r : Int) :
    Own v (w.setCell ⟨g, k * 4, none⟩ (.int .i64 r)) g cap (l.set k ⟨r, l[k].pin, l[k].leaf, l[k].it⟩) := by
  have hg := h.ge
  obtain ⟨cs, h1, h2, h3⟩ := h
  obtain ⟨A, c, e1, e2, e3, e4, h5⟩ := h2.2 k hk
  have hs := h2.set hk ⟨r, l[k].pin, l[k].leaf, l[k].it⟩ h5
  have hl := h2.1
  simp only at hs
  rw [set_same (l := (((cs.set (k * 4) _).set (k * 4 + 1) _).set (k * 4 + 2) _)) (by rw [List.getElem?_set_ne (by omega), List.getElem?_set_ne (by omega), List.getElem?_set_ne (by omega)]; exact e4)] at hs
  rw [set_same (l := ((cs.set (k * 4) _).set (k * 4 + 1) _)) (by rw [List.getElem?_set_ne (by omega), List.getElem?_set_ne (by omega)]; exact e3)] at hs
  rw [set_same (l := (cs.set (k * 4) _)) (by rw [List.getElem?_set_ne (by omega)]; exact e2)] at hs
  refine ⟨_, ?_, hs, h3.set hg.1 _⟩
  rw [List.length_set]
  exact own_set h1 (by omega) _
theorem Own.pin {v w : World} {g cap : Nat} {l : List HC} (h : Own v w g cap l) {k : Nat} (hk : k < l.length) (b : Bool) :
    Own v (w.setCell ⟨g, k * 4 + 1, none⟩ (.bool b)) g cap (l.set k ⟨l[k].ref, b, l[k].leaf, l[k].it⟩) := by
  have hg := h.ge
  obtain ⟨cs, h1, h2, h3⟩ := h
  obtain ⟨A, c, e1, e2, e3, e4, h5⟩ := h2.2 k hk
  have hs := h2.set hk ⟨l[k].ref, b, l[k].leaf, l[k].it⟩ h5
  have hl := h2.1
  simp only at hs
  rw [set_same (l := (((cs.set (k * 4) _).set (k * 4 + 1) _).set (k * 4 + 2) _)) (by rw [List.getElem?_set_ne (by omega), List.getElem?_set_ne (by omega), List.getElem?_set_ne (by omega)]; exact e4)] at hs
  rw [set_same (l := ((cs.set (k * 4) _).set (k * 4 + 1) _)) (by rw [List.getElem?_set_ne (by omega), List.getElem?_set_ne (by omega)]; exact e3)] at hs
  rw [set_same (l := cs) e1] at hs
  refine ⟨_, ?_, hs, h3.set hg.1 _⟩
  rw [List.length_set]
  exact own_set h1 (by omega) _
/-- A whole cell is written. -/
theorem Own.set {v w : World} {g cap : Nat} {l : List HC} (h : Own v w g cap l) {k : Nat} (hk : k < l.length) (x : HC) {A : Option Addr} {c : Nat} (hs : Sl v A x.it.length c (ivs x.it)) :
    Own v ((((w.setCell ⟨g, k * 4, none⟩ (.int .i64 x.ref)).setCell ⟨g, k * 4 + 1, none⟩ (.bool x.pin)).setCell ⟨g, k * 4 + 2, none⟩ (.bool x.leaf)).setCell ⟨g, k * 4 + 3, none⟩ (.slice A x.it.length c)) g cap (l.set k x) := by
  have hg := h.ge
  obtain ⟨cs, h1, h2, h3⟩ := h
  refine ⟨_, ?_, h2.set hk x hs, (((h3.set hg.1 _).set hg.1 _).set hg.1 _).set hg.1 _⟩
  rw [List.length_set]
  exact own_hc h1 hk _ _ _ _

set_option maxRecDepth 100000 in
set_option maxHeartbeats 800000 in
theorem hpSettle_at (v : World) (g cap k : Nat) (l : List HC) (n : Nat) (w : World) (hn : n = l.length) (hk : k < l.length) (hO : Own v w g cap l) :
    Calls Tryz.prog 74 #[.slice (some ⟨g, 0, none⟩) n cap, .int .i64 k] w fun e w' => e = .returned (.tuple #[]) ∧ Own v w' g cap (l.set k (stC l[k])) ∧ w.grownBy w' (some g) := by
  subst hn
  obtain ⟨A, c, r0, r1, r2, r3, _⟩ := hO.cell hk
  have f0 := hO.free (k * 4 + 1)
  have HO := Lib.hid (hO.pin hk false)
  have hki : (k : Int) < (l.length : Int) := by omega
  clear hO
  unfold stC
  generalize l.set k _ = l' at *
  generalize l[k].pin = pn at *
  go_enter Tryz.func74, Tryz.ntmps74
  go_wp2_with fail
  go_end0
  exact ⟨rfl, HO.out, grown_set _ _ _ _⟩
end Go.Proofs.YtnlkakbpcdfgfaaGreat
namespace Go.Proofs.YtnlkakbpcdfgfaaGreat
set_option maxRecDepth 20000
open Go.RowKit
attribute [local go_sem ↓] Go.wp_at_zero Go.wp_at_succ

theorem infoI0 : (Tryz.prog.info? 3).map (fun i => (i.zero, i.size, i.bytes)) = some (some (.int .i64 0), 1, 8) := by kernel_rfl
theorem made_zeros (n : Nat) : (madeCells (Value.int .i64 0).cells (n * 1)).toList = List.replicate n (iv 0) := by
  have hz : (Value.int .i64 0).cells = #[.int .i64 0] := by simp [Value.cells]
  rw [hz]
  apply List.ext_getElem?
  intro i
  simp only [madeCells, iv, Nat.mul_one, Array.toList_map, Array.toList_range, List.getElem?_map, List.getElem?_replicate]
  by_cases h : i < n
  · simp [h, Nat.mod_one]
  · simp [h]
/-- A node's places. -/
def toldL (leaf : Bool) (it : List It) : List Int := if leaf then [] else it.map Prod.snd
def toldK (it : List It) (k : Nat) : List Value := (it.take k).map (fun x => iv x.2) ++ List.replicate (it.length - k) (iv 0)
theorem toldK_len (it : List It) (k : Nat) : (toldK it k).length = it.length := by unfold toldK; simp; omega
theorem toldK_zero (it : List It) : toldK it 0 = List.replicate it.length (iv 0) := by unfold toldK; simp
theorem toldK_all (it : List It) : toldK it it.length = (toldL false it).map iv := by unfold toldK toldL; simp
theorem toldK_succ {it : List It} {k : Nat} (hk : k < it.length) : (toldK it k).set k (iv it[k].2) = toldK it (k + 1) := by
  unfold toldK
  have h : (List.map (fun x : It => iv x.2) (it.take k)).length = k := by rw [List.length_map, List.length_take]; omega
  rw [List.take_succ_eq_append_getElem hk, List.map_append, List.set_append, if_neg (by omega), h, Nat.sub_self, List.append_assoc]
  rw [show it.length - k = (it.length - (k + 1)) + 1 by omega, List.replicate_succ]
  rfl
theorem hpl_lit' {w : World} {z : Nat} (hz : z = w.heap.size) (e n : Nat) (xs : List Value) (hn : n ≤ maxLen) : Sl (w.alloc (.cells xs.toArray e)) (some ⟨z, 0, none⟩) n n xs := by subst hz; exact sl_lit w e n xs hn
theorem hpv_one (l : List Int) : ∀ u ∈ l.map iv, u.oneCell' = true := by
  intro u hu
  obtain ⟨_, _, rfl⟩ := List.mem_map.1 hu
  rfl
set_option maxHeartbeats 1000000 in
set_option maxRecDepth 20000 in
theorem hpCopiedC_cs (R : Option Addr) (l : List HC) (n q : Nat) (w : World) (cs : List Value) (hn : n = l.length) (hb : n ≤ 90000) (hsl : Sl w R n q cs) (hat : HcAt w cs l) :
    Calls Tryz.prog 108 #[.slice R n q] w fun e w' => ∃ g, e = .returned (.slice (some ⟨g, 0, none⟩) n n) ∧ w'.ownsRow w.heap.size 72 4 (.slice (some ⟨g, 0, none⟩) l.length n) l.length cs ∧ Ext w w' := by
  have HM := Lib.hid hn
  have HN := Lib.hid hsl.1
  have HA := Lib.hid hsl.cells
  have H1 := Lib.hid (hc_one hat)
  have hl9 := hat.1
  rw [← hn] at hl9
  have HL := Lib.hid hl9
  clear hsl hat hl9 hn
  obtain ⟨i0, hi, hz0, hz1, hz2⟩ := info_parts infoHc
  have HI := Lib.hid hi
  have HZ0 := Lib.hid hz0
  have HZ1 := Lib.hid hz1
  have HZ2 := Lib.hid hz2
  clear hi hz0 hz1 hz2
  go_enter Tryz.func108, Tryz.ntmps108
  go_wp2_with (at_make; refine stop_here ?_)
  refine stop_on ?_
  refine wpList_make_cap _ rfl _ _ 27 rfl 72 i0 _ Tryz.underlying27 HI.out HZ0.out _ _ _ _ n n rfl rfl (by omega) (by omega) (by omega) (by rw [HZ2.out]; omega) (by unfold maxLen; omega) ?_
  rw [HZ1.out]
  obtain ⟨cur, hcur⟩ : ∃ cur, cur = madeCells (Value.agg #[.int .i64 0, .bool false, .bool false, .slice none 0 0]).cells (n * 4) := ⟨_, rfl⟩
  have hsz : cur.size = n * 4 := by rw [hcur]; exact size_madeCells _ _
  rw [← hcur]
  clear hcur
  have HS := Lib.hid hsz
  clear hsz
  have HO := Lib.hid (own_copied w n n 4 72 cur cs (by unfold maxLen; omega) (Nat.le_refl _) HS.out HL.out)
  have hrun := run_copy_head (P := Tryz.prog) (w.alloc (.cells cur 72)) 27 27 3 72 i0 Tryz.underlying27 HI.out w.heap.size n n q R cur 72 (heap_alloc_new w _) cs (by rw [HZ1.out]; exact HL.out) HN.out (HA.out.ext ((Ext.refl w).alloc _)) (by rw [HS.out, HL.out]; omega) H1.out (fun h => by have := (HA.out).len_none h; rw [HL.out] at this; omega)
  obtain ⟨w1, hw1⟩ : ∃ w1, w1 = (w.alloc (.cells cur 72)).setRow w.heap.size (cs ++ cur.toList.drop cs.length).toArray := ⟨_, rfl⟩
  rw [← hw1] at HO hrun
  clear hw1
  go_wp2
  go_ret
  exact ⟨w.heap.size, rfl, by rw [← HM.out]; exact HO.out.1, HO.out.2⟩

/-- The places of cells with a Pin. -/
def waitK (l : List HC) (k : Nat) : List Int := ((List.range k).filter (fun j => (l.getD j HC.none).pin)).map Int.ofNat
theorem waitK_succ {l : List HC} {k : Nat} (hk : k < l.length) : waitK l (k + 1) = waitK l k ++ (if l[k].pin then [(k : Int)] else []) := by
  unfold waitK
  rw [List.range_succ, List.filter_append, List.map_append]
  congr 1
  rw [List.filter_cons, List.getD_eq_getElem?_getD, List.getElem?_eq_getElem hk, Option.getD_some]
  cases l[k].pin <;> rfl
theorem waitK_len (l : List HC) (k : Nat) : (waitK l k).length ≤ k := by
  unfold waitK
  rw [List.length_map]
  have := List.length_filter_le (fun j => (l.getD j HC.none).pin) (List.range k)
  simpa using this
set_option maxRecDepth 100000 in
set_option maxHeartbeats 1600000 in
theorem hpWaiting_any (R : Option Addr) (l : List HC) (n q : Nat) (w : World) (hb : n ≤ 90000) (hA : HcSl w R n q l) :
    Calls Tryz.prog 75 #[.slice R n q] w fun e w' => ∃ S t d, e = .returned (.slice S t d) ∧ t = (waitK l n).length ∧ Sl w' S t d ((waitK l n).map iv) ∧ Ext w w' := by
  have hn := hA.1
  have HN := Lib.hid hn
  have HA := Lib.hid hA
  clear hA hn
  go_enter Tryz.func75, Tryz.ntmps75
  go_wp2_with fail
  go_loopw [3, 8] (fun s i wr => ∃ k : Nat, k ≤ n ∧ i = .int .i64 k ∧ ∃ S t d, s = .slice S t d ∧ t = (waitK l k).length ∧ wr.ownsRow w.heap.size 3 1 (.slice S t d) t ((waitK l k).map iv) ∧ Ext w wr) (fun s i _ => n - (intOf i).toNat)
  case atStart => exact ⟨0, Nat.zero_le _, rfl, none, 0, 0, rfl, rfl, ⟨rfl, .inl ⟨rfl, rfl⟩⟩, Ext.refl _⟩
  case round =>
    obtain ⟨k, hk, rfl, S, t, d, rfl, ht, ho, hx⟩ := hrel
    have HXR := Lib.hid hx
    rcases Nat.lt_or_ge k n with hlt | hlt
    · have hkl : k < l.length := by rw [← HN.out]; exact hlt
      obtain ⟨b, off, rfl, hbl, A, c, r0, r1, r2, r3, hI⟩ := (HA.out.ext hx).cell hkl
      have hki : (k : Int) < (n : Int) := by omega
      have HS := Lib.hid (waitK_succ hkl)
      have hwl := waitK_len l k
      rw [← ht] at hwl
      have HT := Lib.hid ht
      have HO := Lib.hid ho
      clear hI hx ho ht
      generalize l[k].pin = pn at *
      generalize l[k].ref = rf at *
      generalize l[k].leaf = lf at *
      generalize l[k].it.length = m at *
      have HX1 := Lib.hid (HXR.out.alloc (.cells #[.int .i64 rf, .bool pn, .bool lf, .slice A m c] 72))
      have HO1 := Lib.hid (own_ext HO.out ((Ext.refl wr).alloc (.cells #[.int .i64 rf, .bool pn, .bool lf, .slice A m c] 72)))
      cases pn
      · go_wp2_with fail
        go_roundw
        case rel => exact ⟨k + 1, by omega, by go_num, S, t, d, rfl, by rw [HS.out, HT.out]; simp, by rw [HS.out]; simpa using HO1.out, HX1.out⟩
        case measure => simp [intOf]; omega
      · go_wp2_with (at_builtin; refine stop_here ?_)
        refine stop_on ?_
        refine wpList_app_sl _ rfl _ _ 143 rfl w.heap.size 3 (.int .i64 0) 1 8 Tryz.underlying143 infoI0 rfl (by omega) _ t _ rfl (own_ext HO1.out ((Ext.refl _).alloc _)) _ 1 1 [iv k] rfl (by simp) (hpl_lit' (by simp) _ 1 _ (by unfold maxLen; omega)) (hpv_one [(k : Int)]) (by unfold maxLen; omega) (by omega) (by have := HX1.out.size; simp at this ⊢; omega) ?_
        intro A2 c2 w2 ho2 hg2
        have HX2 := Lib.hid (Ext.app (HX1.out.alloc _) (own_ext HO1.out ((Ext.refl _).alloc _)) (Nat.le_refl _) hg2)
        have HO2 := Lib.hid ho2
        clear ho2 hg2
        go_wp2_with fail
        go_roundw
        case rel => exact ⟨k + 1, by omega, by go_num, A2, t + 1, c2, rfl, by rw [HS.out, HT.out]; simp, by rw [HS.out]; simpa using HO2.out, HX2.out⟩
        case measure => simp [intOf]; omega
    · obtain rfl : k = n := by omega
      have HT := Lib.hid ht
      have HO := Lib.hid ho
      clear hx ho hlt ht
      go_wp2_with fail
      go_ret
      exact ⟨_, _, _, rfl, HT.out, own_sl HO.out, HXR.out⟩
end Go.Proofs.YtnlkakbpcdfgfaaGreat
namespace Go.Proofs.YtnlkakbpcdfgfaaGreat
set_option maxRecDepth 20000
open Go.RowKit
attribute [local go_sem ↓] Go.wp_at_zero Go.wp_at_succ

end Go.Proofs.YtnlkakbpcdfgfaaGreat
namespace Go.Proofs.YtnlkakbpcdfgfaaGreat
set_option maxRecDepth 20000
open Go.RowKit
attribute [local go_sem ↓] Go.wp_at_zero Go.wp_at_succ

theorem grown_ext {w w' : World} (h : Ext w w') (row : Option Nat) : w.grownBy w' row := ⟨h.os, h.tape, h.output, h.size, fun k hk _ => h.block k hk⟩
theorem grown_hc (w : World) (g a b c d : Nat) (x y z t : Value) : w.grownBy ((((w.setCell ⟨g, a, none⟩ x).setCell ⟨g, b, none⟩ y).setCell ⟨g, c, none⟩ z).setCell ⟨g, d, none⟩ t) (some g) :=
  grown_trans (grown_trans (grown_trans (grown_set w g a x) (grown_set _ g b y)) (grown_set _ g c z)) (grown_set _ g d t)
theorem grown_le {w w' : World} {row : Option Nat} (h : w.grownBy w' row) : w.heap.size ≤ w'.heap.size := h.size
/-- A row of numbers that was made behind a block isn't it. -/
theorem own_apart {w : World} {B e s n d g : Nat} {S : Option Addr} {xs : List Value} (h : w.ownsRow B e s (.slice S n d) n xs) (hg : g < B) : xs ≠ [] → ∀ p, S = some p → some g ≠ some p.block := fun hx p hp e9 => by
  rcases h.2 with ⟨e0, h0⟩ | ⟨g', cap', cur, e0, hg', _⟩
  · cases e0; cases hp
  · cases e0; cases hp
    have := Option.some.inj e9
    simp only at this
    omega
def okC (c : HC) : Prop := c.ref ≤ 9000000000000000000 ∧ (0 < c.ref → c.pin = false) ∧ c.it.length ≤ 90000
def OkL (l : List HC) : Prop := ∀ k (hk : k < l.length), okC l[k]
theorem OkL.set {l : List HC} (h : OkL l) (k : Nat) (x : HC) (hx : okC x) : OkL (l.set k x) := fun j hj => by
  rw [List.length_set] at hj
  rw [List.getElem_set]
  split
  · exact hx
  · exact h j hj
theorem okC_zero : okC ⟨0, true, false, []⟩ := ⟨by simp, fun h => by simp at h, by simp⟩
theorem loose_ok : ∀ (f : Nat) (l : List HC) (p : Int), OkL l → OkL (looseL f l p)
  | 0, _, _, h => h
  | f + 1, l, p, hb => by
    cases h : usedC l p
    · rw [looseL_no _ h]; exact hb
    · obtain ⟨k, hk, rfl, _⟩ := usedC_iff h
      rw [looseL_at f hk h]
      split
      · exact hb.set _ _ ⟨by have := (hb k hk).1; simp only; omega, fun _ => rfl, (hb k hk).2.2⟩
      · split
        · exact hb.set _ _ okC_zero
        · exact foldl_inv (P := OkL) (g := fun g (x : It) => looseL f g x.2) (fun b a hb => loose_ok f b a.2 hb) _ _ (hb.set _ _ okC_zero)
theorem right_okL {l : List HC} {keep : Int} (h : rightH ⟨l, keep⟩ = true) : OkL l := fun k hk => by
  have h1 := (rightH_iff h).2 k hk
  unfold cellR at h1
  split at h1
  · rename_i e
    simp only [Bool.and_eq_true, Bool.not_eq_true', decide_eq_true_eq] at h1
    exact ⟨by omega, fun h => by omega, by omega⟩
  · simp only [Bool.and_eq_true, decide_eq_true_eq, Bool.not_eq_true'] at h1
    have h4 := ((ndR_iff _).1 h1.2.2.2.1).1
    exact ⟨by omega, fun _ => h1.2.2.1, by omega⟩
theorem looseL_told {l : List HC} {k : Nat} (f : Nat) (hk : k < l.length) (h : usedC l (k : Int) = true) (h1 : ¬ 1 < l[k].ref) :
    looseL (f + 1) l (k : Int) = (toldL l[k].leaf l[k].it).foldl (looseL f) (l.set k ⟨0, true, false, []⟩) := by
  rw [looseL_at f hk h, if_neg h1]
  unfold toldL
  cases l[k].leaf
  · simp only [Bool.false_eq_true, if_false, List.foldl_map]
  · rfl
theorem foldl_takeI {β : Type} (g : β → Int → β) (b : β) {ps : List Int} {k : Nat} (hk : k < ps.length) : (ps.take (k + 1)).foldl g b = g ((ps.take k).foldl g b) ps[k] := by
  rw [List.take_succ_eq_append_getElem hk, List.foldl_append]; rfl

end Go.Proofs.YtnlkakbpcdfgfaaGreat
namespace Go.Proofs.YtnlkakbpcdfgfaaGreat
set_option maxRecDepth 20000
open Go.RowKit
attribute [local go_sem ↓] Go.wp_at_zero Go.wp_at_succ

theorem own_base {w : World} {B B' e s n : Nat} {v : Value} {xs : List Value} (h : w.ownsRow B e s v n xs) (hb : B' ≤ B) : w.ownsRow B' e s v n xs := by
  refine ⟨h.1, ?_⟩
  rcases h.2 with h0 | ⟨g, cap, cur, e0, hg, h1⟩
  · exact .inl h0
  · exact .inr ⟨g, cap, cur, e0, Nat.le_trans hb hg, h1⟩
theorem Own.other {v w : World} {g cap : Nat} {l : List HC} (h : Own v w g cap l) {p : Addr} (hp : p.block ≠ g) (hv : v.heap.size ≤ p.block) (u : Value) : Own v (w.setCell p u) g cap l := by
  obtain ⟨cs, h1, h2, h3⟩ := h
  exact ⟨cs, ownsRow_setCell_other h1 (by simpa [Value.ownBlock] using Ne.symm hp) u, h2, h3.set hv u⟩
theorem Own.grown {v w w' : World} {g cap : Nat} {l : List HC} {row : Option Nat} (h : Own v w g cap l) (hg : w.grownBy w' row) (hne : row ≠ some g) (hx : Ext v w') : Own v w' g cap l := by
  obtain ⟨cs, h1, h2, h3⟩ := h
  exact ⟨cs, h1.kept hg (by simpa [Value.ownBlock] using fun e => hne e.symm), h2, hx⟩
/-- copied, told over an elder world in which the cells lie. -/
theorem hpCopied_v (v : World) (R : Option Addr) (l : List HC) (n q : Nat) (w : World) (hx : Ext v w) (hb : n ≤ 90000) (hA : HcSl v R n q l) :
    Calls Tryz.prog 108 #[.slice R n q] w fun e w' => ∃ g, e = .returned (.slice (some ⟨g, 0, none⟩) n n) ∧ w.heap.size ≤ g ∧ Own v w' g n l ∧ Ext w w' := by
  obtain ⟨hn, cs, hsl, hat⟩ := hA
  refine (hpCopiedC_cs R l n q w cs hn hb (hsl.ext hx) (hat.ext hx)).mono ?_
  rintro e w' ⟨g, rfl, h1, h2⟩
  exact ⟨g, rfl, (h1.lt g rfl).1, ⟨cs, own_base h1 hx.size, hat, hx.trans h2⟩, h2⟩
set_option maxRecDepth 100000 in
set_option maxHeartbeats 3200000 in
theorem hpChangedSettle_any (v : World) (R : Option Addr) (l : List HC) (n q : Nat) (keep : Int) (S : Option Addr) (ps : List Int) (t d : Nat) (F : List HC → Int → List HC) (w : World) (hx : Ext v w) (hb : n ≤ 90000) (hA : HcSl v R n q l) (ht : t = ps.length) (hS : Sl w S t d (ps.map iv))
    (hD : ∀ (lj : List HC) (j : Nat) (hj : j < ps.length) (g : Nat) (wr : World), lj = (ps.take j).foldl F l → Own v wr g n lj → Calls Tryz.prog 74 #[.slice (some ⟨g, 0, none⟩) n n, .int .i64 ps[j]] wr fun e w' => e = .returned (.tuple #[]) ∧ Own v w' g n (F lj ps[j]) ∧ wr.grownBy w' (some g)) :
    Calls Tryz.prog 73 #[.agg #[.slice R n q, .int .i64 keep], .func (.func 74) #[] #[], .slice S t d] w fun e w' => ∃ g, e = .returned (.agg #[.slice (some ⟨g, 0, none⟩) n n, .int .i64 keep]) ∧ w.heap.size ≤ g ∧ Own v w' g n (ps.foldl F l) ∧ Ext w w' := by
  obtain ⟨W, hW⟩ : ∃ W, (w.alloc (.cells #[.slice R n q, .int .i64 keep] 29)).alloc (.cells #[.slice none 0 0, .int .i64 0] 29) = W := ⟨_, rfl⟩
  obtain ⟨hx0, hb0, hb1⟩ := allocs2 hW
  have hsz : W.heap.size = w.heap.size + 1 + 1 := by rw [← hW]; simp
  have HX := Lib.hid hx0
  have HXV := Lib.hid hx
  have HB0 := Lib.hid hb0
  have HB1 := Lib.hid hb1
  have HSZ := Lib.hid hsz
  have HT := Lib.hid ht
  have HS := Lib.hid hS
  have HD := Lib.hid hD
  have HC := Lib.hid (hpCopied_v v R l n q W (hx.trans hx0) hb hA)
  have htl := hS.len
  unfold maxLen at htl
  obtain ⟨p0, p1, p2⟩ := hb0.read2
  clear hx hx0 hb0 hb1 hsz hA ht hS hD
  subst hW
  go_enter Tryz.func73, Tryz.ntmps73
  go_wp2_with (go_at_call 108; refine stop_here ?_)
  refine stop_on ?_
  generalize hW : World.alloc (World.alloc w _) _ = W at *
  clear hW
  refine HC.out.mono ?_
  rintro e w1 ⟨g, rfl, hg, ho, hx1⟩
  have hgw : w.heap.size + 1 + 1 ≤ g := by have := HSZ.out; omega
  have HO := Lib.hid ho
  have HX1 := Lib.hid (HX.out.trans hx1)
  have HC0 := Lib.hid (HB0.out.ext hx1)
  have HC1 := Lib.hid (HB1.out.ext hx1)
  have HS1 := Lib.hid (HS.out.ext HX1.out)
  have HAP := Lib.hid (HS.out.cells.apart (g := g) (by omega))
  clear ho hx1 p0 p1 p2 hg
  go_wp2_with fail
  go_loopw [15] (fun i wr => ∃ j : Nat, j ≤ t ∧ i = .int .i64 j ∧ Own v wr g n ((ps.take j).foldl F l) ∧ w1.grownBy wr (some g)) (fun i _ => t - (intOf i).toNat)
  case atStart => exact ⟨0, Nat.zero_le _, rfl, HO.out, World.grownBy.refl _ _⟩
  case round =>
    obtain ⟨j, hj, rfl, ho, hgr⟩ := hrel
    have HOR := Lib.hid ho
    have HGR := Lib.hid hgr
    rcases Nat.lt_or_ge j t with hlt | hlt
    · have hjl : j < ps.length := by rw [← HT.out]; exact hlt
      obtain ⟨bi, oi, rfl, hbi, hc⟩ := (HS1.out.grown hgr HAP.out).cells.num hjl
      have hcj := hc j hjl
      have hji : (j : Int) < (t : Int) := by omega
      have HST := Lib.hid (foldl_takeI F l hjl)
      have HCL := Lib.hid (HD.out _ j hjl g wr rfl ho)
      rw [← HST.out] at HCL
      clear hc ho hgr
      generalize ps[j] = p at *
      go_wp2_with (go_at_call 74; refine stop_here ?_)
      refine stop_on ?_
      refine HCL.out.mono ?_
      rintro e w4 ⟨rfl, ho4, hg4⟩
      have HO5 := Lib.hid ho4
      have HG5 := Lib.hid (grown_trans HGR.out hg4)
      clear ho4 hg4
      go_wp2_with fail
      go_roundw
      case rel => exact ⟨j + 1, by omega, by go_num, HO5.out, HG5.out⟩
      case measure => simp [intOf]; omega
    · obtain rfl : j = t := by omega
      have hE : ps.take j = ps := by rw [HT.out, List.take_length]
      rw [hE] at HOR
      have HE0 := Lib.hid (HC0.out.grown hgr (fun e => by have := Option.some.inj e; omega))
      have HE1 := Lib.hid (HC1.out.grown hgr (fun e => by have := Option.some.inj e; omega))
      have HXR := Lib.hid (Ext.row' HX1.out hgr (by omega))
      have hvs := HXV.out.size
      obtain ⟨t0, t1, t2⟩ := HE0.out.read2
      obtain ⟨y0, y1⟩ := HE0.out.free2
      obtain ⟨s0, s1, s2⟩ := HE1.out.read2
      obtain ⟨x0, x1⟩ := HE1.out.free2
      clear ho hgr hlt hE
      have HF1 := Lib.hid (HE1.out.set_other (p := ⟨w.heap.size, 0, none⟩) (by simp) (.slice (some ⟨g, 0, none⟩) n n))
      have HF2 := Lib.hid (HF1.out.set2 (.slice (some ⟨g, 0, none⟩) n n) (.int .i64 keep))
      have HFO := Lib.hid (((HOR.out.other (p := ⟨w.heap.size, 0, none⟩) (by simp; omega) (by simpa using hvs) (.slice (some ⟨g, 0, none⟩) n n)).other (p := ⟨w.heap.size + 1, 0, none⟩) (by simp; omega) (by simp; omega) (.slice (some ⟨g, 0, none⟩) n n)).other (p := ⟨w.heap.size + 1, 1, none⟩) (by simp; omega) (by simp; omega) (.int .i64 keep))
      have HFX := Lib.hid (((HXR.out.set (p := ⟨w.heap.size, 0, none⟩) (by simp) (.slice (some ⟨g, 0, none⟩) n n)).set (p := ⟨w.heap.size + 1, 0, none⟩) (by simp) (.slice (some ⟨g, 0, none⟩) n n)).set (p := ⟨w.heap.size + 1, 1, none⟩) (by simp) (.int .i64 keep))
      go_wp2_with fail
      refine ret2_cell (k := w.heap.size + 1) (x := .slice (some ⟨g, 0, none⟩) n n) (y := .int .i64 keep) (v := .agg #[.slice (some ⟨g, 0, none⟩) n n, .int .i64 keep]) ?hb4 (fun r0 r1 => by simp [results, Tryz.results73, go_sem, r0, r1]) rfl ?hx4
      case hb4 => exact HF2.out
      case hx4 => exact ⟨g, rfl, by omega, HFO.out, HFX.out⟩
end Go.Proofs.YtnlkakbpcdfgfaaGreat
namespace Go.Proofs.YtnlkakbpcdfgfaaGreat
set_option maxRecDepth 20000
open Go.RowKit
attribute [local go_sem ↓] Go.wp_at_zero Go.wp_at_succ

theorem zeroI (w : World) : (zeroValue 3).run Tryz.prog w = .ok (.int .i64 0) w := by
  obtain ⟨i0, hi, hz0, hz1, hz2⟩ := info_parts infoI0
  simp [zeroValue, typeInfo, hi, hz0]
theorem grown_cells (g : Nat) : ∀ (vs : List Value) (o : Nat) (w : World), w.grownBy (w.setCells g o vs) (some g)
  | [], _, _ => World.grownBy.refl _ _
  | v :: r, o, w => grown_trans (grown_set w g o v) (grown_cells g r (o + 1) _)
/-- Where a deletion stands: the first i numbers are those kept of the first j; from j on all is as it was. -/
structure Del (f : Int → Bool) (l xs : List Int) (i j : Nat) : Prop where
  len : xs.length = l.length
  lt : i < j
  le : j ≤ l.length
  low : xs.take i = (l.take j).filter (fun x => !f x)
  high : xs.drop j = l.drop j
  size : i = ((l.take j).filter (fun x => !f x)).length
theorem filter_all {f : Int → Bool} {l : List Int} (h : ∀ j (hj : j < l.length), f l[j] = false) : l.filter (fun x => !f x) = l := by
  rw [List.filter_eq_self]
  intro x hx
  obtain ⟨j, hj, rfl⟩ := List.mem_iff_getElem.1 hx
  rw [h j hj]; rfl
theorem Del.start {f : Int → Bool} {l : List Int} {i : Nat} (hi : i < l.length) (h : f l[i] = true) (hb : ∀ j (hj : j < l.length), j < i → f l[j] = false) : Del f l l i (i + 1) := by
  have e : (l.take (i + 1)).filter (fun x => !f x) = l.take i := by
    rw [List.take_succ_eq_append_getElem hi, List.filter_append]
    rw [filter_all (f := f) (l := l.take i) (fun j hj => by rw [List.getElem_take]; exact hb j (by rw [List.length_take] at hj; omega) (by rw [List.length_take] at hj; omega))]
    simp [h]
  exact ⟨rfl, by omega, by omega, e.symm, rfl, by rw [e, List.length_take]; omega⟩
theorem Del.skip {f : Int → Bool} {l xs : List Int} {i j : Nat} (h : Del f l xs i j) (hj : j < l.length) (hf : f l[j] = true) : Del f l xs i (j + 1) := by
  have e : (l.take (j + 1)).filter (fun x => !f x) = (l.take j).filter (fun x => !f x) := by
    rw [List.take_succ_eq_append_getElem hj, List.filter_append]; simp [hf]
  refine ⟨h.len, by have := h.lt; omega, by omega, by rw [e]; exact h.low, ?_, by rw [e]; exact h.size⟩
  have := congrArg (List.drop 1) h.high
  simpa [Nat.add_comm] using this
theorem Del.keep {f : Int → Bool} {l xs : List Int} {i j : Nat} (h : Del f l xs i j) (hj : j < l.length) (hf : f l[j] = false) : Del f l (xs.set i l[j]) (i + 1) (j + 1) := by
  have e : (l.take (j + 1)).filter (fun x => !f x) = (l.take j).filter (fun x => !f x) ++ [l[j]] := by
    rw [List.take_succ_eq_append_getElem hj, List.filter_append]; simp [hf]
  have hlt := h.lt
  have hlen := h.len
  have hi : i < xs.length := by omega
  refine ⟨by rw [List.length_set]; exact h.len, by omega, by omega, ?_, ?_, by rw [e, List.length_append, ← h.size]; rfl⟩
  · rw [e, ← h.low, List.take_succ_eq_append_getElem (by rw [List.length_set]; exact hi), List.getElem_set_self, List.take_set_of_le (Nat.le_refl _)]
  · rw [List.drop_set_of_lt (by omega)]
    have := congrArg (List.drop 1) h.high
    simpa [Nat.add_comm] using this
theorem Del.at_ {f : Int → Bool} {l xs : List Int} {i j : Nat} (h : Del f l xs i j) (hj : j < l.length) : ∃ hx : j < xs.length, xs[j] = l[j] := by
  have hx : j < xs.length := by rw [h.len]; exact hj
  refine ⟨hx, ?_⟩
  have := congrArg (fun t => t[0]?) h.high
  simpa [hx, hj] using this
theorem Del.done {f : Int → Bool} {l xs : List Int} {i : Nat} (h : Del f l xs i l.length) : xs.take i = l.filter (fun x => !f x) ∧ i = (l.filter (fun x => !f x)).length := by
  have h1 := h.low
  have h2 := h.size
  rw [List.take_length] at h1 h2
  exact ⟨h1, h2⟩
theorem idx_cases {f : Int → Bool} (l : List Int) : (idxBy f l = -1 ∧ ∀ j (hj : j < l.length), f l[j] = false) ∨ ∃ i, ∃ hi : i < l.length, idxBy f l = (i : Int) ∧ f l[i] = true ∧ ∀ j (hj : j < l.length), j < i → f l[j] = false := by
  by_cases h : l.any f = true
  · right
    have h1 : l.findIdx f < l.length := List.findIdx_lt_length_of_exists (by simpa using h)
    refine ⟨l.findIdx f, h1, by unfold idxBy; rw [if_pos h], List.findIdx_getElem, fun j hj hji => ?_⟩
    have := List.not_of_lt_findIdx hji
    simpa using this
  · left
    have h1 : ∀ j (hj : j < l.length), f l[j] = false := fun j hj => by
      cases hq : f l[j]
      · rfl
      · exact absurd (List.any_eq_true.2 ⟨l[j], List.getElem_mem hj, hq⟩) h
    exact ⟨idx_none h1, h1⟩
end Go.Proofs.YtnlkakbpcdfgfaaGreat
