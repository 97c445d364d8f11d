/- What the walk of below of the reference of layer 7 leans on: boxes of four cells, heights, first and last keys. -/
import Derived.Test.YthlencnlgnbpaaaTreeW5
namespace Go.Proofs.Ythlencnlgnbpaaa
open Go.RowKit
attribute [local go_sem ↓] Go.wp_at_zero Go.wp_at_succ

theorem Bx.free4 {w : World} {k : Nat} {a b c d : Value} (h : Bx w k #[a, b, c, d]) : w.frozen? ⟨k, 0, none⟩ = false ∧ w.frozen? ⟨k, 1, none⟩ = false ∧ w.frozen? ⟨k, 2, none⟩ = false ∧ w.frozen? ⟨k, 3, none⟩ = false := ⟨h.free 0, h.free 1, h.free 2, h.free 3⟩
theorem Bx.set4 {w : World} {k : Nat} {a b c d : Value} (h : Bx w k #[a, b, c, d]) (x y z u : Value) : Bx ((((w.setCell ⟨k, 0, none⟩ x).setCell ⟨k, 1, none⟩ y).setCell ⟨k, 2, none⟩ z).setCell ⟨k, 3, none⟩ u) k #[x, y, z, u] := (((h.set 0 x).set 1 y).set 2 z).set 3 u
theorem Bx.other4 {w : World} {k j : Nat} {cs : Array Value} (h : Bx w k cs) (hj : j ≠ k) (x y z u : Value) : Bx ((((w.setCell ⟨j, 0, none⟩ x).setCell ⟨j, 1, none⟩ y).setCell ⟨j, 2, none⟩ z).setCell ⟨j, 3, none⟩ u) k cs :=
  (((h.set_other (p := ⟨j, 0, none⟩) hj x).set_other (p := ⟨j, 1, none⟩) hj y).set_other (p := ⟨j, 2, none⟩) hj z).set_other (p := ⟨j, 3, none⟩) hj u
theorem Ext.store4 {w0 w : World} (h : Ext w0 w) {k : Nat} (hk : w0.heap.size ≤ k) (x y z u : Value) : Ext w0 ((((w.setCell ⟨k, 0, none⟩ x).setCell ⟨k, 1, none⟩ y).setCell ⟨k, 2, none⟩ z).setCell ⟨k, 3, none⟩ u) :=
  (((h.set (p := ⟨k, 0, none⟩) hk x).set (p := ⟨k, 1, none⟩) hk y).set (p := ⟨k, 2, none⟩) hk z).set (p := ⟨k, 3, none⟩) hk u
theorem Bx.drew {w : World} {k : Nat} {cs : Array Value} (h : Bx w k cs) : Bx w.drew k cs := h
theorem ret4_cell {P : Program} {fn : Func} {R : Ending → World → Prop} {a : Act} {W : World} {v : Value} {k : Nat} {x y z u : Value} (hb : Bx W k #[x, y, z, u])
    (h : W.cell? ⟨k, 0, none⟩ = some x → W.cell? ⟨k, 1, none⟩ = some y → W.cell? ⟨k, 2, none⟩ = some z → W.cell? ⟨k, 3, none⟩ = some u → (results fn a.tmps).run P W = .ok v W) (hd : a.defers = []) (hR : R (.returned v) W) : bodyPost P fn R .ret a W :=
  bodyPost_ret (h hb.read4.1 hb.read4.2.1 hb.read4.2.2.1 hb.read4.2.2.2) hd hR
def gv (g : Gt) : Value := .agg #[.int .i64 g.lo, .int .i64 g.hi, .int .i64 g.high, .bool g.is]
theorem belRow_high {f : Int → Gt} {b : Int} (hb : 0 ≤ b) : ∀ {r : List It} {i : Nat} {o : Gt}, (∀ x ∈ r, 0 ≤ (f x.2).high ∧ (f x.2).high ≤ b) → (0 ≤ o.high ∧ o.high ≤ b + 1) → 0 ≤ (belRow f i r o).high ∧ (belRow f i r o).high ≤ b + 1
  | [], i, o, _, h => h
  | x :: r, i, o, hf, h => by
    unfold belRow
    split
    · exact ⟨by simp [Gt.no], by simp [Gt.no]; omega⟩
    · refine belRow_high hb (fun y hy => hf y (List.mem_cons_of_mem _ hy)) ?_
      have := hf x List.mem_cons_self
      unfold nextR
      split <;> simp only <;> omega
theorem bel_high (l : List HC) : ∀ (m : Nat) (p : Int), 0 ≤ (bel l m p).high ∧ (bel l m p).high ≤ m
  | 0, p => by simp [bel, Gt.no]
  | m + 1, p => by
    unfold bel
    split
    · exact ⟨by simp [Gt.no], by simp [Gt.no]; omega⟩
    · split
      · exact ⟨by simp, by simp only; omega⟩
      · have h := belRow_high (f := bel l m) (b := m) (by omega) (r := (cellT l p).it) (i := 0) (o := Gt.no) (fun x _ => bel_high l m x.2) (by simp [Gt.no]; omega)
        exact ⟨h.1, by have := h.2; omega⟩
theorem firstK_at {it : List It} (h : 0 < it.length) : firstK it = it[0].1 := by unfold firstK; rw [List.getD_eq_getElem?_getD, List.getElem?_eq_getElem h]; rfl
theorem lastK_at {it : List It} (h : 0 < it.length) : lastK it = (it[it.length - 1]'(by omega)).1 := by unfold lastK; rw [List.getD_eq_getElem?_getD, List.getElem?_eq_getElem (by omega)]; rfl
theorem Bx.drewN {w : World} {k : Nat} {cs : Array Value} (h : Bx w k cs) (n : Nat) : Bx (w.drewN n) k cs := h
theorem belRow_bad {f : Int → Gt} {it : List It} {j : Nat} {o : Gt} (hj : j < it.length) (h : badR j it[j] (f it[j].2) o = true) : belRow f j (it.drop j) o = Gt.no := by
  rw [List.drop_eq_getElem_cons hj, belRow, if_pos h]
theorem belRow_good {f : Int → Gt} {it : List It} {j : Nat} {o : Gt} (hj : j < it.length) (h : badR j it[j] (f it[j].2) o = false) : belRow f j (it.drop j) o = belRow f (j + 1) (it.drop (j + 1)) (nextR j (f it[j].2) o) := by
  rw [List.drop_eq_getElem_cons hj, belRow, h]; rfl
end Go.Proofs.Ythlencnlgnbpaaa
