/- Boxes that lie in a world, and what a walk through calls keeps of them; no program in sight. -/
import Derived.Test.YtpdeagndandnjaaDoorDiskP3
namespace Go.Proofs.YtpdeagndandnjaaDoor
set_option maxRecDepth 20000
open Go.RowKit

theorem Ext.ext {a b c : World} (h : Ext a b) (k : Ext b c) : Ext a c := h.trans k

/-- A block that holds these values, none of them frozen. -/
def Bx (w : World) (k : Nat) (cs : Array Value) : Prop := ∃ t, w.heap[k]? = some (.cells cs t (0, 0))
theorem Bx.lt {w : World} {k : Nat} {cs : Array Value} (h : Bx w k cs) : k < w.heap.size := by
  obtain ⟨t, h⟩ := h
  exact (Array.getElem?_eq_some_iff.1 h).1
theorem Bx.ext {w w' : World} {k : Nat} {cs : Array Value} (h : Bx w k cs) (hx : Ext w w') : Bx w' k cs := by
  have hk := h.lt
  obtain ⟨t, h⟩ := h
  exact ⟨t, (hx.block k hk).trans h⟩
theorem Bx.at {w : World} {k : Nat} {cs : Array Value} (h : Bx w k cs) (i : Nat) (v : Value) (hi : cs[i]? = some v) : w.cell? ⟨k, i, none⟩ = some v := by
  obtain ⟨t, h⟩ := h
  unfold World.cell?; rw [h]; exact hi
theorem Bx.free {w : World} {k : Nat} {cs : Array Value} (h : Bx w k cs) (i : Nat) : w.frozen? ⟨k, i, none⟩ = false := by
  obtain ⟨t, h⟩ := h
  unfold World.frozen?; rw [h]; simp
theorem Bx.new (w : World) (cs : Array Value) (t : TypeId) : Bx (w.alloc (.cells cs t)) w.heap.size cs := ⟨t, heap_alloc_new w _⟩
theorem Bx.new' {w : World} {k : Nat} (hk : k = w.heap.size) (cs : Array Value) (t : TypeId) : Bx (w.alloc (.cells cs t)) k cs := by subst hk; exact Bx.new w cs t

theorem allocs1 {w W : World} {c0 : Array Value} {t0 : TypeId} (h : w.alloc (.cells c0 t0) = W) : Ext w W ∧ Bx W w.heap.size c0 := by
  subst h; exact ⟨(Ext.refl w).alloc _, Bx.new _ _ _⟩
theorem allocs2 {w W : World} {c0 c1 : Array Value} {t0 t1 : TypeId} (h : (w.alloc (.cells c0 t0)).alloc (.cells c1 t1) = W) : Ext w W ∧ Bx W w.heap.size c0 ∧ Bx W (w.heap.size + 1) c1 := by
  obtain ⟨x, b⟩ := allocs1 (w := w) (c0 := c0) (t0 := t0) rfl
  subst h
  exact ⟨x.alloc _, b.ext ((Ext.refl _).alloc _), Bx.new' (by simp) _ _⟩
theorem allocs3 {w W : World} {c0 c1 c2 : Array Value} {t0 t1 t2 : TypeId} (h : ((w.alloc (.cells c0 t0)).alloc (.cells c1 t1)).alloc (.cells c2 t2) = W) : Ext w W ∧ Bx W w.heap.size c0 ∧ Bx W (w.heap.size + 1) c1 ∧ Bx W (w.heap.size + 1 + 1) c2 := by
  obtain ⟨x, b0, b1⟩ := allocs2 (w := w) (c0 := c0) (t0 := t0) (c1 := c1) (t1 := t1) rfl
  subst h
  exact ⟨x.alloc _, b0.ext ((Ext.refl _).alloc _), b1.ext ((Ext.refl _).alloc _), Bx.new' (by simp) _ _⟩
theorem allocs4 {w W : World} {c0 c1 c2 c3 : Array Value} {t0 t1 t2 t3 : TypeId} (h : (((w.alloc (.cells c0 t0)).alloc (.cells c1 t1)).alloc (.cells c2 t2)).alloc (.cells c3 t3) = W) :
    Ext w W ∧ Bx W w.heap.size c0 ∧ Bx W (w.heap.size + 1) c1 ∧ Bx W (w.heap.size + 1 + 1) c2 ∧ Bx W (w.heap.size + 1 + 1 + 1) c3 := by
  obtain ⟨x, b0, b1, b2⟩ := allocs3 (w := w) (c0 := c0) (t0 := t0) (c1 := c1) (t1 := t1) (c2 := c2) (t2 := t2) rfl
  subst h
  exact ⟨x.alloc _, b0.ext ((Ext.refl _).alloc _), b1.ext ((Ext.refl _).alloc _), b2.ext ((Ext.refl _).alloc _), Bx.new' (by simp) _ _⟩
end Go.Proofs.YtpdeagndandnjaaDoor
