/- Walk of step of package clean: a course on its way. -/
import Derived.Test.YtlbhcakjcklmgaaK22
namespace Go.Proofs.Ytlbhcakjcklmgaa
open Go.RowKit
attribute [local go_sem ↓] Go.wp_at_zero Go.wp_at_succ

def tkR (t : List Ts) : List Tk := t.reverse.map (fun x => ofT x.1.toNat x.2)
theorem tkR_cons (p : Int) (k : Nat) (r : List Ts) : tkR ((p, k) :: r) = tkR r ++ [ofT p.toNat k] := by unfold tkR; simp
theorem tkR_len (t : List Ts) : (tkR t).length = t.length := by unfold tkR; simp
/-- A course that lies in a box: its heap, and its tasks, the last one first, in a row of the call's own. -/
structure CR (v w : World) (g : Nat) (R : Option Addr) (n q : Nat) (keep : Int) (Y : Option Addr) (m cY : Nat) (c : List HC) (t : List Ts) : Prop where
  ex : Ext v w
  ge : v.heap.size ≤ g
  box : TB w g #[.slice R n q, .int .i64 keep, .slice Y m cY] 53
  hc : HcR v w R n q c
  own : w.ownsRow v.heap.size 48 1 (.slice Y m cY) m ((tkR t).map cxv)
  len : m = t.length
theorem CR.read {v w : World} {g : Nat} {R : Option Addr} {n q : Nat} {keep : Int} {Y : Option Addr} {m cY : Nat} {c : List HC} {t : List Ts} (h : CR v w g R n q keep Y m cY c t) :
    w.cell? ⟨g, 0, none⟩ = some (.slice R n q) ∧ w.cell? ⟨g, 1, none⟩ = some (.int .i64 keep) ∧ w.cell? ⟨g, 2, none⟩ = some (.slice Y m cY) ∧ w.frozen? ⟨g, 0, none⟩ = false ∧ w.frozen? ⟨g, 1, none⟩ = false ∧ w.frozen? ⟨g, 2, none⟩ = false :=
  ⟨h.box.bx.at 0 _ rfl, h.box.bx.at 1 _ rfl, h.box.bx.at 2 _ rfl, h.box.bx.free 0, h.box.bx.free 1, h.box.bx.free 2⟩
theorem CR.ext {v w w' : World} {g : Nat} {R : Option Addr} {n q : Nat} {keep : Int} {Y : Option Addr} {m cY : Nat} {c : List HC} {t : List Ts} (h : CR v w g R n q keep Y m cY c t) (hx : Ext w w') : CR v w' g R n q keep Y m cY c t :=
  ⟨h.ex.trans hx, h.ge, h.box.ext hx, h.hc.ext hx, own_ext h.own hx, h.len⟩
theorem ty_ne : (53 : TypeId) ≠ 38 ∧ (53 : TypeId) ≠ 48 ∧ (48 : TypeId) ≠ 38 := by decide
/-- The box lies apart from the row. -/
theorem CR.apart {v w : World} {g : Nat} {R : Option Addr} {n q : Nat} {keep : Int} {y m cY : Nat} {c : List HC} {t : List Ts} (h : CR v w g R n q keep (some ⟨y, 0, none⟩) m cY c t) : g ≠ y := fun e => by
  subst e
  obtain ⟨cur, h1⟩ := own_ty h.own
  have h2 := h.box
  unfold TB at h2
  rw [h1] at h2
  injection h2 with h2
  injection h2 with _ h2 _
  exact ty_ne.2.1 h2.symm
/-- The last task is taken away. -/
theorem CR.pop {v w : World} {g : Nat} {R : Option Addr} {n q : Nat} {keep : Int} {y m cY : Nat} {c : List HC} {p : Int} {k : Nat} {r : List Ts} (h : CR v w g R n q keep (some ⟨y, 0, none⟩) m cY c ((p, k) :: r)) :
    CR v (w.setCell ⟨g, 2, none⟩ (.slice (some ⟨y, 0, none⟩) r.length cY)) g R n q keep (some ⟨y, 0, none⟩) r.length cY c r := by
  have hne := h.apart
  have hm : m = r.length + 1 := h.len
  refine ⟨h.ex.set (p := ⟨g, 2, none⟩) h.ge _, h.ge, h.box.set 2 _, h.hc.grown (grown_set _ _ _ _) h.ge ⟨_, _, _, h.box, ty_ne.1⟩, ?_, rfl⟩
  have h1 := own_pre h.own (k := r.length) (by omega)
  rw [Nat.mul_one, tkR_cons, List.map_append, List.take_left' (by rw [List.length_map, tkR_len])] at h1
  exact ownsRow_setCell_other h1 (by simpa [Value.ownBlock] using Ne.symm hne) _
/-- Another heap is written. -/
theorem CR.heap {v w : World} {g : Nat} {R : Option Addr} {n q : Nat} {keep : Int} {y m cY : Nat} {c : List HC} {t : List Ts} (h : CR v w g R n q keep (some ⟨y, 0, none⟩) m cY c t) {S : Option Addr} {d : Nat} {c' : List HC} (hS : HcR v w S n d c') :
    CR v ((w.setCell ⟨g, 0, none⟩ (.slice S n d)).setCell ⟨g, 1, none⟩ (.int .i64 keep)) g S n d keep (some ⟨y, 0, none⟩) m cY c' t := by
  have hne := h.apart
  refine ⟨(h.ex.set (p := ⟨g, 0, none⟩) h.ge _).set (p := ⟨g, 1, none⟩) h.ge _, h.ge, (h.box.set 0 _).set 1 _, hS.grown (grown_store2 _ _ _ _) h.ge ⟨_, _, _, h.box, ty_ne.1⟩, ?_, h.len⟩
  exact own_store2 h.own hne.symm _ _
/-- Tasks are laid behind the last one. -/
theorem CR.app {v w w' : World} {g : Nat} {R : Option Addr} {n q : Nat} {keep : Int} {y m cY : Nat} {c : List HC} {t : List Ts} (h : CR v w g R n q keep (some ⟨y, 0, none⟩) m cY c t) {Y' : Option Addr} {m' c' : Nat} {t' : List Ts} (hm : m' = t'.length) (ho : w'.ownsRow v.heap.size 48 1 (.slice Y' m' c') m' ((tkR t').map cxv)) (hg : w.grownBy w' (some y)) (h0 : 0 < m') :
    CR v (w'.setCell ⟨g, 2, none⟩ (.slice Y' m' c')) g R n q keep Y' m' c' c t' := by
  have hne := h.apart
  have hy := (h.own.lt y rfl).1
  obtain ⟨cy, hcy⟩ := own_ty h.own
  obtain ⟨y', rfl, hy'⟩ := own_some ho (by omega)
  obtain ⟨cur, hcur⟩ := own_ty ho
  have hb := h.box.grown hg (fun e => hne (Option.some.inj e))
  have hne' : g ≠ y' := fun e => by
    subst e
    unfold TB at hb
    rw [hcur] at hb
    injection hb with hb
    injection hb with _ hb _
    exact ty_ne.2.1 hb.symm
  have hx : Ext v w' := Ext.row' h.ex hg hy
  refine ⟨hx.set (p := ⟨g, 2, none⟩) h.ge _, h.ge, hb.set 2 _, (h.hc.grown hg hy ⟨_, _, _, hcy, ty_ne.2.2⟩).grown (grown_set _ _ _ _) h.ge ⟨_, _, _, hb, ty_ne.1⟩, ?_, hm⟩
  exact ownsRow_setCell_other ho (by simpa [Value.ownBlock] using Ne.symm hne') _
/-- append of tasks at a step of a region that draws its order. -/
theorem step_app_tk {w : World} {ops : Array Oper} {o : Oper} {a : Act} {K : Act → World → Prop} {Q : Exit → Act → World → Prop} {E : Prop} (hgd : o.guard = none) (s x : Operand)
    (ho : o.op = .call { callee := .builtin .append, args := #[s, x], argTypes := #[28, 28] })
    (B : Nat) (v : Value) (n : Nat) (l : List Tk) (hs : a.eval s = v) (hown : w.ownsRow B 48 1 v n (l.map cxv))
    (A : Option Addr) (m c : Nat) (k : List Tk) (hx : a.eval x = .slice A m c) (hl : k.length = m) (hS : Sl w A m c (k.map cxv))
    (hsz : n + m ≤ 1000000) (hB : B ≤ w.heap.size)
    (h : ∀ A' c' w', w'.ownsRow B 48 1 (.slice A' (n + m) c') (n + m) ((l ++ k).map cxv) → w.grownBy w' v.ownBlock → K (a.put o.dst (.slice A' (n + m) c')) w') :
    if Region.wanted o (yielded ops a.tmps) = true then Oper.wp Try.prog o a w K Q else E := by
  refine step_app_sl hgd s x 28 ho B 48 (.complex .f64 0 0) 1 16 Try.underlying28 infoC rfl (by omega) v n (l.map cxv) hs hown A m c (k.map cxv) hx (by simp [hl]) hS (cxv_one k) (by unfold maxLen; omega) (by omega) hB ?_
  intro A' c' w' h1 h2
  rw [← List.map_append] at h1
  exact h A' c' w' h1 h2
/-- Which kind is it? -/
theorem isLL (v : Value) (w : World) : (Instr.typeAssert (.iface 72 v) 20 72 true).run Try.prog w = .ok (.tuple #[v, .bool true]) w := by kernel_rfl
theorem isBL (v : Value) (w : World) : (Instr.typeAssert (.iface 76 v) 20 72 true).run Try.prog w = .ok (.tuple #[.int .i64 0, .bool false]) w := by kernel_rfl
theorem isBB (v : Value) (w : World) : (Instr.typeAssert (.iface 76 v) 20 76 true).run Try.prog w = .ok (.tuple #[v, .bool true]) w := by kernel_rfl
theorem isTL (v : Value) (w : World) : (Instr.typeAssert (.iface 78 v) 20 72 true).run Try.prog w = .ok (.tuple #[.int .i64 0, .bool false]) w := by kernel_rfl
theorem isTB (v : Value) (w : World) : (Instr.typeAssert (.iface 78 v) 20 76 true).run Try.prog w = .ok (.tuple #[.agg #[], .bool false]) w := by kernel_rfl
theorem isTT (v : Value) (w : World) : (Instr.typeAssert (.iface 78 v) 20 78 true).run Try.prog w = .ok (.tuple #[v, .bool true]) w := by kernel_rfl
theorem isEL (v : Value) (w : World) : (Instr.typeAssert (.iface 79 v) 20 72 true).run Try.prog w = .ok (.tuple #[.int .i64 0, .bool false]) w := by kernel_rfl
theorem isEB (v : Value) (w : World) : (Instr.typeAssert (.iface 79 v) 20 76 true).run Try.prog w = .ok (.tuple #[.agg #[], .bool false]) w := by kernel_rfl
theorem isET (v : Value) (w : World) : (Instr.typeAssert (.iface 79 v) 20 78 true).run Try.prog w = .ok (.tuple #[.int .i64 0, .bool false]) w := by kernel_rfl
theorem isEE (v : Value) (w : World) : (Instr.typeAssert (.iface 79 v) 20 79 true).run Try.prog w = .ok (.tuple #[v, .bool true]) w := by kernel_rfl
end Go.Proofs.Ytlbhcakjcklmgaa
