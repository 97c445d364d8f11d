/- A range over an iterator that lays things of its own first: what it asks of a round is told by the world ahead of the first one. A region that draws its order in a round of a range over a function: what serves outside serves there. Where everything stands on a disk, and a book's blocks: the plain theory. No program in sight. -/
import Derived.Test.YtpcimjccngidgaaK01
import Derived.RangeFuncNested
import Derived.RangeFuncBound
import Derived.RangeFuncCalls
import Derived.RangeFuncLeaves
import Derived.RangeFuncBox
import Derived.Shelf.Abstract
import Derived.Shelf.RegionOpen
import Derived.OwnWalkIn
import Derived.TacticsInMore
import Derived.LoopNIn
import Derived.LoopIn
import Derived.Deep.RegionLaw
namespace Go.Proofs.Ytpcimjccngidgaa
set_option maxRecDepth 20000
open Go.RowKit Go.Shelf
attribute [local go_sem] Oper.semAt_some

theorem yieldAt_wide {P : Program} {m m' l : Nat} {args : Array Value} {W : World} {R : Ending → World → Prop} (h : YieldAt Fence.wide m P l args W R) : YieldAt Fence.wide m' P l args W R := by
  obtain ⟨fn, tmps, ass, b, h1, h2⟩ := h
  exact ⟨fn, tmps, ass, b, h1, h2.1, fun c cs _ => h2.2 c cs (room_wide _)⟩
/-- A box of a type. -/
def Bt (w : World) (k : Nat) (t : TypeId) (cs : Array Value) : Prop := w.heap[k]? = some (.cells cs t (0, 0))
theorem Bt.bx {w : World} {k : Nat} {t : TypeId} {cs : Array Value} (h : Bt w k t cs) : Bx w k cs := ⟨t, h⟩
theorem Bt.new (w : World) (cs : Array Value) (t : TypeId) : Bt (w.alloc (.cells cs t)) w.heap.size t cs := heap_alloc_new w _
theorem Bt.lt {w : World} {k : Nat} {t : TypeId} {cs : Array Value} (h : Bt w k t cs) : k < w.heap.size := (Array.getElem?_eq_some_iff.1 h).1
theorem Bt.below {w w' : World} {k : Nat} {t : TypeId} {cs : Array Value} (h : Bt w k t cs) (hx : Ext w w') : Bt w' k t cs := (hx.block k h.lt).trans h
theorem Bt.other {w : World} {k : Nat} {t : TypeId} {cs : Array Value} (h : Bt w k t cs) {p : Addr} (hp : p.block ≠ k) (v : Value) : Bt (w.setCell p v) k t cs := by
  unfold Bt at h ⊢
  rw [Below.heap_setCell _ _ _ _ (by simpa using Ne.symm hp), h]
theorem Bt.set1 {w : World} {k : Nat} {t : TypeId} {a : Value} (h : Bt w k t #[a]) (v : Value) : Bt (w.setCell ⟨k, 0, none⟩ v) k t #[v] := by
  unfold Bt at h ⊢
  simp [World.setCell, Array.getElem?_modify, h]
/-- What a round keeps: what lay at first, and these blocks. -/
structure Kp (n₀ : Nat) (S : Nat → Prop) (A B : World) : Prop where
  old : Below n₀ A B
  same : ∀ k, S k → k < A.heap.size → B.heap[k]? = A.heap[k]?
theorem Kp.refl (n₀ : Nat) (S : Nat → Prop) (A : World) : Kp n₀ S A A := ⟨Below.refl _ _, fun _ _ _ => rfl⟩
theorem Kp.trans {n₀ : Nat} {S : Nat → Prop} {A B C : World} (h : Kp n₀ S A B) (k : Kp n₀ S B C) : Kp n₀ S A C :=
  ⟨h.old.trans k.old, fun i hi hl => (k.same i hi (Nat.lt_of_lt_of_le hl h.old.size)).trans (h.same i hi hl)⟩
theorem Kp.ext {n₀ : Nat} (S : Nat → Prop) {A B : World} (h : Ext A B) (hn : n₀ ≤ A.heap.size) : Kp n₀ S A B :=
  ⟨h.mono hn, fun k _ hl => h.block k hl⟩
theorem Kp.sub {n₀ : Nat} {S S' : Nat → Prop} {A B : World} (h : Kp n₀ S A B) (hs : ∀ k, S' k → S k) : Kp n₀ S' A B := ⟨h.old, fun k hk hl => h.same k (hs k hk) hl⟩
theorem Kp.lower {n₀ n₁ : Nat} {S : Nat → Prop} {A B : World} (h : Kp n₀ S A B) (hn : n₁ ≤ n₀) : Kp n₁ S A B := ⟨h.old.mono hn, h.same⟩
theorem Kp.set {n₀ : Nat} {S : Nat → Prop} (A : World) {k : Nat} (hS : ¬ S k) (hn : n₀ ≤ k) (i : Nat) (v : Value) : Kp n₀ S A (A.setCell ⟨k, i, none⟩ v) :=
  ⟨(Below.refl n₀ A).setCell hn v, fun j hj _ => Below.heap_setCell _ _ _ _ (fun e => hS (by subst e; exact hj))⟩
theorem Kp.grown {n₀ : Nat} {S : Nat → Prop} {A B : World} {row : Option Nat} (hg : A.grownBy B row) (hr : ∀ k, row = some k → ¬ S k ∧ n₀ ≤ k) (hn : n₀ ≤ A.heap.size) : Kp n₀ S A B :=
  ⟨(Below.refl n₀ A).grown hg hn (fun k e => (hr k e).2), fun j hj hl => hg.block j hl (fun e => (hr j e.symm).1 hj)⟩
theorem Kp.put {n₀ : Nat} {S : Nat → Prop} (A : World) {k : Nat} (hS : ¬ S k) (hn : n₀ ≤ k) (hl : k < A.heap.size) (o' : Obj) : Kp n₀ S A (A.putObj k o') :=
  Kp.grown (grownBy_putObj' A k o') (fun j e => by cases e; exact ⟨hS, hn⟩) (by omega)
theorem Bt.keptP {W W' : World} {k : Nat} {t : TypeId} {cs : Array Value} (h : Bt W k t cs) {n₀ : Nat} {S : Nat → Prop} (hk : Kp n₀ S W W') (hS : S k) : Bt W' k t cs := (hk.same k hS h.lt).trans h
/-- Outside a window all stays. -/
structure Out (B c : Nat) (A A' : World) : Prop where
  os : A'.os = A.os
  tape : A'.tape = A.tape
  output : A'.output = A.output
  size : A.heap.size ≤ A'.heap.size
  same : ∀ k, k < A.heap.size → (k < B ∨ B + c ≤ k) → A'.heap[k]? = A.heap[k]?
theorem Out.ext {B c : Nat} {A A' : World} (h : Ext A A') : Out B c A A' := ⟨h.os, h.tape, h.output, h.size, fun k hk _ => h.block k hk⟩
theorem Out.sup {B c B' c' : Nat} {A A' : World} (h : Out B' c' A A') (h1 : B ≤ B') (h2 : B' + c' ≤ B + c) : Out B c A A' := ⟨h.os, h.tape, h.output, h.size, fun k hk hw => h.same k hk (by omega)⟩
theorem Out.put {B c : Nat} (A : World) {k : Nat} (o : Obj) (h1 : B ≤ k) (h2 : k < B + c) : Out B c A (A.putObj k o) := by
  have hg := grownBy_putObj' A k o
  exact ⟨hg.os, hg.tape, hg.output, hg.size, fun j hj hw => hg.block j hj (fun e => by cases e; omega)⟩
theorem Out.set {B c : Nat} (A : World) {k : Nat} (i : Nat) (v : Value) (h1 : B ≤ k) (h2 : k < B + c) : Out B c A (A.setCell ⟨k, i, none⟩ v) :=
  ⟨rfl, rfl, rfl, by simp, fun j hj hw => Below.heap_setCell _ _ _ _ (by show j ≠ k; omega)⟩
/-- What is said stays where a window's blocks alone are turned. -/
def Stays {β : Type} (B c : Nat) (J : β → World → Prop) : Prop := ∀ s A A', J s A → Out B c A A' → J s A'
theorem Stays.sub {β : Type} {B c B' c' : Nat} {J : β → World → Prop} (h : Stays B c J) (h1 : B ≤ B') (h2 : B' + c' ≤ B + c) : Stays B' c' J := fun s A A' hs ho => h s A A' hs (ho.sup h1 h2)
theorem Stays.and {β : Type} {B c : Nat} {J K : β → World → Prop} (h : Stays B c J) (k : Stays B c K) : Stays B c (fun s W => J s W ∧ K s W) := fun s A A' hs ho => ⟨h s A A' hs.1 ho, k s A A' hs.2 ho⟩
theorem stays_pure {β : Type} (B c : Nat) (p : β → Prop) : Stays B c (fun s (_ : World) => p s) := fun _ _ _ hs _ => hs
theorem stays_below {β : Type} {B c n₀ : Nat} (w₀ : World) (hn : n₀ ≤ B) (h0 : n₀ ≤ w₀.heap.size) : Stays B c (fun (_ : β) W => Below n₀ w₀ W) := fun _ _ _ hs ho =>
  hs.trans ⟨ho.os, ho.tape, ho.output, ho.size, fun k hk => ho.same k (by have := hs.size; omega) (.inl (by omega))⟩
theorem stays_size {β : Type} (B c k : Nat) : Stays B c (fun (_ : β) W => k ≤ W.heap.size) := fun _ _ _ hs ho => Nat.le_trans hs ho.size
theorem stays_bt {β : Type} {B c k : Nat} {t : TypeId} (cs : β → Array Value) (hk : k < B ∨ B + c ≤ k) : Stays B c (fun s W => Bt W k t (cs s)) := fun _ _ _ hs ho => (ho.same k (Bt.lt hs) hk).trans hs
/-- An iterator over these things: what it lays ahead of the first round (up to the world W₀) it may turn, and asks the round to keep, and some elder blocks. -/
def SeqW {α : Type} (P : Program) (g : Nat) (lb : Array Value) (encs : α → Array Value) (n₀ : Nat) (Ks : Nat → Prop) (L : List α) (w : World) : Prop :=
  ∀ (l : Nat) (J Jx : World → List α → World → Prop) (W : World) (d : Nat), Ext w W → (∀ W0, Ext W W0 → Stays W.heap.size (W0.heap.size - W.heap.size) (J W0)) → (∀ W0, Ext W W0 → Stays W.heap.size (W0.heap.size - W.heap.size) (Jx W0)) →
    (∀ W0 pre x W1 m, Ext W W0 → J W0 pre W1 → W0.heap.size ≤ W1.heap.size → pre ++ [x] <+: L → YieldAt Fence.wide m P l (encs x) W1 fun e W' =>
      Kp n₀ (fun k => Ks k ∨ (W.heap.size ≤ k ∧ k < W0.heap.size)) W1 W' ∧ ((e = .returned (.bool true) ∧ J W0 (pre ++ [x]) W') ∨ (e = .returned (.bool false) ∧ Jx W0 (pre ++ [x]) W'))) →
    (∀ W0, Ext W W0 → J W0 [] W0) →
    CallsIn Fence.wide d P g (#[.func (.yield l) #[] #[]] ++ lb) W fun e W' => (∃ v, e = .returned v) ∧ ∃ W0, Ext W W0 ∧ (J W0 L W' ∨ ∃ q, q <+: L ∧ Jx W0 q W')
/-- The loop's record, and the block of what is put off. -/
structure Rec (W : World) (D : Nat) (r : Loop) : Prop where
  lp : W.heap[D + 1]? = some (.loop r)
  row : W.heap[D]? = some (.deferred (some []))
theorem Rec.keep {W W' : World} {D : Nat} {r : Loop} (h : Rec W D r) {n₀ : Nat} {S : Nat → Prop} (k : Kp n₀ S W W') (h0 : S D) (h1 : S (D + 1)) : Rec W' D r :=
  ⟨(k.same _ h1 (Array.getElem?_eq_some_iff.1 h.lp).1).trans h.lp, (k.same _ h0 (Array.getElem?_eq_some_iff.1 h.row).1).trans h.row⟩
theorem Rec.put {W : World} {D : Nat} {r : Loop} (h : Rec W D r) (r' : Loop) : Rec (W.putObj (D + 1) (.loop r')) D r' :=
  ⟨World.putObj_heap_same (Array.getElem?_eq_some_iff.1 h.lp).1, (World.putObj_heap_other (by omega)).trans h.row⟩
theorem Rec.stays {B c D : Nat} (r : Loop) (h : D + 2 ≤ B) : Stays B c (fun (_ : Unit) W => Rec W D r) := fun _ A A' hs ho =>
  ⟨(ho.same _ (Array.getElem?_eq_some_iff.1 hs.lp).1 (.inl (by omega))).trans hs.lp, (ho.same _ (Array.getElem?_eq_some_iff.1 hs.row).1 (.inl (by omega))).trans hs.row⟩
/-- How a round's body may be left. -/
def leftW {α : Type} (n₀ : Nat) (S : Nat → Prop) (I : List α → World → Prop) (Ix : Code → List α → World → Prop) (xs : List α) (W : World) : Exit → Act → World → Prop
  | .normal, _, W' => Kp n₀ S W W' ∧ I xs W'
  | .ret, _, W' => Kp n₀ S W W' ∧ Ix .ret xs W'
  | .exit id, _, W' => Kp n₀ S W W' ∧ Ix (.exit id) xs W'
  | .goto t, _, W' => Kp n₀ S W W' ∧ Ix (.goto t) xs W'
  | .panic _, _, _ => False
  | .outgrown, _, _ => False
theorem range_ownW {α : Type} {P : Program} {g : Operand} {ps : Array Tmp} {assign body : Code} {Q : Exit → Act → World → Prop} {a : Act} {w : World} {n m : Nat} {F : Fence}
    (hF : F = Fence.wide) {gf : Nat} {lb : Array Value} (hg : a.eval g = .func (.func gf) #[] lb) (eg : ∀ args w, (callFunc gf args).run P w = .ok (.enter gf args) w)
    {encs : α → Array Value} {n₀ : Nat} {Ks : Nat → Prop} {L : List α} {w0 : World} (hseq : SeqW P gf lb encs n₀ Ks L w0) (hx : Ext w0 w) (hn₀ : n₀ ≤ w.heap.size) (hKs : ∀ k, Ks k → k < w.heap.size) (hps : ∀ x, (encs x).size = ps.size)
    (I : World → List α → World → Prop) (Ix : World → Code → List α → World → Prop) (hI : ∀ W0, Ext w W0 → Stays w.heap.size (W0.heap.size - w.heap.size) (I W0)) (hIx : ∀ W0 k, Ext w W0 → Stays w.heap.size (W0.heap.size - w.heap.size) (Ix W0 k)) (h0 : ∀ W0, Ext w W0 → I W0 [] W0)
    (Ax : World → α → Act → World → Prop) (hAx : ∀ W0 x a', Ext w W0 → Stays w.heap.size (W0.heap.size - w.heap.size) (fun (_ : Unit) W => Ax W0 x a' W))
    (hassign : ∀ (l : Nat) (W0 : World) (pre : List α) (x : α) (W : World) (K : Act → World → Prop), Ext w W0 → I W0 pre W → W0.heap.size ≤ W.heap.size → pre ++ [x] <+: L →
      (∀ a' W', Kp n₀ (fun k => Ks k ∨ (w.heap.size ≤ k ∧ k < W0.heap.size)) W W' → I W0 pre W' → Ax W0 x a' W' → K a' W') →
      assign.wpIn (Fence.wide.inRound l) m P (Exit.then K (fun _ _ _ => False)) { tmps := (ps.zip (encs x)).foldl (fun t (p, v) => t.setIfInBounds p v) a.tmps, defers := [] } W)
    (hbody : ∀ (l : Nat) (W0 : World) (pre : List α) (x : α) (a' : Act) (W : World), Ext w W0 → I W0 pre W → Ax W0 x a' W → W0.heap.size ≤ W.heap.size → pre ++ [x] <+: L →
      body.wpIn (Fence.wide.inRound l) m P (leftW n₀ (fun k => Ks k ∨ (w.heap.size ≤ k ∧ k < W0.heap.size)) (I W0) (Ix W0) (pre ++ [x]) W) a' W)
    (hdone : ∀ (D : Nat) (W0 W : World), D = w.heap.size → Ext w W0 → D + 2 ≤ W0.heap.size → I W0 L W → W.heap[D]? = some (.deferred (some [])) → Q .normal { a with defers := { target := .collected D, args := #[] } :: a.defers } W)
    (hstop : ∀ (D : Nat) (W0 : World) (k : Code) (q : List α) (W : World), D = w.heap.size → Ext w W0 → D + 2 ≤ W0.heap.size → q <+: L → Ix W0 k q W → W.heap[D]? = some (.deferred (some [])) → k.wpIn F n P Q { a with defers := { target := .collected D, args := #[] } :: a.defers } W) :
    (Code.rangeFunc g ps assign body).wpIn F n P Q a w := by
  subst hF
  refine wpIn_rangeFunc fun fn hfn => ?_
  let R : LoopState → Option Code → Loop := fun st pe => { state := st, pending := pe, fn, tmps := a.tmps, params := ps, assign, body, defers := w.heap.size }
  obtain ⟨W1, hW1⟩ : ∃ W1, (w.alloc (.deferred (some []))).alloc (.loop (R .ready none)) = W1 := ⟨_, rfl⟩
  have hX1 : Ext w W1 := by rw [← hW1]; exact ((Ext.refl w).alloc _).alloc _
  have hZ1 : W1.heap.size = w.heap.size + 2 := by rw [← hW1]; simp
  have hR1 : Rec W1 w.heap.size (R .ready none) := by
    rw [← hW1]
    refine ⟨?_, (Below.heap_alloc _ _ _ (by simp)).trans (World.alloc_heap_new w _)⟩
    have := World.alloc_heap_new (w.alloc (.deferred (some []))) (.loop (R .ready none))
    rwa [World.size_alloc] at this
  refine ⟨w.heap.size + 1, [{ target := .collected w.heap.size, args := #[] }], W1, { target := .fn (.func gf) lb, args := #[.func (.yield (w.heap.size + 1)) #[] #[]] }, W1, gf, #[.func (.yield (w.heap.size + 1)) #[] #[]] ++ lb, W1,
    by rw [← hW1]; exact run_enterLoop_outer _ _ _ _ _, by simp only [resolve, hg]; simp [go_sem], fun _ _ => trivial, by simp [invoke, go_sem, eg], fun h => by simp [Fence.wide] at h, ?_⟩
  have hsub : ∀ (W0 : World) k, (Ks k ∨ (W1.heap.size ≤ k ∧ k < W0.heap.size)) → (Ks k ∨ (w.heap.size ≤ k ∧ k < W0.heap.size)) := fun W0 k h => h.imp id (fun h => by omega)
  have hnot : ∀ W0 : World, ¬ (Ks (w.heap.size + 1) ∨ (W1.heap.size ≤ w.heap.size + 1 ∧ w.heap.size + 1 < W0.heap.size)) := fun W0 h => by
    rcases h with h | h
    · have := hKs _ h; omega
    · omega
  have hput : ∀ (W0 W : World) (r r' : Loop), Rec W w.heap.size r → Kp n₀ (fun k => Ks k ∨ (W1.heap.size ≤ k ∧ k < W0.heap.size)) W (W.putObj (w.heap.size + 1) (.loop r')) :=
    fun W0 W r r' h => Kp.put W (hnot W0) (by omega) (Array.getElem?_eq_some_iff.1 h.lp).1 _
  refine (hseq (w.heap.size + 1) (fun W0 pre W => I W0 pre W ∧ Rec W w.heap.size (R .ready none)) (fun W0 q W => ∃ k, Ix W0 k q W ∧ Rec W w.heap.size (R .done (some k))) W1 _ (hx.trans hX1)
    (fun W0 h => by
      have hz := h.size
      exact ((hI W0 (hX1.trans h)).sub (by omega) (by omega)).and (fun s => Rec.stays _ (by omega) ()))
    (fun W0 h s A A' ⟨k, h1, h2⟩ ho => by
      have hz := h.size
      exact ⟨k, hIx W0 k (hX1.trans h) s A A' h1 (ho.sup (by omega) (by omega)), Rec.stays _ (by omega) () A A' h2 ho⟩) ?_
    (fun W0 h => ⟨h0 W0 (hX1.trans h), (h.block _ (Array.getElem?_eq_some_iff.1 hR1.lp).1).trans hR1.lp, (h.block _ (Array.getElem?_eq_some_iff.1 hR1.row).1).trans hR1.row⟩)).mono ?_
  · rintro W0 pre x W m' hx0 ⟨hi, hr⟩ hz hp
    have hX0 := hX1.trans hx0
    have hz0 := hx0.size
    have hS0 : (fun k => Ks k ∨ (w.heap.size ≤ k ∧ k < W0.heap.size)) w.heap.size := .inr ⟨Nat.le_refl _, by omega⟩
    have hS1 : (fun k => Ks k ∨ (w.heap.size ≤ k ∧ k < W0.heap.size)) (w.heap.size + 1) := .inr ⟨by omega, by omega⟩
    have hy := run_yield (P := P) (args := encs x) hr.lp (hps x)
    refine yieldAt_wide (m := m) ⟨fn, _, assign, body, hy, roundIn_of_wpIn hfn (hassign _ W0 pre x W _ hX0 hi hz hp ?_)⟩
    intro a' Wa hka hia hax
    have hra := hr.keep hka hS0 hS1
    refine ⟨_, run_beginRound hra.lp rfl, ?_⟩
    have hro : Out w.heap.size (W0.heap.size - w.heap.size) Wa (Wa.putObj (w.heap.size + 1) (.loop { R .ready none with state := .busy })) := .put _ _ (by omega) (by omega)
    have hrb := hra.put { R .ready none with state := .busy }
    refine wpIn_mono (hbody _ W0 pre x a' _ hX0 (hI W0 hX0 _ _ _ hia hro) (hAx W0 x a' hX0 () _ _ hax hro) (Nat.le_trans hz (Nat.le_trans hka.old.size hro.size)) hp) ?_
    have fin : ∀ (jump : Option Code) (W3 : World), Kp n₀ (fun k => Ks k ∨ (w.heap.size ≤ k ∧ k < W0.heap.size)) (Wa.putObj (w.heap.size + 1) (.loop { R .ready none with state := .busy })) W3 →
        ∃ W4, (Instr.endRound (w.heap.size + 1) jump).run P W3 = .ok (.bool jump.isNone) W4 ∧ Rec W4 w.heap.size (R (if jump.isNone then .ready else .done) jump) ∧ Out w.heap.size (W0.heap.size - w.heap.size) W3 W4 ∧ Kp n₀ (fun k => Ks k ∨ (W1.heap.size ≤ k ∧ k < W0.heap.size)) W W4 := fun jump W3 hk3 => by
      have hr3 := hrb.keep hk3 hS0 hS1
      exact ⟨_, run_endRound jump hr3.lp, hr3.put _, .put _ _ (by omega) (by omega), (((hka.sub (hsub W0)).trans (hput W0 _ _ _ hra)).trans (hk3.sub (hsub W0))).trans (hput W0 _ _ _ hr3)⟩
    rintro e a3 W3 hp3
    cases e with
    | normal =>
      obtain ⟨W4, e4, hr4, ho4, hk4⟩ := fin none W3 hp3.1
      exact ⟨_, W4, e4, hk4, .inl ⟨rfl, hI W0 hX0 _ _ _ hp3.2 ho4, hr4⟩⟩
    | ret =>
      obtain ⟨W4, e4, hr4, ho4, hk4⟩ := fin (some .ret) W3 hp3.1
      exact ⟨_, W4, e4, hk4, .inr ⟨rfl, _, hIx W0 _ hX0 _ _ _ hp3.2 ho4, hr4⟩⟩
    | exit id =>
      obtain ⟨W4, e4, hr4, ho4, hk4⟩ := fin (some (.exit id)) W3 hp3.1
      exact ⟨_, W4, e4, hk4, .inr ⟨rfl, _, hIx W0 _ hX0 _ _ _ hp3.2 ho4, hr4⟩⟩
    | goto t =>
      obtain ⟨W4, e4, hr4, ho4, hk4⟩ := fin (some (.goto t)) W3 hp3.1
      exact ⟨_, W4, e4, hk4, .inr ⟨rfl, _, hIx W0 _ hX0 _ _ _ hp3.2 ho4, hr4⟩⟩
    | panic ch => exact hp3.elim
    | outgrown => exact hp3.elim
  · rintro e W2 ⟨⟨v, rfl⟩, W0, hx0, (⟨hi, hr⟩ | ⟨q, hq, k, hi, hr⟩)⟩
    · have hX0 := hX1.trans hx0
      have hz0 := hx0.size
      exact ⟨none, _, run_endLoop hr.lp (by simp [R]), hdone _ W0 _ rfl hX0 (by omega) (hI W0 hX0 _ _ _ hi (.put _ _ (by omega) (by omega))) ((World.putObj_heap_other (by omega)).trans hr.row)⟩
    · have hX0 := hX1.trans hx0
      have hz0 := hx0.size
      exact ⟨some k, _, run_endLoop hr.lp (by simp [R]), hstop _ W0 k q _ rfl hX0 (by omega) hq (hIx W0 _ hX0 _ _ _ hi (.put _ _ (by omega) (by omega))) ((World.putObj_heap_other (by omega)).trans hr.row)⟩
end Go.Proofs.Ytpcimjccngidgaa
namespace Go.Proofs.Ytpcimjccngidgaa
set_option maxRecDepth 20000
open Go.RowKit Go.Shelf

theorem ops_round {P : Program} {ops : Array Oper} {Q : Exit → Act → World → Prop} {l n : Nat} (hd : ∀ (i : Nat) (o : Oper), ops[i]? = some o → ∀ c, o.op ≠ .defer c) (hq : ¬ LetsOut Q) :
    ∀ (L : List Nat) (a : Act) (w : World), wpOps P ops Q L a w → wpOpsIn (Fence.wide.inRound l) n P ops Q L a w
  | [], _, _, h => h
  | i :: rest, a, w, h => by
    have ih := ops_round (P := P) (n := n) (l := l) hd hq rest
    simp only [wpOps] at h
    simp only [wpOpsIn]
    cases ho : ops[i]? with
    | none => simp only [ho] at h; exact ih _ _ h
    | some o =>
      simp only [ho] at h
      by_cases hw : Region.wanted o (yielded ops a.tmps) = true
      · simp only [hw, if_true] at h ⊢
        rcases h with h | h
        · refine ⟨fun _ _ => trivial, ?_⟩
          rw [Oper.semAt_eq _ _ _ (hd i o ho)]
          unfold Oper.wp at h
          generalize (execOp a.eval o).run P w = r at *
          cases r with
          | ok x w' =>
            cases x <;> simp only [Oper.upon, Oper.uponIn] at h ⊢
            all_goals first
              | exact ih _ _ h
              | exact ⟨fun h => by simp [Fence.wide] at h, CallsIn.mono (CallsIn.inRound l (callsIn_wide.2 h)) (fun e w'' he => by cases e <;> first | exact ih _ _ he | exact he)⟩
              | exact ⟨fun h => by simp [Fence.wide] at h, fun c cs _ => let ⟨v, w'', hR, hs⟩ := h c cs; ⟨v, w'', ih _ _ hR, stepsIn_wide.2 hs⟩⟩
              | exact h.elim
          | halt x w' => cases x <;> simp only [Oper.upon, Oper.uponIn] at h ⊢ <;> first | exact h | exact h.elim
        · exact absurd h.2 hq
      · simp only [hw] at h ⊢
        exact ⟨fun _ _ => trivial, ih _ _ h⟩
theorem region_round {P : Program} {id : Nat} {ops : Array Oper} {Q : Exit → Act → World → Prop} {a : Act} {w : World} {l n : Nat} (hm : P.follows .mixedOrders = true) (hd : ∀ (i : Nat) (o : Oper), ops[i]? = some o → ∀ c, o.op ≠ .defer c) (hq : ¬ LetsOut Q)
    (h : wpAny P .any ops Q ops.size (Array.replicate ops.size false) a w.drew) : (Code.region id ops true).wpIn (Fence.wide.inRound l) n P Q a w :=
  wpIn_region_draw fun t => by
    simp only [Region.schedule, hm, Bool.true_or, if_true]
    exact ops_round hd hq _ _ _ (wpAny_sound ops.size t _ a _ h)
/-- No operation puts a call off. -/
def plainOp (o : Oper) : Bool := match o.op with | .defer _ => false | _ => true
theorem plain_all {ops : Array Oper} (h : ops.all plainOp = true) : ∀ (i : Nat) (o : Oper), ops[i]? = some o → ∀ c, o.op ≠ .defer c := fun i o hi c e => by
  obtain ⟨hl, rfl⟩ := Array.getElem?_eq_some_iff.1 hi
  have := Array.all_eq_true.1 h i hl
  unfold plainOp at this
  rw [e] at this
  cases this
end Go.Proofs.Ytpcimjccngidgaa
namespace Go.Proofs.Ytpcimjccngidgaa
set_option maxRecDepth 20000
open Go.RowKit

/-- P14.1 -/
def areaP (n : Nat) : Nat := (1670 + 2 * n) / 40
def baseP (n : Nat) : Nat := 2 + 2 * areaP n
def cellsF (b : Nat) : Nat → Nat → Nat
  | 0, n => n
  | f + 1, n => if baseP (n + 1) + n + 1 ≤ b then cellsF b f (n + 1) else n
def cellsP (b : Nat) : Nat := cellsF b 2000 0
theorem area_room (n : Nat) : 1631 + 2 * n ≤ 40 * areaP n ∧ 40 * areaP n < 1631 + 2 * n + 40 := by unfold areaP; omega
theorem cellsF_facts (b : Nat) : ∀ (f n : Nat), n ≤ cellsF b f n ∧ cellsF b f n ≤ n + f ∧ (n < cellsF b f n → baseP (cellsF b f n) + cellsF b f n ≤ b) ∧ (cellsF b f n = n + f ∨ b < baseP (cellsF b f n + 1) + cellsF b f n + 1)
  | 0, n => by
    rw [cellsF]
    exact ⟨by omega, by omega, fun h => by omega, .inl rfl⟩
  | f + 1, n => by
    rw [cellsF]
    split
    · rename_i h
      obtain ⟨h1, h2, h3, h4⟩ := cellsF_facts b f (n + 1)
      refine ⟨by omega, by omega, fun _ => ?_, ?_⟩
      · rcases Nat.lt_or_ge (n + 1) (cellsF b f (n + 1)) with g | g
        · exact h3 g
        · have e : cellsF b f (n + 1) = n + 1 := by omega
          rw [e]; omega
      · rcases h4 with h4 | h4
        · left; omega
        · right; exact h4
    · rename_i h
      exact ⟨by omega, by omega, fun h => by omega, .inr (by omega)⟩
theorem cells_facts (b : Nat) : cellsP b ≤ 2000 ∧ (0 < cellsP b → baseP (cellsP b) + cellsP b ≤ b) ∧ (cellsP b = 2000 ∨ b < baseP (cellsP b + 1) + cellsP b + 1) := by
  obtain ⟨_, h2, h3, h4⟩ := cellsF_facts b 2000 0
  unfold cellsP
  exact ⟨by omega, h3, by rcases h4 with h | h; exact .inl (by omega); exact .inr h⟩
/-- P14.1: a book's blocks. -/
abbrev Bl := List UInt8
def padB (l : Bl) : Bl := l ++ List.replicate (40 - l.length) 0
def chunkF : Nat → Bl → List Bl
  | 0, _ => []
  | f + 1, l => if l = [] then [] else padB (l.take 40) :: chunkF f (l.drop 40)
def chunksP (l : Bl) : List Bl := chunkF l.length l
theorem padB_len {l : Bl} (h : l.length ≤ 40) : (padB l).length = 40 := by unfold padB; simp; omega
theorem chunkF_fuel : ∀ (f g : Nat) (l : Bl), l.length ≤ f → l.length ≤ g → chunkF f l = chunkF g l
  | 0, 0, _, _, _ => rfl
  | 0, g + 1, l, h, _ => by
    obtain rfl : l = [] := List.eq_nil_of_length_eq_zero (by omega)
    simp [chunkF]
  | f + 1, 0, l, _, h => by
    obtain rfl : l = [] := List.eq_nil_of_length_eq_zero (by omega)
    simp [chunkF]
  | f + 1, g + 1, l, h1, h2 => by
    rw [chunkF, chunkF]
    split
    · rfl
    · rename_i hl
      have hp : 0 < l.length := by cases l with | nil => exact absurd rfl hl | cons a r => simp
      rw [chunkF_fuel f g (l.drop 40) (by simp; omega) (by simp; omega)]
theorem chunks_nil : chunksP [] = [] := rfl
theorem chunks_cons {l : Bl} (h : l ≠ []) : chunksP l = padB (l.take 40) :: chunksP (l.drop 40) := by
  have hp : 0 < l.length := by cases l with | nil => exact absurd rfl h | cons a r => simp
  unfold chunksP
  obtain ⟨k, hk⟩ : ∃ k, l.length = k + 1 := ⟨l.length - 1, by omega⟩
  rw [hk, chunkF, if_neg h]
  congr 1
  exact chunkF_fuel _ _ _ (by simp; omega) (Nat.le_refl _)
theorem chunks_all : ∀ (f : Nat) (l : Bl), l.length ≤ f → (∀ c ∈ chunksP l, c.length = 40) ∧ (chunksP l).flatten.take l.length = l ∧ (chunksP l).flatten.drop l.length = List.replicate ((chunksP l).flatten.length - l.length) 0 ∧ l.length ≤ (chunksP l).flatten.length ∧ (chunksP l).flatten.length < l.length + 40
  | 0, l, h => by
    obtain rfl : l = [] := List.eq_nil_of_length_eq_zero (by omega)
    simp [chunks_nil]
  | f + 1, l, h => by
    by_cases hl : l = []
    · subst hl; simp [chunks_nil]
    · have hp : 0 < l.length := by cases l with | nil => exact absurd rfl hl | cons a r => simp
      obtain ⟨i1, i2, i3, i4, i5⟩ := chunks_all f (l.drop 40) (by simp; omega)
      rw [chunks_cons hl]
      have h40 : (padB (l.take 40)).length = 40 := padB_len (by simp; omega)
      have hd : (l.drop 40).length = l.length - 40 := by simp
      rw [hd] at i2 i3 i4 i5
      rw [List.flatten_cons, List.length_append, h40]
      refine ⟨fun c hc => ?_, ?_, ?_, by omega, ?_⟩
      · rcases List.mem_cons.1 hc with rfl | hc
        · exact h40
        · exact i1 c hc
      · rcases Nat.lt_or_ge 40 l.length with g | g
        · rw [List.take_append, h40, List.take_of_length_le (by omega), i2]
          unfold padB
          rw [show 40 - (l.take 40).length = 0 by simp; omega]
          simp
        · have hn : l.drop 40 = [] := List.drop_eq_nil_of_le g
          rw [hn, chunks_nil]
          unfold padB
          rw [List.take_of_length_le g]
          simp
      · rcases Nat.lt_or_ge 40 l.length with g | g
        · rw [List.drop_append, h40, List.drop_of_length_le (by omega), i3, List.nil_append]
          congr 1
          omega
        · have hn : l.drop 40 = [] := List.drop_eq_nil_of_le g
          rw [hn, chunks_nil]
          unfold padB
          rw [List.take_of_length_le g]
          simp
      · rcases Nat.lt_or_ge 40 l.length with g | g
        · omega
        · have hn : l.drop 40 = [] := List.drop_eq_nil_of_le g
          rw [hn, chunks_nil]
          simp
          omega
end Go.Proofs.Ytpcimjccngidgaa
