/- A range over an iterator that lays things of its own first: what it asks of a round is told by the world ahead of the first one. A region that draws its order in a round of a range over a function: what serves outside serves there. What the laws of layer 14 ask of package plan; PlanRoom. New of the reference alone (for seats without strings.Repeat: no text of both may be joined). What strings.Repeat answers: so many copies of a text. What a commit of a new state writes: the plain facts. -/
import Derived.Test.YtnlkakbpcdfgfaaGreatK03
import Derived.RangeFuncNested
import Derived.RangeFuncBound
import Derived.RangeFuncCalls
import Derived.RangeFuncLeaves
import Derived.RangeFuncBox
import Derived.Shelf.Abstract
import Derived.Shelf.RegionOpen
import Derived.OwnWalkIn
import Derived.TacticsInMore
import Derived.LoopNIn
import Derived.LoopIn
import Derived.Deep.RegionLaw
import Derived.Test.YtnlkakbpcdfgfaaGreatK12
import Derived.Test.YtnlkakbpcdfgfaaGreatK09
import Derived.Test.YtnlkakbpcdfgfaaGreatK02
import Derived.Shelf.Strings.Repeat
import Derived.Test.YtnlkakbpcdfgfaaGreatProg
import Derived.Test.YtnlkakbpcdfgfaaGreatK05
import Derived.Test.YtnlkakbpcdfgfaaGreatK10
import Derived.Test.YtnlkakbpcdfgfaaGreatK07
namespace Go.Proofs.YtnlkakbpcdfgfaaGreat
set_option maxRecDepth 20000
open Go.RowKit Go.Shelf
attribute [local go_sem] Oper.semAt_some

theorem yieldAt_wide {P : Program} {m m' l : Nat} {args : Array Value} {W : World} {R : Ending → World → Prop} (h : YieldAt Fence.wide m P l args W R) : YieldAt Fence.wide m' P l args W R := by
  obtain ⟨fn, tmps, ass, b, h1, h2⟩ := h
  exact ⟨fn, tmps, ass, b, h1, h2.1, fun c cs _ => h2.2 c cs (room_wide _)⟩
/-- A box of a type. -/
def Bt (w : World) (k : Nat) (t : TypeId) (cs : Array Value) : Prop := w.heap[k]? = some (.cells cs t (0, 0))
theorem Bt.bx {w : World} {k : Nat} {t : TypeId} {cs : Array Value} (h : Bt w k t cs) : Bx w k cs := ⟨t, h⟩
theorem Bt.new (w : World) (cs : Array Value) (t : TypeId) : Bt (w.alloc (.cells cs t)) w.heap.size t cs := heap_alloc_new w _
theorem Bt.lt {w : World} {k : Nat} {t : TypeId} {cs : Array Value} (h : Bt w k t cs) : k < w.heap.size := (Array.getElem?_eq_some_iff.1 h).1
theorem Bt.below {w w' : World} {k : Nat} {t : TypeId} {cs : Array Value} (h : Bt w k t cs) (hx : Ext w w') : Bt w' k t cs := (hx.block k h.lt).trans h
theorem Bt.other {w : World} {k : Nat} {t : TypeId} {cs : Array Value} (h : Bt w k t cs) {p : Addr} (hp : p.block ≠ k) (v : Value) : Bt (w.setCell p v) k t cs := by
  unfold Bt at h ⊢
  rw [Below.heap_setCell _ _ _ _ (by simpa using Ne.symm hp), h]
theorem Bt.set1 {w : World} {k : Nat} {t : TypeId} {a : Value} (h : Bt w k t #[a]) (v : Value) : Bt (w.setCell ⟨k, 0, none⟩ v) k t #[v] := by
  unfold Bt at h ⊢
  simp [World.setCell, Array.getElem?_modify, h]
/-- What a round keeps: what lay at first, and these blocks. -/
structure Kp (n₀ : Nat) (S : Nat → Prop) (A B : World) : Prop where
  old : Below n₀ A B
  same : ∀ k, S k → k < A.heap.size → B.heap[k]? = A.heap[k]?
theorem Kp.refl (n₀ : Nat) (S : Nat → Prop) (A : World) : Kp n₀ S A A := ⟨Below.refl _ _, fun _ _ _ => rfl⟩
theorem Kp.trans {n₀ : Nat} {S : Nat → Prop} {A B C : World} (h : Kp n₀ S A B) (k : Kp n₀ S B C) : Kp n₀ S A C :=
  ⟨h.old.trans k.old, fun i hi hl => (k.same i hi (Nat.lt_of_lt_of_le hl h.old.size)).trans (h.same i hi hl)⟩
theorem Kp.ext {n₀ : Nat} (S : Nat → Prop) {A B : World} (h : Ext A B) (hn : n₀ ≤ A.heap.size) : Kp n₀ S A B :=
  ⟨h.mono hn, fun k _ hl => h.block k hl⟩
theorem Kp.sub {n₀ : Nat} {S S' : Nat → Prop} {A B : World} (h : Kp n₀ S A B) (hs : ∀ k, S' k → S k) : Kp n₀ S' A B := ⟨h.old, fun k hk hl => h.same k (hs k hk) hl⟩
theorem Kp.lower {n₀ n₁ : Nat} {S : Nat → Prop} {A B : World} (h : Kp n₀ S A B) (hn : n₁ ≤ n₀) : Kp n₁ S A B := ⟨h.old.mono hn, h.same⟩
theorem Kp.set {n₀ : Nat} {S : Nat → Prop} (A : World) {k : Nat} (hS : ¬ S k) (hn : n₀ ≤ k) (i : Nat) (v : Value) : Kp n₀ S A (A.setCell ⟨k, i, none⟩ v) :=
  ⟨(Below.refl n₀ A).setCell hn v, fun j hj _ => Below.heap_setCell _ _ _ _ (fun e => hS (by subst e; exact hj))⟩
theorem Kp.grown {n₀ : Nat} {S : Nat → Prop} {A B : World} {row : Option Nat} (hg : A.grownBy B row) (hr : ∀ k, row = some k → ¬ S k ∧ n₀ ≤ k) (hn : n₀ ≤ A.heap.size) : Kp n₀ S A B :=
  ⟨(Below.refl n₀ A).grown hg hn (fun k e => (hr k e).2), fun j hj hl => hg.block j hl (fun e => (hr j e.symm).1 hj)⟩
theorem Kp.put {n₀ : Nat} {S : Nat → Prop} (A : World) {k : Nat} (hS : ¬ S k) (hn : n₀ ≤ k) (hl : k < A.heap.size) (o' : Obj) : Kp n₀ S A (A.putObj k o') :=
  Kp.grown (grownBy_putObj' A k o') (fun j e => by cases e; exact ⟨hS, hn⟩) (by omega)
theorem Bt.keptP {W W' : World} {k : Nat} {t : TypeId} {cs : Array Value} (h : Bt W k t cs) {n₀ : Nat} {S : Nat → Prop} (hk : Kp n₀ S W W') (hS : S k) : Bt W' k t cs := (hk.same k hS h.lt).trans h
/-- Outside a window all stays. -/
structure Out (B c : Nat) (A A' : World) : Prop where
  os : A'.os = A.os
  tape : A'.tape = A.tape
  output : A'.output = A.output
  size : A.heap.size ≤ A'.heap.size
  same : ∀ k, k < A.heap.size → (k < B ∨ B + c ≤ k) → A'.heap[k]? = A.heap[k]?
theorem Out.ext {B c : Nat} {A A' : World} (h : Ext A A') : Out B c A A' := ⟨h.os, h.tape, h.output, h.size, fun k hk _ => h.block k hk⟩
theorem Out.sup {B c B' c' : Nat} {A A' : World} (h : Out B' c' A A') (h1 : B ≤ B') (h2 : B' + c' ≤ B + c) : Out B c A A' := ⟨h.os, h.tape, h.output, h.size, fun k hk hw => h.same k hk (by omega)⟩
theorem Out.put {B c : Nat} (A : World) {k : Nat} (o : Obj) (h1 : B ≤ k) (h2 : k < B + c) : Out B c A (A.putObj k o) := by
  have hg := grownBy_putObj' A k o
  exact ⟨hg.os, hg.tape, hg.output, hg.size, fun j hj hw => hg.block j hj (fun e => by cases e; omega)⟩
theorem Out.set {B c : Nat} (A : World) {k : Nat} (i : Nat) (v : Value) (h1 : B ≤ k) (h2 : k < B + c) : Out B c A (A.setCell ⟨k, i, none⟩ v) :=
  ⟨rfl, rfl, rfl, by simp, fun j hj hw => Below.heap_setCell _ _ _ _ (by show j ≠ k; omega)⟩
/-- What is said stays where a window's blocks alone are turned. -/
def Stays {β : Type} (B c : Nat) (J : β → World → Prop) : Prop := ∀ s A A', J s A → Out B c A A' → J s A'
theorem Stays.sub {β : Type} {B c B' c' : Nat} {J : β → World → Prop} (h : Stays B c J) (h1 : B ≤ B') (h2 : B' + c' ≤ B + c) : Stays B' c' J := fun s A A' hs ho => h s A A' hs (ho.sup h1 h2)
theorem Stays.and {β : Type} {B c : Nat} {J K : β → World → Prop} (h : Stays B c J) (k : Stays B c K) : Stays B c (fun s W => J s W ∧ K s W) := fun s A A' hs ho => ⟨h s A A' hs.1 ho, k s A A' hs.2 ho⟩
theorem stays_pure {β : Type} (B c : Nat) (p : β → Prop) : Stays B c (fun s (_ : World) => p s) := fun _ _ _ hs _ => hs
theorem stays_below {β : Type} {B c n₀ : Nat} (w₀ : World) (hn : n₀ ≤ B) (h0 : n₀ ≤ w₀.heap.size) : Stays B c (fun (_ : β) W => Below n₀ w₀ W) := fun _ _ _ hs ho =>
  hs.trans ⟨ho.os, ho.tape, ho.output, ho.size, fun k hk => ho.same k (by have := hs.size; omega) (.inl (by omega))⟩
theorem stays_size {β : Type} (B c k : Nat) : Stays B c (fun (_ : β) W => k ≤ W.heap.size) := fun _ _ _ hs ho => Nat.le_trans hs ho.size
theorem stays_bt {β : Type} {B c k : Nat} {t : TypeId} (cs : β → Array Value) (hk : k < B ∨ B + c ≤ k) : Stays B c (fun s W => Bt W k t (cs s)) := fun _ _ _ hs ho => (ho.same k (Bt.lt hs) hk).trans hs
/-- An iterator over these things: what it lays ahead of the first round (up to the world W₀) it may turn, and asks the round to keep, and some elder blocks. -/
def SeqW {α : Type} (P : Program) (g : Nat) (lb : Array Value) (encs : α → Array Value) (n₀ : Nat) (Ks : Nat → Prop) (L : List α) (w : World) : Prop :=
  ∀ (l : Nat) (J Jx : World → List α → World → Prop) (W : World) (d : Nat), Ext w W → (∀ W0, Ext W W0 → Stays W.heap.size (W0.heap.size - W.heap.size) (J W0)) → (∀ W0, Ext W W0 → Stays W.heap.size (W0.heap.size - W.heap.size) (Jx W0)) →
    (∀ W0 pre x W1 m, Ext W W0 → J W0 pre W1 → W0.heap.size ≤ W1.heap.size → pre ++ [x] <+: L → YieldAt Fence.wide m P l (encs x) W1 fun e W' =>
      Kp n₀ (fun k => Ks k ∨ (W.heap.size ≤ k ∧ k < W0.heap.size)) W1 W' ∧ ((e = .returned (.bool true) ∧ J W0 (pre ++ [x]) W') ∨ (e = .returned (.bool false) ∧ Jx W0 (pre ++ [x]) W'))) →
    (∀ W0, Ext W W0 → J W0 [] W0) →
    CallsIn Fence.wide d P g (#[.func (.yield l) #[] #[]] ++ lb) W fun e W' => (∃ v, e = .returned v) ∧ ∃ W0, Ext W W0 ∧ (J W0 L W' ∨ ∃ q, q <+: L ∧ Jx W0 q W')
/-- The loop's record, and the block of what is put off. -/
structure Rec (W : World) (D : Nat) (r : Loop) : Prop where
  lp : W.heap[D + 1]? = some (.loop r)
  row : W.heap[D]? = some (.deferred (some []))
theorem Rec.keep {W W' : World} {D : Nat} {r : Loop} (h : Rec W D r) {n₀ : Nat} {S : Nat → Prop} (k : Kp n₀ S W W') (h0 : S D) (h1 : S (D + 1)) : Rec W' D r :=
  ⟨(k.same _ h1 (Array.getElem?_eq_some_iff.1 h.lp).1).trans h.lp, (k.same _ h0 (Array.getElem?_eq_some_iff.1 h.row).1).trans h.row⟩
theorem Rec.put {W : World} {D : Nat} {r : Loop} (h : Rec W D r) (r' : Loop) : Rec (W.putObj (D + 1) (.loop r')) D r' :=
  ⟨World.putObj_heap_same (Array.getElem?_eq_some_iff.1 h.lp).1, (World.putObj_heap_other (by omega)).trans h.row⟩
theorem Rec.stays {B c D : Nat} (r : Loop) (h : D + 2 ≤ B) : Stays B c (fun (_ : Unit) W => Rec W D r) := fun _ A A' hs ho =>
  ⟨(ho.same _ (Array.getElem?_eq_some_iff.1 hs.lp).1 (.inl (by omega))).trans hs.lp, (ho.same _ (Array.getElem?_eq_some_iff.1 hs.row).1 (.inl (by omega))).trans hs.row⟩
/-- How a round's body may be left. -/
def leftW {α : Type} (n₀ : Nat) (S : Nat → Prop) (I : List α → World → Prop) (Ix : Code → List α → World → Prop) (xs : List α) (W : World) : Exit → Act → World → Prop
  | .normal, _, W' => Kp n₀ S W W' ∧ I xs W'
  | .ret, _, W' => Kp n₀ S W W' ∧ Ix .ret xs W'
  | .exit id, _, W' => Kp n₀ S W W' ∧ Ix (.exit id) xs W'
  | .goto t, _, W' => Kp n₀ S W W' ∧ Ix (.goto t) xs W'
  | .panic _, _, _ => False
  | .outgrown, _, _ => False
theorem range_ownW {α : Type} {P : Program} {g : Operand} {ps : Array Tmp} {assign body : Code} {Q : Exit → Act → World → Prop} {a : Act} {w : World} {n m : Nat} {F : Fence}
    (hF : F = Fence.wide) {gf : Nat} {lb : Array Value} (hg : a.eval g = .func (.func gf) #[] lb) (eg : ∀ args w, (callFunc gf args).run P w = .ok (.enter gf args) w)
    {encs : α → Array Value} {n₀ : Nat} {Ks : Nat → Prop} {L : List α} {w0 : World} (hseq : SeqW P gf lb encs n₀ Ks L w0) (hx : Ext w0 w) (hn₀ : n₀ ≤ w.heap.size) (hKs : ∀ k, Ks k → k < w.heap.size) (hps : ∀ x, (encs x).size = ps.size)
    (I : World → List α → World → Prop) (Ix : World → Code → List α → World → Prop) (hI : ∀ W0, Ext w W0 → Stays w.heap.size (W0.heap.size - w.heap.size) (I W0)) (hIx : ∀ W0 k, Ext w W0 → Stays w.heap.size (W0.heap.size - w.heap.size) (Ix W0 k)) (h0 : ∀ W0, Ext w W0 → I W0 [] W0)
    (Ax : World → α → Act → World → Prop) (hAx : ∀ W0 x a', Ext w W0 → Stays w.heap.size (W0.heap.size - w.heap.size) (fun (_ : Unit) W => Ax W0 x a' W))
    (hassign : ∀ (l : Nat) (W0 : World) (pre : List α) (x : α) (W : World) (K : Act → World → Prop), Ext w W0 → I W0 pre W → W0.heap.size ≤ W.heap.size → pre ++ [x] <+: L →
      (∀ a' W', Kp n₀ (fun k => Ks k ∨ (w.heap.size ≤ k ∧ k < W0.heap.size)) W W' → I W0 pre W' → Ax W0 x a' W' → K a' W') →
      assign.wpIn (Fence.wide.inRound l) m P (Exit.then K (fun _ _ _ => False)) { tmps := (ps.zip (encs x)).foldl (fun t (p, v) => t.setIfInBounds p v) a.tmps, defers := [] } W)
    (hbody : ∀ (l : Nat) (W0 : World) (pre : List α) (x : α) (a' : Act) (W : World), Ext w W0 → I W0 pre W → Ax W0 x a' W → W0.heap.size ≤ W.heap.size → pre ++ [x] <+: L →
      body.wpIn (Fence.wide.inRound l) m P (leftW n₀ (fun k => Ks k ∨ (w.heap.size ≤ k ∧ k < W0.heap.size)) (I W0) (Ix W0) (pre ++ [x]) W) a' W)
    (hdone : ∀ (D : Nat) (W0 W : World), D = w.heap.size → Ext w W0 → D + 2 ≤ W0.heap.size → I W0 L W → W.heap[D]? = some (.deferred (some [])) → Q .normal { a with defers := { target := .collected D, args := #[] } :: a.defers } W)
    (hstop : ∀ (D : Nat) (W0 : World) (k : Code) (q : List α) (W : World), D = w.heap.size → Ext w W0 → D + 2 ≤ W0.heap.size → q <+: L → Ix W0 k q W → W.heap[D]? = some (.deferred (some [])) → k.wpIn F n P Q { a with defers := { target := .collected D, args := #[] } :: a.defers } W) :
    (Code.rangeFunc g ps assign body).wpIn F n P Q a w := by
  subst hF
  refine wpIn_rangeFunc fun fn hfn => ?_
  let R : LoopState → Option Code → Loop := fun st pe => { state := st, pending := pe, fn, tmps := a.tmps, params := ps, assign, body, defers := w.heap.size }
  obtain ⟨W1, hW1⟩ : ∃ W1, (w.alloc (.deferred (some []))).alloc (.loop (R .ready none)) = W1 := ⟨_, rfl⟩
  have hX1 : Ext w W1 := by rw [← hW1]; exact ((Ext.refl w).alloc _).alloc _
  have hZ1 : W1.heap.size = w.heap.size + 2 := by rw [← hW1]; simp
  have hR1 : Rec W1 w.heap.size (R .ready none) := by
    rw [← hW1]
    refine ⟨?_, (Below.heap_alloc _ _ _ (by simp)).trans (World.alloc_heap_new w _)⟩
    have := World.alloc_heap_new (w.alloc (.deferred (some []))) (.loop (R .ready none))
    rwa [World.size_alloc] at this
  refine ⟨w.heap.size + 1, [{ target := .collected w.heap.size, args := #[] }], W1, { target := .fn (.func gf) lb, args := #[.func (.yield (w.heap.size + 1)) #[] #[]] }, W1, gf, #[.func (.yield (w.heap.size + 1)) #[] #[]] ++ lb, W1,
    by rw [← hW1]; exact run_enterLoop_outer _ _ _ _ _, by simp only [resolve, hg]; simp [go_sem], fun _ _ => trivial, by simp [invoke, go_sem, eg], fun h => by simp [Fence.wide] at h, ?_⟩
  have hsub : ∀ (W0 : World) k, (Ks k ∨ (W1.heap.size ≤ k ∧ k < W0.heap.size)) → (Ks k ∨ (w.heap.size ≤ k ∧ k < W0.heap.size)) := fun W0 k h => h.imp id (fun h => by omega)
  have hnot : ∀ W0 : World, ¬ (Ks (w.heap.size + 1) ∨ (W1.heap.size ≤ w.heap.size + 1 ∧ w.heap.size + 1 < W0.heap.size)) := fun W0 h => by
    rcases h with h | h
    · have := hKs _ h; omega
    · omega
  have hput : ∀ (W0 W : World) (r r' : Loop), Rec W w.heap.size r → Kp n₀ (fun k => Ks k ∨ (W1.heap.size ≤ k ∧ k < W0.heap.size)) W (W.putObj (w.heap.size + 1) (.loop r')) :=
    fun W0 W r r' h => Kp.put W (hnot W0) (by omega) (Array.getElem?_eq_some_iff.1 h.lp).1 _
  refine (hseq (w.heap.size + 1) (fun W0 pre W => I W0 pre W ∧ Rec W w.heap.size (R .ready none)) (fun W0 q W => ∃ k, Ix W0 k q W ∧ Rec W w.heap.size (R .done (some k))) W1 _ (hx.trans hX1)
    (fun W0 h => by
      have hz := h.size
      exact ((hI W0 (hX1.trans h)).sub (by omega) (by omega)).and (fun s => Rec.stays _ (by omega) ()))
    (fun W0 h s A A' ⟨k, h1, h2⟩ ho => by
      have hz := h.size
      exact ⟨k, hIx W0 k (hX1.trans h) s A A' h1 (ho.sup (by omega) (by omega)), Rec.stays _ (by omega) () A A' h2 ho⟩) ?_
    (fun W0 h => ⟨h0 W0 (hX1.trans h), (h.block _ (Array.getElem?_eq_some_iff.1 hR1.lp).1).trans hR1.lp, (h.block _ (Array.getElem?_eq_some_iff.1 hR1.row).1).trans hR1.row⟩)).mono ?_
  · rintro W0 pre x W m' hx0 ⟨hi, hr⟩ hz hp
    have hX0 := hX1.trans hx0
    have hz0 := hx0.size
    have hS0 : (fun k => Ks k ∨ (w.heap.size ≤ k ∧ k < W0.heap.size)) w.heap.size := .inr ⟨Nat.le_refl _, by omega⟩
    have hS1 : (fun k => Ks k ∨ (w.heap.size ≤ k ∧ k < W0.heap.size)) (w.heap.size + 1) := .inr ⟨by omega, by omega⟩
    have hy := run_yield (P := P) (args := encs x) hr.lp (hps x)
    refine yieldAt_wide (m := m) ⟨fn, _, assign, body, hy, roundIn_of_wpIn hfn (hassign _ W0 pre x W _ hX0 hi hz hp ?_)⟩
    intro a' Wa hka hia hax
    have hra := hr.keep hka hS0 hS1
    refine ⟨_, run_beginRound hra.lp rfl, ?_⟩
    have hro : Out w.heap.size (W0.heap.size - w.heap.size) Wa (Wa.putObj (w.heap.size + 1) (.loop { R .ready none with state := .busy })) := .put _ _ (by omega) (by omega)
    have hrb := hra.put { R .ready none with state := .busy }
    refine wpIn_mono (hbody _ W0 pre x a' _ hX0 (hI W0 hX0 _ _ _ hia hro) (hAx W0 x a' hX0 () _ _ hax hro) (Nat.le_trans hz (Nat.le_trans hka.old.size hro.size)) hp) ?_
    have fin : ∀ (jump : Option Code) (W3 : World), Kp n₀ (fun k => Ks k ∨ (w.heap.size ≤ k ∧ k < W0.heap.size)) (Wa.putObj (w.heap.size + 1) (.loop { R .ready none with state := .busy })) W3 →
        ∃ W4, (Instr.endRound (w.heap.size + 1) jump).run P W3 = .ok (.bool jump.isNone) W4 ∧ Rec W4 w.heap.size (R (if jump.isNone then .ready else .done) jump) ∧ Out w.heap.size (W0.heap.size - w.heap.size) W3 W4 ∧ Kp n₀ (fun k => Ks k ∨ (W1.heap.size ≤ k ∧ k < W0.heap.size)) W W4 := fun jump W3 hk3 => by
      have hr3 := hrb.keep hk3 hS0 hS1
      exact ⟨_, run_endRound jump hr3.lp, hr3.put _, .put _ _ (by omega) (by omega), (((hka.sub (hsub W0)).trans (hput W0 _ _ _ hra)).trans (hk3.sub (hsub W0))).trans (hput W0 _ _ _ hr3)⟩
    rintro e a3 W3 hp3
    cases e with
    | normal =>
      obtain ⟨W4, e4, hr4, ho4, hk4⟩ := fin none W3 hp3.1
      exact ⟨_, W4, e4, hk4, .inl ⟨rfl, hI W0 hX0 _ _ _ hp3.2 ho4, hr4⟩⟩
    | ret =>
      obtain ⟨W4, e4, hr4, ho4, hk4⟩ := fin (some .ret) W3 hp3.1
      exact ⟨_, W4, e4, hk4, .inr ⟨rfl, _, hIx W0 _ hX0 _ _ _ hp3.2 ho4, hr4⟩⟩
    | exit id =>
      obtain ⟨W4, e4, hr4, ho4, hk4⟩ := fin (some (.exit id)) W3 hp3.1
      exact ⟨_, W4, e4, hk4, .inr ⟨rfl, _, hIx W0 _ hX0 _ _ _ hp3.2 ho4, hr4⟩⟩
    | goto t =>
      obtain ⟨W4, e4, hr4, ho4, hk4⟩ := fin (some (.goto t)) W3 hp3.1
      exact ⟨_, W4, e4, hk4, .inr ⟨rfl, _, hIx W0 _ hX0 _ _ _ hp3.2 ho4, hr4⟩⟩
    | panic ch => exact hp3.elim
    | outgrown => exact hp3.elim
  · rintro e W2 ⟨⟨v, rfl⟩, W0, hx0, (⟨hi, hr⟩ | ⟨q, hq, k, hi, hr⟩)⟩
    · have hX0 := hX1.trans hx0
      have hz0 := hx0.size
      exact ⟨none, _, run_endLoop hr.lp (by simp [R]), hdone _ W0 _ rfl hX0 (by omega) (hI W0 hX0 _ _ _ hi (.put _ _ (by omega) (by omega))) ((World.putObj_heap_other (by omega)).trans hr.row)⟩
    · have hX0 := hX1.trans hx0
      have hz0 := hx0.size
      exact ⟨some k, _, run_endLoop hr.lp (by simp [R]), hstop _ W0 k q _ rfl hX0 (by omega) hq (hIx W0 _ hX0 _ _ _ hi (.put _ _ (by omega) (by omega))) ((World.putObj_heap_other (by omega)).trans hr.row)⟩
end Go.Proofs.YtnlkakbpcdfgfaaGreat
namespace Go.Proofs.YtnlkakbpcdfgfaaGreat
set_option maxRecDepth 20000
open Go.RowKit Go.Shelf

theorem ops_round {P : Program} {ops : Array Oper} {Q : Exit → Act → World → Prop} {l n : Nat} (hd : ∀ (i : Nat) (o : Oper), ops[i]? = some o → ∀ c, o.op ≠ .defer c) (hq : ¬ LetsOut Q) :
    ∀ (L : List Nat) (a : Act) (w : World), wpOps P ops Q L a w → wpOpsIn (Fence.wide.inRound l) n P ops Q L a w
  | [], _, _, h => h
  | i :: rest, a, w, h => by
    have ih := ops_round (P := P) (n := n) (l := l) hd hq rest
    simp only [wpOps] at h
    simp only [wpOpsIn]
    cases ho : ops[i]? with
    | none => simp only [ho] at h; exact ih _ _ h
    | some o =>
      simp only [ho] at h
      by_cases hw : Region.wanted o (yielded ops a.tmps) = true
      · simp only [hw, if_true] at h ⊢
        rcases h with h | h
        · refine ⟨fun _ _ => trivial, ?_⟩
          rw [Oper.semAt_eq _ _ _ (hd i o ho)]
          unfold Oper.wp at h
          generalize (execOp a.eval o).run P w = r at *
          cases r with
          | ok x w' =>
            cases x <;> simp only [Oper.upon, Oper.uponIn] at h ⊢
            all_goals first
              | exact ih _ _ h
              | exact ⟨fun h => by simp [Fence.wide] at h, CallsIn.mono (CallsIn.inRound l (callsIn_wide.2 h)) (fun e w'' he => by cases e <;> first | exact ih _ _ he | exact he)⟩
              | exact ⟨fun h => by simp [Fence.wide] at h, fun c cs _ => let ⟨v, w'', hR, hs⟩ := h c cs; ⟨v, w'', ih _ _ hR, stepsIn_wide.2 hs⟩⟩
              | exact h.elim
          | halt x w' => cases x <;> simp only [Oper.upon, Oper.uponIn] at h ⊢ <;> first | exact h | exact h.elim
        · exact absurd h.2 hq
      · simp only [hw] at h ⊢
        exact ⟨fun _ _ => trivial, ih _ _ h⟩
theorem region_round {P : Program} {id : Nat} {ops : Array Oper} {Q : Exit → Act → World → Prop} {a : Act} {w : World} {l n : Nat} (hm : P.follows .mixedOrders = true) (hd : ∀ (i : Nat) (o : Oper), ops[i]? = some o → ∀ c, o.op ≠ .defer c) (hq : ¬ LetsOut Q)
    (h : wpAny P .any ops Q ops.size (Array.replicate ops.size false) a w.drew) : (Code.region id ops true).wpIn (Fence.wide.inRound l) n P Q a w :=
  wpIn_region_draw fun t => by
    simp only [Region.schedule, hm, Bool.true_or, if_true]
    exact ops_round hd hq _ _ _ (wpAny_sound ops.size t _ a _ h)
/-- No operation puts a call off. -/
def plainOp (o : Oper) : Bool := match o.op with | .defer _ => false | _ => true
theorem plain_all {ops : Array Oper} (h : ops.all plainOp = true) : ∀ (i : Nat) (o : Oper), ops[i]? = some o → ∀ c, o.op ≠ .defer c := fun i o hi c e => by
  obtain ⟨hl, rfl⟩ := Array.getElem?_eq_some_iff.1 hi
  have := Array.all_eq_true.1 h i hl
  unfold plainOp at this
  rw [e] at this
  cases this
end Go.Proofs.YtnlkakbpcdfgfaaGreat
namespace Go.Proofs.YtnlkakbpcdfgfaaGreat
set_option maxRecDepth 20000
open Go.RowKit

theorem rem_2000 {n : Int} (h0 : 0 ≤ n) : ∃ r : Nat, n.tmod 2000 = (r : Int) ∧ r < 2000 := by
  refine ⟨(n % 2000).toNat, ?_, by omega⟩
  rw [Int.tmod_eq_emod_of_nonneg h0]; omega
theorem rem_5000 {n : Int} (h0 : 0 ≤ n) : ∃ r : Nat, n.tmod 5000 = (r : Int) ∧ r < 5000 := by
  refine ⟨(n % 5000).toNat, ?_, by omega⟩
  rw [Int.tmod_eq_emod_of_nonneg h0]; omega
end Go.Proofs.YtnlkakbpcdfgfaaGreat
namespace Go.Proofs.YtnlkakbpcdfgfaaGreat
set_option maxRecDepth 20000
open Go.RowKit

/-- A block of bytes 0. -/
def zb : ByteArray := ByteArray.mk (List.replicate 40 (0 : UInt8)).toArray
/-- P2.1: new blocks. -/
def newB (n : Int) : List ByteArray := if 1 ≤ n ∧ n ≤ 4000 then List.replicate n.toNat zb else []
def newE (n : Int) : Int := if 1 ≤ n ∧ n ≤ 4000 then 0 else 1
theorem make_none (w : World) : (Instr.makeSlice 83 (.int .i64 40) (.int .i64 40)).run Tryz.prog w = .ok (.slice (some ⟨w.heap.size, 0, none⟩) 40 40) (w.alloc (.cells (Array.replicate 40 (.int .u8 0)) 5)) := by kernel_rfl
theorem conv_none (w : World) (g : Nat) (hc : ∀ j, j < 40 → w.cell? ⟨g, j, none⟩ = some (.int .u8 0)) : (convert 83 9 (.slice (some ⟨g, 0, none⟩) 40 40)).run Tryz.prog w = .ok (.string zb) w := by
  have h := run_convert_bytes_back (P := Tryz.prog) w 83 9 5 ⟨g, 0, none⟩ 40 (List.replicate 40 (0 : UInt8)) Tryz.underlying83 Tryz.underlying5 Tryz.underlying9 (fun j hj => by
    have hj' : j < 40 := by simpa using hj
    have e : (⟨g, 0, none⟩ : Addr).add j = ⟨g, j, none⟩ := by unfold Addr.add; split <;> simp_all
    rw [e, hc j hj']
    simp only [List.getElem_replicate]
    rfl)
  rw [List.length_replicate] at h
  exact h
theorem zeros_at (w : World) (j : Nat) (hj : j < 40) : (w.alloc (.cells (Array.replicate 40 (.int .u8 0)) 5)).cell? ⟨w.heap.size, j, none⟩ = some (.int .u8 0) := by
  have := heap_alloc_new w (.cells (Array.replicate 40 (.int .u8 0)) 5)
  unfold World.cell?; rw [this]; simp [hj]
theorem svs_snoc (k : Nat) : (List.replicate k zb).map sv ++ [Value.string zb] = (List.replicate (k + 1) zb).map sv := by
  rw [List.replicate_succ']; simp [sv]

set_option maxHeartbeats 4000000 in
set_option maxRecDepth 20000 in
theorem newR_any (n : Int) (w : World) :
    Calls Tryz.prog 18 #[.int .i64 n] w fun e w' => ∃ v, e = .returned (.tuple #[v, .int .i64 (newE n)]) ∧ IsDisk w' v (newB n) [] ∧ Ext w w' := by
  have hb0 := Box2.new w (.slice none 0 0) (.slice none 0 0) 26
  have hmk := make_none
  by_cases h1 : 1 ≤ n
  · by_cases h2 : n ≤ 4000
    · have HNB := Lib.hid (show newB n = List.replicate n.toNat zb by unfold newB; rw [if_pos ⟨h1, h2⟩])
      have HNE := Lib.hid (show newE n = 0 by unfold newE; rw [if_pos ⟨h1, h2⟩])
      obtain ⟨n, rfl⟩ := Int.eq_ofNat_of_zero_le (show 0 ≤ n by omega)
      rw [Int.toNat_natCast] at HNB
      have HX := Lib.hid ((((Ext.refl w).alloc (.cells #[.slice none 0 0, .slice none 0 0] 26)).alloc (.cells #[.slice none 0 0, .slice none 0 0] 26)).alloc (.cells (Array.replicate 40 (.int .u8 0)) 5))
      have b1 := Box2.new (w.alloc (.cells #[.slice none 0 0, .slice none 0 0] 26)) (.slice none 0 0) (.slice none 0 0) 26
      rw [World.size_alloc] at b1
      have x1 := (Ext.refl (w.alloc (.cells #[.slice none 0 0, .slice none 0 0] 26))).alloc (.cells #[.slice none 0 0, .slice none 0 0] 26)
      have x2 := (Ext.refl ((w.alloc (.cells #[.slice none 0 0, .slice none 0 0] 26)).alloc (.cells #[.slice none 0 0, .slice none 0 0] 26))).alloc (.cells (Array.replicate 40 (.int .u8 0)) 5)
      have HB0 := Lib.hid ((hb0.ext (by simp) x1).ext (by simp; omega) x2)
      have HB1 := Lib.hid (b1.ext (by simp) x2)
      have hcv := conv_none _ _ (zeros_at ((w.alloc (.cells #[.slice none 0 0, .slice none 0 0] 26)).alloc (.cells #[.slice none 0 0, .slice none 0 0] 26)))
      simp only [World.size_alloc] at hcv
      clear hb0 b1 x1 x2
      go_enter Tryz.func18, Tryz.ntmps18
      go_wp2
      clear hcv hmk
      generalize hw1 : ((w.alloc (.cells #[.slice none 0 0, .slice none 0 0] 26)).alloc (.cells #[.slice none 0 0, .slice none 0 0] 26)).alloc (.cells (Array.replicate 40 (.int .u8 0)) 5) = w1 at *
      have hs1 : w1.heap.size = w.heap.size + 1 + 1 + 1 := by rw [← hw1]; simp
      clear hw1
      go_loopw [6] (fun i wr => ∃ (k cap : Nat) (A : Option Addr), k ≤ n ∧ i = .int .i64 k ∧ wr.ownsRow (w.heap.size + 1 + 1 + 1) 9 1 (.slice A k cap) k ((List.replicate k zb).map sv) ∧ Box2 wr w.heap.size (.slice none 0 0) (.slice none 0 0) ∧ Box2 wr (w.heap.size + 1) (.slice A k cap) (.slice none 0 0) ∧ Ext w wr ∧ w.heap.size + 1 + 1 + 1 ≤ wr.heap.size) (fun i _ => n - (intOf i).toNat)
      case atStart => exact ⟨0, 0, none, Nat.zero_le _, rfl, World.ownsRow_nil _ _ _ _, HB0.out, HB1.out, HX.out, by omega⟩
      case round =>
        obtain ⟨k, cap, A, hk, rfl, ho, hb0, hb1, hx, hsz⟩ := hrel
        obtain ⟨c0, c1, f0, f1⟩ := hb1.read
        by_cases hlt : k < n
        · have HO := Lib.hid ho
          have HXr := Lib.hid hx
          have HB0 := Lib.hid hb0
          have HB1 := Lib.hid hb1
          clear ho hx hb0 hb1
          go_wp2_with (at_builtin; refine stop_here ?_)
          refine stop_on ?_
          refine wpList_app_sl _ rfl _ _ 23 rfl (w.heap.size + 1 + 1 + 1) 9 _ 1 16 Tryz.underlying23 infoS rfl (by omega) _ k _ rfl (HO.out.alloc _) (some ⟨wr.heap.size, 0, none⟩) 1 1 [.string zb] rfl rfl (sl_lit wr _ 1 [.string zb] (by unfold maxLen; omega)) (by intro u hu; simp at hu; subst hu; rfl) (by unfold maxLen; omega) (by omega) (by simp; omega) ?_
          intro A2 c2 w2 hown hg
          rw [svs_snoc] at hown
          obtain ⟨g, rfl, hgB⟩ := own_some hown (by omega)
          have hbl : ∀ q, (Value.slice A k cap).ownBlock = some q → w.heap.size + 1 + 1 + 1 ≤ q := fun q hq => (HO.out.lt q hq).1
          have keep : ∀ kk, kk < w.heap.size + 1 + 1 + 1 → w2.heap[kk]? = wr.heap[kk]? := fun kk hkk => by
            rw [hg.block kk (by simp; omega) (fun e => by have := hbl kk e.symm; omega)]
            exact Below.heap_alloc _ _ _ (by omega)
          have hb0' : Box2 w2 w.heap.size (.slice none 0 0) (.slice none 0 0) := by
            obtain ⟨t, h⟩ := HB0.out
            exact ⟨t, (keep _ (by omega)).trans h⟩
          have hb1' : Box2 w2 (w.heap.size + 1) (.slice A k cap) (.slice none 0 0) := by
            obtain ⟨t, h⟩ := HB1.out
            exact ⟨t, (keep _ (by omega)).trans h⟩
          have hx2 : Ext w w2 := Below.grown (HXr.out.alloc _) hg (by simp; omega) (fun q hq => by have := hbl q hq; omega)
          have hsz2 := hx2.size
          have hsz3 := hg.size
          simp only [World.size_alloc] at hsz3
          have HOS := Lib.hid (ownsRow_setCell_other hown (a := ⟨w.heap.size + 1, 0, none⟩) (by simp [Value.ownBlock]; omega) (.slice (some ⟨g, 0, none⟩) (k + 1) c2))
          have HXS := Lib.hid (hx2.set (p := ⟨w.heap.size + 1, 0, none⟩) (by simp) (.slice (some ⟨g, 0, none⟩) (k + 1) c2))
          have HB0S := Lib.hid (show Box2 (w2.setCell ⟨w.heap.size + 1, 0, none⟩ (.slice (some ⟨g, 0, none⟩) (k + 1) c2)) w.heap.size (.slice none 0 0) (.slice none 0 0) from by
            obtain ⟨t, h⟩ := hb0'
            exact ⟨t, by rw [Below.heap_setCell _ _ _ _ (by simp)]; exact h⟩)
          have HB1S := Lib.hid (show Box2 (w2.setCell ⟨w.heap.size + 1, 0, none⟩ (.slice (some ⟨g, 0, none⟩) (k + 1) c2)) (w.heap.size + 1) (.slice (some ⟨g, 0, none⟩) (k + 1) c2) (.slice none 0 0) from by
            obtain ⟨t, h⟩ := hb1'
            exact ⟨t, heap_setCell_same _ _ 0 _ t _ h⟩)
          clear c0 c1 f0 f1
          obtain ⟨c0, c1, f0, f1⟩ := hb1'.read
          clear hown hg hbl keep hb0' hb1' hx2
          go_wp2
          go_roundw
          case rel => exact ⟨k + 1, c2, some ⟨g, 0, none⟩, by omega, by go_num, HOS.out, HB0S.out, HB1S.out, HXS.out, by simp [World.setCell]; omega⟩
          case measure => simp [intOf]; omega
        · obtain rfl : k = n := by omega
          have h3 := (own_sl ho).store2 (flat_svs _) hb0 (.slice A k cap) (.slice none 0 0)
          have H3 := Lib.hid h3
          have HBS := Lib.hid (hb0.store (.slice A k cap) (.slice none 0 0))
          have HXE := Lib.hid (hx.store2 (k := w.heap.size) (Nat.le_refl _) (.slice A k cap) (.slice none 0 0))
          obtain ⟨r0, r1, g0, g1⟩ := hb0.read
          clear ho hx hb0 hb1 h3
          go_wp2
          clear r0 r1 g0 g1 c0 c1 f0 f1
          obtain ⟨r0, r1, _, _⟩ := HBS.out.read
          refine bodyPost_ret (v := .tuple #[.agg #[.slice A k cap, .slice none 0 0], .int .i64 0]) (by simp [results, Tryz.results18, go_sem, r0, r1]) rfl ?_
          rw [HNB.out, HNE.out]
          exact ⟨_, rfl, ⟨_, _, _, _, by rw [List.length_replicate]; rfl, by rw [List.length_replicate]; exact H3.out, Sl.nil _⟩, HXE.out⟩
    · have HNB := Lib.hid (show newB n = [] by unfold newB; rw [if_neg (by omega)])
      have HNE := Lib.hid (show newE n = 1 by unfold newE; rw [if_neg (by omega)])
      have HB0 := Lib.hid hb0
      have HX := Lib.hid ((Ext.refl w).alloc (.cells #[.slice none 0 0, .slice none 0 0] 26))
      clear hb0 hmk
      go_enter Tryz.func18, Tryz.ntmps18
      go_wp2
      obtain ⟨r0, r1, _, _⟩ := HB0.out.read
      refine bodyPost_ret (v := .tuple #[.agg #[.slice none 0 0, .slice none 0 0], .int .i64 1]) (by simp [results, Tryz.results18, go_sem, r0, r1]) rfl ?_
      rw [HNB.out, HNE.out]
      exact ⟨_, rfl, ⟨_, _, _, _, rfl, Sl.nil _, Sl.nil _⟩, HX.out⟩
  · have HNB := Lib.hid (show newB n = [] by unfold newB; rw [if_neg (by omega)])
    have HNE := Lib.hid (show newE n = 1 by unfold newE; rw [if_neg (by omega)])
    have HB0 := Lib.hid hb0
    have HX := Lib.hid ((Ext.refl w).alloc (.cells #[.slice none 0 0, .slice none 0 0] 26))
    clear hb0 hmk
    go_enter Tryz.func18, Tryz.ntmps18
    go_wp2
    obtain ⟨r0, r1, _, _⟩ := HB0.out.read
    refine bodyPost_ret (v := .tuple #[.agg #[.slice none 0 0, .slice none 0 0], .int .i64 1]) (by simp [results, Tryz.results18, go_sem, r0, r1]) rfl ?_
    rw [HNB.out, HNE.out]
    exact ⟨_, rfl, ⟨_, _, _, _, rfl, Sl.nil _, Sl.nil _⟩, HX.out⟩
end Go.Proofs.YtnlkakbpcdfgfaaGreat
namespace Go.Proofs
open Go.Shelf
def Tryz.lays105_ren : Go.Shelf.Ren := ⟨fun | 105 => 29 | 212 => 45 | 99 => 46 | 165 => 47 | 166 => 48 | 170 => 49 | 169 => 50 | 263 => 77 | 264 => 78 | 206 => 79 | 240 => 80 | 241 => 81 | 276 => 109 | 277 => 110 | n => n, fun | 9 => 9 | 3 => 3 | 4 => 4 | 20 => 20 | 0 => 0 | 46 => 96 | 109 => 97 | 5 => 5 | 72 => 102 | 76 => 106 | 51 => 147 | 146 => 148 | 53 => 150 | 148 => 151 | 70 => 100 | 37 => 83 | 75 => 105 | 127 => 153 | 164 => 178 | 80 => 108 | n => n, fun | n => n⟩
theorem Tryz.lays105 : Go.Proofs.Lays.n105 Tryz.prog Tryz.lays105_ren := {
  mixed := by kernel_rfl
  f99 := Tryz.func46.trans (congrArg some (by kernel_rfl))
  f105 := Tryz.func29.trans (congrArg some (by kernel_rfl))
  f165 := Tryz.func47.trans (congrArg some (by kernel_rfl))
  f166 := Tryz.func48.trans (congrArg some (by kernel_rfl))
  f169 := Tryz.func50.trans (congrArg some (by kernel_rfl))
  f170 := Tryz.func49.trans (congrArg some (by kernel_rfl))
  f206 := Tryz.func79.trans (congrArg some (by kernel_rfl))
  f212 := Tryz.func45.trans (congrArg some (by kernel_rfl))
  f240 := Tryz.func80.trans (congrArg some (by kernel_rfl))
  f241 := Tryz.func81.trans (congrArg some (by kernel_rfl))
  f263 := Tryz.func77.trans (congrArg some (by kernel_rfl))
  f264 := Tryz.func78.trans (congrArg some (by kernel_rfl))
  f276 := Tryz.func109.trans (congrArg some (by kernel_rfl))
  f277 := Tryz.func110.trans (congrArg some (by kernel_rfl))
  t0 := Tryz.underlying0
  a0 := Tryz.isAgg0
  z0 := Tryz.sizeOf0
  v0 := Tryz.zeroValue0
  t3 := Tryz.underlying3
  a3 := Tryz.isAgg3
  z3 := Tryz.sizeOf3
  v3 := Tryz.zeroValue3
  t4 := Tryz.underlying4
  a4 := Tryz.isAgg4
  z4 := Tryz.sizeOf4
  v4 := Tryz.zeroValue4
  t5 := Tryz.underlying5
  a5 := Tryz.isAgg5
  z5 := Tryz.sizeOf5
  v5 := Tryz.zeroValue5
  t9 := Tryz.underlying9
  a9 := Tryz.isAgg9
  z9 := Tryz.sizeOf9
  v9 := Tryz.zeroValue9
  t20 := Tryz.underlying20
  a20 := Tryz.isAgg20
  z20 := Tryz.sizeOf20
  v20 := Tryz.zeroValue20
  t37 := Tryz.underlying83
  a37 := Tryz.isAgg83
  z37 := Tryz.sizeOf83
  v37 := Tryz.zeroValue83
  t46 := Tryz.underlying96
  a46 := Tryz.isAgg96
  z46 := Tryz.sizeOf96
  v46 := Tryz.zeroValue96
  t51 := Tryz.underlying147
  a51 := Tryz.isAgg147
  z51 := Tryz.sizeOf147
  v51 := Tryz.zeroValue147
  t53 := Tryz.underlying150
  a53 := Tryz.isAgg150
  z53 := Tryz.sizeOf150
  v53 := Tryz.zeroValue150
  t70 := Tryz.underlying100
  a70 := Tryz.isAgg100
  z70 := Tryz.sizeOf100
  v70 := Tryz.zeroValue100
  t72 := Tryz.underlying102
  a72 := Tryz.isAgg102
  z72 := Tryz.sizeOf102
  v72 := Tryz.zeroValue102
  t75 := Tryz.underlying105
  a75 := Tryz.isAgg105
  z75 := Tryz.sizeOf105
  v75 := Tryz.zeroValue105
  t76 := Tryz.underlying106
  a76 := Tryz.isAgg106
  z76 := Tryz.sizeOf106
  v76 := Tryz.zeroValue106
  t109 := Tryz.underlying97
  a109 := Tryz.isAgg97
  z109 := Tryz.sizeOf97
  v109 := Tryz.zeroValue97
  t127 := Tryz.underlying153
  a127 := Tryz.isAgg153
  z127 := Tryz.sizeOf153
  v127 := Tryz.zeroValue153
  t146 := Tryz.underlying148
  a146 := Tryz.isAgg148
  z146 := Tryz.sizeOf148
  v146 := Tryz.zeroValue148
  t148 := Tryz.underlying151
  a148 := Tryz.isAgg151
  z148 := Tryz.sizeOf151
  v148 := Tryz.zeroValue151
  t164 := Tryz.underlying178
  a164 := Tryz.isAgg178
  z164 := Tryz.sizeOf178
  v164 := Tryz.zeroValue178 }
theorem Tryz.Builder_Extra_105 : Builder.Extra Tryz.prog Tryz.lays105_ren := {
  sizeBuilder := by kernel_rfl
  liesBuilder := by kernel_rfl
  t5 := Tryz.underlying5
  a5 := Tryz.isAgg5
  z5 := Tryz.sizeOf5
  v5 := Tryz.zeroValue5
  infoByte := by kernel_rfl
  cellsByte := by kernel_rfl
  sizeByte := by kernel_rfl
  neB5 := by decide }
open Go.RowKit Go.Lib in
/-- **strings.Repeat: count ≥ 0, the result within one allocation: count copies of s.** (LAID: no walk: one application.) -/
theorem Tryz.strings_Repeat (s : ByteArray) (c : Nat) (w : World) (hc : c ≤ 9223372036854775807) (hlen : s.size * c ≤ 140737488355328) :
    Calls Tryz.prog 29 #[.string s, .int .i64 c] w fun e w' => e = .returned (.string ⟨(Lib.repeatL s.data.toList c).toArray⟩) ∧ Below w.heap.size w w' := Any.strings_Repeat Tryz.lays105 Tryz.Builder_Extra_105 s c w hc hlen
end Go.Proofs
namespace Go.Proofs.YtnlkakbpcdfgfaaGreat
set_option maxRecDepth 20000
open Go.RowKit

def pieces (n : Nat) : Nat := (n + 39) / 40
theorem chunkF_at : ∀ (f : Nat) (l : Bl) (k : Nat), l.length ≤ f → k < pieces l.length → (chunkF f l)[k]? = some (padB ((l.drop (40 * k)).take 40))
  | 0, l, k, h, hk => by unfold pieces at hk; omega
  | f + 1, l, k, h, hk => by
    have hl : l ≠ [] := by rintro rfl; simp [pieces] at hk
    rw [chunkF, if_neg hl]
    cases k with
    | zero => simp
    | succ k =>
      rw [List.getElem?_cons_succ, chunkF_at f (l.drop 40) k (by simp; omega) (by unfold pieces at *; simp; omega), List.drop_drop, show 40 * (k + 1) = 40 + 40 * k by omega]
theorem chunkF_len : ∀ (f : Nat) (l : Bl), l.length ≤ f → (chunkF f l).length = pieces l.length
  | 0, l, h => by
    obtain rfl : l = [] := List.eq_nil_of_length_eq_zero (by omega)
    rfl
  | f + 1, l, h => by
    rw [chunkF]
    split
    · rename_i hl; subst hl; rfl
    · rename_i hl
      have hp : 0 < l.length := by cases l with | nil => exact absurd rfl hl | cons a r => simp
      rw [List.length_cons, chunkF_len f (l.drop 40) (by simp; omega)]
      unfold pieces; simp; omega
theorem chunks_len (l : Bl) : (chunksP l).length = pieces l.length := chunkF_len _ _ (Nat.le_refl _)
theorem chunks_at (l : Bl) {k : Nat} (hk : k < pieces l.length) : (chunksP l)[k]? = some (padB ((l.drop (40 * k)).take 40)) := chunkF_at _ _ _ (Nat.le_refl _) hk
theorem chB_tx (l : Bl) : (chB l).map txP = chunksP l := by
  unfold chB
  rw [List.map_map]
  conv => rhs; rw [← List.map_id (chunksP l)]
  exact List.map_congr_left (fun s _ => rfl)
theorem chB_at (l : Bl) {k : Nat} (hk : k < pieces l.length) (h : k < (chB l).length) : (chB l)[k] = ⟨(padB ((l.drop (40 * k)).take 40)).toArray⟩ := by
  have e2 : (chB l)[k]? = some ⟨(padB ((l.drop (40 * k)).take 40)).toArray⟩ := by unfold chB; rw [List.getElem?_map, chunks_at l hk]; rfl
  rw [List.getElem?_eq_getElem h] at e2
  exact Option.some.inj e2
theorem repeat_zero (n : Nat) : Lib.repeatL [0] n = List.replicate n 0 := by
  induction n with
  | zero => rfl
  | succ n ih => rw [Lib.repeatL, ih, List.replicate_succ]; rfl
/-- The first block of the book of a new state of 45 cells, so many of them kept. -/
def bk0 (K : Nat) : ByteArray := ⟨(putL 1 4 ++ [0] ++ putL 0 2 ++ putL K 2 ++ putL 45 2 ++ List.replicate 29 0).toArray⟩
theorem bk45 {K : Nat} (hK : K = 0 ∨ K = 2) : chB (bookP 1 K (List.replicate 45 0)) = [bk0 K, zb, zb] := by
  unfold chB
  rw [show chunksP (bookP 1 K (List.replicate 45 0)) = [putL 1 4 ++ [0] ++ putL 0 2 ++ putL K 2 ++ putL 45 2 ++ List.replicate 29 0, List.replicate 40 0, List.replicate 40 0] by rcases hK with rfl | rfl <;> decide +kernel]
  rfl
theorem cells135 : cellsP 135 = 45 := by decide +kernel
theorem area45 : areaP 45 = 44 := by decide +kernel
theorem bk0_ne {K : Nat} (hK : K = 0 ∨ K = 2) : (zb.toList == (bk0 K).toList) = false := by
  rw [bytes_same]
  exact decide_eq_false (fun h => absurd (congrArg (fun b => b.data.toList[0]?) h) (by rcases hK with rfl | rfl <;> decide +kernel))
theorem bk0_size {K : Nat} (hK : K = 0 ∨ K = 2) : (bk0 K).size = 40 := by rcases hK with rfl | rfl <;> decide +kernel
/-- The slot's block of a commit of such a state. -/
def sup45 (K g : Nat) : ByteArray := supB ⟨(g : Int), 101, (crc (bookP 1 K (List.replicate 45 0)) : Nat)⟩
/-- What a commit writes, where the area holds nothing yet. -/
def plan45 (K base g : Nat) : List Wr := [((base : Nat), bk0 K), (-1, ⟨#[]⟩), (((g % 2 : Nat) : Int), sup45 K g), (-1, ⟨#[]⟩)]
theorem plan_is {K : Nat} (hK : K = 0 ∨ K = 2) {b : List ByteArray} (hb : b.length = 135) {gen base : Nat} (h : base = 2 + (gen + 1) % 2 * 44) (h0 : b[base]? = some zb) (h1 : b[base + 1]? = some zb) (h2 : b[base + 2]? = some zb) :
    planW b [] 45 K 1 gen = plan45 K base (gen + 1) := by
  have hr : ∀ k, b[base + k]? = some zb → k < 3 → readS b [] ((base + k : Nat) : Int) = zb := fun k hk h3 => by
    unfold readS lastW hasS
    rw [hb, if_pos (by simp; omega), Int.toNat_natCast, hk]
    rfl
  unfold planW plan45 sup45
  rw [area45, bk45 hK, ← h]
  simp only [List.length_cons, List.length_nil]
  have e0 : asks b [] base [bk0 K, zb, zb] 1 = [((base : Int), bk0 K)] := by
    rw [asks, asks]
    unfold askW
    rw [hr 0 h0 (by omega)]
    simp only [List.getElem?_cons_zero, Option.getD_some, bk0_ne hK, Bool.false_eq_true, if_false, List.nil_append, Nat.add_zero]
  have e1 : asks b [] base [bk0 K, zb, zb] 2 = [((base : Int), bk0 K)] := by
    rw [asks, e0]
    unfold askW
    rw [hr 1 h1 (by omega)]
    simp
  have e2 : asks b [] base [bk0 K, zb, zb] 3 = [((base : Int), bk0 K)] := by
    rw [asks, e1]
    unfold askW
    rw [hr 2 h2 (by omega)]
    simp
  rw [show (0 + 1 + 1 + 1 : Nat) = 3 from rfl, e2]
  rfl
theorem sup45_size (K : Nat) {g : Nat} (h1 : 1 ≤ g) (hg : g ≤ 2147483647) : (sup45 K g).size = 40 := by
  refine supB_size _ ((supR_iff _).2 ?_)
  have := crc_lt (bookP 1 K (List.replicate 45 0))
  simp only
  omega
/-- The first plan of such a disk, of a state that keeps none. -/
theorem plan_first {K : Nat} (hK : K = 0 ∨ K = 2) : planW (newB 135) [] 45 K 1 0 = plan45 K 46 1 := by
  have hb : newB 135 = List.replicate 135 zb := by unfold newB; rw [if_pos (by omega)]; rfl
  have hl : (newB 135).length = 135 := by rw [hb, List.length_replicate]
  have hz : ∀ k, k < 135 → (newB 135)[k]? = some zb := fun k hk => by rw [hb, List.getElem?_replicate, if_pos hk]
  exact plan_is hK hl (gen := 0) rfl (hz 46 (by omega)) (hz 47 (by omega)) (hz 48 (by omega))
end Go.Proofs.YtnlkakbpcdfgfaaGreat
