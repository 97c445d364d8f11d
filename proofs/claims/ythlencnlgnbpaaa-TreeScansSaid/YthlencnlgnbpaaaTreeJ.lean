/- A range over a function whose iterator keeps boxes of its own that it writes: what it asks of a round, what a round asks of it, and the law of the loop. -/
import Derived.Test.YthlencnlgnbpaaaTreeS
import Derived.Test.YthlencnlgnbpaaaTreeW6a
import Derived.RangeFuncNested
import Derived.RangeFuncBound
import Derived.RangeFuncCalls
import Derived.RangeFuncLeaves
import Derived.RangeFuncBox
import Derived.Shelf.Abstract
import Derived.Shelf.RegionOpen
import Derived.OwnWalkIn
import Derived.TacticsInMore
import Derived.LoopNIn
import Derived.LoopIn
namespace Go.Proofs.Ythlencnlgnbpaaa
open Go.RowKit Go.Shelf
attribute [local go_sem] Oper.semAt_some

theorem yieldAt_wide {P : Program} {m m' l : Nat} {args : Array Value} {W : World} {R : Ending → World → Prop} (h : YieldAt Fence.wide m P l args W R) : YieldAt Fence.wide m' P l args W R := by
  obtain ⟨fn, tmps, ass, b, h1, h2⟩ := h
  exact ⟨fn, tmps, ass, b, h1, h2.1, fun c cs _ => h2.2 c cs (room_wide _)⟩
/-- A box of a type. -/
def Bt (w : World) (k : Nat) (t : TypeId) (cs : Array Value) : Prop := w.heap[k]? = some (.cells cs t (0, 0))
theorem Bt.bx {w : World} {k : Nat} {t : TypeId} {cs : Array Value} (h : Bt w k t cs) : Bx w k cs := ⟨t, h⟩
theorem Bt.new (w : World) (cs : Array Value) (t : TypeId) : Bt (w.alloc (.cells cs t)) w.heap.size t cs := heap_alloc_new w _
theorem Bt.lt {w : World} {k : Nat} {t : TypeId} {cs : Array Value} (h : Bt w k t cs) : k < w.heap.size := (Array.getElem?_eq_some_iff.1 h).1
theorem Bt.below {w w' : World} {k : Nat} {t : TypeId} {cs : Array Value} (h : Bt w k t cs) (hx : Ext w w') : Bt w' k t cs := (hx.block k h.lt).trans h
theorem Bt.other {w : World} {k : Nat} {t : TypeId} {cs : Array Value} (h : Bt w k t cs) {p : Addr} (hp : p.block ≠ k) (v : Value) : Bt (w.setCell p v) k t cs := by
  unfold Bt at h ⊢
  rw [Below.heap_setCell _ _ _ _ (by simpa using Ne.symm hp), h]
theorem Bt.set1 {w : World} {k : Nat} {t : TypeId} {a : Value} (h : Bt w k t #[a]) (v : Value) : Bt (w.setCell ⟨k, 0, none⟩ v) k t #[v] := by
  unfold Bt at h ⊢
  simp [World.setCell, Array.getElem?_modify, h]
abbrev TN : List TypeId := [53]
/-- What a round keeps: what lay at first, these blocks, and boxes of nodes. -/
structure Kw (n₀ : Nat) (S : Nat → Prop) (A B : World) : Prop where
  old : Below n₀ A B
  same : ∀ k, S k → k < A.heap.size → B.heap[k]? = A.heap[k]?
  typ : ∀ k cs t, t ∈ TN → Bt A k t cs → Bt B k t cs
theorem Kw.refl (n₀ : Nat) (S : Nat → Prop) (A : World) : Kw n₀ S A A := ⟨Below.refl _ _, fun _ _ _ => rfl, fun _ _ _ _ h => h⟩
theorem Kw.trans {n₀ : Nat} {S : Nat → Prop} {A B C : World} (h : Kw n₀ S A B) (k : Kw n₀ S B C) : Kw n₀ S A C :=
  ⟨h.old.trans k.old, fun i hi hl => (k.same i hi (Nat.lt_of_lt_of_le hl h.old.size)).trans (h.same i hi hl), fun i cs t ht hb => k.typ i cs t ht (h.typ i cs t ht hb)⟩
theorem Kw.ext {n₀ : Nat} (S : Nat → Prop) {A B : World} (h : Ext A B) (hn : n₀ ≤ A.heap.size) : Kw n₀ S A B :=
  ⟨h.mono hn, fun k _ hl => h.block k hl, fun _ _ _ _ hb => hb.below h⟩
theorem Kw.sub {n₀ : Nat} {S S' : Nat → Prop} {A B : World} (h : Kw n₀ S A B) (hs : ∀ k, S' k → S k) : Kw n₀ S' A B := ⟨h.old, fun k hk hl => h.same k (hs k hk) hl, h.typ⟩
theorem Kw.lower {n₀ n₁ : Nat} {S : Nat → Prop} {A B : World} (h : Kw n₀ S A B) (hn : n₁ ≤ n₀) : Kw n₁ S A B := ⟨h.old.mono hn, h.same, h.typ⟩
theorem Kw.set {n₀ : Nat} {S : Nat → Prop} {A : World} {k : Nat} {t : TypeId} {cs : Array Value} (hb : Bt A k t cs) (ht : t ∉ TN) (hS : ¬ S k) (hn : n₀ ≤ k) (i : Nat) (v : Value) : Kw n₀ S A (A.setCell ⟨k, i, none⟩ v) := by
  refine ⟨(Below.refl n₀ A).setCell hn v, fun j hj _ => Below.heap_setCell _ _ _ _ (fun e => hS (by subst e; exact hj)), fun j ds u hu hd => hd.other (fun e => ?_) v⟩
  cases e
  unfold Bt at hb hd
  rw [hb] at hd
  cases hd
  exact ht hu
theorem Kw.put {n₀ : Nat} {S : Nat → Prop} {A : World} {k : Nat} {o : Obj} (h : A.heap[k]? = some o) (hc : o.isCells = false) (hS : ¬ S k) (hn : n₀ ≤ k) (o' : Obj) : Kw n₀ S A (A.putObj k o') := by
  have hg := grownBy_putObj' A k o'
  have hl := (Array.getElem?_eq_some_iff.1 h).1
  refine ⟨(Below.refl n₀ A).grown hg (by omega) (fun j e => by cases e; exact hn), fun j hj hl' => hg.block j hl' (fun e => hS (by cases e; exact hj)), fun j cs t _ hb => ?_⟩
  unfold Bt at hb ⊢
  refine (hg.block j (Array.getElem?_eq_some_iff.1 hb).1 (fun e => ?_)).trans hb
  cases e
  rw [h] at hb
  cases hb
  cases hc
/-- Outside a window all stays. -/
structure Out (B c : Nat) (A A' : World) : Prop where
  os : A'.os = A.os
  tape : A'.tape = A.tape
  output : A'.output = A.output
  size : A.heap.size ≤ A'.heap.size
  same : ∀ k, k < A.heap.size → (k < B ∨ B + c ≤ k) → A'.heap[k]? = A.heap[k]?
theorem Out.ext {B c : Nat} {A A' : World} (h : Ext A A') : Out B c A A' := ⟨h.os, h.tape, h.output, h.size, fun k hk _ => h.block k hk⟩
theorem Out.sup {B c B' c' : Nat} {A A' : World} (h : Out B' c' A A') (h1 : B ≤ B') (h2 : B' + c' ≤ B + c) : Out B c A A' := ⟨h.os, h.tape, h.output, h.size, fun k hk hw => h.same k hk (by omega)⟩
theorem Out.put {B c : Nat} (A : World) {k : Nat} (o : Obj) (h1 : B ≤ k) (h2 : k < B + c) : Out B c A (A.putObj k o) := by
  have hg := grownBy_putObj' A k o
  exact ⟨hg.os, hg.tape, hg.output, hg.size, fun j hj hw => hg.block j hj (fun e => by cases e; omega)⟩
theorem Out.set {B c : Nat} (A : World) {k : Nat} (i : Nat) (v : Value) (h1 : B ≤ k) (h2 : k < B + c) : Out B c A (A.setCell ⟨k, i, none⟩ v) :=
  ⟨rfl, rfl, rfl, by simp, fun j hj hw => Below.heap_setCell _ _ _ _ (by show j ≠ k; omega)⟩
/-- What is said stays where a window's blocks alone are turned. -/
def Stays {β : Type} (B c : Nat) (J : β → World → Prop) : Prop := ∀ s A A', J s A → Out B c A A' → J s A'
theorem Stays.sub {β : Type} {B c B' c' : Nat} {J : β → World → Prop} (h : Stays B c J) (h1 : B ≤ B') (h2 : B' + c' ≤ B + c) : Stays B' c' J := fun s A A' hs ho => h s A A' hs (ho.sup h1 h2)
theorem Stays.and {β : Type} {B c : Nat} {J K : β → World → Prop} (h : Stays B c J) (k : Stays B c K) : Stays B c (fun s W => J s W ∧ K s W) := fun s A A' hs ho => ⟨h s A A' hs.1 ho, k s A A' hs.2 ho⟩
theorem stays_pure {β : Type} (B c : Nat) (p : β → Prop) : Stays B c (fun s (_ : World) => p s) := fun _ _ _ hs _ => hs
theorem stays_below {β : Type} {B c n₀ : Nat} (w₀ : World) (hn : n₀ ≤ B) (h0 : n₀ ≤ w₀.heap.size) : Stays B c (fun (_ : β) W => Below n₀ w₀ W) := fun _ _ _ hs ho =>
  hs.trans ⟨ho.os, ho.tape, ho.output, ho.size, fun k hk => ho.same k (by have := hs.size; omega) (.inl (by omega))⟩
theorem stays_size {β : Type} (B c k : Nat) : Stays B c (fun (_ : β) W => k ≤ W.heap.size) := fun _ _ _ hs ho => Nat.le_trans hs ho.size
theorem stays_bt {β : Type} {B c k : Nat} {t : TypeId} (cs : β → Array Value) (hk : k < B ∨ B + c ≤ k) : Stays B c (fun s W => Bt W k t (cs s)) := fun _ _ _ hs ho => (ho.same k (Bt.lt hs) hk).trans hs
/-- An iterator over these things: it may turn the blocks that it lays first (so many), and asks the round to keep them, and some elder ones. -/
def SeqO {α : Type} (P : Program) (g : Nat) (lb : Array Value) (encs : α → Array Value) (n₀ : Nat) (Ks : Nat → Prop) (c : Nat) (L : List α) (w : World) : Prop :=
  ∀ (l : Nat) (J Jx : List α → World → Prop) (W : World) (d : Nat), Ext w W → Stays W.heap.size c J → Stays W.heap.size c Jx →
    (∀ pre x W1 m, J pre W1 → W.heap.size + c ≤ W1.heap.size → pre ++ [x] <+: L → YieldAt Fence.wide m P l (encs x) W1 fun e W' =>
      Kw n₀ (fun k => Ks k ∨ (W.heap.size ≤ k ∧ k < W.heap.size + c)) W1 W' ∧ ((e = .returned (.bool true) ∧ J (pre ++ [x]) W') ∨ (e = .returned (.bool false) ∧ Jx (pre ++ [x]) W'))) →
    J [] W →
    CallsIn Fence.wide d P g (#[.func (.yield l) #[] #[]] ++ lb) W fun e W' => (∃ v, e = .returned v) ∧ (J L W' ∨ ∃ q, q <+: L ∧ Jx q W')
/-- The loop's record, and the block of what is put off. -/
structure Rec (W : World) (D : Nat) (r : Loop) : Prop where
  lp : W.heap[D + 1]? = some (.loop r)
  row : W.heap[D]? = some (.deferred (some []))
theorem Rec.keep {W W' : World} {D : Nat} {r : Loop} (h : Rec W D r) {n₀ : Nat} {S : Nat → Prop} (k : Kw n₀ S W W') (h0 : S D) (h1 : S (D + 1)) : Rec W' D r :=
  ⟨(k.same _ h1 (Array.getElem?_eq_some_iff.1 h.lp).1).trans h.lp, (k.same _ h0 (Array.getElem?_eq_some_iff.1 h.row).1).trans h.row⟩
theorem Rec.put {W : World} {D : Nat} {r : Loop} (h : Rec W D r) (r' : Loop) : Rec (W.putObj (D + 1) (.loop r')) D r' :=
  ⟨World.putObj_heap_same (Array.getElem?_eq_some_iff.1 h.lp).1, (World.putObj_heap_other (by omega)).trans h.row⟩
theorem Rec.stays {B c D : Nat} (r : Loop) (h : D + 2 ≤ B) : Stays B c (fun (_ : Unit) W => Rec W D r) := fun _ A A' hs ho =>
  ⟨(ho.same _ (Array.getElem?_eq_some_iff.1 hs.lp).1 (.inl (by omega))).trans hs.lp, (ho.same _ (Array.getElem?_eq_some_iff.1 hs.row).1 (.inl (by omega))).trans hs.row⟩
/-- How a round's body may be left. -/
def leftAt {α : Type} (n₀ : Nat) (S : Nat → Prop) (I : List α → World → Prop) (Ix : Code → List α → World → Prop) (xs : List α) (W : World) : Exit → Act → World → Prop
  | .normal, _, W' => Kw n₀ S W W' ∧ I xs W'
  | .ret, _, W' => Kw n₀ S W W' ∧ Ix .ret xs W'
  | .exit id, _, W' => Kw n₀ S W W' ∧ Ix (.exit id) xs W'
  | .goto t, _, W' => Kw n₀ S W W' ∧ Ix (.goto t) xs W'
  | .panic _, _, _ => False
  | .outgrown, _, _ => False
theorem range_own {α : Type} {P : Program} {g : Operand} {ps : Array Tmp} {assign body : Code} {Q : Exit → Act → World → Prop} {a : Act} {w : World} {n m : Nat}
    {gf : Nat} {lb : Array Value} (hg : a.eval g = .func (.func gf) #[] lb) (eg : ∀ args w, (callFunc gf args).run P w = .ok (.enter gf args) w)
    {encs : α → Array Value} {n₀ : Nat} {Ks : Nat → Prop} {c : Nat} {L : List α} {w0 : World} (hseq : SeqO P gf lb encs n₀ Ks c L w0) (hx : Ext w0 w) (hn₀ : n₀ ≤ w.heap.size) (hKs : ∀ k, Ks k → k < w.heap.size) (hps : ∀ x, (encs x).size = ps.size)
    (I : List α → World → Prop) (Ix : Code → List α → World → Prop) (hI : Stays w.heap.size (2 + c) I) (hIx : ∀ k, Stays w.heap.size (2 + c) (Ix k)) (h0 : I [] w)
    (Ax : α → Act → World → Prop) (hAx : ∀ x a', Stays w.heap.size (2 + c) (fun (_ : Unit) W => Ax x a' W))
    (hassign : ∀ (l : Nat) (pre : List α) (x : α) (W : World) (K : Act → World → Prop), I pre W → w.heap.size + (2 + c) ≤ W.heap.size → pre ++ [x] <+: L →
      (∀ a' W', Kw n₀ (fun k => Ks k ∨ (w.heap.size ≤ k ∧ k < w.heap.size + (2 + c))) W W' → I pre W' → Ax x a' W' → K a' W') →
      assign.wpIn (Fence.wide.inRound l) m P (Exit.then K (fun _ _ _ => False)) { tmps := (ps.zip (encs x)).foldl (fun t (p, v) => t.setIfInBounds p v) a.tmps, defers := [] } W)
    (hbody : ∀ (l : Nat) (pre : List α) (x : α) (a' : Act) (W : World), I pre W → Ax x a' W → w.heap.size + (2 + c) ≤ W.heap.size → pre ++ [x] <+: L →
      body.wpIn (Fence.wide.inRound l) m P (leftAt n₀ (fun k => Ks k ∨ (w.heap.size ≤ k ∧ k < w.heap.size + (2 + c))) I Ix (pre ++ [x]) W) a' W)
    (hdone : ∀ (D : Nat) (W : World), D = w.heap.size → I L W → W.heap[D]? = some (.deferred (some [])) → Q .normal { a with defers := { target := .collected D, args := #[] } :: a.defers } W)
    (hstop : ∀ (D : Nat) (k : Code) (q : List α) (W : World), D = w.heap.size → q <+: L → Ix k q W → W.heap[D]? = some (.deferred (some [])) → k.wpIn Fence.wide n P Q { a with defers := { target := .collected D, args := #[] } :: a.defers } W) :
    (Code.rangeFunc g ps assign body).wpIn Fence.wide n P Q a w := by
  refine wpIn_rangeFunc fun fn hfn => ?_
  let R : LoopState → Option Code → Loop := fun st pe => { state := st, pending := pe, fn, tmps := a.tmps, params := ps, assign, body, defers := w.heap.size }
  obtain ⟨W1, hW1⟩ : ∃ W1, (w.alloc (.deferred (some []))).alloc (.loop (R .ready none)) = W1 := ⟨_, rfl⟩
  have hX1 : Ext w W1 := by rw [← hW1]; exact ((Ext.refl w).alloc _).alloc _
  have hZ1 : W1.heap.size = w.heap.size + 2 := by rw [← hW1]; simp
  have hR1 : Rec W1 w.heap.size (R .ready none) := by
    rw [← hW1]
    refine ⟨?_, (Below.heap_alloc _ _ _ (by simp)).trans (World.alloc_heap_new w _)⟩
    have := World.alloc_heap_new (w.alloc (.deferred (some []))) (.loop (R .ready none))
    rwa [World.size_alloc] at this
  refine ⟨w.heap.size + 1, [{ target := .collected w.heap.size, args := #[] }], W1, { target := .fn (.func gf) lb, args := #[.func (.yield (w.heap.size + 1)) #[] #[]] }, W1, gf, #[.func (.yield (w.heap.size + 1)) #[] #[]] ++ lb, W1,
    by rw [← hW1]; exact run_enterLoop_outer _ _ _ _ _, by simp only [resolve, hg]; simp [go_sem], fun _ _ => trivial, by simp [invoke, go_sem, eg], fun h => by simp [Fence.wide] at h, ?_⟩
  have hS0 : (fun k => Ks k ∨ (w.heap.size ≤ k ∧ k < w.heap.size + (2 + c))) w.heap.size := .inr ⟨Nat.le_refl _, by omega⟩
  have hS1 : (fun k => Ks k ∨ (w.heap.size ≤ k ∧ k < w.heap.size + (2 + c))) (w.heap.size + 1) := .inr ⟨by omega, by omega⟩
  have hsub : ∀ k, (Ks k ∨ (W1.heap.size ≤ k ∧ k < W1.heap.size + c)) → (Ks k ∨ (w.heap.size ≤ k ∧ k < w.heap.size + (2 + c))) := fun k h => h.imp id (fun h => by omega)
  have hnot : ¬ (Ks (w.heap.size + 1) ∨ (W1.heap.size ≤ w.heap.size + 1 ∧ w.heap.size + 1 < W1.heap.size + c)) := fun h => by
    rcases h with h | h
    · have := hKs _ h; omega
    · omega
  have hput : ∀ (W : World) (r r' : Loop), Rec W w.heap.size r → Kw n₀ (fun k => Ks k ∨ (W1.heap.size ≤ k ∧ k < W1.heap.size + c)) W (W.putObj (w.heap.size + 1) (.loop r')) :=
    fun W r r' h => Kw.put h.lp rfl hnot (by omega) _
  refine (hseq (w.heap.size + 1) (fun pre W => I pre W ∧ Rec W w.heap.size (R .ready none)) (fun q W => ∃ k, Ix k q W ∧ Rec W w.heap.size (R .done (some k))) W1 _ (hx.trans hX1)
    ((hI.sub (by omega) (by omega)).and (fun s => Rec.stays _ (by omega) ()))
    (fun s A A' ⟨k, h1, h2⟩ ho => ⟨k, hIx k s A A' h1 (ho.sup (by omega) (by omega)), Rec.stays _ (by omega) () A A' h2 ho⟩) ?_ ⟨hI _ _ _ h0 (.ext hX1), hR1⟩).mono ?_
  · rintro pre x W m' ⟨hi, hr⟩ hz hp
    have hy := run_yield (P := P) (args := encs x) hr.lp (hps x)
    refine yieldAt_wide (m := m) ⟨fn, _, assign, body, hy, roundIn_of_wpIn hfn (hassign _ pre x W _ hi (by omega) hp ?_)⟩
    intro a' Wa hka hia hax
    have hra := hr.keep hka hS0 hS1
    refine ⟨_, run_beginRound hra.lp rfl, ?_⟩
    have hro : Out w.heap.size (2 + c) Wa (Wa.putObj (w.heap.size + 1) (.loop { R .ready none with state := .busy })) := .put _ _ (by omega) (by omega)
    have hrb := hra.put { R .ready none with state := .busy }
    refine wpIn_mono (hbody _ pre x a' _ (hI _ _ _ hia hro) (hAx x a' () _ _ hax hro) (Nat.le_trans (show w.heap.size + (2 + c) ≤ W.heap.size by omega) (Nat.le_trans hka.old.size hro.size)) hp) ?_
    have fin : ∀ (jump : Option Code) (W3 : World), Kw n₀ (fun k => Ks k ∨ (w.heap.size ≤ k ∧ k < w.heap.size + (2 + c))) (Wa.putObj (w.heap.size + 1) (.loop { R .ready none with state := .busy })) W3 →
        ∃ W4, (Instr.endRound (w.heap.size + 1) jump).run P W3 = .ok (.bool jump.isNone) W4 ∧ Rec W4 w.heap.size (R (if jump.isNone then .ready else .done) jump) ∧ Out w.heap.size (2 + c) W3 W4 ∧ Kw n₀ (fun k => Ks k ∨ (W1.heap.size ≤ k ∧ k < W1.heap.size + c)) W W4 := fun jump W3 hk3 => by
      have hr3 := hrb.keep hk3 hS0 hS1
      exact ⟨_, run_endRound jump hr3.lp, hr3.put _, .put _ _ (by omega) (by omega), (((hka.sub hsub).trans (hput _ _ _ hra)).trans (hk3.sub hsub)).trans (hput _ _ _ hr3)⟩
    rintro e a3 W3 hp3
    cases e with
    | normal =>
      obtain ⟨W4, e4, hr4, ho4, hk4⟩ := fin none W3 hp3.1
      exact ⟨_, W4, e4, hk4, .inl ⟨rfl, hI _ _ _ hp3.2 ho4, hr4⟩⟩
    | ret =>
      obtain ⟨W4, e4, hr4, ho4, hk4⟩ := fin (some .ret) W3 hp3.1
      exact ⟨_, W4, e4, hk4, .inr ⟨rfl, _, hIx _ _ _ _ hp3.2 ho4, hr4⟩⟩
    | exit id =>
      obtain ⟨W4, e4, hr4, ho4, hk4⟩ := fin (some (.exit id)) W3 hp3.1
      exact ⟨_, W4, e4, hk4, .inr ⟨rfl, _, hIx _ _ _ _ hp3.2 ho4, hr4⟩⟩
    | goto t =>
      obtain ⟨W4, e4, hr4, ho4, hk4⟩ := fin (some (.goto t)) W3 hp3.1
      exact ⟨_, W4, e4, hk4, .inr ⟨rfl, _, hIx _ _ _ _ hp3.2 ho4, hr4⟩⟩
    | panic ch => exact hp3.elim
    | outgrown => exact hp3.elim
  · rintro e W2 ⟨⟨v, rfl⟩, (⟨hi, hr⟩ | ⟨q, hq, k, hi, hr⟩)⟩
    · exact ⟨none, _, run_endLoop hr.lp (by simp [R]), hdone _ _ rfl (hI _ _ _ hi (.put _ _ (by omega) (by omega))) ((World.putObj_heap_other (by omega)).trans hr.row)⟩
    · exact ⟨some k, _, run_endLoop hr.lp (by simp [R]), hstop _ k q _ rfl hq (hIx _ _ _ _ hi (.put _ _ (by omega) (by omega))) ((World.putObj_heap_other (by omega)).trans hr.row)⟩
end Go.Proofs.Ythlencnlgnbpaaa
