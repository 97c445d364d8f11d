/- A range over an iterator that only makes new blocks: what is yielded is told in the world as it is then, and the round keeps what the iterator reads. Super of package mount as it landed, of any right disk. The nodes that package mount reads, one by one: its iterator, as it landed. Cells of a row of the call's own, whose nodes are rows of the call's own: as package mount fills them in. areVols of package mount, as it landed. -/
import Derived.Test.YtjbfopnkeclfgaaGreatK39
import Derived.Test.YtjbfopnkeclfgaaGreatK41
import Derived.Test.YtjbfopnkeclfgaaGreatK07
import Derived.Test.YtjbfopnkeclfgaaGreatK42
import Derived.Test.YtjbfopnkeclfgaaGreatK43
namespace Go.Proofs.YtjbfopnkeclfgaaGreat
set_option maxRecDepth 20000
open Go.RowKit Go.Shelf
attribute [local go_sem] Oper.semAt_some

/-- All blocks of cells are as they were; records of loops, and what is put off, may not be. -/
structure OutC (n : Nat) (A A' : World) : Prop where
  os : A'.os = A.os
  tape : A'.tape = A.tape
  output : A'.output = A.output
  size : A.heap.size ≤ A'.heap.size
  cells : ∀ (k : Nat) (cs : Array Value) (t : TypeId) (fr : Nat × Nat), A.heap[k]? = some (Obj.cells cs t fr) → A'.heap[k]? = some (Obj.cells cs t fr)
  low : ∀ k, k < n → k < A.heap.size → A'.heap[k]? = A.heap[k]?
theorem OutC.ext {n : Nat} {A A' : World} (h : Ext A A') : OutC n A A' := ⟨h.os, h.tape, h.output, h.size, fun k _ _ _ hk => (h.block k (Array.getElem?_eq_some_iff.1 hk).1).trans hk, fun k _ hk => h.block k hk⟩
theorem OutC.trans {n : Nat} {A B C : World} (h : OutC n A B) (k : OutC n B C) : OutC n A C := ⟨k.os.trans h.os, k.tape.trans h.tape, k.output.trans h.output, Nat.le_trans h.size k.size, fun i cs t fr hi => k.cells i cs t fr (h.cells i cs t fr hi), fun i hi hl => (k.low i hi (Nat.lt_of_lt_of_le hl h.size)).trans (h.low i hi hl)⟩
theorem OutC.put {n : Nat} {A : World} {k : Nat} {o o' : Obj} (hn : n ≤ k) (h : A.heap[k]? = some o) (ho : ∀ (cs : Array Value) (t : TypeId) (fr : Nat × Nat), o ≠ Obj.cells cs t fr) : OutC n A (A.putObj k o') := by
  have hg := grownBy_putObj' A k o'
  refine ⟨hg.os, hg.tape, hg.output, hg.size, fun j cs t fr hj => ?_, fun j hj hl => hg.block j hl (fun e => by have := Option.some.inj e; omega)⟩
  have hne : j ≠ k := fun e => by
    subst e
    rw [h] at hj
    exact ho cs t fr (Option.some.inj hj)
  exact (hg.block j (Array.getElem?_eq_some_iff.1 hj).1 (fun e => hne (Option.some.inj e))).trans hj
def StaysC {β : Type} (n : Nat) (J : β → World → Prop) : Prop := ∀ s A A', J s A → OutC n A A' → J s A'
theorem StaysC.and {β : Type} {n : Nat} {J K : β → World → Prop} (h : StaysC n J) (k : StaysC n K) : StaysC n (fun s W => J s W ∧ K s W) := fun s A A' hs ho => ⟨h s A A' hs.1 ho, k s A A' hs.2 ho⟩
/-- An iterator over these things: E tells what is yielded in the world as it is then; T is what the round keeps of what the iterator reads; besides, what lay at first, and some elder blocks. -/
def SeqV {α : Type} (P : Program) (g : Nat) (lb : Array Value) (E : α → Array Value → World → Prop) (n₀ : Nat) (Ks : Nat → Prop) (T : World → Prop) (L : List α) (w : World) : Prop :=
  ∀ (l : Nat) (J Jx : List α → World → Prop) (W : World) (d : Nat), Ext w W → (∀ pre A A', J pre A → Ext A A' → J pre A') → (∀ pre W1, J pre W1 → T W1) →
    (∀ pre x args W1 m, J pre W1 → W.heap.size ≤ W1.heap.size → pre ++ [x] <+: L → E x args W1 → YieldAt Fence.wide m P l args W1 fun e W' =>
      Kp n₀ Ks W1 W' ∧ ((e = .returned (.bool true) ∧ J (pre ++ [x]) W') ∨ (e = .returned (.bool false) ∧ Jx (pre ++ [x]) W'))) →
    J [] W →
    CallsIn Fence.wide d P g (#[.func (.yield l) #[] #[]] ++ lb) W fun e W' => (∃ v, e = .returned v) ∧ (J L W' ∨ ∃ q, q <+: L ∧ Jx q W')
/-- How a round's body may be left. -/
def leftV {α : Type} (n₀ : Nat) (S : Nat → Prop) (I : List α → World → Prop) (Ix : Code → List α → World → Prop) (xs : List α) (W : World) : Exit → Act → World → Prop
  | .normal, _, W' => Kp n₀ S W W' ∧ I xs W'
  | .ret, _, W' => Kp n₀ S W W' ∧ Ix .ret xs W'
  | .exit id, _, W' => Kp n₀ S W W' ∧ Ix (.exit id) xs W'
  | .goto t, _, W' => Kp n₀ S W W' ∧ Ix (.goto t) xs W'
  | .panic _, _, _ => False
  | .outgrown, _, _ => False
/-- The loop's record, and the block of what is put off. -/
structure RecV (W : World) (D : Nat) (r : Loop) : Prop where
  lp : W.heap[D + 1]? = some (.loop r)
  row : W.heap[D]? = some (.deferred (some []))
theorem RecV.keepS {W W' : World} {D : Nat} {r : Loop} (h : RecV W D r) {n₀ : Nat} {S : Nat → Prop} (k : Kp n₀ S W W') (h0 : S D) (h1 : S (D + 1)) : RecV W' D r :=
  ⟨(k.same _ h1 (Array.getElem?_eq_some_iff.1 h.lp).1).trans h.lp, (k.same _ h0 (Array.getElem?_eq_some_iff.1 h.row).1).trans h.row⟩
theorem RecV.putL {W : World} {D : Nat} {r : Loop} (h : RecV W D r) (r' : Loop) : RecV (W.putObj (D + 1) (.loop r')) D r' :=
  ⟨World.putObj_heap_same (Array.getElem?_eq_some_iff.1 h.lp).1, (World.putObj_heap_other (by omega)).trans h.row⟩
theorem RecV.ext {W W' : World} {D : Nat} {r : Loop} (h : RecV W D r) (hx : Ext W W') : RecV W' D r :=
  ⟨(hx.block _ (Array.getElem?_eq_some_iff.1 h.lp).1).trans h.lp, (hx.block _ (Array.getElem?_eq_some_iff.1 h.row).1).trans h.row⟩
theorem RecV.out {W : World} {D : Nat} {r : Loop} (h : RecV W D r) {n : Nat} (hn : n ≤ D + 1) (o' : Obj) : OutC n W (W.putObj (D + 1) o') := OutC.put hn h.lp (fun _ _ _ e => by cases e)
theorem range_ownV {α : Type} {P : Program} {g : Operand} {ps : Array Tmp} {assign body : Code} {Q : Exit → Act → World → Prop} {a : Act} {w : World} {n m : Nat} {F : Fence}
    (hF : F = Fence.wide) {gf : Nat} {lb : Array Value} (hg : a.eval g = .func (.func gf) #[] lb) (eg : ∀ args w, (callFunc gf args).run P w = .ok (.enter gf args) w)
    {E : α → Array Value → World → Prop} {T : World → Prop} {n₀ : Nat} {Ks : Nat → Prop} {L : List α} {w0 : World} (hseq : SeqV P gf lb E n₀ Ks T L w0) (hx : Ext w0 w) (hn₀ : n₀ ≤ w.heap.size) (hKs : ∀ k, Ks k → k < w.heap.size) (hps : ∀ x args W, E x args W → args.size = ps.size)
    (I : List α → World → Prop) (Ix : Code → List α → World → Prop) (hI : StaysC w.heap.size I) (hIx : ∀ k, StaysC w.heap.size (Ix k)) (hT : ∀ pre W, I pre W → T W) (h0 : ∀ W, Ext w W → I [] W)
    (Ax : α → Act → World → Prop) (hAx : ∀ x a', StaysC w.heap.size (fun (_ : Unit) W => Ax x a' W))
    (hassign : ∀ (l : Nat) (pre : List α) (x : α) (args : Array Value) (W : World) (K : Act → World → Prop), I pre W → w.heap.size ≤ W.heap.size → pre ++ [x] <+: L → E x args W →
      (∀ a' W', Kp n₀ (fun k => Ks k ∨ (w.heap.size ≤ k ∧ k < w.heap.size + 2)) W W' → I pre W' → Ax x a' W' → K a' W') →
      assign.wpIn (Fence.wide.inRound l) m P (Exit.then K (fun _ _ _ => False)) { tmps := (ps.zip args).foldl (fun t (p, v) => t.setIfInBounds p v) a.tmps, defers := [] } W)
    (hbody : ∀ (l : Nat) (pre : List α) (x : α) (a' : Act) (W : World), I pre W → Ax x a' W → w.heap.size + 2 ≤ W.heap.size → pre ++ [x] <+: L →
      body.wpIn (Fence.wide.inRound l) m P (leftV n₀ (fun k => Ks k ∨ (w.heap.size ≤ k ∧ k < w.heap.size + 2)) I Ix (pre ++ [x]) W) a' W)
    (hdone : ∀ (D : Nat) (W : World), D = w.heap.size → I L W → W.heap[D]? = some (.deferred (some [])) → Q .normal { a with defers := { target := .collected D, args := #[] } :: a.defers } W)
    (hstop : ∀ (D : Nat) (k : Code) (q : List α) (W : World), D = w.heap.size → q <+: L → Ix k q W → W.heap[D]? = some (.deferred (some [])) → k.wpIn F n P Q { a with defers := { target := .collected D, args := #[] } :: a.defers } W) :
    (Code.rangeFunc g ps assign body).wpIn F n P Q a w := by
  subst hF
  refine wpIn_rangeFunc fun fn hfn => ?_
  let R : LoopState → Option Code → Loop := fun st pe => { state := st, pending := pe, fn, tmps := a.tmps, params := ps, assign, body, defers := w.heap.size }
  obtain ⟨W1, hW1⟩ : ∃ W1, (w.alloc (.deferred (some []))).alloc (.loop (R .ready none)) = W1 := ⟨_, rfl⟩
  have hX1 : Ext w W1 := by rw [← hW1]; exact ((Ext.refl w).alloc _).alloc _
  have hZ1 : W1.heap.size = w.heap.size + 2 := by rw [← hW1]; simp
  have hR1 : RecV W1 w.heap.size (R .ready none) := by
    rw [← hW1]
    refine ⟨?_, (Below.heap_alloc _ _ _ (by simp)).trans (World.alloc_heap_new w _)⟩
    have := World.alloc_heap_new (w.alloc (.deferred (some []))) (.loop (R .ready none))
    rwa [World.size_alloc] at this
  refine ⟨w.heap.size + 1, [{ target := .collected w.heap.size, args := #[] }], W1, { target := .fn (.func gf) lb, args := #[.func (.yield (w.heap.size + 1)) #[] #[]] }, W1, gf, #[.func (.yield (w.heap.size + 1)) #[] #[]] ++ lb, W1,
    by rw [← hW1]; exact run_enterLoop_outer _ _ _ _ _, by simp only [resolve, hg]; simp [go_sem], fun _ _ => trivial, by simp [invoke, go_sem, eg], fun h => by simp [Fence.wide] at h, ?_⟩
  have hnot : ¬ Ks (w.heap.size + 1) := fun h => by have := hKs _ h; omega
  have hput : ∀ (W : World) (r r' : Loop), RecV W w.heap.size r → Kp n₀ Ks W (W.putObj (w.heap.size + 1) (.loop r')) :=
    fun W r r' h => Kp.put W hnot (by omega) (Array.getElem?_eq_some_iff.1 h.lp).1 _
  have hS0 : (fun k => Ks k ∨ (w.heap.size ≤ k ∧ k < w.heap.size + 2)) w.heap.size := .inr ⟨Nat.le_refl _, by omega⟩
  have hS1 : (fun k => Ks k ∨ (w.heap.size ≤ k ∧ k < w.heap.size + 2)) (w.heap.size + 1) := .inr ⟨by omega, by omega⟩
  refine (hseq (w.heap.size + 1) (fun pre W => I pre W ∧ RecV W w.heap.size (R .ready none)) (fun q W => ∃ k, Ix k q W ∧ RecV W w.heap.size (R .done (some k))) W1 _ (hx.trans hX1)
    (fun pre A A' h hx => ⟨hI pre A A' h.1 (.ext hx), h.2.ext hx⟩) (fun pre W h => hT pre W h.1) ?_ ⟨h0 W1 hX1, hR1⟩).mono ?_
  · rintro pre x args W m' ⟨hi, hr⟩ hz hp he
    have hy := run_yield (P := P) (args := args) hr.lp (hps x args W he)
    refine yieldAt_wide (m := m) ⟨fn, _, assign, body, hy, roundIn_of_wpIn hfn (hassign _ pre x args W _ hi (by omega) hp he ?_)⟩
    intro a' Wa hka hia hax
    have hra := hr.keepS hka hS0 hS1
    refine ⟨_, run_beginRound hra.lp rfl, ?_⟩
    have hro : OutC w.heap.size Wa (Wa.putObj (w.heap.size + 1) (.loop { R .ready none with state := .busy })) := hra.out (Nat.le_succ _) _
    have hrb := hra.putL { R .ready none with state := .busy }
    refine wpIn_mono (hbody _ pre x a' _ (hI _ _ _ hia hro) (hAx x a' () _ _ hax hro) (Nat.le_trans (by have := hka.old.size; omega) hro.size) hp) ?_
    have fin : ∀ (jump : Option Code) (W3 : World), Kp n₀ (fun k => Ks k ∨ (w.heap.size ≤ k ∧ k < w.heap.size + 2)) (Wa.putObj (w.heap.size + 1) (.loop { R .ready none with state := .busy })) W3 →
        ∃ W4, (Instr.endRound (w.heap.size + 1) jump).run P W3 = .ok (.bool jump.isNone) W4 ∧ RecV W4 w.heap.size (R (if jump.isNone then .ready else .done) jump) ∧ OutC w.heap.size W3 W4 ∧ Kp n₀ Ks W W4 := fun jump W3 hk3 => by
      have hr3 := hrb.keepS hk3 hS0 hS1
      exact ⟨_, run_endRound jump hr3.lp, hr3.putL _, hr3.out (Nat.le_succ _) _, (((hka.sub (fun k h => .inl h)).trans (hput _ _ _ hra)).trans (hk3.sub (fun k h => .inl h))).trans (hput _ _ _ hr3)⟩
    rintro e a3 W3 hp3
    cases e with
    | normal =>
      obtain ⟨W4, e4, hr4, ho4, hk4⟩ := fin none W3 hp3.1
      exact ⟨_, W4, e4, hk4, .inl ⟨rfl, hI _ _ _ hp3.2 ho4, hr4⟩⟩
    | ret =>
      obtain ⟨W4, e4, hr4, ho4, hk4⟩ := fin (some .ret) W3 hp3.1
      exact ⟨_, W4, e4, hk4, .inr ⟨rfl, _, hIx _ _ _ _ hp3.2 ho4, hr4⟩⟩
    | exit id =>
      obtain ⟨W4, e4, hr4, ho4, hk4⟩ := fin (some (.exit id)) W3 hp3.1
      exact ⟨_, W4, e4, hk4, .inr ⟨rfl, _, hIx _ _ _ _ hp3.2 ho4, hr4⟩⟩
    | goto t =>
      obtain ⟨W4, e4, hr4, ho4, hk4⟩ := fin (some (.goto t)) W3 hp3.1
      exact ⟨_, W4, e4, hk4, .inr ⟨rfl, _, hIx _ _ _ _ hp3.2 ho4, hr4⟩⟩
    | panic ch => exact hp3.elim
    | outgrown => exact hp3.elim
  · rintro e W2 ⟨⟨v, rfl⟩, (⟨hi, hr⟩ | ⟨q, hq, k, hi, hr⟩)⟩
    · exact ⟨none, _, run_endLoop hr.lp (by simp [R]), hdone _ _ rfl (hI _ _ _ hi (hr.out (Nat.le_succ _) _)) ((World.putObj_heap_other (by omega)).trans hr.row)⟩
    · exact ⟨some k, _, run_endLoop hr.lp (by simp [R]), hstop _ k q _ rfl hq (hIx _ _ _ _ hi (hr.out (Nat.le_succ _) _)) ((World.putObj_heap_other (by omega)).trans hr.row)⟩
end Go.Proofs.YtjbfopnkeclfgaaGreat
namespace Go.Proofs.YtjbfopnkeclfgaaGreat
set_option maxRecDepth 20000
open Go.RowKit
attribute [local go_sem ↓] Go.wp_at_zero Go.wp_at_succ

theorem hasS_nat {n k : Nat} (h : k < n) : hasS n (k : Int) = true := by
  unfold hasS; simp; omega
theorem write1_get {b : List ByteArray} {w : Wr} {i : Nat} (h : i < b.length) (h' : i < (write1 b w).length) : (write1 b w)[i] = if w.1 = (i : Int) then w.2 else b[i] := by
  unfold write1 at h' ⊢
  by_cases hh : hasS b.length w.1 = true
  · simp only [hh, if_true] at h' ⊢
    have h2 := hh
    unfold hasS at h2
    simp only [Bool.and_eq_true, decide_eq_true_eq] at h2
    rw [List.getElem_set]
    by_cases e : w.1 = (i : Int)
    · rw [if_pos (by omega), if_pos e]
    · rw [if_neg (by omega), if_neg e]
  · simp only [hh, if_false, Bool.false_eq_true] at h' ⊢
    exact (if_neg (fun e => hh (by rw [e]; exact hasS_nat h))).symm
theorem writeL_get : ∀ (m : List Wr) (b : List ByteArray) (i : Nat) (h : i < b.length) (h' : i < (writeL b m).length), (writeL b m)[i] = lastW m (i : Int) b[i]
  | [], b, i, h, h' => rfl
  | w :: m, b, i, h, h' => by
    have h1 : i < (write1 b w).length := by rw [write1_length]; exact h
    have := writeL_get m (write1 b w) i h1 h'
    rw [write1_get h h1] at this
    exact this
/-- What is read of a disk on which writes wait is what its blocks are with them. -/
theorem blk_read {b : List ByteArray} {l : List Wr} {i : Nat} (h : i < b.length) : readS b l (i : Int) = blk (writeL b l) i := by
  have h' : i < (writeL b l).length := by rw [writeL_length]; exact h
  unfold readS blk
  rw [if_pos (hasS_nat h), List.getD_eq_getElem?_getD, List.getElem?_eq_getElem h', Option.getD_some, writeL_get l b i h h', show ((i : Int)).toNat = i from rfl, List.getElem?_eq_getElem h]
  rfl
theorem blk_size {B : List ByteArray} (h : B.all okB = true) {i : Nat} (hi : i < B.length) : (blk B i).size = 40 := by
  unfold blk
  rw [List.getD_eq_getElem?_getD, List.getElem?_eq_getElem hi, Option.getD_some]
  have := List.all_eq_true.1 h _ (List.getElem_mem hi)
  unfold okB at this
  have h2 : ((B[i].size : Int) == 40) = true := this
  simp only [beq_iff_eq] at h2
  omega
theorem readE_in {b : List ByteArray} {i : Nat} (h : i < b.length) : readE b (i : Int) = 0 := by unfold readE; rw [if_pos (hasS_nat h)]
theorem readE_out {b : List ByteArray} {i : Nat} (h : b.length ≤ i) : readE b (i : Int) = 1 := by
  unfold readE
  rw [if_neg]
  unfold hasS
  simp
  omega
set_option maxRecDepth 100000 in
set_option maxHeartbeats 1600000 in
theorem mtSuper_any (A A' : Option Addr) (b : List ByteArray) (l : List Wr) (c c' : Nat) (w : World) (hr : rightS b l = true) (hb : b.length ≤ 135) (hl : l.length ≤ 200) (hA : Sl w A b.length c (b.map sv)) (hA' : Sl w A' l.length c' (wvs l)) :
    Calls Tryz.prog 8 #[.agg #[.slice A b.length c, .slice A' l.length c']] w fun e w' => e = .returned (.tuple #[.agg #[.int .i64 (supM (writeL b l)).g, .int .i64 (supM (writeL b l)).z, .int .i64 (supM (writeL b l)).s], .int .i64 (supME (writeL b l))]) ∧ Ext w w' := by
  have hok := okD_of hr hb
  have RA := Lib.hid (fun w' (hx : Ext w w') => readD_any A A' b l c c' 0 w' (by omega) (by omega) (hA.cells.ext hx) (hA'.cells.ext hx))
  have RB := Lib.hid (fun w' (hx : Ext w w') => readD_any A A' b l c c' 1 w' (by omega) (by omega) (hA.cells.ext hx) (hA'.cells.ext hx))
  have hb0 : 0 < b.length := by have := hok.1; rw [writeL_length] at this; omega
  rw [show (0 : Int) = ((0 : Nat) : Int) from rfl, readE_in hb0, blk_read hb0] at RA
  obtain ⟨W, hW⟩ : ∃ W, (w.alloc (.cells #[.slice A b.length c, .slice A' l.length c'] 25)).alloc (.cells #[.int .i64 0, .int .i64 0, .int .i64 0] 40) = W := ⟨_, rfl⟩
  obtain ⟨hx, hb1, hb2⟩ := allocs2 hW
  have HX := Lib.hid hx
  have B1 := Lib.hid hb1
  have B2 := Lib.hid hb2
  have HW := Lib.hid hW
  obtain ⟨p0, p1, _⟩ := hb1.read2
  by_cases h2 : 2 ≤ b.length
  · have hs : supM (writeL b l) = pickX (blk (writeL b l) 0) (blk (writeL b l) 1) := by unfold supM; rw [writeL_length, if_pos h2]
    have he : supME (writeL b l) = pickE (blk (writeL b l) 0) (blk (writeL b l) 1) := by unfold supME; rw [writeL_length, if_pos h2]
    rw [hs, he]
    rw [show (1 : Int) = ((1 : Nat) : Int) from rfl, readE_in (show 1 < b.length by omega), blk_read (show 1 < b.length by omega)] at RB
    have h0 := blk_size hok.2.2 (i := 0) (by rw [writeL_length]; omega)
    have h1 := blk_size hok.2.2 (i := 1) (by rw [writeL_length]; omega)
    generalize blk (writeL b l) 0 = s0 at *
    generalize blk (writeL b l) 1 = s1 at *
    have RP := Lib.hid (fun w' => slotPick_any s0 s1 w' (by unfold maxLen; omega) (by unfold maxLen; omega))
    unfold pickV at RP
    generalize pickX s0 s1 = px at *
    generalize pickE s0 s1 = pe at *
    generalize pickI s0 s1 = pi at *
    obtain ⟨g, z, s⟩ := px
    unfold Sup.v at RP
    simp only at RP ⊢
    clear hs he h0 h1 hok hr hb hl hA hA' hb0 h2 hx hb1 hb2 hW
    go_enter Tryz.func8, Tryz.ntmps8
    go_wp2_with (go_at_call 20; refine stop_here ?_)
    refine stop_on ?_
    rw [HW.out]
    refine (RA.out _ HX.out).mono ?_
    rintro e w2 ⟨rfl, hx2⟩
    have X2 := Lib.hid (HX.out.trans hx2)
    clear p0 p1
    obtain ⟨p0, p1, _⟩ := (B1.out.ext hx2).read2
    have Y2 := Lib.hid hx2
    clear hx2
    go_wp2_with (go_at_call 20; refine stop_here ?_)
    refine stop_on ?_
    refine (RB.out _ X2.out).mono ?_
    rintro e w3 ⟨rfl, hx3⟩
    have Y3 := Lib.hid (Y2.out.trans hx3)
    clear hx3 p0 p1
    go_wp2_with (go_at_call 21; refine stop_here ?_)
    refine stop_on ?_
    refine (RP.out _).mono ?_
    rintro e w4 ⟨rfl, hx4⟩
    have Y4 := Lib.hid (Y3.out.trans hx4)
    clear hx4
    have hyb := Bx.new w4 #[.int .i64 0, .int .i64 0, .int .i64 0] 40
    obtain ⟨y0, y1, y2⟩ : _ ∧ _ ∧ _ := ⟨hyb.at 0 _ rfl, hyb.at 1 _ rfl, hyb.at 2 _ rfl⟩
    have g0 := hyb.free 0
    have g1 := hyb.free 1
    have g2 := hyb.free 2
    have gl := hyb.lt
    obtain ⟨w5, hw5⟩ : ∃ W, w4.alloc (.cells #[.int .i64 g, .int .i64 z, .int .i64 s] 40) = W := ⟨_, rfl⟩
    obtain ⟨hx5, hb5⟩ := allocs1 hw5
    have q0 := hb5.at 0 _ rfl
    have q1 := hb5.at 1 _ rfl
    have q2 := hb5.at 2 _ rfl
    have C5 := Lib.hid (B2.out.ext (Y4.out.trans hx5))
    have u0 := C5.out.at 0 _ rfl
    have u1 := C5.out.at 1 _ rfl
    have u2 := C5.out.at 2 _ rfl
    have f0 := C5.out.free 0
    have f1 := C5.out.free 1
    have f2 := C5.out.free 2
    have fl := C5.out.lt
    have X5 := Lib.hid (HX.out.trans (Y4.out.trans hx5))
    clear hyb hx5 hb5
    go_wp2_with fail
    try rw [hw5]
    have C6 := ((C5.out.set 0 (.int .i64 g)).set 1 (.int .i64 z)).set 2 (.int .i64 s)
    refine ret3_cell (k := w.heap.size + 1) (x := .int .i64 g) (y := .int .i64 z) (z := .int .i64 s) C6 (v := .tuple #[.agg #[.int .i64 g, .int .i64 z, .int .i64 s], .int .i64 pe]) (fun r0 r1 r2 => by simp [results, Tryz.results8, go_sem, r0, r1, r2]) rfl ⟨rfl, ((X5.out.set (p := ⟨w.heap.size + 1, 0, none⟩) (Nat.le_succ _) _).set (p := ⟨w.heap.size + 1, 1, none⟩) (Nat.le_succ _) _).set (p := ⟨w.heap.size + 1, 2, none⟩) (Nat.le_succ _) _⟩
  · have hs : supM (writeL b l) = sup0 := by unfold supM; rw [writeL_length, if_neg h2]
    have he : supME (writeL b l) = 4 := by unfold supME; rw [writeL_length, if_neg h2]
    rw [hs, he]
    rw [show (1 : Int) = ((1 : Nat) : Int) from rfl, readE_out (show b.length ≤ 1 by omega)] at RB
    generalize blk (writeL b l) 0 = s0 at *
    generalize readS b l ((1 : Nat) : Int) = s1 at *
    unfold sup0
    simp only
    clear hs he hok hr hb hl hA hA' hb0 h2 hx hb1 hb2 hW
    go_enter Tryz.func8, Tryz.ntmps8
    go_wp2_with (go_at_call 20; refine stop_here ?_)
    refine stop_on ?_
    rw [HW.out]
    refine (RA.out _ HX.out).mono ?_
    rintro e w2 ⟨rfl, hx2⟩
    have X2 := Lib.hid (HX.out.trans hx2)
    clear p0 p1
    obtain ⟨p0, p1, _⟩ := (B1.out.ext hx2).read2
    have Y2 := Lib.hid hx2
    clear hx2
    go_wp2_with (go_at_call 20; refine stop_here ?_)
    refine stop_on ?_
    refine (RB.out _ X2.out).mono ?_
    rintro e w3 ⟨rfl, hx3⟩
    have X3 := Lib.hid (X2.out.trans hx3)
    have C5 := Lib.hid (B2.out.ext (Y2.out.trans hx3))
    have u0 := C5.out.at 0 _ rfl
    have u1 := C5.out.at 1 _ rfl
    have u2 := C5.out.at 2 _ rfl
    have f0 := C5.out.free 0
    have f1 := C5.out.free 1
    have f2 := C5.out.free 2
    have fl := C5.out.lt
    clear hx3 p0 p1
    go_wp2_with fail
    have C6 := ((C5.out.set 0 (.int .i64 0)).set 1 (.int .i64 0)).set 2 (.int .i64 0)
    refine ret3_cell (k := w.heap.size + 1) (x := .int .i64 0) (y := .int .i64 0) (z := .int .i64 0) C6 (v := .tuple #[.agg #[.int .i64 0, .int .i64 0, .int .i64 0], .int .i64 4]) (fun r0 r1 r2 => by simp [results, Tryz.results8, go_sem, r0, r1, r2]) rfl ⟨rfl, ((X3.out.set (p := ⟨w.heap.size + 1, 0, none⟩) (Nat.le_succ _) _).set (p := ⟨w.heap.size + 1, 1, none⟩) (Nat.le_succ _) _).set (p := ⟨w.heap.size + 1, 2, none⟩) (Nat.le_succ _) _⟩
end Go.Proofs.YtjbfopnkeclfgaaGreat
namespace Go.Proofs.YtjbfopnkeclfgaaGreat
set_option maxRecDepth 20000
open Go.RowKit Go.Shelf
attribute [local go_sem] Oper.semAt_some

/-- The places ahead of k that something refers to. -/
def placesK (rs : List Int) (k : Nat) : List Nat := (List.range k).filter (fun p => decide (rs.getD p 0 ≠ 0))
theorem placesK_zero (rs : List Int) : placesK rs 0 = [] := rfl
theorem placesK_yes {rs : List Int} {k : Nat} (h : rs.getD k 0 ≠ 0) : placesK rs (k + 1) = placesK rs k ++ [k] := by
  unfold placesK
  rw [List.range_succ, List.filter_append, List.filter_cons, if_pos (decide_eq_true h)]
  rfl
theorem placesK_no {rs : List Int} {k : Nat} (h : rs.getD k 0 = 0) : placesK rs (k + 1) = placesK rs k := by
  unfold placesK
  rw [List.range_succ, List.filter_append, List.filter_cons, if_neg (by rw [decide_eq_true_eq]; exact fun g => g h)]
  simp
theorem placesK_pre (rs : List Int) {k n : Nat} (h : k ≤ n) : placesK rs k <+: placesK rs n := by
  unfold placesK
  refine List.IsPrefix.filter _ ?_
  have : (List.range n).take k = List.range k := by rw [List.take_range]; congr 1; omega
  rw [← this]
  exact List.take_prefix _ _
/-- What is yielded: a place, and what its block tells. -/
def ndY (B : List ByteArray) (base n₀ : Nat) (p : Nat) (args : Array Value) (W : World) : Prop :=
  ∃ A c, args = #[.int .i64 p, .agg #[.bool (ndPL (blk B (base + p))), .slice A (ndPI (blk B (base + p))).length c]] ∧ W.ownsRow n₀ 146 2 (.slice A (ndPI (blk B (base + p))).length c) (ndPI (blk B (base + p))).length (ivs (ndPI (blk B (base + p))))
/-- Cells whose Refs are these. -/
def CellsT (g : Nat) (rs : List Int) (W : World) : Prop := ∀ p, p < rs.length → ∃ pin leaf A m c, (W.cell? ⟨g, p * 4, none⟩ = some (.int .i64 (rs.getD p 0)) ∧ W.cell? ⟨g, p * 4 + 1, none⟩ = some (.bool pin)) ∧ W.cell? ⟨g, p * 4 + 2, none⟩ = some (.bool leaf) ∧ W.cell? ⟨g, p * 4 + 3, none⟩ = some (.slice A m c)
set_option maxRecDepth 100000 in
set_option maxHeartbeats 1600000 in
theorem mtNodes_seq (v w : World) (B : List ByteArray) (rs : List Int) (A A' : Option Addr) (c c' g n q kl kd : Nat) (hB : B.all okB = true) (hb : B.length ≤ 135) (hn : n = rs.length) (hn2 : n ≤ 60) (hbase : baseP n + n ≤ B.length) (hv : Ext v w) (hA : Sl v A B.length c (B.map sv)) (hA' : Sl v A' 0 c' [])
    (h1 : Bt w kl 28 #[.slice (some ⟨g, 0, none⟩) n q]) (h2 : Bt w kd 25 #[.slice A B.length c, .slice A' 0 c']) :
    SeqV Tryz.prog 44 #[.pointer (some ⟨kl, 0, none⟩), .pointer (some ⟨kd, 0, none⟩)] (ndY B (baseP n) v.heap.size) v.heap.size (fun k => k = kl ∨ k = kd) (CellsT g rs) (placesK rs n) w := by
  intro r J Jx W d hx hJX hT hY h0
  refine (callsIn_wide (n := d)).2 (callsIn_wide.1 (?_ : CallsIn Fence.wide 3 _ _ _ _ _))
  have HVW := Lib.hid (hv.trans hx)
  have H1 := Lib.hid (h1.below hx)
  have H2 := Lib.hid (h2.below hx)
  have HJX := Lib.hid hJX
  have HT := Lib.hid hT
  have HY := Lib.hid hY
  have H0 := Lib.hid h0
  have HN := Lib.hid hn
  have hbs : baseP n ≤ 1000 := by omega
  have RB := Lib.hid (fun w' => planBase_any n w' (by omega))
  have RD := Lib.hid (fun (i : Nat) w' (hi : i < B.length) (hx : Ext v w') => show Calls Tryz.prog 20 #[.agg #[.slice A B.length c, .slice A' 0 c'], .int .i64 (i : Int)] w' fun e w2 => e = .returned (.tuple #[.string (blk B i), .int .i64 0]) ∧ Ext w' w2 from by
    have h := readD_any A A' B [] c c' (i : Int) w' (by omega) (by simp) (hA.cells.ext hx) (hA'.cells.ext hx)
    rw [readE_in hi, blk_read hi] at h
    exact h)
  have RP := Lib.hid (fun (i : Nat) w' (hi : i < B.length) => nodeParse_own (blk B i) w' (by rw [blk_size' hB hi]; unfold maxLen; omega))
  generalize baseP n = base at *
  have HBS := Lib.hid hbase
  have HRD := Lib.hid (fun w' (hy : Kp v.heap.size (fun k => k = kl ∨ k = kd) W w') => (show w'.cell? ⟨kl, 0, none⟩ = some (.slice (some ⟨g, 0, none⟩) n q) ∧ w'.cell? ⟨kd, 0, none⟩ = some (.slice A B.length c) ∧ w'.cell? ⟨kd, 1, none⟩ = some (.slice A' 0 c') from ⟨(H1.out.keptP hy (.inl rfl)).bx.at 0 _ rfl, (H2.out.keptP hy (.inr rfl)).bx.at 0 _ rfl, (H2.out.keptP hy (.inr rfl)).bx.at 1 _ rfl⟩))
  obtain ⟨p0, p1, p2⟩ := HRD.out W (Kp.refl _ _ _)
  have HBL := Lib.hid hb
  clear hB hb hn hv hA hA' h1 h2 hx hJX hT hY h0 hbase
  refine callsIn_of_wp Tryz.func44 rfl trivial ?_ rfl
  simp only [Tryz.ntmps44, List.size_toArray, List.length_cons, List.length_nil, Nat.reduceAdd, Nat.reduceSub, Array.replicate_succ, Array.replicate_zero, List.push_toArray, List.append_toArray, List.nil_append, List.cons_append]
  gi_wp2_with (refine ⟨trivial, ?_⟩; gi_at_call 45; refine (callsIn_wide.2 (RB.out _)).mono ?_; rintro e w2 ⟨rfl, hx2⟩; have X2 := Lib.hid hx2; clear hx2 p0 p1 p2; obtain ⟨p0, p1, p2⟩ := HRD.out _ (Kp.ext _ X2.out HVW.out.size))
  have HJ0 := Lib.hid (HJX.out _ _ _ H0.out X2.out)
  have HK0 := Lib.hid (Kp.ext (n₀ := v.heap.size) (fun k => k = kl ∨ k = kd) X2.out HVW.out.size)
  clear p0 p1 p2
  gi_loopw [16] (fun u wr => ∃ k : Nat, k ≤ n ∧ u = .int .i64 k ∧ J (placesK rs k) wr ∧ Kp v.heap.size (fun k => k = kl ∨ k = kd) W wr) (fun u _ => n - (intOf u).toNat)
  case atStart => exact ⟨0, Nat.zero_le _, rfl, HJ0.out, HK0.out⟩
  case round =>
    obtain ⟨k, hk, rfl, hJk, hKk⟩ := hrel
    have HJK := Lib.hid hJk
    have HKK := Lib.hid hKk
    have HZK := Lib.hid hKk.old.size
    rcases Nat.lt_or_ge k n with hlt | hge
    · have hkL : k < rs.length := by rw [← HN.out]; exact hlt
      obtain ⟨pin, leaf, Ai, mi, ci, ⟨c0, c1⟩, c2, c3⟩ := HT.out _ _ hJk k hkL
      have hki : (k : Int) < (n : Int) := by omega
      have hyb := Bx.new wr #[.int .i64 0, .bool false, .bool false, .slice none 0 0] 61
      obtain ⟨y0, y1, y2, y3⟩ : _ ∧ _ ∧ _ ∧ _ := ⟨hyb.at 0 _ rfl, hyb.at 1 _ rfl, hyb.at 2 _ rfl, hyb.at 3 _ rfl⟩
      have z0 := hyb.free 0
      have z1 := hyb.free 1
      have z2 := hyb.free 2
      have z3 := hyb.free 3
      have zl := hyb.lt
      obtain ⟨x, hx⟩ : ∃ x, rs.getD k 0 = x := ⟨_, rfl⟩
      have HXX := Lib.hid hx
      rw [hx] at c0
      obtain ⟨W3, hW3⟩ : ∃ W3, wr.alloc (.cells #[.int .i64 x, .bool pin, .bool leaf, .slice Ai mi ci] 61) = W3 := ⟨_, rfl⟩
      obtain ⟨hx3, hb3⟩ := allocs1 hW3
      have q0 := hb3.at 0 _ rfl
      have q1 := hb3.at 1 _ rfl
      have q2 := hb3.at 2 _ rfl
      have q3 := hb3.at 3 _ rfl
      have HX3 := Lib.hid hx3
      have HJ3 := Lib.hid (HJX.out _ _ _ hJk hx3)
      have HK3 := Lib.hid (hKk.trans (Kp.ext (n₀ := v.heap.size) (fun k => k = kl ∨ k = kd) hx3 (Nat.le_trans HVW.out.size hKk.old.size)))
      clear hyb hx3 hb3 hx hJk hKk
      by_cases hr0 : x = 0
      · have HPN := Lib.hid (placesK_no (rs := rs) (k := k) (HXX.out.trans hr0))
        have e0 : (x == 0) = true := by rw [hr0]; rfl
        clear hr0 HXX
        gi_wp2
        go_roundw
        case rel => exact ⟨k + 1, by omega, by go_num, by rw [HPN.out]; (first | exact HJ3.out | (rw [hW3]; exact HJ3.out)), by (first | exact HK3.out | (rw [hW3]; exact HK3.out))⟩
        case measure => simp [intOf]; omega
      · have HPY := Lib.hid (placesK_yes (rs := rs) (k := k) (by rw [HXX.out]; exact hr0))
        have HPP := Lib.hid (placesK_pre rs (k := k + 1) (n := n) (by omega))
        rw [HPY.out] at HPP
        have e0 : (x == 0) = false := by rw [beq_eq_false_iff_ne]; exact hr0
        have g2 : IntKind.i64.wrap ((base : Int) + (k : Int)) = ((base + k : Nat) : Int) := by rw [IntKind.wrap_i64]; omega
        have HKB := Lib.hid (show base + k < B.length by have := HBS.out; omega)
        clear hr0 HXX
        obtain ⟨p0, p1, p2⟩ := HRD.out _ HK3.out
        have HVX3 := Lib.hid (show Ext v W3 from Below.trans HVW.out HK3.out.old)
        have HZ3 := Lib.hid HK3.out.old.size
        gi_wp2_with (refine ⟨trivial, ?_⟩; first
          | (gi_at_call 20
             first | rw [hW3] | skip
             refine (callsIn_wide.2 (RD.out (base + k) _ HKB.out HVX3.out)).mono ?_
             rintro e w4 ⟨rfl, hx4⟩
             have X4 := Lib.hid hx4
             clear hx4 p0 p1 p2 y0 y1 y2 y3 z0 z1 z2 z3 zl q0 q1 q2 q3)
          | (gi_at_call 46
             refine (callsIn_wide.2 (RP.out (base + k) _ HKB.out)).mono ?_
             rintro e w5 ⟨A5, c5, rfl, hs5, hx5⟩
             have X5 := Lib.hid (X4.out.trans hx5)
             generalize hLF : ndPL (blk B (base + k)) = lf at *
             generalize hIT : ndPI (blk B (base + k)) = it at *
             generalize hER : ndPE (blk B (base + k)) = er at *
             have HIT := Lib.hid hIT
             have HLF := Lib.hid hLF
             have hyb := Bx.new w5 #[.bool false, .slice none 0 0] 59
             obtain ⟨y0, y1⟩ : _ ∧ _ := ⟨hyb.at 0 _ rfl, hyb.at 1 _ rfl⟩
             have z0 := hyb.free 0
             have z1 := hyb.free 1
             have zl := hyb.lt
             obtain ⟨w6, hw6⟩ : ∃ W, w5.alloc (.cells #[.bool lf, .slice A5 it.length c5] 59) = W := ⟨_, rfl⟩
             obtain ⟨hx6, hb6⟩ := allocs1 hw6
             have q0 := hb6.at 0 _ rfl
             have q1 := hb6.at 1 _ rfl
             have X6 := Lib.hid (X5.out.trans hx6)
             have HJ6 := Lib.hid (HJX.out _ _ _ HJ3.out X6.out)
             have HK6 := Lib.hid (HK3.out.trans (Kp.ext (n₀ := v.heap.size) (fun k => k = kl ∨ k = kd) X6.out HVX3.out.size))
             obtain ⟨fn, tmps, assign, body, hyy, hRR⟩ := HY.out _ k #[.int .i64 k, .agg #[.bool lf, .slice A5 it.length c5]] w6 2 HJ6.out HK6.out.old.size HPP.out ⟨A5, c5, by rw [HLF.out, HIT.out], by rw [HIT.out]; exact own_ext (own_low hs5 (Nat.le_succ_of_le (HVX3.out.trans X4.out).size)) hx6⟩
             clear hyb hx5 hx6 hb6 hs5 hLF hIT hER))
        refine hRR.mono ?_
        rintro e W7 ⟨hk7, (⟨rfl, hJ7⟩ | ⟨rfl, hJx7⟩)⟩
        · have HJ7 := Lib.hid hJ7
          have HK7 := Lib.hid (HK6.out.trans hk7)
          clear hk7 hJ7
          gi_wp2
          go_roundw
          case rel => exact ⟨k + 1, by omega, by go_num, by rw [HPY.out]; exact HJ7.out, HK7.out⟩
          case measure => simp [intOf]; omega
        · have HJ7 := Lib.hid hJx7
          clear hk7 hJx7
          gi_wp2
          refine bodyPost_ret (results_none rfl _ _ _) rfl ?_
          exact ⟨⟨_, rfl⟩, .inr ⟨_, HPP.out, HJ7.out⟩⟩
    · obtain rfl : n = k := by omega
      clear hge
      gi_wp2
      go_end0
      exact ⟨⟨_, rfl⟩, .inl HJK.out⟩
end Go.Proofs.YtjbfopnkeclfgaaGreat
namespace Go.Proofs.YtjbfopnkeclfgaaGreat
set_option maxRecDepth 20000
open Go.RowKit

theorem own_outC {w w' : World} {B e s n : Nat} {v : Value} {xs : List Value} (h : w.ownsRow B e s v n xs) {nn : Nat} (ho : OutC nn w w') : w'.ownsRow B e s v n xs := by
  refine ⟨h.1, ?_⟩
  rcases h.2 with h2 | ⟨g, cap, cur, e1, h3, h4, h5⟩
  · exact .inl h2
  · exact .inr ⟨g, cap, cur, e1, h3, ho.cells _ _ _ _ h4, h5⟩
theorem own_neV {w : World} {B e size n k : Nat} {v : Value} {xs : List Value} {cs' : Array Value} {t' : TypeId} {fr' : Nat × Nat} (h : w.ownsRow B e size v n xs) (h' : w.heap[k]? = some (.cells cs' t' fr')) (ht : e ≠ t') : v.ownBlock ≠ some k := by
  intro e1
  rcases h.2 with ⟨h2, _⟩ | ⟨g, cap, cur, h2, _, hg, _⟩
  · rw [h2] at e1
    cases e1
  · rw [h2] at e1
    have h3 : g = k := Option.some.inj e1
    subst h3
    rw [hg] at h'
    cases h'
    exact ht rfl
theorem own_cellset {w : World} {B e s n : Nat} {v : Value} {xs : List Value} (h : w.ownsRow B e s v n xs) {p : Addr} (hne : v.ownBlock ≠ some p.block) (u : Value) : (w.setCell p u).ownsRow B e s v n xs := ownsRow_setCell_other h hne u
/-- Such cells. -/
def MHc (W : World) (b0 n₀ g q : Nat) (l : List HC) : Prop := ∃ cs, W.ownsRow b0 61 4 (.slice (some ⟨g, 0, none⟩) l.length q) l.length cs ∧ cs.length = l.length * 4 ∧
  ∀ i (h : i < l.length), ∃ A c, cs[i * 4]? = some (.int .i64 l[i].ref) ∧ cs[i * 4 + 1]? = some (.bool l[i].pin) ∧ cs[i * 4 + 2]? = some (.bool l[i].leaf) ∧ cs[i * 4 + 3]? = some (.slice A l[i].it.length c) ∧ W.ownsRow n₀ 146 2 (.slice A l[i].it.length c) l[i].it.length (ivs l[i].it)
theorem MHc.outC {W W' : World} {b0 n₀ g q : Nat} {l : List HC} (h : MHc W b0 n₀ g q l) {nn : Nat} (ho : OutC nn W W') : MHc W' b0 n₀ g q l := by
  obtain ⟨cs, h1, h2, h3⟩ := h
  refine ⟨cs, own_outC h1 ho, h2, fun i hi => ?_⟩
  obtain ⟨A, c, k1, k2, k3, k4, k5⟩ := h3 i hi
  exact ⟨A, c, k1, k2, k3, k4, own_outC k5 ho⟩
theorem MHc.ext {W W' : World} {b0 n₀ g q : Nat} {l : List HC} (h : MHc W b0 n₀ g q l) (hx : Ext W W') : MHc W' b0 n₀ g q l := h.outC (nn := 0) (.ext hx)
theorem MHc.sl {W : World} {b0 n₀ g q : Nat} {l : List HC} (h : MHc W b0 n₀ g q l) : HcSl W (some ⟨g, 0, none⟩) l.length q l := by
  obtain ⟨cs, h1, h2, h3⟩ := h
  refine ⟨rfl, cs, own_sl h1, h2, fun i hi => ?_⟩
  obtain ⟨A, c, k1, k2, k3, k4, k5⟩ := h3 i hi
  exact ⟨A, c, k1, k2, k3, k4, own_sl k5⟩
theorem MHc.ge {W : World} {b0 n₀ g q : Nat} {l : List HC} (h : MHc W b0 n₀ g q l) : b0 ≤ g ∧ g < W.heap.size := by
  obtain ⟨cs, h1, _⟩ := h
  exact h1.lt g rfl
theorem MHc.free {W : World} {b0 n₀ g q : Nat} {l : List HC} (h : MHc W b0 n₀ g q l) (j : Nat) : W.frozen? ⟨g, j, none⟩ = false := by
  obtain ⟨cs, h1, _⟩ := h
  exact own_free h1 j
/-- Another block's cell is written. -/
theorem MHc.other {W : World} {b0 n₀ g q : Nat} {l : List HC} (h : MHc W b0 n₀ g q l) {p : Addr} (hb : p.block < b0) (hn : p.block < n₀) (u : Value) : MHc (W.setCell p u) b0 n₀ g q l := by
  obtain ⟨cs, h1, h2, h3⟩ := h
  refine ⟨cs, own_cellset h1 (fun e => by have := (h1.lt _ e).1; omega) u, h2, fun i hi => ?_⟩
  obtain ⟨A, c, k1, k2, k3, k4, k5⟩ := h3 i hi
  exact ⟨A, c, k1, k2, k3, k4, own_cellset k5 (fun e => by have := (k5.lt _ e).1; omega) u⟩
theorem MHc.cells {W : World} {b0 n₀ g q : Nat} {l : List HC} (h : MHc W b0 n₀ g q l) {rs : List Int} (hr : l.map (·.ref) = rs) : CellsT g rs W := fun p hp => by
  have hpl : p < l.length := by rw [← hr, List.length_map] at hp; exact hp
  obtain ⟨b, off, e1, _, A, c, r0, r1, r2, r3, _⟩ := h.sl.cell hpl
  cases e1
  simp only [Nat.zero_add] at r0 r1 r2 r3
  refine ⟨_, _, A, _, c, ⟨?_, r1⟩, r2, r3⟩
  have e : rs.getD p 0 = l[p].ref := by
    subst hr
    rw [List.getD_eq_getElem?_getD, List.getElem?_map, List.getElem?_eq_getElem hpl]
    rfl
  rw [e]
  exact r0
/-- A cell's node is written. -/
theorem MHc.node {W : World} {b0 n₀ g q : Nat} {l : List HC} (h : MHc W b0 n₀ g q l) {p : Nat} (hp : p < l.length) (lf : Bool) (it : List It) {A : Option Addr} {c : Nat} (hI : W.ownsRow n₀ 146 2 (.slice A it.length c) it.length (ivs it)) :
    MHc ((W.setCell ⟨g, p * 4 + 2, none⟩ (.bool lf)).setCell ⟨g, p * 4 + 3, none⟩ (.slice A it.length c)) b0 n₀ g q (l.set p ⟨l[p].ref, l[p].pin, lf, it⟩) := by
  obtain ⟨cs, h1, h2, h3⟩ := h
  obtain ⟨cur, hg⟩ := own_obj h1
  have hne : ∀ {v : Value} {n : Nat} {xs : List Value}, W.ownsRow n₀ 146 2 v n xs → v.ownBlock ≠ some g := fun k => own_neV k hg (by decide)
  have keep : ∀ {v : Value} {n : Nat} {xs : List Value}, W.ownsRow n₀ 146 2 v n xs → ((W.setCell ⟨g, p * 4 + 2, none⟩ (.bool lf)).setCell ⟨g, p * 4 + 3, none⟩ (.slice A it.length c)).ownsRow n₀ 146 2 v n xs := fun k => own_cellset (own_cellset k (hne k) _) (hne k) _
  have h4 := own_set (own_set h1 (j := p * 4 + 2) (by omega) (.bool lf)) (j := p * 4 + 3) (by omega) (.slice A it.length c)
  refine ⟨(cs.set (p * 4 + 2) (.bool lf)).set (p * 4 + 3) (.slice A it.length c), by rw [List.length_set]; exact h4, by simp [h2], fun i hi => ?_⟩
  have hi' : i < l.length := by rw [List.length_set] at hi; exact hi
  obtain ⟨A1, c1, k1, k2, k3, k4, k5⟩ := h3 i hi'
  by_cases e : i = p
  · subst e
    rw [List.getElem_set_self]
    refine ⟨A, c, ?_, ?_, ?_, ?_, keep hI⟩
    · rw [List.getElem?_set_ne (by omega), List.getElem?_set_ne (by omega)]; exact k1
    · rw [List.getElem?_set_ne (by omega), List.getElem?_set_ne (by omega)]; exact k2
    · rw [List.getElem?_set_ne (by omega), List.getElem?_set_self (by omega)]
    · rw [List.getElem?_set_self (by rw [List.length_set]; omega)]
  · rw [List.getElem_set_ne (by omega)]
    refine ⟨A1, c1, ?_, ?_, ?_, ?_, keep k5⟩
    · rw [List.getElem?_set_ne (by omega), List.getElem?_set_ne (by omega)]; exact k1
    · rw [List.getElem?_set_ne (by omega), List.getElem?_set_ne (by omega)]; exact k2
    · rw [List.getElem?_set_ne (by omega), List.getElem?_set_ne (by omega)]; exact k3
    · rw [List.getElem?_set_ne (by omega), List.getElem?_set_ne (by omega)]; exact k4
/-- At first no cell has a node. -/
theorem MHc.start {W : World} {b0 g q : Nat} {rs : List Int} (h : W.ownsRow b0 61 4 (.slice (some ⟨g, 0, none⟩) rs.length q) rs.length (hcV rs)) (n₀ : Nat) : MHc W b0 n₀ g q (rs.map hcOf) := by
  have hl : (rs.map hcOf).length = rs.length := List.length_map _
  obtain ⟨h1, h2⟩ := hcV_at W rs
  refine ⟨hcV rs, by rw [hl]; exact h, h1, fun i hi => ?_⟩
  obtain ⟨A, c, k1, k2, k3, k4, k5⟩ := h2 i hi
  have e : (rs.map hcOf)[i].it = [] := by rw [List.getElem_map]; rfl
  have k4' := k4
  refine ⟨none, 0, k1, k2, k3, ?_, ?_⟩
  · have hn : ∀ (rs : List Int) (i : Nat), i < rs.length → (hcV rs)[i * 4 + 3]? = some (.slice none 0 0) := by
      intro rs
      induction rs with
      | nil => intro i hi; simp at hi
      | cons r rs ih =>
        intro i hi
        cases i with
        | zero => rfl
        | succ i =>
          have h := ih i (by simpa using hi)
          rw [show (i + 1) * 4 + 3 = (i * 4 + 3) + 4 by omega]
          exact h
    rw [e]
    exact hn rs i (by rw [← hl]; exact hi)
  · rw [e]
    exact World.ownsRow_nil _ _ _ _
theorem cell_outC {w w' : World} {p : Addr} {v : Value} (h : w.cell? p = some v) {nn : Nat} (ho : OutC nn w w') : w'.cell? p = some v := by
  unfold World.cell? at h ⊢
  cases hb : w.heap[p.block]? with
  | none => rw [hb] at h; cases h
  | some o =>
    rw [hb] at h
    cases o with
    | cells c t fr => rw [ho.cells _ _ _ _ hb]; exact h
    | _ => cases h
theorem cell_set_ne {w : World} {b i : Nat} {p : Addr} {u v : Value} (h : w.cell? ⟨b, i, none⟩ = some u) (hs : p.spot = none) (hq : (⟨b, i, none⟩ : Addr) ≠ p) : (w.setCell p v).cell? ⟨b, i, none⟩ = some u := by
  obtain ⟨pb, po, ps⟩ := p
  simp only at hs
  subst hs
  by_cases hb : b = pb
  · subst hb
    have ho : i ≠ po := fun e => hq (by rw [e])
    unfold World.cell? at h ⊢
    unfold World.setCell
    simp only [Array.getElem?_modify]
    cases hw : w.heap[b]? with
    | none => rw [hw] at h; cases h
    | some o =>
      rw [hw] at h
      cases o with
      | cells c t fr =>
        simp only at h
        simp only [Option.isSome_none, Bool.false_eq_true, if_false] at h
        simp [Ne.symm ho, h]
      | _ => cases h
  · unfold World.cell? at h ⊢
    rw [Below.heap_setCell _ _ _ _ hb]
    exact h
theorem sl_outC {w w' : World} {A : Option Addr} {n c : Nat} {xs : List Value} (h : Sl w A n c xs) {nn : Nat} (ho : OutC nn w w') : Sl w' A n c xs := by
  refine ⟨h.1, h.2.1, h.2.2.1, fun hne => ?_⟩
  obtain ⟨b, off, e, hlt, hc⟩ := h.cells hne
  exact ⟨b, off, e, Nat.lt_of_lt_of_le hlt ho.size, fun j u hu => cell_outC (hc j u hu) ho⟩
theorem bt_outC {w w' : World} {k : Nat} {t : TypeId} {cs : Array Value} (h : Bt w k t cs) {nn : Nat} (ho : OutC nn w w') : Bt w' k t cs := ho.cells _ _ _ _ h
/-- A cell is written that held what no cell of a row holds. -/
theorem sl_setv {w : World} {A : Option Addr} {n c : Nat} {xs : List Value} (h : Sl w A n c xs) {p : Addr} {old : Value} (hp : w.cell? p = some old) (hs : p.spot = none) (hne : old ∉ xs) (v : Value) : Sl (w.setCell p v) A n c xs := by
  refine ⟨h.1, h.2.1, h.2.2.1, fun hx => ?_⟩
  obtain ⟨b, off, e, hlt, hc⟩ := h.cells hx
  refine ⟨b, off, e, by simpa [World.setCell] using hlt, fun j u hu => ?_⟩
  have h1 := hc j u hu
  by_cases hq : (⟨b, off + j, none⟩ : Addr) = p
  · subst hq
    rw [h1] at hp
    cases hp
    exact absurd (List.mem_of_getElem? hu) hne
  · rw [cell_set_ne h1 hs hq]
end Go.Proofs.YtjbfopnkeclfgaaGreat
namespace Go.Proofs.YtjbfopnkeclfgaaGreat
set_option maxRecDepth 20000
open Go.RowKit
attribute [local go_sem ↓] Go.wp_at_zero Go.wp_at_succ

theorem mtFrom_any (lo x hi : Int) (w : World) :
    Calls Tryz.prog 27 #[.int .i64 lo, .int .i64 x, .int .i64 hi] w fun e w' => e = .returned (.bool (fromP lo x hi)) ∧ w = w' := by
  unfold fromP
  rcases Int.lt_or_le x lo with h | h
  · have d1 : decide (lo ≤ x) = false := decide_eq_false (by omega)
    rw [d1]
    go_enter Tryz.func27, Tryz.ntmps27
    go_wp2
    go_ret
    exact ⟨rfl, rfl⟩
  · have d1 : decide (lo ≤ x) = true := decide_eq_true h
    rw [d1]
    rcases Int.lt_or_le hi x with k | k
    · have d2 : decide (x ≤ hi) = false := decide_eq_false (by omega)
      rw [d2]
      go_enter Tryz.func27, Tryz.ntmps27
      go_wp2
      go_ret
      exact ⟨rfl, rfl⟩
    · have d2 : decide (x ≤ hi) = true := decide_eq_true k
      rw [d2]
      go_enter Tryz.func27, Tryz.ntmps27
      go_wp2
      go_ret
      exact ⟨rfl, rfl⟩
/-- Do volumes' numbers rise, all below next, and are their trees right? -/
def volsR (f : Int → Bool) (next : Int) : List It → Int → Bool
  | [], _ => true
  | v :: vs, least => (fromP least v.1 (next - 1) && f v.2) && volsR f next vs (v.1 + 1)
theorem volsR_is (f : Int → Bool) (next : Int) : ∀ (vs : List It) (x : Int), volsR f next vs x = (idsR next vs x && vs.all (fun v => f v.2))
  | [], _ => rfl
  | v :: vs, x => by
    unfold volsR idsR
    rw [volsR_is f next vs (v.1 + 1), List.all_cons]
    cases fromP x v.1 (next - 1) <;> cases f v.2 <;> simp
set_option maxRecDepth 100000 in
set_option maxHeartbeats 1600000 in
theorem mtVols_any (R V L : Option Addr) (c : List HC) (keep : Int) (vs : List It) (m q cv t cl : Nat) (next gen : Int) (w : World) (f : Int → Bool) (hf0 : ∀ p w', Ext w w' → Calls Tryz.prog 56 #[.agg #[.slice R c.length q, .int .i64 keep], .int .i64 p] w' fun e w2 => e = .returned (.bool (f p)) ∧ Ext w' w2) (hm : m = vs.length) (hm2 : m ≤ 1000) (h1 : 1 ≤ next) (h2 : next ≤ 4294967296) (hV : Sl w V m cv (ivs vs)) :
    Calls Tryz.prog 28 #[.agg #[.slice R c.length q, .int .i64 keep, .slice V m cv, .slice L t cl, .int .i64 next, .int .i64 gen]] w fun e w' => e = .returned (.bool (volsR f next vs 1 && decide (m ≤ 20))) ∧ Ext w w' := by
  obtain ⟨W, hW⟩ : ∃ W, w.alloc (.cells #[.slice R c.length q, .int .i64 keep, .slice V m cv, .slice L t cl, .int .i64 next, .int .i64 gen] 34) = W := ⟨_, rfl⟩
  obtain ⟨hx0, hb0⟩ := allocs1 hW
  have HX0 := Lib.hid hx0
  have HB0 := Lib.hid hb0
  have HW := Lib.hid hW
  have HV := Lib.hid hV
  have HM := Lib.hid hm
  have HF := Lib.hid (fun a b w' => mtFrom_any a b (next - 1) w')
  have HTR := Lib.hid hf0
  have hwr : IntKind.i64.wrap (next - 1) = next - 1 := by simp only [IntKind.wrap_i64]; omega
  generalize c.length = n at *
  obtain ⟨res, hres⟩ : ∃ r, (volsR f next vs 1 && decide (m ≤ 20)) = r := ⟨_, rfl⟩
  have HP := Lib.hid hres
  rw [hres]
  obtain ⟨c0, c1, c2, c3, c4, c5⟩ := st_at6 hb0
  clear hV hm hres hf0 hx0 hb0 hW
  go_enter Tryz.func28, Tryz.ntmps28
  go_wp2_with fail
  rw [HW.out]
  go_loopw [3, 9] (fun z i wr => ∃ (k : Nat) (x : Int), k ≤ m ∧ i = .int .i64 k ∧ z = .int .i64 x ∧ 1 ≤ x ∧ x ≤ 4294967296 ∧ volsR f next vs 1 = volsR f next (vs.drop k) x ∧ Ext W wr) (fun _ i _ => m - (intOf i).toNat)
  case atStart => exact ⟨0, 1, Nat.zero_le _, rfl, rfl, by omega, by omega, rfl, Ext.refl _⟩
  case round =>
    obtain ⟨k, x, hk, rfl, rfl, hx1, hx2, hid, hx⟩ := hrel
    have HXW := Lib.hid hx
    have HX := Lib.hid (HX0.out.trans hx)
    have HID := Lib.hid hid
    have HBR := Lib.hid (HB0.out.ext hx)
    clear c0 c1 c2 c3 c4 c5
    obtain ⟨c0, c1, c2, c3, c4, c5⟩ := st_at6 HBR.out
    clear hx hid
    rcases Nat.lt_or_ge k m with hlt | hge
    · have hkl : k < vs.length := by rw [← HM.out]; exact hlt
      obtain ⟨b, off, rfl, _, hc⟩ := (HV.out.ext HX.out).cells.it hkl
      obtain ⟨a0, a1⟩ := hc k hkl
      have hki : (k : Int) < (m : Int) := by omega
      have HD := Lib.hid (show vs.drop k = vs[k] :: vs.drop (k + 1) from (List.getElem_cons_drop ..).symm)
      clear hc
      generalize vs[k] = y at *
      obtain ⟨y1, y2⟩ := y
      simp only at a0 a1
      have HB := Lib.hid (Bx.new wr #[.int .i64 y1, .int .i64 y2] 103)
      have HXN := Lib.hid ((Ext.refl wr).alloc (.cells #[.int .i64 y1, .int .i64 y2] 103))
      have HG := Lib.hid (HF.out x y1)
      have HS := Lib.hid (show volsR f next vs 1 = ((fromP x y1 (next - 1) && f y2) && volsR f next (vs.drop (k + 1)) (y1 + 1)) from by rw [HID.out, HD.out]; rfl)
      obtain ⟨g0, g1, g2⟩ := HB.out.read2
      obtain ⟨s0, s1, s2, s3, s4, s5⟩ := st_at6 (HBR.out.ext HXN.out)
      cases hf : fromP x y1 (next - 1) with
      | false =>
        rw [hf] at HG HS
        have HE := Lib.hid (show res = false from by rw [← HP.out, HS.out]; rfl)
        clear hf HS HID HD
        go_wp2_with (go_at_call 27; with_reducible refine (HG.out _).mono ?_; rintro e w' ⟨rfl, rfl⟩)
        go_ret
        exact ⟨by rw [HE.out]; rfl, HX.out.trans HXN.out⟩
      | true =>
        rw [hf] at HG HS
        have hle : x ≤ y1 ∧ y1 ≤ next - 1 := by
          unfold fromP at hf
          simpa only [Bool.and_eq_true, decide_eq_true_eq] using hf
        have hw2 : IntKind.i64.wrap (y1 + 1) = y1 + 1 := by simp only [IntKind.wrap_i64]; omega
        have HT2 := Lib.hid (HTR.out y2)
        have HXP := HX.out.trans HXN.out
        have HXP' := Lib.hid HXP
        clear hf HID HD HXP
        cases hff : f y2 with
        | false =>
          rw [hff] at HT2 HS
          have HE := Lib.hid (show res = false from by rw [← HP.out, HS.out]; rfl)
          clear hff HS
          go_wp2_with (first
            | (go_at_call 27; with_reducible refine (HG.out _).mono ?_; rintro e w' ⟨rfl, rfl⟩)
            | (go_at_call 56; with_reducible refine (HT2.out _ HXP'.out).mono ?_; rintro e w9 ⟨rfl, hx9⟩; have X9 := Lib.hid (HXP'.out.trans hx9); clear hx9))
          go_ret
          exact ⟨by rw [HE.out]; rfl, X9.out⟩
        | true =>
          rw [hff] at HT2 HS
          clear hff
          go_wp2_with (first
            | (go_at_call 27; with_reducible refine (HG.out _).mono ?_; rintro e w' ⟨rfl, rfl⟩)
            | (go_at_call 56; with_reducible refine (HT2.out _ HXP'.out).mono ?_; rintro e w9 ⟨rfl, hx9⟩; have X9 := Lib.hid (HXP'.out.trans hx9); have Y9 := Lib.hid (HXN.out.trans hx9); have HB9 := Lib.hid (HB.out.ext hx9); clear hx9 g0 g1 g2; obtain ⟨g0, g1, g2⟩ := HB9.out.read2))
          go_roundw
          case rel => exact ⟨k + 1, y1 + 1, by omega, by go_num, rfl, by omega, by omega, by rw [HS.out]; rfl, HXW.out.trans Y9.out⟩
          case measure => simp [intOf]; omega
    · obtain rfl : m = k := by omega
      have HE := Lib.hid (show res = decide (m ≤ 20) from by
        rw [← HP.out, HID.out, HM.out, List.drop_length]; rfl)
      clear hge HID
      go_wp2
      go_ret
      exact ⟨by rw [HE.out]; first | rfl | (congr 1; congr 1; simp; omega), HX.out⟩
end Go.Proofs.YtjbfopnkeclfgaaGreat
