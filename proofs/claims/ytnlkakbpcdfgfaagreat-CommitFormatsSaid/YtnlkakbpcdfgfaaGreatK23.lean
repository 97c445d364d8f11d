/- The next commit of a state that uses no cell and holds no volumes and tasks. Plan of package plan as it landed, of a state that uses no cell, on a disk on which no write waits. -/
import Derived.Test.YtnlkakbpcdfgfaaGreatK19
import Derived.Test.YtnlkakbpcdfgfaaGreatK22
import Derived.Deep.RegionLaw
import Derived.Test.YtnlkakbpcdfgfaaGreatK09
import Derived.Test.YtnlkakbpcdfgfaaGreatK07
namespace Go.Proofs.YtnlkakbpcdfgfaaGreat
set_option maxRecDepth 20000
open Go.RowKit

theorem bookW_new (next keep n : Nat) : bookW ((List.replicate n HC.none).map (·.ref)) keep [] [] next = bookP next keep (List.replicate n 0) := by
  unfold bookW bookP
  have e : ∀ k : Nat, ((List.replicate k HC.none).map (fun c => c.ref)).flatMap (fun r => putL r.toNat 2) = (List.replicate k 0).flatMap (fun r => putL r 2) := fun k => by
    rw [List.map_replicate]
    induction k with
    | zero => rfl
    | succ k ih => rw [List.replicate_succ, List.replicate_succ, List.flatMap_cons, List.flatMap_cons, ih]; rfl
  rw [e n]
  simp [printT]
theorem bookP_len (next keep n : Nat) : (bookP next keep (List.replicate n 0)).length = 11 + 2 * n := by
  have e : ∀ k : Nat, ((List.replicate k 0).flatMap (fun r => putL r 2)).length = 2 * k := fun k => by
    induction k with
    | zero => rfl
    | succ k ih => rw [List.replicate_succ, List.flatMap_cons, List.length_append, ih, putL_length]; omega
  unfold bookP
  simp only [List.length_append, putL_length, e, List.length_replicate]
set_option maxHeartbeats 800000 in
theorem nextC_none (A : Option Addr) (c : Nat) (w : World) :
    Calls Tryz.prog 94 #[.agg #[.int .i64 0, .bool false, .bool false, .slice A 0 c]] w fun e w' => e = .returned (.bool false) ∧ Ext w w' := by
  have hb := Bx.new w #[.int .i64 0, .bool false, .bool false, .slice A 0 c] 72
  have HX := Lib.hid ((Ext.refl w).alloc (.cells #[.int .i64 0, .bool false, .bool false, .slice A 0 c] 72))
  have p0 := hb.at 0 _ rfl
  clear hb
  go_enter Tryz.func94, Tryz.ntmps94
  go_wp2
  go_ret
  exact ⟨rfl, HX.out⟩
set_option maxHeartbeats 1600000 in
theorem noneUsed_any (R : Option Addr) (n q : Nat) (w : World) (hn : n ≤ 2000) (hR : HcSl w R n q (List.replicate n HC.none)) :
    Calls Tryz.prog 93 #[.slice R n q, .func (.func 94) #[] #[]] w fun e w' => e = .returned (.bool false) ∧ Ext w w' := by
  have HI : Calls Tryz.prog 118 #[.slice R n q, .func (.func 94) #[] #[]] w fun e w' => e = .returned (.int .i64 (-1)) ∧ Ext w w' := by
    have HR := Lib.hid hR
    clear hR
    go_enter Tryz.func118, Tryz.ntmps118
    go_wp2
    go_loopw [8] (fun v wr => ∃ k : Nat, k ≤ n ∧ v = .int .i64 k ∧ Ext w wr) (fun v _ => n - (intOf v).toNat)
    case atStart => exact ⟨0, Nat.zero_le _, rfl, Ext.refl _⟩
    case round =>
      obtain ⟨k, hk, rfl, hy⟩ := hrel
      have HY := Lib.hid hy
      rcases Nat.lt_or_ge k n with hlt | hge
      · have hkl : k < (List.replicate n HC.none).length := by rw [List.length_replicate]; exact hlt
        obtain ⟨b5, off, rfl, _, A5, c5, r0, r1, r2, r3, _⟩ := (HR.out.ext hy).cell hkl
        rw [List.getElem_replicate] at r0 r1 r2 r3
        have r0 := (show wr.cell? ⟨b5, off + k * 4, none⟩ = some (.int .i64 0) from r0)
        have r1 := (show wr.cell? ⟨b5, off + k * 4 + 1, none⟩ = some (.bool false) from r1)
        have r2 := (show wr.cell? ⟨b5, off + k * 4 + 2, none⟩ = some (.bool false) from r2)
        have r3 := (show wr.cell? ⟨b5, off + k * 4 + 3, none⟩ = some (.slice A5 0 c5) from r3)
        have HC := Lib.hid (nextC_none A5 c5 wr)
        have hki : (k : Int) < (n : Int) := by omega
        clear hy
        go_wp2_with (go_at_call 94; refine HC.out.mono ?_; rintro e w1 ⟨rfl, hx⟩; have HY2 := Lib.hid (HY.out.trans hx); clear hx)
        go_roundw
        case rel => exact ⟨k + 1, by omega, by go_num, HY2.out⟩
        case measure => simp [intOf]; omega
      · obtain rfl : n = k := by omega
        clear hge
        go_wp2
        go_ret
        exact ⟨rfl, HY.out⟩
  have HI := Lib.hid HI
  clear hR
  go_enter Tryz.func93, Tryz.ntmps93
  go_wp2_with (go_at_call 118; refine HI.out.mono ?_; rintro e w1 ⟨rfl, hx⟩; have HX := Lib.hid hx; clear hx)
  go_ret
  exact ⟨rfl, HX.out⟩
theorem told_new {n keep next gen : Nat} (h1 : 1 ≤ n) (h2 : n ≤ 2000) (hk : keep ≤ n) (hx1 : 1 ≤ next) (hx : next ≤ 2147483647) (hg : gen ≤ 2147483647) : toldP (List.replicate n HC.none) keep [] [] next gen = true := by
  unfold toldP
  have e : (List.replicate n HC.none).any refBad = false := by
    rw [List.any_eq_false]
    intro x hx
    obtain ⟨_, rfl⟩ := List.mem_replicate.1 hx
    decide
  rw [e, List.length_replicate]
  simp [fromP, idsP, rightP, idsR]
  omega
theorem grown_set (w : World) (g j : Nat) (u : Value) : w.grownBy (w.setCell ⟨g, j, none⟩ u) (some g) :=
  ⟨rfl, rfl, rfl, by simp [World.setCell], fun i _ hi => Below.heap_setCell _ _ _ _ (by simpa using hi)⟩
theorem bytes_off {w : World} {A : Option Addr} {n c : Nat} {l : Bl} (h : Sl w A n c (l.map bv)) {k : Nat} {cs : Array Value} (hb : Bx w k cs) (hc : ∀ (i : Nat) (v : Value) (x : Int), cs[i]? = some v → v ≠ Value.int .u8 x) : l.map bv ≠ [] → ∀ p, A = some p → some k ≠ some p.block := by
  intro hne p hp e
  obtain ⟨b, off, hA, _, hcc⟩ := h.cells hne
  rw [hA] at hp
  cases hp
  cases e
  cases l with
  | nil => exact hne rfl
  | cons u l =>
    have h1 := hcc 0 (bv u) (by simp)
    obtain ⟨t, hb⟩ := hb
    unfold World.cell? at h1
    rw [hb] at h1
    exact hc _ _ _ h1 rfl
theorem Sl.store1 {w : World} {A : Option Addr} {n c : Nat} {xs : List Value} {k : Nat} (h : Sl w A n c xs) (hne : xs ≠ [] → ∀ p, A = some p → some k ≠ some p.block) (i : Nat) (v : Value) : Sl (w.setCell ⟨k, i, none⟩ v) A n c xs := h.grown (grown_set w k i v) hne
theorem Bx.set7 {w : World} {k : Nat} {a b c d e f g : Value} (h : Bx w k #[a, b, c, d, e, f, g]) (a' b' c' d' e' f' g' : Value) : Bx (((((((w.setCell ⟨k, 0, none⟩ a').setCell ⟨k, 1, none⟩ b').setCell ⟨k, 2, none⟩ c').setCell ⟨k, 3, none⟩ d').setCell ⟨k, 4, none⟩ e').setCell ⟨k, 5, none⟩ f').setCell ⟨k, 6, none⟩ g') k #[a', b', c', d', e', f', g'] :=
  by
  have e := ((((((h.set 0 a').set 1 b').set 2 c').set 3 d').set 4 e').set 5 f').set 6 g'
  simp only [List.setIfInBounds_toArray, List.set_cons_zero, List.set_cons_succ] at e
  exact e
theorem Ext.store7 {w0 w : World} (h : Ext w0 w) {k : Nat} (hk : w0.heap.size ≤ k) (a' b' c' d' e' f' g' : Value) : Ext w0 (((((((w.setCell ⟨k, 0, none⟩ a').setCell ⟨k, 1, none⟩ b').setCell ⟨k, 2, none⟩ c').setCell ⟨k, 3, none⟩ d').setCell ⟨k, 4, none⟩ e').setCell ⟨k, 5, none⟩ f').setCell ⟨k, 6, none⟩ g') :=
  ((((((h.set (p := ⟨k, 0, none⟩) hk _).set (p := ⟨k, 1, none⟩) hk _).set (p := ⟨k, 2, none⟩) hk _).set (p := ⟨k, 3, none⟩) hk _).set (p := ⟨k, 4, none⟩) hk _).set (p := ⟨k, 5, none⟩) hk _).set (p := ⟨k, 6, none⟩) hk _
theorem ret7_cell {P : Program} {fn : Func} {R : Ending → World → Prop} {a : Act} {W : World} {v : Value} {k : Nat} {x0 x1 x2 x3 x4 x5 x6 : Value} (hb : Bx W k #[x0, x1, x2, x3, x4, x5, x6])
    (h : W.cell? ⟨k, 0, none⟩ = some x0 → W.cell? ⟨k, 1, none⟩ = some x1 → W.cell? ⟨k, 2, none⟩ = some x2 → W.cell? ⟨k, 3, none⟩ = some x3 → W.cell? ⟨k, 4, none⟩ = some x4 → W.cell? ⟨k, 5, none⟩ = some x5 → W.cell? ⟨k, 6, none⟩ = some x6 → (results fn a.tmps).run P W = .ok v W) (hd : a.defers = []) (hR : R (.returned v) W) : bodyPost P fn R .ret a W :=
  bodyPost_ret (h (hb.at 0 _ rfl) (hb.at 1 _ rfl) (hb.at 2 _ rfl) (hb.at 3 _ rfl) (hb.at 4 _ rfl) (hb.at 5 _ rfl) (hb.at 6 _ rfl)) hd hR
set_option maxRecDepth 100000 in
set_option maxHeartbeats 3200000 in
theorem next_new (n q keep next gen cv cl : Nat) (R V L : Option Addr) (w : World) (h1 : 1 ≤ n) (h2 : n ≤ 2000) (hk : keep ≤ n) (hx1 : 1 ≤ next) (hx : next ≤ 2147483647) (hg : gen < 2147483647) (hR : HcSl w R n q (List.replicate n HC.none)) (hV : Sl w V 0 cv []) (hL : Sl w L 0 cl []) :
    Calls Tryz.prog 63 #[.agg #[.slice R n q, .int .i64 keep, .slice V 0 cv, .slice L 0 cl, .int .i64 next, .int .i64 gen]] w fun e w' => ∃ A c, e = .returned (.tuple #[.agg #[.int .i64 n, .int .i64 ((gen + 1 : Nat) : Int), .int .i64 ((11 + 2 * n : Nat) : Int), .int .i64 ((crc (bookP next keep (List.replicate n 0)) : Nat) : Int), .slice A (11 + 2 * n) c, .slice R n q, .int .i64 keep], .int .i64 0]) ∧ Sl w' A (11 + 2 * n) c ((bookP next keep (List.replicate n 0)).map bv) ∧ Ext w w' := by
  have HT := told_new (gen := gen) h1 h2 hk hx1 hx (by omega)
  have HP := Lib.hid (fun w' (hy : Ext w w') => bkPrint_any (List.replicate n HC.none) keep [] [] next gen R V L n q 0 cv 0 cl w' HT rfl rfl (hR.ext hy) (hV.ext hy) (hL.ext hy))
  rw [bookW_new, show 11 + 6 * 0 + 3 * 0 + 2 * n = 11 + 2 * n by omega] at HP
  have HBL := Lib.hid (bookP_len next keep n).symm
  have HBK := Lib.hid (fun A c w' h => slotBook_any A (bookP next keep (List.replicate n 0)) (11 + 2 * n) c w' HBL.out h)
  have HN := Lib.hid (fun w' (hy : Ext w w') => noneUsed_any R n q w' h2 (hR.ext hy))
  have hz : 11 + 2 * n ≤ 4011 := by omega
  have h32 : crc (bookP next keep (List.replicate n 0)) < 4294967296 := crc_lt _
  generalize crc (bookP next keep (List.replicate n 0)) = cs at *
  generalize bookP next keep (List.replicate n 0) = bk at *
  generalize 11 + 2 * n = z at *
  obtain ⟨gg, hgg⟩ : ∃ gg, gen + 1 = gg := ⟨_, rfl⟩
  have v1 : IntKind.i64.wrap ((gen : Int) + 1) = (gg : Int) := by rw [IntKind.wrap_i64]; omega
  rw [hgg]
  have d1 : ((gen : Int) == 2147483647) = false := beq_eq_false_iff_ne.2 (by omega)
  have d2 : (gen == 2147483647) = false := beq_eq_false_iff_ne.2 (by omega)
  obtain ⟨W, hW⟩ : ∃ W, (w.alloc (.cells #[.slice R n q, .int .i64 keep, .slice V 0 cv, .slice L 0 cl, .int .i64 next, .int .i64 gen] 33)).alloc (.cells #[.int .i64 0, .int .i64 0, .int .i64 0, .int .i64 0, .slice none 0 0, .slice none 0 0, .int .i64 0] 126) = W := ⟨_, rfl⟩
  obtain ⟨hx0, _, b0, b1⟩ := bts2 hW
  have HB := Lib.hid b0
  have HC := Lib.hid b1
  have HX := Lib.hid hx0
  have HRD := Lib.hid (fun w' (hy : Ext W w') => (show w'.cell? ⟨w.heap.size, 0, none⟩ = some (.slice R n q) ∧ w'.cell? ⟨w.heap.size, 1, none⟩ = some (.int .i64 keep) ∧ w'.cell? ⟨w.heap.size, 2, none⟩ = some (.slice V 0 cv) ∧ w'.cell? ⟨w.heap.size, 3, none⟩ = some (.slice L 0 cl) ∧ w'.cell? ⟨w.heap.size, 4, none⟩ = some (.int .i64 next) ∧ w'.cell? ⟨w.heap.size, 5, none⟩ = some (.int .i64 gen) from ⟨(HB.out.below hy).bx.at 0 _ rfl, (HB.out.below hy).bx.at 1 _ rfl, (HB.out.below hy).bx.at 2 _ rfl, (HB.out.below hy).bx.at 3 _ rfl, (HB.out.below hy).bx.at 4 _ rfl, (HB.out.below hy).bx.at 5 _ rfl⟩))
  obtain ⟨p0, p1, p2, p3, p4, p5⟩ := HRD.out _ (Ext.refl W)
  have HW := Lib.hid hW
  clear hW b0 b1 hx0 HT hR hV hL h1 hk hx1 hx hgg
  go_enter Tryz.func63, Tryz.ntmps63
  go_wp2_with (first
    | (go_at_call 92; rw [HW.out]; refine (HP.out _ HX.out).mono ?_; rintro e w1 ⟨A, c, rfl, hs, hx1⟩; have X1 := Lib.hid hx1; have S1 := Lib.hid hs; clear p0 p1 p2 p3 p4 p5; obtain ⟨p0, p1, p2, p3, p4, p5⟩ := HRD.out _ hx1; clear hx1 hs)
    | (go_at_call 93; refine (HN.out _ (HX.out.trans X1.out)).mono ?_; rintro e w2 ⟨rfl, hx2⟩; have X2 := Lib.hid (X1.out.trans hx2); have S2 := Lib.hid (S1.out.ext hx2); clear p0 p1 p2 p3 p4 p5; obtain ⟨p0, p1, p2, p3, p4, p5⟩ := HRD.out _ X2.out; clear hx2)
    | (go_at_call 96; refine (HBK.out A c w2 S2.out).mono ?_; rintro e w3 ⟨rfl, rfl⟩; have hS8 := Bx.new w2 #[.int .i64 gg, .int .i64 z, .int .i64 cs] 119; have s0 := hS8.at 0 _ rfl; have s1 := hS8.at 1 _ rfl; have s2 := hS8.at 2 _ rfl; have HY := Lib.hid ((Ext.refl w2).alloc (.cells #[.int .i64 gg, .int .i64 z, .int .i64 cs] 119)); obtain ⟨u0, u1, u2, u3, u4, u5⟩ := HRD.out _ (X2.out.trans HY.out); have k0 := ((HC.out.below X2.out).below HY.out).bx; have f0 := k0.free 0; have f1 := k0.free 1; have f2 := k0.free 2; have f3 := k0.free 3; have f4 := k0.free 4; have f5 := k0.free 5; have f6 := k0.free 6; have q0 := k0.at 0 _ rfl; have q1 := k0.at 1 _ rfl; have q2 := k0.at 2 _ rfl; have q3 := k0.at 3 _ rfl; have q4 := k0.at 4 _ rfl; have q5 := k0.at 5 _ rfl; have q6 := k0.at 6 _ rfl; have ll := k0.lt; clear hS8 k0))
  refine ret7_cell (k := w.heap.size + 1) (v := .tuple #[.agg #[.int .i64 n, .int .i64 gg, .int .i64 z, .int .i64 cs, .slice A z c, .slice R n q, .int .i64 keep], .int .i64 0]) (((HC.out.below X2.out).below HY.out).bx.set7 (.int .i64 n) (.int .i64 gg) (.int .i64 z) (.int .i64 cs) (.slice A z c) (.slice R n q) (.int .i64 keep)) (fun r0 r1 r2 r3 r4 r5 r6 => by simp [results, Tryz.results63, go_sem, r0, r1, r2, r3, r4, r5, r6]) rfl ?_
  have hfx := HX.out.trans (X2.out.trans HY.out)
  have hoff := bytes_off (S2.out.ext HY.out) (((HC.out.below X2.out).below HY.out).bx) (fun i v x hi => by
    rcases i with _ | _ | _ | _ | _ | _ | _ | i <;> simp at hi <;> subst hi <;> simp)
  exact ⟨A, c, rfl, (((((((S2.out.ext HY.out).store1 hoff 0 _).store1 hoff 1 _).store1 hoff 2 _).store1 hoff 3 _).store1 hoff 4 _).store1 hoff 5 _).store1 hoff 6 _, Ext.store7 hfx (by omega) _ _ _ _ _ _ _⟩
end Go.Proofs.YtnlkakbpcdfgfaaGreat
namespace Go.Proofs.YtnlkakbpcdfgfaaGreat
set_option maxRecDepth 20000
open Go.RowKit Go.Shelf
attribute [local go_sem] Oper.semAt_some

/-- What is asked of the disk, write for write. -/
def foldA (b : List ByteArray) (pre : List Wr) : List Wr := pre.foldl (fun ws x => askW b [] x.1 x.2 ws) []
theorem foldA_snoc (b : List ByteArray) (pre : List Wr) (x : Wr) : foldA b (pre ++ [x]) = askW b [] x.1 x.2 (foldA b pre) := by unfold foldA; rw [List.foldl_append]; rfl
theorem foldA_take (b : List ByteArray) (base : Nat) (L : List ByteArray) : ∀ k, k ≤ L.length → foldA b ((pgs base L).take k) = asks b [] base L k
  | 0, _ => by rw [List.take_zero]; rfl
  | k + 1, h => by
    have hk : k < (pgs base L).length := by rw [pgs_len]; omega
    rw [List.take_succ_eq_append_getElem hk, foldA_snoc, foldA_take b base L k (by omega), pgs_at (by omega), asks, List.getElem?_eq_getElem (by omega)]
    rfl
theorem foldA_all (b : List ByteArray) (base : Nat) (L : List ByteArray) : foldA b (pgs base L) = asks b [] base L L.length := by
  rw [← foldA_take b base L L.length (Nat.le_refl _), ← pgs_len base L, List.take_length]
theorem foldA_len (b : List ByteArray) : ∀ (pre : List Wr), (foldA b pre).length ≤ pre.length := fun pre => by
  have h : ∀ (pre ws : List Wr), (pre.foldl (fun ws x => askW b [] x.1 x.2 ws) ws).length ≤ ws.length + pre.length := fun pre => by
    induction pre with
    | nil => intro ws; simp
    | cons x r ih =>
      intro ws
      rw [List.foldl_cons]
      have h1 := ih (askW b [] x.1 x.2 ws)
      have h2 : (askW b [] x.1 x.2 ws).length ≤ ws.length + 1 := by unfold askW; split <;> simp
      simp only [List.length_cons]; omega
  unfold foldA
  simpa using h pre []
/-- What a region leaves: one of these frames, and of the world this. -/
def atE {α : Type} (a0 : α → Act) (R : α → World → Prop) : Exit → Act → World → Prop
  | .normal, a, w => ∃ x, a = a0 x ∧ R x w
  | _, _, _ => False
theorem atE_is {α : Type} {a0 : α → Act} {R : α → World → Prop} {e : Exit} {a : Act} {w : World} (h : atE a0 R e a w) : e = .normal ∧ ∃ x, a = a0 x ∧ R x w := by
  cases e <;> first | exact ⟨rfl, h⟩ | exact h.elim
theorem Rx.out {k B c : Nat} {W X Y : World} (h : Rx k W X) (ho : Out B c X Y) (hb : W.heap.size ≤ B) : Rx k W Y :=
  ⟨ho.os.trans h.os, ho.tape.trans h.tape, ho.output.trans h.output, Nat.le_trans h.size ho.size, fun i hi hne => (ho.same i (Nat.lt_of_lt_of_le hi h.size) (.inl (by omega))).trans (h.block i hi hne)⟩
set_option maxRecDepth 100000 in
set_option maxHeartbeats 3200000 in
theorem planPlan_new (A A' R V L : Option Addr) (b : List ByteArray) (n q c c' keep next gen cv cl : Nat) (w : World) (hb : b.length ≤ 4000) (hn : cellsP b.length = n) (h1 : 1 ≤ n) (hk : keep ≤ n) (hx1 : 1 ≤ next) (hx : next ≤ 2147483647) (hg : gen < 2147483647)
    (hA : Sl w A b.length c (b.map sv)) (hA' : Sl w A' 0 c' []) (hR : HcSl w R n q (List.replicate n HC.none)) (hV : Sl w V 0 cv []) (hL : Sl w L 0 cl []) :
    Calls Tryz.prog 40 #[.agg #[.slice A b.length c, .slice A' 0 c'], .agg #[.slice R n q, .int .i64 keep, .slice V 0 cv, .slice L 0 cl, .int .i64 next, .int .i64 gen]] w fun e w' => ∃ P m cp, e = .returned (.tuple #[.slice P m cp, .int .i64 0]) ∧ w'.ownsRow w.heap.size 58 2 (.slice P m cp) m (wvs (planW b [] n keep next gen)) ∧ Ext w w' := by
  refine (callsIn_wide.1 (?_ : CallsIn Fence.wide 9 _ _ _ _ _))
  have h2 : n ≤ 2000 := by have := (cells_facts b.length).1; omega
  have HC := Lib.hid (fun w' => planCells_any b.length w')
  rw [hn] at HC
  have HNX := Lib.hid (fun w' (hy : Ext w w') => next_new n q keep next gen cv cl R V L w' h1 h2 hk hx1 hx hg (hR.ext hy) (hV.ext hy) (hL.ext hy))
  have HFL := Lib.hid (fun w' (hy : Ext w w') => flushD_any A A' b [] c c' w' (by omega) (by simp) (hA.ext hy) (hA'.ext hy))
  have HPW := Lib.hid (show planW b [] n keep next gen = foldA b (pgs (2 + (gen + 1) % 2 * areaP n) (chB (bookP next keep (List.replicate n 0)))) ++ [(-1, ⟨#[]⟩)] ++ [((((gen + 1) % 2 : Nat) : Int), supB ⟨((gen + 1 : Nat) : Int), ((11 + 2 * n : Nat) : Int), (crc (bookP next keep (List.replicate n 0)) : Nat)⟩)] ++ [(-1, ⟨#[]⟩)] from by rw [foldA_all]; rfl)
  generalize planW b [] n keep next gen = PW at *
  have HAS := Lib.hid (fun (BA : Option Addr) (bc k : Nat) (W : World) (hW : Ext w W) hS hB => ahead_seq n q (gen + 1) (11 + 2 * n) (crc (bookP next keep (List.replicate n 0))) (11 + 2 * n) bc k w.heap.size keep R BA (bookP next keep (List.replicate n 0)) W h2 (bookP_len next keep n).symm (by omega) (hR.ext hW) hS hB hW.size)
  have HPL := Lib.hid (show (pgs (2 + (gen + 1) % 2 * areaP n) (chB (bookP next keep (List.replicate n 0)))).length ≤ 4011 from by rw [pgs_len, chB_len, chunks_len, bookP_len]; unfold pieces; omega)
  generalize pgs (2 + (gen + 1) % 2 * areaP n) (chB (bookP next keep (List.replicate n 0))) = PG at *
  generalize crc (bookP next keep (List.replicate n 0)) = cs at *
  generalize bookP next keep (List.replicate n 0) = bk at *
  obtain ⟨z, hz⟩ : ∃ z, 11 + 2 * n = z := ⟨_, rfl⟩
  rw [hz] at HNX HPW HAS
  obtain ⟨gg, hgg⟩ : ∃ gg, gen + 1 = gg := ⟨_, rfl⟩
  rw [hgg] at HNX HPW HAS
  have HSL := Lib.hid (fun BA bc w' => told_slot n gg z cs BA z bc w')
  obtain ⟨par, hpar⟩ : ∃ p, gg % 2 = p := ⟨_, rfl⟩
  rw [hpar] at HPW HSL
  clear hpar
  generalize supB ⟨(gg : Int), (z : Int), (cs : Int)⟩ = sb at *
  obtain ⟨W1, hW1⟩ : ∃ W, (w.alloc (.cells #[.slice A b.length c, .slice A' 0 c'] 26)).alloc (.cells #[.slice R n q, .int .i64 keep, .slice V 0 cv, .slice L 0 cl, .int .i64 next, .int .i64 gen] 33) = W := ⟨_, rfl⟩
  obtain ⟨hx0, _, b0, b1⟩ := bts2 hW1
  have HB0 := Lib.hid b0
  have HB1 := Lib.hid b1
  have HX1 := Lib.hid hx0
  have HRD := Lib.hid (fun w' (hy : Ext W1 w') => (show w'.cell? ⟨w.heap.size, 0, none⟩ = some (.slice A b.length c) ∧ w'.cell? ⟨w.heap.size, 1, none⟩ = some (.slice A' 0 c') ∧ w'.cell? ⟨w.heap.size + 1, 0, none⟩ = some (.slice R n q) ∧ w'.cell? ⟨w.heap.size + 1, 1, none⟩ = some (.int .i64 keep) ∧ w'.cell? ⟨w.heap.size + 1, 2, none⟩ = some (.slice V 0 cv) ∧ w'.cell? ⟨w.heap.size + 1, 3, none⟩ = some (.slice L 0 cl) ∧ w'.cell? ⟨w.heap.size + 1, 4, none⟩ = some (.int .i64 next) ∧ w'.cell? ⟨w.heap.size + 1, 5, none⟩ = some (.int .i64 gen) from ⟨(HB0.out.below hy).bx.at 0 _ rfl, (HB0.out.below hy).bx.at 1 _ rfl, (HB1.out.below hy).bx.at 0 _ rfl, (HB1.out.below hy).bx.at 1 _ rfl, (HB1.out.below hy).bx.at 2 _ rfl, (HB1.out.below hy).bx.at 3 _ rfl, (HB1.out.below hy).bx.at 4 _ rfl, (HB1.out.below hy).bx.at 5 _ rfl⟩))
  have HWD := Lib.hid ((Ext.refl W1).drew)
  obtain ⟨p0, p1, s0, s1, s2, s3, s4, s5⟩ := HRD.out _ HWD.out
  have d0 : ((n : Int) != (n : Int)) = false := by simp
  have HW1 := Lib.hid hW1
  have HZ := Lib.hid hz
  clear hW1 b0 b1 hx0 hA hA' hR hV hL h1 hk hx1 hx hg hn hz hgg
  refine callsIn_of_wp_marks Tryz.func40 rfl trivial ?_ rfl
  simp only [Tryz.ntmps40, List.size_toArray, List.length_cons, List.length_nil, Nat.reduceAdd, Nat.reduceSub, Array.replicate_succ, Array.replicate_zero, List.push_toArray, List.append_toArray, List.nil_append, List.cons_append]
  gi_wp2
  rw [HW1.out]
  refine wpIn_wide.2 ?_
  refine Code.wp_mono (Q := atN { tmps := #[.agg #[.slice A b.length c, .slice A' 0 c'], .agg #[.slice R n q, .int .i64 keep, .slice V 0 cv, .slice L 0 cl, .int .i64 next, .int .i64 gen], .pointer (some ⟨w.heap.size, 0, none⟩), .pointer (some ⟨w.heap.size + 1, 0, none⟩), .slice none 0 0, .int .i64 0, undef, undef, undef, undef, undef, undef, undef, .pointer (some ⟨w.heap.size + 1, 0, none⟩), .pointer (some ⟨w.heap.size + 1, 0, none⟩), .slice R n q, .int .i64 n, .pointer (some ⟨w.heap.size, 0, none⟩), .slice A b.length c, .int .i64 b.length, .int .i64 n, .bool false, undef, undef, undef, undef, undef, undef, undef, undef, undef, undef, undef, undef, undef, undef, undef, undef, undef, undef, undef, undef, undef, undef, undef, undef, undef, undef, undef, undef, undef, undef, undef, undef, undef, undef, undef, undef], defers := [] } (Ext W1)) ?mono ?region
  case region =>
    go_region_with (go_at_call 16; refine (HC.out _).mono ?_; rintro e w2 ⟨rfl, hx2⟩; have HW3 := Lib.hid (Below.trans HWD.out (hx2.mono HWD.out.size)); have HWD := Lib.hid HW3.out; clear p0 p1 s0 s1 s2 s3 s4 s5; obtain ⟨p0, p1, s0, s1, s2, s3, s4, s5⟩ := HRD.out _ HWD.out; clear hx2)
    all_goals exact ⟨rfl, HWD.out⟩
  case mono =>
  intro e a' w1 h1
  obtain ⟨rfl, rfl, hy1⟩ := atN_is h1
  clear h1
  have X1 := Lib.hid hy1
  clear p0 p1 s0 s1 s2 s3 s4 s5
  obtain ⟨p0, p1, s0, s1, s2, s3, s4, s5⟩ := HRD.out _ hy1
  clear hy1

  have CR := Lib.hid (fun (u : World) (bb : Nat) (BA : Option Addr) (bc : Nat) (h : Bt u bb 126 #[.int .i64 n, .int .i64 gg, .int .i64 z, .int .i64 cs, .slice BA z bc, .slice R n q, .int .i64 keep]) (u' : World) (hy : Ext u u') => (show u'.cell? ⟨bb, 0, none⟩ = some (.int .i64 n) ∧ u'.cell? ⟨bb, 1, none⟩ = some (.int .i64 gg) ∧ u'.cell? ⟨bb, 2, none⟩ = some (.int .i64 z) ∧ u'.cell? ⟨bb, 3, none⟩ = some (.int .i64 cs) ∧ u'.cell? ⟨bb, 4, none⟩ = some (.slice BA z bc) ∧ u'.cell? ⟨bb, 5, none⟩ = some (.slice R n q) ∧ u'.cell? ⟨bb, 6, none⟩ = some (.int .i64 keep) from ⟨(h.below hy).bx.at 0 _ rfl, (h.below hy).bx.at 1 _ rfl, (h.below hy).bx.at 2 _ rfl, (h.below hy).bx.at 3 _ rfl, (h.below hy).bx.at 4 _ rfl, (h.below hy).bx.at 5 _ rfl, (h.below hy).bx.at 6 _ rfl⟩))
  gi_wp2_with (first
    | (refine ⟨trivial, ?_⟩; gi_at_call 63; refine (callsIn_wide.2 (HNX.out _ (HX1.out.trans X1.out))).mono ?_; rintro e w2 ⟨BA, bc, rfl, hs, hx2⟩; have X2 := Lib.hid (X1.out.trans hx2); have S2 := Lib.hid hs; clear p0 p1 s0 s1 s2 s3 s4 s5; have p0 := fun o => (HRD.out _ (X2.out.alloc o)).1; have p1 := fun o => (HRD.out _ (X2.out.alloc o)).2.1; clear hs hx2)
    | (refine ⟨trivial, ?_⟩; gi_at_call 64; refine stop_here ?_))
  refine stop_on ?_
  obtain ⟨w3, hw3⟩ : ∃ W, w2.alloc (.cells #[.int .i64 n, .int .i64 gg, .int .i64 z, .int .i64 cs, .slice BA z bc, .slice R n q, .int .i64 keep] 126) = W := ⟨_, rfl⟩
  obtain ⟨hx3, hz3, c6⟩ := bts1 hw3
  rw [hw3]
  have HX3 := Lib.hid (X2.out.trans hx3)
  have HC6 := Lib.hid c6
  have HZ3 := Lib.hid (Nat.le_trans HX1.out.size X2.out.size)
  have S3 := Lib.hid (S2.out.ext hx3)
  clear p0 p1 hw3 c6
  rw [show writeL b [] = b from rfl] at HFL
  refine (callsIn_wide.2 (HFL.out _ (HX1.out.trans HX3.out))).mono ?_
  rintro e w4 ⟨v, rfl, ⟨DA, dc, DA', dc', rfl, hdA, hdA'⟩, hx4⟩
  simp only [List.length_nil] at hdA' ⊢
  have HDA := Lib.hid hdA
  have HDB := Lib.hid hdA'
  have HX4 := Lib.hid (HX3.out.trans hx4)
  have HC4 := Lib.hid (HC6.out.below hx4)
  have hz34 : w2.heap.size + 1 ≤ w4.heap.size := by have := hx4.size; omega
  have S4 := Lib.hid (S3.out.ext hx4)
  have u0 := fun o1 o2 => (CR.out w4 w2.heap.size BA bc HC4.out _ (((Ext.refl w4).alloc o1).alloc o2)).1
  have u1 := fun o1 o2 => (CR.out w4 w2.heap.size BA bc HC4.out _ (((Ext.refl w4).alloc o1).alloc o2)).2.1
  have u2 := fun o1 o2 => (CR.out w4 w2.heap.size BA bc HC4.out _ (((Ext.refl w4).alloc o1).alloc o2)).2.2.1
  have u3 := fun o1 o2 => (CR.out w4 w2.heap.size BA bc HC4.out _ (((Ext.refl w4).alloc o1).alloc o2)).2.2.2.1
  have u4 := fun o1 o2 => (CR.out w4 w2.heap.size BA bc HC4.out _ (((Ext.refl w4).alloc o1).alloc o2)).2.2.2.2.1
  have u5 := fun o1 o2 => (CR.out w4 w2.heap.size BA bc HC4.out _ (((Ext.refl w4).alloc o1).alloc o2)).2.2.2.2.2.1
  have u6 := fun o1 o2 => (CR.out w4 w2.heap.size BA bc HC4.out _ (((Ext.refl w4).alloc o1).alloc o2)).2.2.2.2.2.2
  clear hdA hdA' hx4 hx3 hz3
  gi_wp2_with (refine ⟨trivial, ?_⟩; gi_at_call 65; refine (ahead_in _ _ _).mono ?_; rintro e w' ⟨rfl, rfl⟩)
  obtain ⟨W, hW⟩ : ∃ W, ((w4.alloc (.cells #[.slice DA b.length dc, .slice DA' 0 dc'] 26)).alloc (.cells #[.slice none 0 0] 24)).alloc (.cells #[.int .i64 n, .int .i64 gg, .int .i64 z, .int .i64 cs, .slice BA z bc, .slice R n q, .int .i64 keep] 126) = W := ⟨_, rfl⟩
  obtain ⟨hxW, hzW, b8, b9, b10⟩ := bts3 hW
  rw [hW]

  have HXW := Lib.hid (HX4.out.trans hxW)
  have HW0 := Lib.hid (HX1.out.trans HXW.out)
  have S5 := Lib.hid (S4.out.ext hxW)
  have HDW := Lib.hid (HDA.out.ext hxW)
  have HDZ := Lib.hid (HDB.out.ext hxW)
  have HB8 := Lib.hid b8
  have HB9 := Lib.hid b9
  have HC5 := Lib.hid (HC4.out.below hxW)
  have hzW2 : w4.heap.size + 3 ≤ W.heap.size := by omega
  have hzw4 : w.heap.size ≤ w4.heap.size := (HX1.out.trans HX4.out).size
  clear hW hzW u0 u1 u2 u3 u4 u5 u6
  refine range_ownW rfl (m := 3) (gf := 98) (lb := #[.pointer (some ⟨w4.heap.size + 1 + 1, 0, none⟩)]) rfl (enters_of Tryz.func98 (by kernel_rfl) rfl)
    (HAS.out BA bc (w4.heap.size + 1 + 1) W HW0.out S5.out b10) (Ext.refl _) HW0.out.size (fun k hk => by omega) (fun _ => rfl)
    (fun W0 pre X => ∃ O k oc, Bt X (w4.heap.size + 1) 24 #[.slice O k oc] ∧ X.ownsRow W0.heap.size 58 2 (.slice O k oc) k (wvs (foldA b pre)) ∧ Rx (w4.heap.size + 1) W X ∧ W0.heap.size ≤ X.heap.size)
    (fun _ _ _ _ => False)
    (fun W0 h s X Y ⟨O, k, oc, h1, h2, h3, h4⟩ ho => ⟨O, k, oc, (ho.same _ h1.lt (.inl (by omega))).trans h1, own_out h2 ho (by have := h.size; omega), Rx.out h3 ho (Nat.le_refl _), Nat.le_trans h4 ho.size⟩)
    (fun _ _ _ _ _ _ h _ => h)
    (fun W0 h => ⟨none, 0, 0, HB9.out.below h, World.ownsRow_nil _ _ _ _, Rx.of_ext h, Nat.le_refl _⟩)
    (fun W0 x a' X => ∃ Bx, W0.heap.size ≤ Bx ∧ Bt X Bx 58 #[.int .i64 x.1, .string x.2] ∧ a' = { tmps := #[.agg #[.slice A b.length c, .slice A' 0 c'], .agg #[.slice R n q, .int .i64 keep, .slice V 0 cv, .slice L 0 cl, .int .i64 next, .int .i64 gen], .pointer (some ⟨w.heap.size, 0, none⟩), .pointer (some ⟨w.heap.size + 1, 0, none⟩), .slice none 0 0, .int .i64 0, .pointer (some ⟨w2.heap.size, 0, none⟩), .int .i64 0, .pointer (some ⟨w4.heap.size, 0, none⟩), .pointer (some ⟨w4.heap.size + 1, 0, none⟩), .pointer (some ⟨Bx, 0, none⟩), undef, undef, .pointer (some ⟨w.heap.size + 1, 0, none⟩), .pointer (some ⟨w.heap.size + 1, 0, none⟩), .slice R n q, .int .i64 n, .pointer (some ⟨w.heap.size, 0, none⟩), .slice A b.length c, .int .i64 b.length, .int .i64 n, .bool false, .tuple #[.agg #[.int .i64 n, .int .i64 gg, .int .i64 z, .int .i64 cs, .slice BA z bc, .slice R n q, .int .i64 keep], .int .i64 0], .agg #[.slice R n q, .int .i64 keep, .slice V 0 cv, .slice L 0 cl, .int .i64 next, .int .i64 gen], .tuple #[.agg #[.int .i64 n, .int .i64 gg, .int .i64 z, .int .i64 cs, .slice BA z bc, .slice R n q, .int .i64 keep], .int .i64 0], .agg #[.int .i64 n, .int .i64 gg, .int .i64 z, .int .i64 cs, .slice BA z bc, .slice R n q, .int .i64 keep], .int .i64 0, .int .i64 0, .bool false, undef, .agg #[.slice A b.length c, .slice A' 0 c'], .agg #[.slice DA b.length dc, .slice DA' 0 dc'], .agg #[.int .i64 n, .int .i64 gg, .int .i64 z, .int .i64 cs, .slice BA z bc, .slice R n q, .int .i64 keep], .func (.func 98) #[] #[.pointer (some ⟨w4.heap.size + 1 + 1, 0, none⟩)], .agg #[.int .i64 x.1, .string x.2], undef, undef, undef, undef, undef, undef, undef, undef, undef, undef, undef, undef, undef, undef, undef, undef, undef, undef, undef, undef, undef, undef, undef], defers := [] })
    (fun W0 x a' h u X Y hs ho => ⟨hs.choose, hs.choose_spec.1, (ho.same _ hs.choose_spec.2.1.lt (.inr (by have := hs.choose_spec.1; have := h.size; omega))).trans hs.choose_spec.2.1, hs.choose_spec.2.2⟩)
    ?assign ?body ?done ?stop
  case assign =>
    rintro l2 W0 pre ⟨xa, xs⟩ X K hx0 ⟨O, k, oc, i1, i2, i3, i4⟩ hz hp hK
    have HX := Lib.hid (show Ext X (X.alloc (.cells #[.int .i64 xa, .string xs] 58)) from (Ext.refl X).alloc _)
    have HI := Lib.hid (show ∃ O k oc, Bt (X.alloc (.cells #[.int .i64 xa, .string xs] 58)) (w4.heap.size + 1) 24 #[.slice O k oc] ∧ (X.alloc (.cells #[.int .i64 xa, .string xs] 58)).ownsRow W0.heap.size 58 2 (.slice O k oc) k (wvs (foldA b pre)) ∧ Rx (w4.heap.size + 1) W (X.alloc (.cells #[.int .i64 xa, .string xs] 58)) ∧ W0.heap.size ≤ (X.alloc (.cells #[.int .i64 xa, .string xs] 58)).heap.size from ⟨O, k, oc, i1.below HX.out, own_ext i2 HX.out, i3.ext HX.out, Nat.le_trans i4 HX.out.size⟩)
    have HKX := Lib.hid hK
    have HS0 := Lib.hid (Nat.le_trans (Nat.le_trans HW0.out.size hx0.size) hz)
    clear i1 i2 i3 i4 hK
    show Code.wpIn _ _ _ _ _ _ _
    simp only [encW]
    gi_wp2
    exact HKX.out _ _ (Kp.ext _ HX.out HS0.out) HI.out ⟨X.heap.size, hz, Bt.new X _ _, rfl⟩
  case body =>
    rintro l2 W0 pre ⟨xa, xs⟩ a' X hx0 ⟨O, k, oc, i1, i2, i3, i4⟩ ⟨Bx, hBx, bX, rfl⟩ hz hp
    have hB8 : Bt X w4.heap.size 26 #[.slice DA b.length dc, .slice DA' 0 dc'] := (i3.block _ (by omega) (by omega)).trans HB8.out
    have HSD := Lib.hid (rd_row HB9.out.bx (fun v hv => by simp only [List.mem_cons, List.not_mem_nil, or_false] at hv; exact .inl ⟨_, _, _, hv⟩) i3 HDW.out (fun u hu => by
      obtain ⟨s, _, rfl⟩ := List.mem_map.1 hu
      exact ⟨fun _ _ _ e => by simp [sv] at e, fun _ e => by simp [sv] at e⟩))
    obtain ⟨x0, x1, x2⟩ := hB8.bx.read2
    obtain ⟨y0, y1, y2⟩ := bX.bx.read2
    have HRD2 := Lib.hid (readD_any DA DA' b [] dc dc' xa X (by omega) (by simp) HSD.out.cells (fun h => absurd rfl h))
    have HBX := Lib.hid bX
    have HI1 := Lib.hid i1
    have HI2 := Lib.hid i2
    have HI3 := Lib.hid i3
    have HI4 := Lib.hid i4
    simp only [List.length_nil] at HRD2
    clear i1 i2 i3 i4 bX hB8
    have HFS := Lib.hid (foldA_snoc b pre (xa, xs))
    unfold askW at HFS
    simp only at HFS
    have hkb : k ≤ 4011 := by
      have e1 := HI2.out.1
      rw [wvs_length] at e1
      have e2 := foldA_len b pre
      have e3 := hp.length_le
      have e4 := HPL.out
      simp only [List.length_append, List.length_cons, List.length_nil] at e3
      omega
    generalize readS b [] xa = rs at *
    cases hq : (rs.toList == xs.toList)
    · have hq2 : (rs.toList != xs.toList) = true := by simp only [bne, hq]; rfl
      rw [hq] at HFS
      simp only [Bool.false_eq_true, if_false] at HFS
      have HME := Lib.hid (show wvs (foldA b (pre ++ [(xa, xs)])) = wvs (foldA b pre) ++ [.int .i64 xa, .string xs] from by rw [HFS.out, wvs_append]; rfl)
      have HZZ := Lib.hid hz
      clear hp
      gi_wp2_with (first
        | (refine ⟨trivial, ?_⟩; gi_at_call 66; refine (callsIn_wide.2 HRD2.out).mono ?_; rintro e w5 ⟨rfl, hx5⟩; have X5 := Lib.hid hx5; obtain ⟨y0, y1, y2⟩ := (HBX.out.below hx5).bx.read2; have c9 := (HI1.out.below hx5).bx.at 0 _ rfl; clear hx5)
        | (gi_at_builtin; refine stop_here ?_))
      refine stop_on ?_
      have HX6 := Lib.hid (X5.out.alloc (.cells #[.int .i64 xa, .string xs] 58))
      have HR6 := Lib.hid (own_ext HI2.out HX6.out)
      have HO6 := Lib.hid (HI1.out.below HX6.out)
      have HN6 := Lib.hid (sl_lit w5 58 1 [.int .i64 xa, .string xs] (by unfold maxLen; omega))
      obtain ⟨i, hi', hz', hs', hb'⟩ := info_parts infoW
      refine wpListIn_append_own _ rfl _ _ 24 rfl W0.heap.size 58 i _ 2 24 Tryz.underlying24 hi' hz' hs' hb' rfl (by omega) _ k _ rfl HR6.out ⟨w5.heap.size, 0, none⟩ 1 1 [.int .i64 xa, .string xs] rfl rfl (HN6.out.cells.at_ _ rfl) (by intro u hu; simp only [List.mem_cons, List.not_mem_nil, or_false] at hu; rcases hu with rfl | rfl <;> rfl) (by unfold maxLen; omega) (by omega) (Nat.le_trans HZZ.out HX6.out.size) ?_
      intro v' w6 h5 h6 _
      obtain ⟨A9, c10, rfl⟩ := own_shape h5
      have HO7 := Lib.hid (show Bt w6 (w4.heap.size + 1) 24 #[.slice O k oc] from (h6.block _ HO6.out.lt (fun e => by have := own_blk HR6.out _ e.symm; have := hx0.size; omega)).trans HO6.out)
      have HR7 := Lib.hid h5
      have HK7 := Lib.hid ((Kp.ext (n₀ := w.heap.size) (fun k => k = w4.heap.size + 1 + 1 ∨ (W.heap.size ≤ k ∧ k < W0.heap.size)) HX6.out (by have := HW0.out.size; have := hx0.size; omega)).trans ((Kp.grown h6 (fun r hr => by have := own_blk HR6.out r hr; have := hx0.size; omega) (by have := HW0.out.size; have := hx0.size; have := HX6.out.size; omega)).trans (Kp.set w6 (k := w4.heap.size + 1) (by omega) (by omega) 0 (.slice A9 (k + 1) c10))))
      have HK67 := Lib.hid (show (w5.alloc (.cells #[.int .i64 xa, .string xs] 58)).heap.size ≤ (w6.setCell ⟨w4.heap.size + 1, 0, none⟩ (.slice A9 (k + 1) c10)).heap.size from by simpa [World.setCell] using h6.size)
      have HRX := Lib.hid (((HI3.out.ext HX6.out).app HR6.out hx0.size h6).set 0 (.slice A9 (k + 1) c10))
      have c9 := HO7.out.bx.at 0 _ rfl
      have f9 := HO7.out.bx.free 0
      have g9 := HO7.out.lt
      have HLT := Lib.hid (show w4.heap.size + 1 < W0.heap.size from by have := hx0.size; omega)
      clear h5 h6
      gi_wp2
      refine ⟨HK7.out, A9, k + 1, c10, HO7.out.set1 _, ?_, HRX.out, Nat.le_trans HZZ.out (Nat.le_trans HX6.out.size HK67.out)⟩
      rw [HME.out]
      exact own_setP HR7.out HLT.out _
    · have hq2 : (rs.toList != xs.toList) = false := by simp only [bne, hq]; rfl
      rw [hq] at HFS
      simp only [if_true] at HFS
      have HZZ := Lib.hid (show w.heap.size ≤ X.heap.size from by have := HW0.out.size; have := hx0.size; omega)
      clear hp
      gi_wp2_with (refine ⟨trivial, ?_⟩; gi_at_call 66; refine (callsIn_wide.2 HRD2.out).mono ?_; rintro e w5 ⟨rfl, hx5⟩; have X5 := Lib.hid hx5; obtain ⟨y0, y1, y2⟩ := (HBX.out.below hx5).bx.read2; clear hx5)
      refine ⟨Kp.ext _ X5.out HZZ.out, O, k, oc, HI1.out.below X5.out, ?_, HI3.out.ext X5.out, Nat.le_trans HI4.out X5.out.size⟩
      rw [HFS.out]
      exact own_ext HI2.out X5.out
  case done =>
    rintro D W0 X rfl hx0 hd2 ⟨O, k, oc, i1, i2, i3, i4⟩ hK
    have hC6 : Bt X w2.heap.size 126 #[.int .i64 n, .int .i64 gg, .int .i64 z, .int .i64 cs, .slice BA z bc, .slice R n q, .int .i64 keep] := (i3.block _ (by omega) (by omega)).trans HC5.out
    have HC7 := Lib.hid hC6
    have HI1 := Lib.hid i1
    have HI2 := Lib.hid i2
    have HBW := Lib.hid (show Ext w X from i3.over HW0.out (by omega))
    have HK1 := Lib.hid hK
    have hkb : k ≤ 4011 := by
      have e1 := HI2.out.1
      rw [wvs_length] at e1
      have e2 := foldA_len b PG
      have e4 := HPL.out
      omega
    have HR9 := Lib.hid (fun w' (hy : Ext X w') => (show w'.cell? ⟨w4.heap.size + 1, 0, none⟩ = some (.slice O k oc) from (HI1.out.below hy).bx.at 0 _ rfl))
    have HR6 := Lib.hid (fun w' (hy : Ext X w') => CR.out X w2.heap.size BA bc HC7.out w' hy)
    have HXX := Lib.hid ((Ext.refl X).drew)
    have c9 := HR9.out _ HXX.out
    obtain ⟨u0, u1, u2, u3, u4, u5, u6⟩ := HR6.out _ HXX.out
    have HZZ := Lib.hid (show w.heap.size ≤ X.heap.size ∧ W.heap.size + 2 ≤ W0.heap.size ∧ w.heap.size ≤ W.heap.size from ⟨HBW.out.size, hd2, HW0.out.size⟩)
    have HW00 := Lib.hid (show W0.heap.size ≤ X.heap.size from i4)
    clear i1 i2 i3 i4 hK hC6 hd2 hx0
    gi_wp2
    refine wpIn_wide.2 ?_
    refine Code.wp_mono (Q := atE (fun x : Option Addr × Nat × Value => { tmps := #[.agg #[.slice A b.length c, .slice A' 0 c'], .agg #[.slice R n q, .int .i64 keep, .slice V 0 cv, .slice L 0 cl, .int .i64 next, .int .i64 gen], .pointer (some ⟨w.heap.size, 0, none⟩), .pointer (some ⟨w.heap.size + 1, 0, none⟩), .slice x.1 (k + 3) x.2.1, .int .i64 0, .pointer (some ⟨w2.heap.size, 0, none⟩), .int .i64 0, .pointer (some ⟨w4.heap.size, 0, none⟩), .pointer (some ⟨w4.heap.size + 1, 0, none⟩), undef, undef, undef, .pointer (some ⟨w.heap.size + 1, 0, none⟩), .pointer (some ⟨w.heap.size + 1, 0, none⟩), .slice R n q, .int .i64 n, .pointer (some ⟨w.heap.size, 0, none⟩), .slice A b.length c, .int .i64 b.length, .int .i64 n, .bool false, .tuple #[.agg #[.int .i64 n, .int .i64 gg, .int .i64 z, .int .i64 cs, .slice BA z bc, .slice R n q, .int .i64 keep], .int .i64 0], .agg #[.slice R n q, .int .i64 keep, .slice V 0 cv, .slice L 0 cl, .int .i64 next, .int .i64 gen], .tuple #[.agg #[.int .i64 n, .int .i64 gg, .int .i64 z, .int .i64 cs, .slice BA z bc, .slice R n q, .int .i64 keep], .int .i64 0], .agg #[.int .i64 n, .int .i64 gg, .int .i64 z, .int .i64 cs, .slice BA z bc, .slice R n q, .int .i64 keep], .int .i64 0, .int .i64 0, .bool false, undef, .agg #[.slice A b.length c, .slice A' 0 c'], .agg #[.slice DA b.length dc, .slice DA' 0 dc'], .agg #[.int .i64 n, .int .i64 gg, .int .i64 z, .int .i64 cs, .slice BA z bc, .slice R n q, .int .i64 keep], .func (.func 98) #[] #[.pointer (some ⟨w4.heap.size + 1 + 1, 0, none⟩)], undef, undef, undef, undef, undef, undef, undef, undef, undef, undef, undef, undef, undef, undef, undef, undef, .slice O k oc, .agg #[.int .i64 (-1), .string (ByteArray.mk #[])], .pointer (some ⟨w2.heap.size, 0, none⟩), .agg #[.int .i64 n, .int .i64 gg, .int .i64 z, .int .i64 cs, .slice BA z bc], .agg #[.int .i64 par, .string sb], .agg #[.int .i64 (-1), .string (ByteArray.mk #[])], x.2.2, .slice x.1 (k + 3) x.2.1], defers := [{ target := .collected W.heap.size, args := #[] }] }) (fun x w' => w'.ownsRow w.heap.size 58 2 (.slice x.1 (k + 3) x.2.1) (k + 3) (wvs PW) ∧ Below w.heap.size w w' ∧ w'.heap[W.heap.size]? = some (.deferred (some [])))) ?mono ?region
    case region =>
      have HNW := Lib.hid (show wvs PW = wvs (foldA b PG) ++ [.int .i64 (-1), .string (ByteArray.mk #[]), .int .i64 par, .string sb, .int .i64 (-1), .string (ByteArray.mk #[])] from by rw [HPW.out, wvs_append, wvs_append, wvs_append]; simp [wvs])
      go_region_law (first
        | (go_simp; go_at_call 67; refine (flush_is _).mono ?_; rintro e w5 ⟨rfl, hx5⟩; have HXY := Lib.hid (show Ext X w5 from Below.trans HXX.out (hx5.mono HXX.out.size)); have HXX := Lib.hid HXY.out; clear c9 u0 u1 u2 u3 u4 u5 u6 hx5; have c9 := HR9.out _ HXX.out; have c8 := fun (o : Obj) => HR9.out _ (HXX.out.alloc o); obtain ⟨u0, u1, u2, u3, u4, u5, u6⟩ := HR6.out _ HXX.out)
        | (go_simp; go_at_call 68; refine (HSL.out BA bc _).mono ?_; rintro e w5 ⟨rfl, hx5⟩; have HXY := Lib.hid (show Ext X w5 from Below.trans HXX.out (hx5.mono HXX.out.size)); have HXX := Lib.hid HXY.out; clear c9 u0 u1 u2 u3 u4 u5 u6 hx5; have c9 := HR9.out _ HXX.out; have c8 := fun (o : Obj) => HR9.out _ (HXX.out.alloc o); obtain ⟨u0, u1, u2, u3, u4, u5, u6⟩ := HR6.out _ HXX.out)
        | (refine step_app_sl rfl (.tmp 50) (.tmp 56) 24 rfl W0.heap.size 58 (.agg #[.int .i64 0, .string (ByteArray.mk #[])]) 2 24 Tryz.underlying24 infoW rfl Nat.two_pos _ k _ rfl (own_ext HI2.out (HXX.out.alloc _)) _ 3 3 [.int .i64 (-1), .string (ByteArray.mk #[]), .int .i64 par, .string sb, .int .i64 (-1), .string (ByteArray.mk #[])] rfl rfl (slU_lit rfl _ _ _ (by unfold maxLen; omega)) (by intro u hu; simp only [List.mem_cons, List.not_mem_nil, or_false] at hu; rcases hu with rfl | rfl | rfl | rfl | rfl | rfl <;> rfl) (by unfold maxLen; omega) (by omega) (Nat.le_trans HW00.out (HXX.out.alloc _).size) ?_
           intro A9 c10 w9 g1 g2
           have H9 := Lib.hid g1
           have B9 := Lib.hid ((Below.trans HBW.out ((HXX.out.alloc _).mono HBW.out.size)).grown g2 (by have := HZZ.out; have := (HXX.out.alloc (.deferred none)).size; simp at this ⊢; omega) (fun r hr => by have := own_blk HI2.out r hr; have := HZZ.out; omega))
           have D9 := Lib.hid (show w9.heap[W.heap.size]? = some (.deferred (some [])) from (g2.block _ (Nat.lt_of_lt_of_le (Array.getElem?_eq_some_iff.1 HK1.out).1 (HXX.out.alloc _).size) (fun e => by have := own_blk HI2.out _ e.symm; have := HZZ.out; omega)).trans (((HXX.out.alloc _).block _ (Array.getElem?_eq_some_iff.1 HK1.out).1).trans HK1.out))
           clear g1 g2))
      all_goals exact ⟨(A9, c10, _), rfl, by rw [HNW.out]; exact own_lowPmF H9.out (by have := HZZ.out; omega), B9.out, D9.out⟩
    case mono =>
      intro e a' w9 h9
      obtain ⟨rfl, ⟨P, cp, u56⟩, rfl, g1, g2, g3⟩ := atE_is h9
      have G1 := Lib.hid (own_def g1 g3 (.deferred none))
      have G2 := Lib.hid (kept_def g2 (Nat.le_refl _) (by have := HZZ.out; omega) g3 (.deferred none))
      have HK := Lib.hid g3
      clear h9 g1 g2 g3 c9 u0 u1 u2 u3 u4 u5 u6
      gi_wp2
      refine ⟨by simp, .inl ⟨_, _, rfl, run_takeDeferred HK.out, ?_⟩⟩
      exact ⟨.tuple #[.slice P (k + 3) cp, .int .i64 0], by simp [results, Tryz.f40, go_sem], P, k + 3, cp, rfl, G1.out, G2.out⟩
  case stop =>
    rintro D W0 cd u X rfl hx0 hd2 hu h hK
    exact h.elim
end Go.Proofs.YtnlkakbpcdfgfaaGreat
