/- Same of the reference of layer 12 of any two states that hold the same; May of layer 14. May of the reference of layer 14; what package mount is to answer for MountReads. -/
import Derived.Test.YtjbfopnkeclfgaaGreatK15
import Derived.Test.YtjbfopnkeclfgaaGreatK18
import Derived.Test.YtjbfopnkeclfgaaGreatK08
namespace Go.Proofs.YtjbfopnkeclfgaaGreat
set_option maxRecDepth 20000
open Go.RowKit
attribute [local go_sem ↓] Go.wp_at_zero Go.wp_at_succ
attribute [local go_sem] beq_self_eq_true bne_self_eq_false

set_option maxHeartbeats 1600000 in
theorem ref12Vols_same (A B : Option Addr) (l : List It) (n c d : Nat) (w : World) (hn : n = l.length) (hA : Sl w A n c (ivs l)) (hB : Sl w B n d (ivs l)) :
    Calls Tryz.prog 23 #[.slice A n c, .slice B n d] w fun e w' => e = .returned (.bool true) ∧ Ext w w' := by
  have hl := hA.len
  unfold maxLen at hl
  have HA := Lib.hid hA
  have HB := Lib.hid hB
  have HN := Lib.hid hn
  have e2 : ((n : Int) != (n : Int)) = false := by simp
  clear hA hB hn
  go_enter Tryz.func23, Tryz.ntmps23
  go_wp2
  go_loopw [5] (fun i wr => ∃ k : Nat, k ≤ n ∧ i = .int .i64 k ∧ Ext w wr) (fun i _ => n - (intOf i).toNat)
  case atStart => exact ⟨0, Nat.zero_le _, rfl, Ext.refl _⟩
  case round =>
    obtain ⟨k, hk, rfl, hx⟩ := hrel
    have HX := Lib.hid hx
    clear hx
    rcases Nat.lt_or_ge k n with hlt | hge
    · have hka : k < l.length := by rw [← HN.out]; exact hlt
      obtain ⟨ba, oa, rfl, _, hca⟩ := (HA.out.ext HX.out).cells.it hka
      obtain ⟨bb, ob, rfl, _, hcb⟩ := (HB.out.ext HX.out).cells.it hka
      obtain ⟨a0, a1⟩ := hca k hka
      obtain ⟨b0, b1⟩ := hcb k hka
      have hki : (k : Int) < (n : Int) := by omega
      clear hca hcb
      generalize l[k] = x at *
      obtain ⟨x1, x2⟩ := x
      simp only at a0 a1 b0 b1
      go_wp2_with fail
      go_quiet (fail)
      go_wp2
      go_roundw
      case rel => exact ⟨k + 1, by omega, by go_num, HX.out.drewN _⟩
      case measure => simp [intOf]; omega
    · obtain rfl : n = k := by omega
      clear hge
      go_wp2
      go_ret
      exact ⟨rfl, HX.out⟩
/-- A state. -/
structure MSt where
  c : List HC
  keep : Int
  v : List It
  l : List Tk
  next : Int
  gen : Int
/-- A state as it lies in memory. -/
def MSt.val (s : MSt) (R V L : Option Addr) (q cv cl : Nat) : Value := .agg #[.slice R s.c.length q, .int .i64 s.keep, .slice V s.v.length cv, .slice L s.l.length cl, .int .i64 s.next, .int .i64 s.gen]
structure MSt.at (s : MSt) (w : World) (R V L : Option Addr) (q cv cl : Nat) : Prop where
  c : HcSl w R s.c.length q s.c
  v : Sl w V s.v.length cv (ivs s.v)
  l : Sl w L s.l.length cl (s.l.map cxv)
theorem MSt.at.ext {s : MSt} {w w' : World} {R V L : Option Addr} {q cv cl : Nat} (h : s.at w R V L q cv cl) (hx : Ext w w') : s.at w' R V L q cv cl := ⟨h.c.ext hx, h.v.ext hx, h.l.ext hx⟩
set_option maxRecDepth 100000 in
set_option maxHeartbeats 1600000 in
theorem ref12Same_same (s : MSt) (hs : sameT s.l s.l = true) (R V L R' V' L' : Option Addr) (q cv cl q' cv' cl' : Nat) (w : World) (h1 : s.at w R V L q cv cl) (h2 : s.at w R' V' L' q' cv' cl') :
    Calls Tryz.prog 11 #[s.val R V L q cv cl, s.val R' V' L' q' cv' cl'] w fun e w' => e = .returned (.bool true) ∧ Ext w w' := by
  obtain ⟨c, keep, v, l, next, gen⟩ := s
  obtain ⟨hR, hV, hL⟩ := h1
  obtain ⟨hR', hV', hL'⟩ := h2
  unfold MSt.val
  simp only at hs hR hV hL hR' hV' hL' ⊢
  have RL := Lib.hid (fun w' (h3 : Sl w' L l.length cl (l.map cxv)) (h4 : Sl w' L' l.length cl' (l.map cxv)) => ref06Same_any L L' l l l.length l.length cl cl' w' rfl rfl h3 h4)
  rw [hs] at RL
  have RV := Lib.hid (fun w' h3 h4 => ref12Vols_same V V' v v.length cv cv' w' rfl h3 h4)
  have RH := Lib.hid (fun w' h3 h4 => ref05Same_any R R' c c c.length c.length q q' keep keep w' h3 h4)
  rw [sameH_self] at RH
  generalize c.length = n at *
  generalize v.length = m at *
  generalize l.length = t at *
  have hb1 := (Bx.new w #[.slice R n q, .int .i64 keep, .slice V m cv, .slice L t cl, .int .i64 next, .int .i64 gen] 34).ext ((Ext.refl _).alloc (.cells #[.slice R' n q', .int .i64 keep, .slice V' m cv', .slice L' t cl', .int .i64 next, .int .i64 gen] 34))
  have hb2 := Bx.new (w.alloc (.cells #[.slice R n q, .int .i64 keep, .slice V m cv, .slice L t cl, .int .i64 next, .int .i64 gen] 34)) #[.slice R' n q', .int .i64 keep, .slice V' m cv', .slice L' t cl', .int .i64 next, .int .i64 gen] 34
  rw [World.size_alloc] at hb2
  have hx := ((Ext.refl w).alloc (.cells #[.slice R n q, .int .i64 keep, .slice V m cv, .slice L t cl, .int .i64 next, .int .i64 gen] 34)).alloc (.cells #[.slice R' n q', .int .i64 keep, .slice V' m cv', .slice L' t cl', .int .i64 next, .int .i64 gen] 34)
  generalize hW : ((w.alloc _).alloc _) = W1 at hb1 hb2 hx
  have HB1 := Lib.hid hb1
  have HB2 := Lib.hid hb2
  have HX := Lib.hid hx
  have A1 := Lib.hid (hR.ext hx)
  have A2 := Lib.hid (hV.ext hx)
  have A3 := Lib.hid (hL.ext hx)
  have A4 := Lib.hid (hR'.ext hx)
  have A5 := Lib.hid (hV'.ext hx)
  have A6 := Lib.hid (hL'.ext hx)
  obtain ⟨s0, s1, s2, s3, s4, s5⟩ := st_at6 hb1
  obtain ⟨t0, t1, t2, t3, t4, t5⟩ := st_at6 hb2
  clear hb1 hb2 hx hR hR' hV hV' hL hL' hs
  go_enter Tryz.func11, Tryz.ntmps11
  go_wp2_with (first
    | (go_at_call 22
       with_reducible refine (RH.out _ ?_ ?_).mono ?_
       exact A1.out
       exact A4.out
       rintro e w2 ⟨rfl, hx⟩
       have Y2 := Lib.hid hx
       clear hx s0 s1 s2 s3 s4 s5 t0 t1 t2 t3 t4 t5
       obtain ⟨s0, s1, s2, s3, s4, s5⟩ := st_at6 (HB1.out.ext Y2.out)
       obtain ⟨t0, t1, t2, t3, t4, t5⟩ := st_at6 (HB2.out.ext Y2.out))
    | (go_at_call 23
       with_reducible refine (RV.out _ ?_ ?_).mono ?_
       exact A2.out.ext Y2.out
       exact A5.out.ext Y2.out
       rintro e w3 ⟨rfl, hx⟩
       have Y3 := Lib.hid (Y2.out.trans hx)
       clear hx s0 s1 s2 s3 s4 s5 t0 t1 t2 t3 t4 t5
       obtain ⟨s0, s1, s2, s3, s4, s5⟩ := st_at6 (HB1.out.ext Y3.out)
       obtain ⟨t0, t1, t2, t3, t4, t5⟩ := st_at6 (HB2.out.ext Y3.out))
    | (go_at_call 24
       with_reducible refine (RL.out _ ?_ ?_).mono ?_
       exact A3.out.ext Y3.out
       exact A6.out.ext Y3.out
       rintro e w4 ⟨rfl, nq, hx⟩
       have Y4 := Lib.hid (show Ext W1 w4 from by rw [hx]; exact Y3.out.drewN _)
       clear hx s0 s1 s2 s3 s4 s5 t0 t1 t2 t3 t4 t5
       obtain ⟨s0, s1, s2, s3, s4, s5⟩ := st_at6 (HB1.out.ext Y4.out)
       obtain ⟨t0, t1, t2, t3, t4, t5⟩ := st_at6 (HB2.out.ext Y4.out)))
  go_ret
  exact ⟨rfl, HX.out.trans Y4.out⟩
end Go.Proofs.YtjbfopnkeclfgaaGreat
namespace Go.Proofs.YtjbfopnkeclfgaaGreat
set_option maxRecDepth 20000
open Go.RowKit
attribute [local go_sem ↓] Go.wp_at_zero Go.wp_at_succ

def mayD (b : List ByteArray) (l : List Wr) : Bool := smallS b l 200 && rightS b l
set_option maxHeartbeats 800000 in
theorem ref14May_any (A A' : Option Addr) (b : List ByteArray) (l : List Wr) (c c' : Nat) (w : World) (hA : Sl w A b.length c (b.map sv)) (hA' : Sl w A' l.length c' (wvs l)) :
    Calls Tryz.prog 5 #[.agg #[.slice A b.length c, .slice A' l.length c']] w fun e w' => e = .returned (.bool (mayD b l)) ∧ Ext w w' := by
  unfold mayD
  have HA := Lib.hid hA
  have HA' := Lib.hid hA'
  have RS := Lib.hid (fun w' (hx : Ext w w') => small_any A A' b l c c' 200 w' hA.len hA'.len (hA.cells.ext hx) (hA'.cells.ext hx))
  have RR := Lib.hid (fun w' (hx : Ext w w') => rightR_any A A' b l c c' w' hA.len hA'.len (hA.cells.ext hx) (hA'.cells.ext hx))
  have hb := Bx.new w #[.slice A b.length c, .slice A' l.length c'] 25
  have HB := Lib.hid hb
  have HX := Lib.hid ((Ext.refl w).alloc (.cells #[.slice A b.length c, .slice A' l.length c'] 25))
  obtain ⟨p0, p1, z2⟩ := hb.read2
  clear hb hA hA'
  generalize smallS b l 200 = s at *
  generalize rightS b l = t at *
  cases s
  · go_enter Tryz.func5, Tryz.ntmps5
    go_wp2_with (go_at_call 14; with_reducible refine (RS.out _ HX.out).mono ?_; rintro e w2 ⟨rfl, hx⟩; have X2 := Lib.hid (HX.out.trans hx); clear hx)
    go_ret
    exact ⟨rfl, X2.out⟩
  · go_enter Tryz.func5, Tryz.ntmps5
    go_wp2_with (first
      | (go_at_call 14; with_reducible refine (RS.out _ HX.out).mono ?_; rintro e w2 ⟨rfl, hx⟩; have X2 := Lib.hid (HX.out.trans hx); have B2 := Lib.hid (HB.out.ext hx); clear hx p0 p1 z2; obtain ⟨p0, p1, z2⟩ := B2.out.read2)
      | (go_at_call 15; with_reducible refine (RR.out _ X2.out).mono ?_; rintro e w3 ⟨rfl, hx⟩; have X3 := Lib.hid (X2.out.trans hx); clear hx))
    go_ret
    exact ⟨ret_bool (Bool.true_and _).symm, X3.out⟩
/-- Blocks that a disk may have. -/
def okD (B : List ByteArray) : Prop := 1 ≤ B.length ∧ B.length ≤ 135 ∧ B.all okB = true
theorem okD_of {b : List ByteArray} {l : List Wr} (h : rightS b l = true) (hb : b.length ≤ 135) : okD (writeL b l) := by
  unfold rightS at h
  simp only [Bool.and_eq_true, decide_eq_true_eq] at h
  exact ⟨by rw [writeL_length]; omega, by rw [writeL_length]; exact hb, cm_writeL l b h.2.2.1 h.2.2.2⟩
theorem right_of {B : List ByteArray} (h : okD B) : rightS B [] = true := by
  unfold rightS
  rw [h.2.2]
  have h1 := h.1
  have h2 := h.2.1
  simp
  omega
theorem zero_ok {m : Nat} (h1 : 1 ≤ m) (h2 : m ≤ 135) : okD (List.replicate m zb) := ⟨by rw [List.length_replicate]; exact h1, by rw [List.length_replicate]; exact h2, zb_ok m⟩
/-- What the law asks of package mount: the state that a disk holds, and its error; what the slots tell, and the error: all of the blocks as they are read. -/
structure MtOk where
  st : List ByteArray → MSt
  er : List ByteArray → Int
  sup : List ByteArray → Int × Int × Int
  ser : List ByteArray → Int
  shown : ∀ w, Calls Tryz.prog 4 #[] w fun e w' => e = .returned (.bool true) ∧ Ext w w'
  mount : ∀ (A A' : Option Addr) (b : List ByteArray) (l : List Wr) (c c' : Nat) (w : World), rightS b l = true → b.length ≤ 135 → l.length ≤ 200 → Sl w A b.length c (b.map sv) → Sl w A' l.length c' (wvs l) →
    Calls Tryz.prog 6 #[.agg #[.slice A b.length c, .slice A' l.length c']] w fun e w' => ∃ R V L q cv cl, e = .returned (.tuple #[(st (writeL b l)).val R V L q cv cl, .int .i64 (er (writeL b l))]) ∧ (st (writeL b l)).at w' R V L q cv cl ∧ Ext w w'
  super : ∀ (A A' : Option Addr) (b : List ByteArray) (l : List Wr) (c c' : Nat) (w : World), rightS b l = true → b.length ≤ 135 → l.length ≤ 200 → Sl w A b.length c (b.map sv) → Sl w A' l.length c' (wvs l) →
    Calls Tryz.prog 8 #[.agg #[.slice A b.length c, .slice A' l.length c']] w fun e w' => e = .returned (.tuple #[.agg #[.int .i64 (sup (writeL b l)).1, .int .i64 (sup (writeL b l)).2.1, .int .i64 (sup (writeL b l)).2.2], .int .i64 (ser (writeL b l))]) ∧ Ext w w'
  check : ∀ (A A' : Option Addr) (b : List ByteArray) (l : List Wr) (c c' : Nat) (w : World), rightS b l = true → b.length ≤ 135 → l.length ≤ 200 → Sl w A b.length c (b.map sv) → Sl w A' l.length c' (wvs l) →
    Calls Tryz.prog 10 #[.agg #[.slice A b.length c, .slice A' l.length c']] w fun e w' => ∃ n : Int, e = .returned (.tuple #[.int .i64 n, .int .i64 (er (writeL b l))]) ∧ Ext w w'
  right : ∀ (B : List ByteArray) (R V L : Option Addr) (q cv cl : Nat) (w : World), okD B → er B = 0 → (st B).at w R V L q cv cl →
    Calls Tryz.prog 12 #[(st B).val R V L q cv cl] w fun e w' => e = .returned (.bool true) ∧ Ext w w'
  same : ∀ B, okD B → sameT (st B).l (st B).l = true
  zero : ∀ m, 1 ≤ m → m ≤ 135 → er (List.replicate m zb) = 4
  gen : ∀ B, okD B → er B = 0 → (st B).gen = (sup B).1
end Go.Proofs.YtjbfopnkeclfgaaGreat
