/- The contracts of layer 4 with their values laid by equations, and the walk of the example. -/
import Derived.Test.YtpcchbcibcfldaaNodeA
namespace Go.Proofs.Ytpcchbcibcfldaa
open Go.RowKit

theorem ref04Split_rows (A : Option Addr) (l : List It) (n c : Nat) (w : World) (hn : n = l.length) (hb : n ≤ 1000) (hA : Sl w A n c (ivs l)) :
    Calls Try.prog 23 #[.slice A n c] w fun e w' => ∃ R q, e = .returned (.slice R (splitS l).length q) ∧ RowsSl w' R (splitS l).length q (splitS l) ∧ Ext w w' := by
  refine (ref04Split_any l.length A l n c w w (Nat.le_refl _) hn hb (Ext.refl w) hA).mono ?_
  rintro e w' ⟨R, q, cs, rfl, h1, h2, hx⟩
  exact ⟨R, q, rfl, ⟨rfl, cs, h1, h2.ext hx⟩, hx⟩

def l5 : List It := [(1, 0), (2, 0), (3, 0), (4, 0), (5, 9)]
def l2 : List It := [(4, 0), (5, 9)]
theorem split5 : splitS l5 = [[(1, 0), (2, 0), (3, 0)], l2] := by
  rw [splitS_more (by decide), splitS_few (by decide) (by decide)]; rfl
theorem right2 : ndR l2 = true := by decide
theorem with5 : withS l5 1 3 [] = [(1, 0), (5, 9)] := rfl
theorem at2 : atI true l2 5 = 1 ∧ atB l2 5 = true := by decide
theorem same2 : sameN true l2 true l2 = true := by decide

set_option maxRecDepth 100000 in
set_option maxHeartbeats 1000000 in
theorem shown_any (w : World) : Calls Try.prog 10 #[] w fun e w' => e = .returned (.bool true) ∧ Ext w w' := by
  have HL := Lib.hid (fun w' (hx : Ext (w.alloc (.cells (ivs l5).toArray 50)) w') => (sl_lit w 50 5 (ivs l5) (by unfold maxLen; omega)).ext hx)
  have hp := (HL.out _ (Ext.refl _)).post (l := l5) (n := 5) rfl 3 (by omega)
  have HP := Lib.hid (fun w' (hx : Ext (w.alloc (.cells (ivs l5).toArray 50)) w') => (show Sl w' (some ⟨w.heap.size, 6, none⟩) 2 2 (ivs l2) from hp.ext hx))
  clear hp
  have HSP := Lib.hid (show ∀ w', Ext (w.alloc (.cells (ivs l5).toArray 50)) w' → Calls Try.prog 22 #[.slice (some ⟨w.heap.size, 0, none⟩) 5 5] w' fun e w2 => ∃ R q, e = .returned (.slice R 2 q) ∧ RowsSl w2 R 2 q [[(1, 0), (2, 0), (3, 0)], l2] ∧ Ext w' w2 from fun w' hx => by
    have h := nodeSplit_any _ l5 5 5 w' rfl (by omega) (HL.out _ hx)
    rw [split5] at h; exact h)
  have HPR := Lib.hid (show ∀ w', Ext (w.alloc (.cells (ivs l5).toArray 50)) w' → Calls Try.prog 11 #[.agg #[.bool true, .slice (some ⟨w.heap.size, 6, none⟩) 2 2]] w' fun e w2 => e = .returned (.tuple #[.string (ndB true l2), .int .i64 0]) ∧ Ext w' w2 from fun w' hx => by
    have h := nodePrint_any true _ l2 2 2 w' rfl (HP.out _ hx)
    unfold ndE at h
    rw [right2] at h; exact h)
  have HPA := Lib.hid (show ∀ w', Calls Try.prog 13 #[.string (ndB true l2)] w' fun e w2 => ∃ A c, e = .returned (.tuple #[.agg #[.bool true, .slice A 2 c], .int .i64 0]) ∧ Sl w2 A 2 c (ivs l2) ∧ Ext w' w2 from fun w' => by
    have h := nodeParse_any (ndB true l2) w' (by rw [ndB_size true l2 right2]; unfold maxLen; omega)
    obtain ⟨h1, h2, h3⟩ := ndP_yes (ndP_print true l2 right2)
    rw [h1, h2, h3] at h; exact h)
  have HAT := Lib.hid (show ∀ w', Ext (w.alloc (.cells (ivs l5).toArray 50)) w' → Calls Try.prog 19 #[.agg #[.bool true, .slice (some ⟨w.heap.size, 6, none⟩) 2 2], .int .i64 5] w' fun e w2 => e = .returned (.tuple #[.int .i64 1, .bool true]) ∧ Ext w' w2 from fun w' hx => by
    have h := nodeAt_any true _ l2 2 2 5 w' rfl right2 (HP.out _ hx)
    rw [at2.1, at2.2] at h; exact h)
  have HWI := Lib.hid (show ∀ w', Ext (w.alloc (.cells (ivs l5).toArray 50)) w' → Calls Try.prog 25 #[.slice (some ⟨w.heap.size, 0, none⟩) 5 5, .int .i64 1, .int .i64 3, .slice none 0 0] w' fun e w2 => ∃ R q, e = .returned (.slice R 2 q) ∧ Sl w2 R 2 q (ivs [(1, 0), (5, 9)]) ∧ Ext w' w2 from fun w' hx =>
    nodeWith_any _ none l5 [] 5 0 5 0 1 3 w' rfl rfl (by omega) (by omega) (by omega) (by omega) (HL.out _ hx) (Sl.nil _))
  have HSA := Lib.hid (show ∀ A c w', Ext (w.alloc (.cells (ivs l5).toArray 50)) w' → Sl w' A 2 c (ivs l2) → Calls Try.prog 16 #[.agg #[.bool true, .slice (some ⟨w.heap.size, 6, none⟩) 2 2], .agg #[.bool true, .slice A 2 c]] w' fun e w2 => e = .returned (.bool true) ∧ Ext w' w2 from fun A c w' hx hS => by
    have h := nodeSame_any true true _ A l2 l2 2 2 2 c w' rfl rfl right2 right2 (HP.out _ hx) hS
    rw [same2] at h; exact h)
  have HRI := Lib.hid (show ∀ w', Ext (w.alloc (.cells (ivs l5).toArray 50)) w' → Calls Try.prog 18 #[.agg #[.bool true, .slice (some ⟨w.heap.size, 6, none⟩) 2 2]] w' fun e w2 => e = .returned (.bool true) ∧ Ext w' w2 from fun w' hx => by
    have h := nodeRight_any true _ l2 2 2 w' rfl (HP.out _ hx)
    rw [right2] at h; exact h)
  generalize ndB true l2 = bs at *
  clear HL HP
  go_enter Try.func10, Try.ntmps10
  go_wp2_with (first
    | (go_at_call 22; refine (HSP.out _ (Ext.refl _)).mono ?_; rintro e w1 ⟨R, q, rfl, hR, hx⟩; have X1 := Lib.hid hx; have HR1 := Lib.hid hR; clear hx hR)
    | (go_at_call 11; refine (HPR.out _ (X1.out.alloc _)).mono ?_; rintro e w2 ⟨rfl, hx⟩; have X2 := Lib.hid ((X1.out.alloc _).trans hx); have HR2 := Lib.hid (HR1.out.ext (((Ext.refl w1).alloc _).trans hx)); have B2 := Lib.hid ((Bx.new w1 #[.bool true, .slice (some ⟨w.heap.size, 6, none⟩) 2 2] 24).ext hx); clear hx)
    | (go_at_call 13; refine (HPA.out _).mono ?_; rintro e w3 ⟨A, c, rfl, hS, hx⟩; have X3 := Lib.hid (X2.out.trans hx); have HR3 := Lib.hid (HR2.out.ext hx); have B3 := Lib.hid (B2.out.ext hx); have HS3 := Lib.hid hS; obtain ⟨r0, r1, r2⟩ := B3.out.read2; clear hx hS)
    | (go_at_call 19; refine stop_here ?_))
  refine stop_on ?_
  refine (HAT.out _ (X3.out.alloc _)).mono ?_
  rintro e w4 ⟨rfl, hx⟩
  have X4 := Lib.hid ((X3.out.alloc _).trans hx)
  have HR4 := Lib.hid (HR3.out.ext (((Ext.refl w3).alloc _).trans hx))
  have B4 := Lib.hid (B3.out.ext (((Ext.refl w3).alloc _).trans hx))
  have C4 := Lib.hid ((Bx.new w3 #[.bool true, .slice A 2 c] 24).ext hx)
  have HS4 := Lib.hid (HS3.out.ext (((Ext.refl w3).alloc _).trans hx))
  clear hx r0 r1 r2
  go_wp2_with (go_at_call 25; refine stop_here ?_)
  refine stop_on ?_
  refine (HWI.out _ X4.out).mono ?_
  rintro e w5 ⟨R2, q2, rfl, hS2, hx⟩
  have X5 := Lib.hid (X4.out.trans hx)
  obtain ⟨bR, oR, rfl, A0, c0, h0, _⟩ := (HR4.out.ext hx).row (k := 0) (by decide)
  obtain ⟨bR', oR', e', A1, c1, h1, _⟩ := (HR4.out.ext hx).row (k := 1) (by decide)
  cases e'
  obtain ⟨bW, oW, rfl, _, hw⟩ := hS2.cells.it (k := 1) (by decide)
  have HW1 := Lib.hid (fun w' (hx : Ext w5 w') => show w'.cell? ⟨bW, oW + 2, none⟩ = some (.int .i64 5) from by
    obtain ⟨b2, o2, e2, _, h2⟩ := (hS2.ext hx).cells.it (k := 1) (by decide)
    cases e2; exact (h2 1 (by decide)).1)
  rw [Nat.add_zero] at h0
  have h0' : w5.cell? ⟨bR, oR, none⟩ = some (.slice A0 3 c0) := h0
  have h1' : w5.cell? ⟨bR, oR + 1, none⟩ = some (.slice A1 2 c1) := h1
  obtain ⟨r0, r1, r2⟩ := (B4.out.ext hx).read2
  obtain ⟨s0, s1, s2⟩ := (C4.out.ext hx).read2
  have B5 := Lib.hid (B4.out.ext hx)
  have HS5 := Lib.hid (HS4.out.ext hx)
  clear h0 h1 hw hS2 hx HR4 HR3 HR2 HR1 HS4 HS3 B4 B3 B2 C4
  go_wp2_with (go_at_call 16; refine stop_here ?_)
  refine stop_on ?_
  refine (HSA.out _ _ _ X5.out HS5.out).mono ?_
  rintro e w6 ⟨rfl, hx⟩
  have X6 := Lib.hid (X5.out.trans hx)
  obtain ⟨t0, t1, t2⟩ := (B5.out.ext hx).read2
  have hX56 := Lib.hid hx
  clear hx r0 r1 r2 s0 s1 s2 h0' h1'
  go_wp2_with (go_at_call 18; refine stop_here ?_)
  refine stop_on ?_
  refine (HRI.out _ X6.out).mono ?_
  rintro e w7 ⟨rfl, hx⟩
  have X7 := Lib.hid (X6.out.trans hx)
  have hw1 := HW1.out _ (hX56.out.trans hx)
  clear hx t0 t1 t2
  go_wp2_with fail
  go_ret
  exact ⟨rfl, ((Ext.refl w).alloc _).trans X7.out⟩
end Go.Proofs.Ytpcchbcibcfldaa
