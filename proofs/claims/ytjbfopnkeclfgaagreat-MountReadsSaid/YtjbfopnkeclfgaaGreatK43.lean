/- Walks of taken and Parse of package node. Parse of package node, where the items lie. -/
import Derived.Test.YtjbfopnkeclfgaaGreatK35
import Derived.Test.YtjbfopnkeclfgaaGreatK13
namespace Go.Proofs.YtjbfopnkeclfgaaGreat
set_option maxRecDepth 20000
open Go.RowKit

theorem ndP_min {b : ByteArray} (ho : openE b.data.toList = 0) :
    ndP b = if ndR (rawIt (openL b.data.toList) (min (rawN (openL b.data.toList)) 4)) = true ∧ ndB (rawLeaf (openL b.data.toList)) (rawIt (openL b.data.toList) (min (rawN (openL b.data.toList)) 4)) = b
      then some (rawLeaf (openL b.data.toList), rawIt (openL b.data.toList) (min (rawN (openL b.data.toList)) 4)) else none := by
  by_cases h4 : rawN (openL b.data.toList) ≤ 4
  · rw [Nat.min_eq_left h4]
    unfold ndP
    simp only [ho, h4, true_and]
  · rw [Nat.min_eq_right (by omega)]
    have e1 : ndP b = none := by unfold ndP; rw [if_neg (fun h => h4 h.2.1)]
    rw [e1, if_neg]
    rintro ⟨h1, h2⟩
    have h3 := (nd_open (rawLeaf (openL b.data.toList)) _ h1).2.1
    rw [h2, rawIt_length] at h3
    omega

end Go.Proofs.YtjbfopnkeclfgaaGreat
namespace Go.Proofs.YtjbfopnkeclfgaaGreat
set_option maxRecDepth 20000
open Go.RowKit

set_option maxRecDepth 100000 in
set_option maxHeartbeats 2000000 in
theorem nodeTaken_own (A : Option Addr) (o : List UInt8) (c : Nat) (w : World) (ho : o.length = 36) (hA : Sl w A 36 c (o.map bv)) :
    Calls Tryz.prog 74 #[.slice A 36 c] w fun e w' => ∃ B d, e = .returned (.agg #[.bool (rawLeaf o), .slice B (min (rawN o) 4) d]) ∧ w'.ownsRow (w.heap.size + 2) 146 2 (.slice B (min (rawN o) 4) d) (min (rawN o) 4) (ivs (rawIt o (min (rawN o) 4))) ∧ Ext w w' := by
  obtain ⟨u0, hu0⟩ : ∃ u, o[0]'(by omega) = u := ⟨_, rfl⟩
  obtain ⟨u1, hu1⟩ : ∃ u, o[1]'(by omega) = u := ⟨_, rfl⟩
  have hN : rawN o = u1.toNat := by unfold rawN; rw [List.getElem?_eq_getElem (by omega), hu1]; rfl
  have hL : rawLeaf o = ((u0.toNat : Int) == 1) := by
    unfold rawLeaf
    rw [List.getElem?_eq_getElem (by omega), hu0]
    by_cases h : u0 = 1
    · rw [h]; rfl
    · have h2 : ¬ ((u0.toNat : Int) = 1) := fun e => h (UInt8.toNat_inj.1 (by simpa using (by omega : u0.toNat = 1)))
      have h3 : (some u0 == some (1 : UInt8)) = false := by simpa using h
      rw [h3]; symm; simpa using h2
  rw [hN, hL]
  obtain ⟨lf, hlf⟩ : ∃ x, ((u0.toNat : Int) == 1) = x := ⟨_, rfl⟩
  rw [hlf]
  obtain ⟨bb, off, rfl, hlt, hc⟩ := hA.cells.byte (k := 1) (by omega)
  have hc0 := hc 0 (by omega)
  have hc1 := hc 1 (by omega)
  have HS := Lib.hid hA
  have HLL := Lib.hid ho
  rw [Nat.add_zero, hu0] at hc0
  rw [hu1] at hc1
  have h255 : u1.toNat ≤ 255 := by have := u1.toNat_lt; omega
  clear hA hc ho hu0 hu1 hN hL
  generalize u1.toNat = z at *
  rcases Nat.lt_or_ge 4 z with h4 | h4
  · rw [Nat.min_eq_right (by omega)]
    have m1 : (4 : Int) < (z : Int) := by omega
    go_enter Tryz.func74, Tryz.ntmps74
    go_wp2_with fail
    generalize hW : World.alloc (World.alloc w _) _ = W
    obtain ⟨hxw, hb0, hb1⟩ := allocs2 hW
    have HXW := Lib.hid hxw
    have HB0 := Lib.hid hb0
    have HB1 := Lib.hid hb1
    clear hxw hb0 hb1 hW hc0 hc1 hlf
    go_loopw [4, 16] (fun a i wr => ∃ k : Nat, k ≤ 4 ∧ i = .int .i64 k ∧ a = .int .i64 (2 + 8 * (k : Int)) ∧ ∃ A' c', Bx wr (w.heap.size + 1) #[.bool lf, .slice A' k c'] ∧ wr.ownsRow (w.heap.size + 2) 146 2 (.slice A' k c') k (ivs (rawIt o k)) ∧ Ext w wr ∧ Bx wr w.heap.size #[.bool false, .slice none 0 0]) (fun _ i _ => 4 - (intOf i).toNat)
    case atStart => exact ⟨0, Nat.zero_le _, rfl, rfl, none, 0, HB1.out, World.ownsRow_nil _ _ _ _, HXW.out, HB0.out⟩
    case round =>
      obtain ⟨k, hk, rfl, rfl, A1, q1, hb, ho, hx, hb0⟩ := hrel
      have HBB := Lib.hid hb
      have HO1 := Lib.hid ho
      have HX1 := Lib.hid hx
      have HC1 := Lib.hid hb0
      obtain ⟨b0, b1, b2⟩ := hb.read2
      rcases Nat.lt_or_ge k 4 with hlt2 | hlt2
      · have hki : (k : Int) < (4 : Int) := by omega
        have HT0 := Lib.hid (fun w' (hx : Ext w w') => numTake_n _ o 36 c (2 + 8 * (k : Int)) (2 + 8 * k) w' HLL.out.symm (by omega) (by omega) (HS.out.ext hx))
        have HT1 := Lib.hid (fun w' (hx : Ext w w') => numTake_n _ o 36 c (2 + 8 * (k : Int) + 4) (6 + 8 * k) w' HLL.out.symm (by omega) (by omega) (HS.out.ext hx))
        have HRW := Lib.hid (show rawIt o (k + 1) = rawIt o k ++ [(((leNat ((o.drop (2 + 8 * k)).take 4) : Nat) : Int), ((leNat ((o.drop (6 + 8 * k)).take 4) : Nat) : Int))] from rfl)
        generalize ((leNat ((o.drop (2 + 8 * k)).take 4) : Nat) : Int) = K at *
        generalize ((leNat ((o.drop (6 + 8 * k)).take 4) : Nat) : Int) = V at *
        clear hb ho hx hb0 b0 b1
        go_wp2_with (go_at_call 119; refine stop_here ?_)
        refine stop_on ?_
        refine (HT0.out _ (HX1.out.alloc _)).mono ?_
        rintro e w' ⟨rfl, rfl⟩
        go_wp2_with (go_at_call 119; refine stop_here ?_)
        refine stop_on ?_
        refine (HT1.out _ (HX1.out.alloc _)).mono ?_
        rintro e w' ⟨rfl, rfl⟩
        have hb0' := (HBB.out.ext ((Ext.refl wr).alloc (.cells #[.int .i64 K, .int .i64 V] 146)))
        obtain ⟨b0, b1, b2⟩ := HBB.out.read2
        go_wp2_with (at_builtin; refine stop_here ?_)
        refine stop_on ?_
        have HOA := Lib.hid ((HO1.out.alloc (.cells #[.int .i64 K, .int .i64 V] 146)).alloc (.cells #[.int .i64 K, .int .i64 V] 146))
        have hsl := sl_lit (wr.alloc (.cells #[.int .i64 K, .int .i64 V] 146)) 146 1 [.int .i64 K, .int .i64 V] (by unfold maxLen; omega)
        rw [show (wr.alloc (.cells #[.int .i64 K, .int .i64 V] 146)).heap.size = wr.heap.size + 1 by simp] at hsl
        have hwr : w.heap.size + 2 ≤ wr.heap.size := by have := HBB.out.lt; omega
        refine app_items _ rfl _ _ rfl (w.heap.size + 2) _ k (rawIt o k) rfl HOA.out _ 1 1 [(K, V)] rfl rfl hsl (by omega) (by simp; omega) ?_
        intro A4 q4 w4 hown hg4
        rw [← HRW.out] at hown
        have hxx : Ext wr ((wr.alloc (.cells #[.int .i64 K, .int .i64 V] 146)).alloc (.cells #[.int .i64 K, .int .i64 V] 146)) := ((Ext.refl wr).alloc _).alloc _
        have hb4 := (HBB.out.ext hxx).grown hg4 (own_old HOA.out (by omega))
        have hc4 := (HC1.out.ext hxx).grown hg4 (own_old HOA.out (by omega))
        have HX4 := Lib.hid (show Ext w w4 from Below.grown (HX1.out.trans hxx) hg4 (by have := HX1.out.size; simp; omega) (fun q hq => by have := (HOA.out.lt q hq).1; omega))
        have HO4 := Lib.hid hown
        have HB4 := Lib.hid hb4
        have HC4 := Lib.hid hc4
        clear b0 b1 b2 hb0' hxx hsl
        obtain ⟨d0, d1, d2⟩ := hb4.read2
        obtain ⟨f0, f1⟩ := hb4.free2
        clear hown hg4 hb4 hc4
        go_wp2_with fail
        have hne : (Value.slice A4 (k + 1) q4).ownBlock ≠ some (w.heap.size + 1) := own_old HO4.out (by omega)
        go_roundw
        case rel => exact ⟨k + 1, by omega, by go_num, by go_num, A4, q4, HB4.out.set 1 (.slice A4 (k + 1) q4), ownsRow_setCell_other HO4.out (a := ⟨w.heap.size + 1, 1, none⟩) hne _, HX4.out.set (p := ⟨w.heap.size + 1, 1, none⟩) (by simp) _, HC4.out.set_other (p := ⟨w.heap.size + 1, 1, none⟩) (by simp) _⟩
        case measure => simp [intOf]; omega
      · obtain rfl : 4 = k := by omega
        have HSL := Lib.hid ho
        obtain ⟨r0, r1, r2⟩ := hb0.read2
        obtain ⟨f0, f1⟩ := hb0.free2
        clear hb ho hx hb0
        go_wp2_with fail
        refine ret2_cell (k := w.heap.size) (x := .bool lf) (y := .slice A1 4 q1) (v := .agg #[.bool lf, .slice A1 4 q1]) ?hb3 (fun r0 r1 => by simp [results, Tryz.results74, go_sem, r0, r1]) rfl ?hx3
        case hb3 => exact HC1.out.set2 (.bool lf) (.slice A1 4 q1)
        case hx3 => exact ⟨A1, q1, rfl, ownsRow_setCell_other (ownsRow_setCell_other HSL.out (a := ⟨w.heap.size, 0, none⟩) (fun e => by have := (World.ownsRow.lt HSL.out _ e).1; simp at this; omega) _) (a := ⟨w.heap.size, 1, none⟩) (fun e => by have := (World.ownsRow.lt HSL.out _ e).1; simp at this; omega) _, HX1.out.store2 (Nat.le_refl _) (.bool lf) (.slice A1 4 q1)⟩
  · rw [Nat.min_eq_left h4]
    have m1 : ¬ (4 : Int) < (z : Int) := by omega
    go_enter Tryz.func74, Tryz.ntmps74
    go_wp2_with fail
    generalize hW : World.alloc (World.alloc w _) _ = W
    obtain ⟨hxw, hb0, hb1⟩ := allocs2 hW
    have HXW := Lib.hid hxw
    have HB0 := Lib.hid hb0
    have HB1 := Lib.hid hb1
    clear hxw hb0 hb1 hW hc0 hc1 hlf
    go_loopw [4, 16] (fun a i wr => ∃ k : Nat, k ≤ z ∧ i = .int .i64 k ∧ a = .int .i64 (2 + 8 * (k : Int)) ∧ ∃ A' c', Bx wr (w.heap.size + 1) #[.bool lf, .slice A' k c'] ∧ wr.ownsRow (w.heap.size + 2) 146 2 (.slice A' k c') k (ivs (rawIt o k)) ∧ Ext w wr ∧ Bx wr w.heap.size #[.bool false, .slice none 0 0]) (fun _ i _ => z - (intOf i).toNat)
    case atStart => exact ⟨0, Nat.zero_le _, rfl, rfl, none, 0, HB1.out, World.ownsRow_nil _ _ _ _, HXW.out, HB0.out⟩
    case round =>
      obtain ⟨k, hk, rfl, rfl, A1, q1, hb, ho, hx, hb0⟩ := hrel
      have HBB := Lib.hid hb
      have HO1 := Lib.hid ho
      have HX1 := Lib.hid hx
      have HC1 := Lib.hid hb0
      obtain ⟨b0, b1, b2⟩ := hb.read2
      rcases Nat.lt_or_ge k z with hlt2 | hlt2
      · have hki : (k : Int) < ((z : Int) : Int) := by omega
        have HT0 := Lib.hid (fun w' (hx : Ext w w') => numTake_n _ o 36 c (2 + 8 * (k : Int)) (2 + 8 * k) w' HLL.out.symm (by omega) (by omega) (HS.out.ext hx))
        have HT1 := Lib.hid (fun w' (hx : Ext w w') => numTake_n _ o 36 c (2 + 8 * (k : Int) + 4) (6 + 8 * k) w' HLL.out.symm (by omega) (by omega) (HS.out.ext hx))
        have HRW := Lib.hid (show rawIt o (k + 1) = rawIt o k ++ [(((leNat ((o.drop (2 + 8 * k)).take 4) : Nat) : Int), ((leNat ((o.drop (6 + 8 * k)).take 4) : Nat) : Int))] from rfl)
        generalize ((leNat ((o.drop (2 + 8 * k)).take 4) : Nat) : Int) = K at *
        generalize ((leNat ((o.drop (6 + 8 * k)).take 4) : Nat) : Int) = V at *
        clear hb ho hx hb0 b0 b1
        go_wp2_with (go_at_call 119; refine stop_here ?_)
        refine stop_on ?_
        refine (HT0.out _ (HX1.out.alloc _)).mono ?_
        rintro e w' ⟨rfl, rfl⟩
        go_wp2_with (go_at_call 119; refine stop_here ?_)
        refine stop_on ?_
        refine (HT1.out _ (HX1.out.alloc _)).mono ?_
        rintro e w' ⟨rfl, rfl⟩
        have hb0' := (HBB.out.ext ((Ext.refl wr).alloc (.cells #[.int .i64 K, .int .i64 V] 146)))
        obtain ⟨b0, b1, b2⟩ := HBB.out.read2
        go_wp2_with (at_builtin; refine stop_here ?_)
        refine stop_on ?_
        have HOA := Lib.hid ((HO1.out.alloc (.cells #[.int .i64 K, .int .i64 V] 146)).alloc (.cells #[.int .i64 K, .int .i64 V] 146))
        have hsl := sl_lit (wr.alloc (.cells #[.int .i64 K, .int .i64 V] 146)) 146 1 [.int .i64 K, .int .i64 V] (by unfold maxLen; omega)
        rw [show (wr.alloc (.cells #[.int .i64 K, .int .i64 V] 146)).heap.size = wr.heap.size + 1 by simp] at hsl
        have hwr : w.heap.size + 2 ≤ wr.heap.size := by have := HBB.out.lt; omega
        refine app_items _ rfl _ _ rfl (w.heap.size + 2) _ k (rawIt o k) rfl HOA.out _ 1 1 [(K, V)] rfl rfl hsl (by omega) (by simp; omega) ?_
        intro A4 q4 w4 hown hg4
        rw [← HRW.out] at hown
        have hxx : Ext wr ((wr.alloc (.cells #[.int .i64 K, .int .i64 V] 146)).alloc (.cells #[.int .i64 K, .int .i64 V] 146)) := ((Ext.refl wr).alloc _).alloc _
        have hb4 := (HBB.out.ext hxx).grown hg4 (own_old HOA.out (by omega))
        have hc4 := (HC1.out.ext hxx).grown hg4 (own_old HOA.out (by omega))
        have HX4 := Lib.hid (show Ext w w4 from Below.grown (HX1.out.trans hxx) hg4 (by have := HX1.out.size; simp; omega) (fun q hq => by have := (HOA.out.lt q hq).1; omega))
        have HO4 := Lib.hid hown
        have HB4 := Lib.hid hb4
        have HC4 := Lib.hid hc4
        clear b0 b1 b2 hb0' hxx hsl
        obtain ⟨d0, d1, d2⟩ := hb4.read2
        obtain ⟨f0, f1⟩ := hb4.free2
        clear hown hg4 hb4 hc4
        go_wp2_with fail
        have hne : (Value.slice A4 (k + 1) q4).ownBlock ≠ some (w.heap.size + 1) := own_old HO4.out (by omega)
        go_roundw
        case rel => exact ⟨k + 1, by omega, by go_num, by go_num, A4, q4, HB4.out.set 1 (.slice A4 (k + 1) q4), ownsRow_setCell_other HO4.out (a := ⟨w.heap.size + 1, 1, none⟩) hne _, HX4.out.set (p := ⟨w.heap.size + 1, 1, none⟩) (by simp) _, HC4.out.set_other (p := ⟨w.heap.size + 1, 1, none⟩) (by simp) _⟩
        case measure => simp [intOf]; omega
      · obtain rfl : z = k := by omega
        have HSL := Lib.hid ho
        obtain ⟨r0, r1, r2⟩ := hb0.read2
        obtain ⟨f0, f1⟩ := hb0.free2
        clear hb ho hx hb0
        go_wp2_with fail
        refine ret2_cell (k := w.heap.size) (x := .bool lf) (y := .slice A1 z q1) (v := .agg #[.bool lf, .slice A1 z q1]) ?hb3 (fun r0 r1 => by simp [results, Tryz.results74, go_sem, r0, r1]) rfl ?hx3
        case hb3 => exact HC1.out.set2 (.bool lf) (.slice A1 z q1)
        case hx3 => exact ⟨A1, q1, rfl, ownsRow_setCell_other (ownsRow_setCell_other HSL.out (a := ⟨w.heap.size, 0, none⟩) (fun e => by have := (World.ownsRow.lt HSL.out _ e).1; simp at this; omega) _) (a := ⟨w.heap.size, 1, none⟩) (fun e => by have := (World.ownsRow.lt HSL.out _ e).1; simp at this; omega) _, HX1.out.store2 (Nat.le_refl _) (.bool lf) (.slice A1 z q1)⟩

set_option maxRecDepth 100000 in
set_option maxHeartbeats 4000000 in
theorem nodeParse_own (b : ByteArray) (w : World) (hs : b.size ≤ maxLen) :
    Calls Tryz.prog 46 #[.string b] w fun e w' => ∃ A c, e = .returned (.tuple #[.agg #[.bool (ndPL b), .slice A (ndPI b).length c], .int .i64 (ndPE b)]) ∧ w'.ownsRow (w.heap.size + 1) 146 2 (.slice A (ndPI b).length c) (ndPI b).length (ivs (ndPI b)) ∧ Ext w w' := by
  by_cases ho : openE b.data.toList = 0
  rotate_left
  · have hn : ndP b = none := by unfold ndP; rw [if_neg (fun h => ho h.1)]
    obtain ⟨h1, h2, h3⟩ := ndP_no hn
    rw [h1, h2, h3]
    have HO := Lib.hid (fun w' => numOpen_n b w' hs ho)
    clear h1 h2 h3 hn ho hs
    go_enter Tryz.func46, Tryz.ntmps46
    go_wp2_with (go_at_call 73; refine (HO.out _).mono ?_; rintro e w1 ⟨A, c, rfl, hx⟩; have HB := Lib.hid ((Bx.new w #[.bool false, .slice none 0 0] 59).ext hx); obtain ⟨r0, r1, r2⟩ := HB.out.read2; obtain ⟨f0, f1⟩ := HB.out.free2; have HX := Lib.hid (((Ext.refl w).alloc _).trans hx); clear hx)
    refine ret2_cell (k := w.heap.size) (x := .bool false) (y := .slice none 0 0) (v := .tuple #[.agg #[.bool false, .slice none 0 0], .int .i64 2]) ?hb (fun r0 r1 => by simp [results, Tryz.results46, go_sem, r0, r1]) rfl ⟨none, 0, rfl, World.ownsRow_nil _ _ _ _, ?hx⟩
    case hb => exact HB.out.set2 (.bool false) (.slice none 0 0)
    case hx => exact HX.out.store2 (by omega) (.bool false) (.slice none 0 0)
  have HO := Lib.hid (fun w' => numOpen_y b w' hs ho)
  have hl := openL_len ho
  have HNP := Lib.hid (ndP_min ho)
  have HT := Lib.hid (fun A c w' hA => nodeTaken_own A (openL b.data.toList) c w' hl hA)
  have HLN := Lib.hid (rawIt_length (openL b.data.toList) (min (rawN (openL b.data.toList)) 4))
  have hk4 : min (rawN (openL b.data.toList)) 4 ≤ 4 := Nat.min_le_right _ _
  generalize rawIt (openL b.data.toList) (min (rawN (openL b.data.toList)) 4) = it at *
  generalize min (rawN (openL b.data.toList)) 4 = k at *
  generalize rawLeaf (openL b.data.toList) = lf at *
  generalize openL b.data.toList = o at *
  clear hl ho
  go_enter Tryz.func46, Tryz.ntmps46
  go_wp2_with (first
    | (go_at_call 73; refine (HO.out _).mono ?_; rintro e w1 ⟨A, c, rfl, hS, hx⟩; have HS1 := Lib.hid hS; have HB1 := Lib.hid ((Bx.new w #[.bool false, .slice none 0 0] 59).ext hx); have HX1 := Lib.hid (((Ext.refl w).alloc (.cells #[.bool false, .slice none 0 0] 59)).trans hx); clear hS hx)
    | (go_at_call 74; refine (HT.out _ _ _ HS1.out).mono ?_; rintro e w2 ⟨A2, c2, rfl, hS, hx⟩; have HS2 := Lib.hid (own_low hS (show w.heap.size + 1 ≤ w1.heap.size + 2 by have h := HB1.out.lt; omega)); have HB2 := Lib.hid (HB1.out.ext hx); have HX2 := Lib.hid (HX1.out.trans hx); clear hS hx)
    | (go_at_call 75; refine stop_here ?_))
  refine stop_on ?_
  have HPR := Lib.hid (nodePrint_any lf A2 it k c2 (w2.alloc (.cells #[.bool lf, .slice A2 k c2] 59)) HLN.out.symm ((own_sl HS2.out).ext ((Ext.refl w2).alloc _)))
  have HXA := Lib.hid (HX2.out.alloc (.cells #[.bool lf, .slice A2 k c2] 59))
  have HBN := Lib.hid (Bx.new w2 #[.bool lf, .slice A2 k c2] 59)
  have HB3 := Lib.hid (HB2.out.ext ((Ext.refl w2).alloc (.cells #[.bool lf, .slice A2 k c2] 59)))
  have HS3 := Lib.hid (own_ext HS2.out ((Ext.refl w2).alloc (.cells #[.bool lf, .slice A2 k c2] 59)))
  have HNP' := HNP.out
  clear HNP HT HO HS1 HB1 HX1 HS2 HB2 HX2
  cases hr : ndR it
  · have hn : ndP b = none := by rw [HNP', if_neg (fun h => by rw [hr] at h; exact absurd h.1 (by simp))]
    obtain ⟨h1, h2, h3⟩ := ndP_no hn
    have HN := Lib.hid (And.intro h1 (And.intro h2 h3))
    unfold ndE at HPR
    rw [hr] at HPR
    clear h1 h2 h3 hn hr HNP'
    refine HPR.out.mono ?_
    rintro e w9 ⟨rfl, hx⟩
    have HX9 := Lib.hid (HXA.out.trans hx)
    have HC9 := Lib.hid (HB3.out.ext hx)
    obtain ⟨r0, r1, r2⟩ := HC9.out.read2
    obtain ⟨f0, f1⟩ := HC9.out.free2
    clear hx
    go_wp2_with fail
    refine ret2_cell (k := w.heap.size) (x := .bool false) (y := .slice none 0 0) (v := .tuple #[.agg #[.bool false, .slice none 0 0], .int .i64 2]) ?hb3 (fun r0 r1 => by simp [results, Tryz.results46, go_sem, r0, r1]) rfl ?hx3
    case hb3 => exact HC9.out.set2 (.bool false) (.slice none 0 0)
    case hx3 => rw [HN.out.1, HN.out.2.1, HN.out.2.2]; exact ⟨none, 0, rfl, World.ownsRow_nil _ _ _ _, HX9.out.store2 (by omega) (.bool false) (.slice none 0 0)⟩
  by_cases hb : ndB lf it = b
  · have hn : ndP b = some (lf, it) := by rw [HNP', if_pos ⟨hr, hb⟩]
    obtain ⟨h1, h2, h3⟩ := ndP_yes hn
    have HN := Lib.hid (And.intro h1 (And.intro h2 h3))
    unfold ndE at HPR
    rw [hr, hb] at HPR
    clear h1 h2 h3 hn hr HNP' hb
    refine HPR.out.mono ?_
    rintro e w9 ⟨rfl, hx⟩
    have HX9 := Lib.hid (HXA.out.trans hx)
    have HC9 := Lib.hid (HB3.out.ext hx)
    have HS9 := Lib.hid (own_ext HS3.out hx)
    obtain ⟨r0, r1, r2⟩ := HC9.out.read2
    obtain ⟨f0, f1⟩ := HC9.out.free2
    obtain ⟨s0, s1, s2⟩ := (HBN.out.ext hx).read2
    clear hx
    go_wp2_with fail
    refine ret2_cell (k := w.heap.size) (x := .bool lf) (y := .slice A2 k c2) (v := .tuple #[.agg #[.bool lf, .slice A2 k c2], .int .i64 0]) ?hb3 (fun r0 r1 => by simp [results, Tryz.results46, go_sem, r0, r1]) rfl ?hx3
    case hb3 => exact HC9.out.set2 (.bool lf) (.slice A2 k c2)
    case hx3 => rw [HN.out.1, HN.out.2.1, HN.out.2.2, HLN.out]; exact ⟨A2, c2, rfl, ownsRow_setCell_other (ownsRow_setCell_other HS9.out (a := ⟨w.heap.size, 0, none⟩) (fun e => by have := (World.ownsRow.lt HS9.out _ e).1; simp at this; omega) _) (a := ⟨w.heap.size, 1, none⟩) (fun e => by have := (World.ownsRow.lt HS9.out _ e).1; simp at this; omega) _, HX9.out.store2 (by omega) (.bool lf) (.slice A2 k c2)⟩
  · have hn : ndP b = none := by rw [HNP', if_neg (fun h => hb h.2)]
    obtain ⟨h1, h2, h3⟩ := ndP_no hn
    have HN := Lib.hid (And.intro h1 (And.intro h2 h3))
    unfold ndE at HPR
    rw [hr] at HPR
    have hy : ((ndB lf it).toList == b.toList) = false := by rw [bytes_same, decide_eq_false hb]
    clear h1 h2 h3 hn hr HNP' hb
    generalize ndB lf it = y at *
    refine HPR.out.mono ?_
    rintro e w9 ⟨rfl, hx⟩
    have HX9 := Lib.hid (HXA.out.trans hx)
    have HC9 := Lib.hid (HB3.out.ext hx)
    obtain ⟨r0, r1, r2⟩ := HC9.out.read2
    obtain ⟨f0, f1⟩ := HC9.out.free2
    clear hx
    go_wp2_with fail
    refine ret2_cell (k := w.heap.size) (x := .bool false) (y := .slice none 0 0) (v := .tuple #[.agg #[.bool false, .slice none 0 0], .int .i64 2]) ?hb3 (fun r0 r1 => by simp [results, Tryz.results46, go_sem, r0, r1]) rfl ?hx3
    case hb3 => exact HC9.out.set2 (.bool false) (.slice none 0 0)
    case hx3 => rw [HN.out.1, HN.out.2.1, HN.out.2.2]; exact ⟨none, 0, rfl, World.ownsRow_nil _ _ _ _, HX9.out.store2 (by omega) (.bool false) (.slice none 0 0)⟩
end Go.Proofs.YtjbfopnkeclfgaaGreat
