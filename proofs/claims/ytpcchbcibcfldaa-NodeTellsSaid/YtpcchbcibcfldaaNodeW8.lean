/- Walk of the reference's Parse. -/
import Derived.Test.YtpcchbcibcfldaaNodeW5
namespace Go.Proofs.Ytpcchbcibcfldaa
open Go.RowKit

theorem bytes_inj (a b : ByteArray) (h : a.toList = b.toList) : a = b := by
  rw [ByteArray.toList_eq, ByteArray.toList_eq] at h
  obtain ⟨⟨l⟩⟩ := a
  obtain ⟨⟨m⟩⟩ := b
  simp only at h
  rw [h]
theorem bytes_same (a b : ByteArray) : (a.toList == b.toList) = decide (a = b) := by
  by_cases h : a = b
  · subst h; simp
  · rw [decide_eq_false h]
    simp only [beq_eq_false_iff_ne, ne_eq]
    exact fun e => h (bytes_inj a b e)
theorem Bx.set {w : World} {k : Nat} {cs : Array Value} (h : Bx w k cs) (i : Nat) (v : Value) : Bx (w.setCell ⟨k, i, none⟩ v) k (cs.setIfInBounds i v) := by
  obtain ⟨t, h⟩ := h
  refine ⟨t, ?_⟩
  simp [World.setCell, Array.getElem?_modify, h]
theorem Bx.set_other {w : World} {k : Nat} {cs : Array Value} (h : Bx w k cs) {p : Addr} (hp : p.block ≠ k) (v : Value) : Bx (w.setCell p v) k cs := by
  obtain ⟨t, h⟩ := h
  exact ⟨t, by rw [Below.heap_setCell _ _ _ _ (by simpa using Ne.symm hp), h]⟩
theorem Bx.set2 {w : World} {k : Nat} {a b : Value} (h : Bx w k #[a, b]) (x y : Value) : Bx ((w.setCell ⟨k, 0, none⟩ x).setCell ⟨k, 1, none⟩ y) k #[x, y] := (h.set 0 x).set 1 y
/-- A function's end whose result lies in a box of two. -/
theorem ret2_cell {P : Program} {fn : Func} {R : Ending → World → Prop} {a : Act} {W : World} {v : Value} {k : Nat} {x y : Value} (hb : Bx W k #[x, y])
    (h : W.cell? ⟨k, 0, none⟩ = some x → W.cell? ⟨k, 1, none⟩ = some y → (results fn a.tmps).run P W = .ok v W) (hd : a.defers = []) (hR : R (.returned v) W) : bodyPost P fn R .ret a W :=
  bodyPost_ret (h hb.read2.1 hb.read2.2.1) hd hR
theorem ndP_no {b : ByteArray} (h : ndP b = none) : ndPL b = false ∧ ndPI b = [] ∧ ndPE b = 2 := by unfold ndPL ndPI ndPE; rw [h]; exact ⟨rfl, rfl, rfl⟩
theorem ndP_yes {b : ByteArray} {f : Bool} {l : List It} (h : ndP b = some (f, l)) : ndPL b = f ∧ ndPI b = l ∧ ndPE b = 0 := by unfold ndPL ndPI ndPE; rw [h]; exact ⟨rfl, rfl, rfl⟩

theorem Bx.free2 {w : World} {k : Nat} {a b : Value} (h : Bx w k #[a, b]) : w.frozen? ⟨k, 0, none⟩ = false ∧ w.frozen? ⟨k, 1, none⟩ = false := ⟨h.free 0, h.free 1⟩
/-- Cells of numbers lie in no box of a flag and a slice. -/
theorem Sl.boxed {w : World} {A : Option Addr} {n c : Nat} {l : List It} (h : Sl w A n c (ivs l)) {k : Nat} {f : Bool} {A1 : Option Addr} {n1 c1 : Nat} (hb : Bx w k #[.bool f, .slice A1 n1 c1]) (x y : Value) :
    Sl ((w.setCell ⟨k, 0, none⟩ x).setCell ⟨k, 1, none⟩ y) A n c (ivs l) := by
  refine h.grown (grown_store2 w k x y) (fun hx p hp e => ?_)
  obtain ⟨b, off, e', hlt, hc⟩ := h.cells hx
  rw [hp] at e'
  cases e'
  cases e
  cases l with
  | nil => exact hx rfl
  | cons u r =>
    have h1 := hc 0 _ rfl
    have hk := hb
    obtain ⟨t, hb⟩ := hb
    unfold World.cell? at h1
    rw [show w.heap[(⟨b, off + 0, none⟩ : Addr).block]? = _ from hb] at h1
    match off, h1 with
    | 0, h1 => simp at h1
    | 1, h1 => simp at h1
    | n + 2, h1 => simp at h1
set_option maxRecDepth 100000 in
set_option maxHeartbeats 4000000 in
theorem ref04Parse_any (b : ByteArray) (w : World) (hs : b.size ≤ maxLen) :
    Calls Try.prog 14 #[.string b] w fun e w' => ∃ A c, e = .returned (.tuple #[.agg #[.bool (ndPL b), .slice A (ndPI b).length c], .int .i64 (ndPE b)]) ∧ Sl w' A (ndPI b).length c (ivs (ndPI b)) ∧ Ext w w' := by
  by_cases ho : openE b.data.toList = 0
  rotate_left
  · have hn : ndP b = none := by unfold ndP; rw [if_neg (fun h => ho h.1)]
    obtain ⟨h1, h2, h3⟩ := ndP_no hn
    rw [h1, h2, h3]
    have HO := Lib.hid (fun w' => ref01Open_n b w' hs ho)
    clear h1 h2 h3 hn ho hs
    go_enter Try.func14, Try.ntmps14
    go_wp2_with (go_at_call 34; refine (HO.out _).mono ?_; rintro e w1 ⟨A, c, rfl, hx⟩; have HB := Lib.hid ((Bx.new w #[.bool false, .slice none 0 0] 24).ext hx); obtain ⟨r0, r1, r2⟩ := HB.out.read2; obtain ⟨f0, f1⟩ := HB.out.free2; have HX := Lib.hid (((Ext.refl w).alloc _).trans hx); clear hx)
    refine ret2_cell (k := w.heap.size) (x := .bool false) (y := .slice none 0 0) (v := .tuple #[.agg #[.bool false, .slice none 0 0], .int .i64 2]) ?hb (fun r0 r1 => by simp [results, Try.results14, go_sem, r0, r1]) rfl ⟨none, 0, rfl, Sl.nil _, ?hx⟩
    case hb => exact HB.out.set2 (.bool false) (.slice none 0 0)
    case hx => exact HX.out.store2 (by omega) (.bool false) (.slice none 0 0)
  have HO := Lib.hid (fun w' => ref01Open_y b w' hs ho)
  have hl := openL_len ho
  have hnp : ndP b = if rawN (openL b.data.toList) ≤ 4 ∧ ndR (rawIt (openL b.data.toList) (rawN (openL b.data.toList))) = true ∧ ndB (rawLeaf (openL b.data.toList)) (rawIt (openL b.data.toList) (rawN (openL b.data.toList))) = b
      then some (rawLeaf (openL b.data.toList), rawIt (openL b.data.toList) (rawN (openL b.data.toList))) else none := by
    unfold ndP; simp only [ho, true_and]
  generalize openL b.data.toList = o at *
  obtain ⟨u0, hu0⟩ : ∃ u, o[0]'(by omega) = u := ⟨_, rfl⟩
  obtain ⟨u1, hu1⟩ : ∃ u, o[1]'(by omega) = u := ⟨_, rfl⟩
  have hN : rawN o = u1.toNat := by unfold rawN; rw [List.getElem?_eq_getElem (by omega), hu1]; rfl
  have hL : rawLeaf o = ((u0.toNat : Int) == 1) := by
    unfold rawLeaf
    rw [List.getElem?_eq_getElem (by omega), hu0]
    by_cases h : u0 = 1
    · rw [h]; rfl
    · have h2 : ¬ ((u0.toNat : Int) = 1) := fun e => h (UInt8.toNat_inj.1 (by simpa using (by omega : u0.toNat = 1)))
      have h3 : (some u0 == some (1 : UInt8)) = false := by simpa using h
      rw [h3]; symm; simpa using h2
  rw [hN, hL] at hnp
  obtain ⟨lf, hlf⟩ : ∃ x, ((u0.toNat : Int) == 1) = x := ⟨_, rfl⟩
  rw [hlf] at hnp
  have HNP := Lib.hid hnp
  clear hN hL hnp
  clear ho hs
  go_enter Try.func14, Try.ntmps14
  go_wp2_with (go_at_call 34; refine stop_here ?_)
  refine stop_on ?_
  refine (HO.out _).mono ?_
  rintro e w1 ⟨A, c, rfl, hS, hx⟩
  have HB := Lib.hid ((Bx.new w #[.bool false, .slice none 0 0] 24).ext hx)
  have HX := Lib.hid (((Ext.refl w).alloc (.cells #[.bool false, .slice none 0 0] 24)).trans hx)
  obtain ⟨bb, off, rfl, hlt, hc⟩ := hS.cells.byte (k := 1) (by omega)
  have hc0 := hc 0 (by omega)
  have hc1 := hc 1 (by omega)
  have HS := Lib.hid hS
  have HLL := Lib.hid hl
  rw [Nat.add_zero, hu0] at hc0
  rw [hu1] at hc1
  clear hS hx hc HO hl hu0 hu1
  rcases Decidable.em ((4 : Int) < (u1.toNat : Int)) with h4 | h4
  · have hn : ndP b = none := by rw [HNP.out, if_neg (fun h => by have := h.1; omega)]
    obtain ⟨h1, h2, h3⟩ := ndP_no hn
    have HN := Lib.hid (And.intro h1 (And.intro h2 h3))
    obtain ⟨r0, r1, r2⟩ := HB.out.read2
    obtain ⟨f0, f1⟩ := HB.out.free2
    clear h1 h2 h3 hn
    go_wp2_with fail
    refine ret2_cell (k := w.heap.size) (x := .bool false) (y := .slice none 0 0) (v := .tuple #[.agg #[.bool false, .slice none 0 0], .int .i64 2]) ?hb2 (fun r0 r1 => by simp [results, Try.results14, go_sem, r0, r1]) rfl ?hx2
    case hb2 => exact HB.out.set2 (.bool false) (.slice none 0 0)
    case hx2 => rw [HN.out.1, HN.out.2.1, HN.out.2.2]; exact ⟨none, 0, rfl, Sl.nil _, HX.out.store2 (by omega) (.bool false) (.slice none 0 0)⟩
  have h4' : u1.toNat ≤ 4 := by omega
  clear h4
  generalize u1.toNat = cnt at *
  go_wp2_with fail
  clear hlf hc0 hlt
  generalize hW : World.alloc w1 _ = W
  obtain ⟨hx, hb⟩ := allocs1 hW
  have HXW := Lib.hid hx
  have HBW := Lib.hid hb
  have HB0 := Lib.hid (HB.out.ext hx)
  have HX0 := Lib.hid (HX.out.trans hx)
  have hwx : w.heap.size < w1.heap.size := HB.out.lt
  have HXA := Lib.hid HX.out
  clear hx hb hW HB HX
  go_loopw [7] (fun i wr => ∃ k : Nat, k ≤ cnt ∧ i = .int .i64 k ∧ ∃ A' c', Bx wr w1.heap.size #[.bool lf, .slice A' k c'] ∧ wr.ownsRow (w1.heap.size + 1) 50 2 (.slice A' k c') k (ivs (rawIt o k)) ∧ Ext w1 wr ∧ Bx wr w.heap.size #[.bool false, .slice none 0 0]) (fun i _ => cnt - (intOf i).toNat)
  case atStart => exact ⟨0, Nat.zero_le _, rfl, none, 0, HBW.out, World.ownsRow_nil _ _ _ _, HXW.out, HB0.out⟩
  case round =>
    obtain ⟨k, hk, rfl, A1, q1, hb, ho, hx, hb0⟩ := hrel
    have HB1 := Lib.hid hb
    have HO1 := Lib.hid ho
    have HX1 := Lib.hid hx
    have HC1 := Lib.hid hb0
    obtain ⟨b0, b1, b2⟩ := hb.read2
    rcases Nat.lt_or_ge k cnt with hlt | hlt
    · have hki : (k : Int) < (cnt : Int) := by omega
      have hc1' : wr.cell? ⟨bb, off + 1, none⟩ = some (.int .u8 (cnt : Int)) := by
        have h := (HS.out.ext hx).cells.byte (k := 1) (by rw [HLL.out]; omega)
        obtain ⟨b3, o3, e3, _, h3⟩ := h
        cases e3
        exact (hx.cell (p := ⟨bb, off + 1, none⟩) (by obtain ⟨b4, o4, e4, h4, _⟩ := HS.out.cells.byte (k := 1) (by rw [HLL.out]; omega); cases e4; exact h4)).trans hc1
      have HT0 := Lib.hid (fun w' (hx : Ext w1 w') => ref01Take_n _ o 36 c (2 + 8 * (k : Int)) (2 + 8 * k) w' HLL.out.symm (by omega) (by omega) (HS.out.ext hx))
      have HT1 := Lib.hid (fun w' (hx : Ext w1 w') => ref01Take_n _ o 36 c (6 + 8 * (k : Int)) (6 + 8 * k) w' HLL.out.symm (by omega) (by omega) (HS.out.ext hx))
      have HRW := Lib.hid (show rawIt o (k + 1) = rawIt o k ++ [(((leNat ((o.drop (2 + 8 * k)).take 4) : Nat) : Int), ((leNat ((o.drop (6 + 8 * k)).take 4) : Nat) : Int))] from rfl)
      generalize ((leNat ((o.drop (2 + 8 * k)).take 4) : Nat) : Int) = K at *
      generalize ((leNat ((o.drop (6 + 8 * k)).take 4) : Nat) : Int) = V at *
      clear hb ho hx hb0
      go_wp2_with (first | (at_builtin; refine stop_here ?_) | (go_at_call 35; (first | (with_reducible refine (HT0.out _ HX1.out).mono ?_) | (with_reducible refine (HT1.out _ HX1.out).mono ?_)); rintro e w' ⟨rfl, rfl⟩))
      refine stop_on ?_
      have HOA := Lib.hid (HO1.out.alloc (.cells #[.int .i64 K, .int .i64 V] 50))
      refine app_items _ rfl _ _ rfl (w1.heap.size + 1) _ k (rawIt o k) rfl HOA.out (some ⟨wr.heap.size, 0, none⟩) 1 1 [(K, V)] rfl rfl (sl_lit wr 50 1 [.int .i64 K, .int .i64 V] (by unfold maxLen; omega)) (by omega) (by simp; omega) ?_
      intro A4 q4 w4 hown hg4
      rw [← HRW.out] at hown
      have hb4 := (HB1.out.ext ((Ext.refl wr).alloc (.cells #[.int .i64 K, .int .i64 V] 50))).grown hg4 (own_old HOA.out (by omega))
      have hc4 := (HC1.out.ext ((Ext.refl wr).alloc (.cells #[.int .i64 K, .int .i64 V] 50))).grown hg4 (own_old HOA.out (by omega))
      have HX4 := Lib.hid (show Ext w1 w4 from Below.grown (HX1.out.alloc (.cells #[.int .i64 K, .int .i64 V] 50)) hg4 (by have := HX1.out.size; simp; omega) (fun q hq => by have := (HOA.out.lt q hq).1; omega))
      have HO4 := Lib.hid hown
      have HB4 := Lib.hid hb4
      have HC4 := Lib.hid hc4
      obtain ⟨d0, d1, d2⟩ := hb4.read2
      obtain ⟨f0, f1⟩ := hb4.free2
      clear hown hg4 hb4 hc4
      go_wp2_with fail
      have hne : (Value.slice A4 (k + 1) q4).ownBlock ≠ some w1.heap.size := own_old HO4.out (by omega)
      go_roundw
      case rel => exact ⟨k + 1, by omega, by go_num, A4, q4, HB4.out.set 1 (.slice A4 (k + 1) q4), ownsRow_setCell_other HO4.out (a := ⟨w1.heap.size, 1, none⟩) hne _, HX4.out.set (p := ⟨w1.heap.size, 1, none⟩) (Nat.le_refl _) _, HC4.out.set_other (p := ⟨w1.heap.size, 1, none⟩) (by simp; omega) _⟩
      case measure => simp [intOf]; omega
    · obtain rfl : k = cnt := by omega
      have hc1' : wr.cell? ⟨bb, off + 1, none⟩ = some (.int .u8 (k : Int)) :=
        (hx.cell (p := ⟨bb, off + 1, none⟩) (by obtain ⟨b4, o4, e4, h4, _⟩ := HS.out.cells.byte (k := 1) (by rw [HLL.out]; omega); cases e4; exact h4)).trans hc1
      have HPR := Lib.hid (ref04Print_any lf A1 (rawIt o k) k q1 wr (rawIt_length o k).symm (own_sl ho))
      have HSL := Lib.hid (own_sl ho)
      have HLN := Lib.hid (rawIt_length o k)
      have HNP' := HNP.out
      clear hb ho hx hb0 HNP
      generalize rawIt o k = it at *
      have hk4 : k ≤ 4 := h4'
      cases hr : ndR it
      · have hn : ndP b = none := by rw [HNP', if_neg (fun h => by rw [hr] at h; exact absurd h.2.1 (by simp))]
        obtain ⟨h1, h2, h3⟩ := ndP_no hn
        have HN := Lib.hid (And.intro h1 (And.intro h2 h3))
        unfold ndE at HPR
        rw [hr] at HPR
        clear h1 h2 h3 hn hr HNP'
        go_wp2_with (go_at_call 12; refine HPR.out.mono ?_; rintro e w9 ⟨rfl, hx⟩; have HX9 := Lib.hid (HXA.out.trans (HX1.out.trans hx)); have HC9 := Lib.hid (HC1.out.ext hx); have HS9 := Lib.hid (HSL.out.ext hx); obtain ⟨r0, r1, r2⟩ := HC9.out.read2; obtain ⟨f0, f1⟩ := HC9.out.free2; obtain ⟨s0, s1, s2⟩ := (HB1.out.ext hx).read2; clear hx)
        refine ret2_cell (k := w.heap.size) (x := .bool false) (y := .slice none 0 0) (v := .tuple #[.agg #[.bool false, .slice none 0 0], .int .i64 2]) ?hb3 (fun r0 r1 => by simp [results, Try.results14, go_sem, r0, r1]) rfl ?hx3
        case hb3 => exact HC9.out.set2 (.bool false) (.slice none 0 0)
        case hx3 => rw [HN.out.1, HN.out.2.1, HN.out.2.2]; exact ⟨none, 0, rfl, Sl.nil _, HX9.out.store2 (by omega) (.bool false) (.slice none 0 0)⟩
      by_cases hb : ndB lf it = b
      · have hn : ndP b = some (lf, it) := by rw [HNP', if_pos ⟨hk4, hr, hb⟩]
        obtain ⟨h1, h2, h3⟩ := ndP_yes hn
        have HN := Lib.hid (And.intro h1 (And.intro h2 h3))
        unfold ndE at HPR
        rw [hr, hb] at HPR
        clear h1 h2 h3 hn hr HNP' hb
        go_wp2_with (go_at_call 12; refine HPR.out.mono ?_; rintro e w9 ⟨rfl, hx⟩; have HX9 := Lib.hid (HXA.out.trans (HX1.out.trans hx)); have HC9 := Lib.hid (HC1.out.ext hx); have HS9 := Lib.hid (HSL.out.ext hx); obtain ⟨r0, r1, r2⟩ := HC9.out.read2; obtain ⟨f0, f1⟩ := HC9.out.free2; obtain ⟨s0, s1, s2⟩ := (HB1.out.ext hx).read2; clear hx)
        refine ret2_cell (k := w.heap.size) (x := .bool lf) (y := .slice A1 k q1) (v := .tuple #[.agg #[.bool lf, .slice A1 k q1], .int .i64 0]) ?hb3 (fun r0 r1 => by simp [results, Try.results14, go_sem, r0, r1]) rfl ?hx3
        case hb3 => exact HC9.out.set2 (.bool lf) (.slice A1 k q1)
        case hx3 => rw [HN.out.1, HN.out.2.1, HN.out.2.2, HLN.out]; exact ⟨A1, q1, rfl, HS9.out.boxed HC9.out (.bool lf) (.slice A1 k q1), HX9.out.store2 (by omega) (.bool lf) (.slice A1 k q1)⟩
      · have hn : ndP b = none := by rw [HNP', if_neg (fun h => hb h.2.2)]
        obtain ⟨h1, h2, h3⟩ := ndP_no hn
        have HN := Lib.hid (And.intro h1 (And.intro h2 h3))
        unfold ndE at HPR
        rw [hr] at HPR
        have hy : ((ndB lf it).toList == b.toList) = false := by rw [bytes_same, decide_eq_false hb]
        clear h1 h2 h3 hn hr HNP' hb
        generalize ndB lf it = y at *
        go_wp2_with (go_at_call 12; refine HPR.out.mono ?_; rintro e w9 ⟨rfl, hx⟩; have HX9 := Lib.hid (HXA.out.trans (HX1.out.trans hx)); have HC9 := Lib.hid (HC1.out.ext hx); have HS9 := Lib.hid (HSL.out.ext hx); obtain ⟨r0, r1, r2⟩ := HC9.out.read2; obtain ⟨f0, f1⟩ := HC9.out.free2; obtain ⟨s0, s1, s2⟩ := (HB1.out.ext hx).read2; clear hx)
        refine ret2_cell (k := w.heap.size) (x := .bool false) (y := .slice none 0 0) (v := .tuple #[.agg #[.bool false, .slice none 0 0], .int .i64 2]) ?hb3 (fun r0 r1 => by simp [results, Try.results14, go_sem, r0, r1]) rfl ?hx3
        case hb3 => exact HC9.out.set2 (.bool false) (.slice none 0 0)
        case hx3 => rw [HN.out.1, HN.out.2.1, HN.out.2.2]; exact ⟨none, 0, rfl, Sl.nil _, HX9.out.store2 (by omega) (.bool false) (.slice none 0 0)⟩
end Go.Proofs.Ytpcchbcibcfldaa
