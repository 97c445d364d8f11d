/- The bytes that package mount takes of an area, as it landed. Parse of package book, where the cells lie. The bare state that a disk's book tells: package mount's own, as it landed. What package mount makes of a disk, in plain words: cells whose nodes are filled in one by one. -/
import Derived.Test.YtjbfopnkeclfgaaGreatK41
import Derived.Test.YtjbfopnkeclfgaaGreatK44
import Derived.Test.YtjbfopnkeclfgaaGreatK25
import Derived.Lib.AppendStr
import Derived.Test.YtjbfopnkeclfgaaGreatK31
import Derived.Test.YtjbfopnkeclfgaaGreatK39
import Derived.Test.YtjbfopnkeclfgaaGreatK10
namespace Go.Proofs.YtjbfopnkeclfgaaGreat
set_option maxRecDepth 20000
open Go.RowKit
attribute [local go_sem ↓] Go.wp_at_zero Go.wp_at_succ

theorem strCells_bv (s : ByteArray) : Go.Lib.strCells s = s.data.toList.map bv := rfl
/-- How far it has come. -/
def TkJ (B : List ByteArray) (a size : Nat) (w : World) (A A' : Option Addr) (c c' : Nat) (m : Nat) (a' : Act) (wr : World) : Prop :=
  ∃ (j : Nat) (v : Value) (u8 u9 u10 u11 u12 u13 u14 u15 u16 u17 u18 u19 u20 u21 u22 u23 u24 u25 u26 u27 u28 u29 u30 : Value), m = size + 40 - 40 * j ∧ 40 * j < size + 40 ∧ a + j ≤ B.length ∧
    a' = { tmps := #[.agg #[.slice A B.length c, .slice A' 0 c'], .int .i64 (a + j : Nat), .int .i64 size, .pointer (some ⟨w.heap.size, 0, none⟩), undef, undef, .slice none 0 0, v, u8, u9, u10, u11, u12, u13, u14, u15, u16, u17, u18, u19, u20, u21, u22, u23, u24, u25, u26, u27, u28, u29, u30], defers := [] } ∧
    wr.ownsRow (w.heap.size + 1) 5 1 v (40 * j) ((areaL B a j).map bv) ∧ Ext w wr ∧ Bx wr w.heap.size #[.slice A B.length c, .slice A' 0 c']
set_option maxRecDepth 100000 in
set_option maxHeartbeats 400000 in
theorem mtTaken_any (A A' : Option Addr) (B : List ByteArray) (c c' a size : Nat) (w : World) (hB : B.all okB = true) (hb : B.length ≤ 135) (hs : size ≤ 40 * 135) (ha : ∀ j, 40 * j < size → a + j < B.length) (ha2 : a ≤ B.length) (hA : Sl w A B.length c (B.map sv)) (hA' : Sl w A' 0 c' []) :
    Calls Tryz.prog 40 #[.agg #[.slice A B.length c, .slice A' 0 c'], .int .i64 a, .int .i64 size] w fun e w' => ∃ S d, e = .returned (.slice S size d) ∧ Sl w' S size d ((textM B a size).map bv) ∧ Ext w w' := by
  have RD := Lib.hid (fun (i : Nat) w' (hi : i < B.length) (hx : Ext w w') => show Calls Tryz.prog 20 #[.agg #[.slice A B.length c, .slice A' 0 c'], .int .i64 (i : Int)] w' fun e w2 => e = .returned (.tuple #[.string (blk B i), .int .i64 0]) ∧ Ext w' w2 from by
    have h := readD_any A A' B [] c c' (i : Int) w' (by omega) (by simp) (hA.cells.ext hx) (hA'.cells.ext hx)
    rw [readE_in hi, blk_read hi] at h
    exact h)
  have HA := Lib.hid ha
  have HA2 := Lib.hid ha2
  have HB := Lib.hid hB
  have HS := Lib.hid hs
  have HBL := Lib.hid hb
  obtain ⟨i0, hi, hz0, hz1, hz2⟩ := info_parts info5
  have HII := Lib.hid hi
  have HZ0 := Lib.hid hz0
  have HZ1 := Lib.hid hz1
  have HZ2 := Lib.hid hz2
  obtain ⟨W, hW⟩ : ∃ W, w.alloc (.cells #[.slice A B.length c, .slice A' 0 c'] 25) = W := ⟨_, rfl⟩
  obtain ⟨hx, hb1⟩ := allocs1 hW
  have HX := Lib.hid hx
  have HB1 := Lib.hid hb1
  have HW := Lib.hid hW
  clear hB hs hb ha ha2 hA hA' hi hz0 hz1 hz2 hx hb1 hW
  go_enter Tryz.func40, Tryz.ntmps40
  go_wp2_with fail
  refine wp_scope_on 0 (TkJ B a size w A A' c c') rfl ?_ ?_
  rotate_left
  · intro _
    go_wp2_with fail
    go_step3
    have hn : 40 * 0 = 0 := rfl
    have hp : a + 0 = a := rfl
    have hj : 0 < size + 40 := by omega
    have haj : a ≤ B.length := HA2.out
    have ho : W.ownsRow (w.heap.size + 1) 5 1 (.slice none 0 0) 0 ((areaL B a 0).map bv) := by rw [areaL_zero]; exact World.ownsRow_nil _ _ _ _
    have hxr := HX.out
    have hbr := HB1.out
    rw [HW.out]
    obtain ⟨p0, p1, z2⟩ := hbr.read2
    have HO := Lib.hid ho
    have HXR := Lib.hid hxr
    have HBR := Lib.hid hbr
    have HNN := Lib.hid hn
    have HPP := Lib.hid hp
    have hnc := (own_sl ho).2.1
    have hcm := (own_sl ho).2.2.1
    unfold maxLen at hcm
    have hnn : 0 ≤ 6000 := by have := HS.out; omega
    clear ho hxr hbr hn hp
    rcases Nat.lt_or_ge 0 size with hlt | hge
    · have d0 : decide ((size : Int) ≤ (0 : Int)) = false := decide_eq_false (by omega)
      have hpl : a < B.length := by rw [← HPP.out]; exact HA.out 0 (by rw [HNN.out]; exact hlt)
      have HAS := Lib.hid (show areaL B a (0 + 1) = areaL B a 0 ++ (blk B a).data.toList from by rw [areaL_succ (by rw [HPP.out]; exact hpl), HPP.out])
      have HSZ := Lib.hid (blk_size' HB.out hpl)
      have g1 : IntKind.i64.wrap ((a : Int) + 1) = ((a + 1 : Nat) : Int) := by rw [IntKind.wrap_i64]; have := HBL.out; omega
      go_wp2_with (first
        | (go_at_call 20; refine (RD.out a _ hpl HXR.out).mono ?_; rintro e w2 ⟨rfl, hx2⟩; have X2 := Lib.hid hx2; clear hx2 p0 p1 z2)
        | (at_builtin; refine Go.Lib.wpList_append_own_string _ rfl _ _ 68 9 rfl (w.heap.size + 1) 5 i0 Tryz.underlying68 Tryz.underlying9 HII.out HZ0.out HZ1.out HZ2.out _ 0 _ rfl (own_ext HO.out X2.out) (blk B a) rfl (by rw [HSZ.out]; unfold maxLen; omega) (by rw [HSZ.out]; omega) (Nat.le_trans (by have := HBR.out.lt; omega) X2.out.size) ?_))
      intro v' w3 hown hgrow _
      rw [strCells_bv, ← List.map_append, ← HAS.out, HSZ.out] at hown
      have HO3 := Lib.hid hown
      have HX3 := Lib.hid (Ext.app (HXR.out.trans X2.out) (own_ext HO.out X2.out) (Nat.le_succ _) hgrow)
      have HB3 := Lib.hid ((HBR.out.ext X2.out).grown hgrow (fun e => by have := (HO.out.lt _ e).1; omega))
      clear hown hgrow
      go_wp2
      go_step3
      rw [show ((a : Int) + 1) = ((a + (0 + 1) : Nat) : Int) by have := HPP.out; omega]
      exact ⟨rfl, size + 40 - 40 * (0 + 1), 0 + 1, v', _, _, _, _, _, _, _, _, _, _, _, _, _, _, _, _, _, _, _, _, _, _, _, rfl, by have := HNN.out; omega, by have := HPP.out; omega, rfl, by rw [show 40 * (0 + 1) = 0 + 40 by have := HNN.out; omega]; exact HO3.out, HX3.out, HB3.out⟩
    · have d0 : decide ((size : Int) ≤ (0 : Int)) = true := decide_eq_true (by omega)
      have HSL := Lib.hid (show Sl W none size 0 ((textM B a size).map bv) from by
        rw [textM_area HB.out (j := 0) (by rw [HNN.out]; exact hge), List.map_take]
        have h := own_sl HO.out
        exact ⟨h.1, Nat.le_trans hge h.2.1, h.2.2.1, h.cells.take size⟩)
      obtain rfl : size = 0 := by omega
      go_wp2
      simp only [Exit.jump]
      go_ret
      exact ⟨none, 0, rfl, HSL.out, HXR.out⟩
  · rintro m a' wr ⟨j, v, u8, u9, u10, u11, u12, u13, u14, u15, u16, u17, u18, u19, u20, u21, u22, u23, u24, u25, u26, u27, u28, u29, u30, rfl, hj, haj, rfl, ho, hxr, hbr⟩
    obtain ⟨S, d, rfl⟩ := own_shape ho
    obtain ⟨n, hn⟩ : ∃ n, 40 * j = n := ⟨_, rfl⟩
    obtain ⟨p, hp⟩ : ∃ p, a + j = p := ⟨_, rfl⟩
    simp only [hn] at ho hj ⊢
    simp only [hp] at haj ⊢
    obtain ⟨p0, p1, z2⟩ := hbr.read2
    have HO := Lib.hid ho
    have HXR := Lib.hid hxr
    have HBR := Lib.hid hbr
    have HNN := Lib.hid hn
    have HPP := Lib.hid hp
    have hnc := (own_sl ho).2.1
    have hcm := (own_sl ho).2.2.1
    unfold maxLen at hcm
    have hnn : n ≤ 6000 := by have := HS.out; omega
    clear ho hxr hbr hn hp
    rcases Nat.lt_or_ge n size with hlt | hge
    · have d0 : decide ((size : Int) ≤ (n : Int)) = false := decide_eq_false (by omega)
      have hpl : p < B.length := by rw [← HPP.out]; exact HA.out j (by rw [HNN.out]; exact hlt)
      have HAS := Lib.hid (show areaL B a (j + 1) = areaL B a j ++ (blk B p).data.toList from by rw [areaL_succ (by rw [HPP.out]; exact hpl), HPP.out])
      have HSZ := Lib.hid (blk_size' HB.out hpl)
      have g1 : IntKind.i64.wrap ((p : Int) + 1) = ((p + 1 : Nat) : Int) := by rw [IntKind.wrap_i64]; have := HBL.out; omega
      go_wp2_with (first
        | (go_at_call 20; refine (RD.out p _ hpl HXR.out).mono ?_; rintro e w2 ⟨rfl, hx2⟩; have X2 := Lib.hid hx2; clear hx2 p0 p1 z2)
        | (at_builtin; refine Go.Lib.wpList_append_own_string _ rfl _ _ 68 9 rfl (w.heap.size + 1) 5 i0 Tryz.underlying68 Tryz.underlying9 HII.out HZ0.out HZ1.out HZ2.out _ n _ rfl (own_ext HO.out X2.out) (blk B p) rfl (by rw [HSZ.out]; unfold maxLen; omega) (by rw [HSZ.out]; omega) (Nat.le_trans (by have := HBR.out.lt; omega) X2.out.size) ?_))
      intro v' w3 hown hgrow _
      rw [strCells_bv, ← List.map_append, ← HAS.out, HSZ.out] at hown
      have HO3 := Lib.hid hown
      have HX3 := Lib.hid (Ext.app (HXR.out.trans X2.out) (own_ext HO.out X2.out) (Nat.le_succ _) hgrow)
      have HB3 := Lib.hid ((HBR.out.ext X2.out).grown hgrow (fun e => by have := (HO.out.lt _ e).1; omega))
      clear hown hgrow
      go_wp2
      go_step3
      rw [show ((p : Int) + 1) = ((a + (j + 1) : Nat) : Int) by have := HPP.out; omega]
      exact ⟨rfl, size + 40 - 40 * (j + 1), by have := HNN.out; omega, j + 1, v', _, _, _, _, _, _, _, _, _, _, _, _, _, _, _, _, _, _, _, _, _, _, _, rfl, by have := HNN.out; omega, by have := HPP.out; omega, rfl, by rw [show 40 * (j + 1) = n + 40 by have := HNN.out; omega]; exact HO3.out, HX3.out, HB3.out⟩
    · have d0 : decide ((size : Int) ≤ (n : Int)) = true := decide_eq_true (by omega)
      have HSL := Lib.hid (show Sl wr S size d ((textM B a size).map bv) from by
        rw [textM_area HB.out (j := j) (by rw [HNN.out]; exact hge), List.map_take]
        have h := own_sl HO.out
        exact ⟨h.1, Nat.le_trans hge h.2.1, h.2.2.1, h.cells.take size⟩)
      go_wp2
      simp only [Exit.jump]
      go_ret
      exact ⟨S, d, rfl, HSL.out, HXR.out⟩
end Go.Proofs.YtjbfopnkeclfgaaGreat
namespace Go.Proofs.YtjbfopnkeclfgaaGreat
set_option maxRecDepth 20000
open Go.RowKit
attribute [local go_sem ↓] Go.wp_at_zero Go.wp_at_succ

set_option maxHeartbeats 800000 in
theorem bkParse_own (A : Option Addr) (l : List UInt8) (m c : Nat) (gen : Int) (w : World) (hm : m = l.length) (hA : Sl w A m c (l.map bv)) :
    Calls Tryz.prog 43 #[.slice A m c, .int .i64 gen] w fun e w' => ((∃ rs keep vs ts next S q V cv L cl, bookT l gen = some (rs, keep, vs, ts, next) ∧ e = .returned (.tuple #[.agg #[.slice S rs.length q, .int .i64 keep, .slice V vs.length cv, .slice L ts.length cl, .int .i64 next, .int .i64 gen], .int .i64 0]) ∧ (∃ B, w.heap.size < B ∧ w'.ownsRow B 61 4 (.slice S rs.length q) rs.length (hcV rs)) ∧ (∃ B2, w.heap.size < B2 ∧ w'.ownsRow B2 103 2 (.slice V vs.length cv) vs.length (ivs vs)) ∧ Sl w' L ts.length cl ((ts.map tkB2).map cxv)) ∨ (bookT l gen = none ∧ e = .returned (.tuple #[.agg stZ, .int .i64 2]))) ∧ Ext w w' := by
  have hx1 := (Ext.refl w).alloc (.cells stZ 34)
  have hb1 := Bx.new w stZ 34
  have hsz : (w.alloc (.cells stZ 34)).heap.size = w.heap.size + 1 := by rw [World.size_alloc]
  have HX1 := Lib.hid hx1
  have HB1 := Lib.hid hb1
  have hx2 := (Ext.refl (w.alloc (.cells stZ 34))).alloc (.cells #[.slice A m c, .int .i64 0] 127)
  have hb2 := Bx.new (w.alloc (.cells stZ 34)) #[.slice A m c, .int .i64 0] 127
  rw [hsz] at hb2
  have HST := Lib.hid (rdState_any (w.alloc (.cells stZ 34)) (w.heap.size + 1) A l m c gen _ hm (hA.ext hx1) ⟨hx2, by rw [hsz]; exact Nat.le_refl _, hb2⟩)
  obtain ⟨res, hres⟩ : ∃ r, bookT l gen = r := ⟨_, rfl⟩
  rw [hres] at HST ⊢
  clear hx1 hb1 hx2 hb2 hm hA hres
  have HSZ := Lib.hid hsz
  clear hsz
  go_enter Tryz.func43, Tryz.ntmps43
  go_wp2_with (go_at_call 71; refine stop_here ?_)
  refine stop_on ?_
  refine HST.out.mono ?_
  rintro e w2 ⟨(⟨rs, keep, vs, ts, next, S, q, V, cv, L, cl, hq, rfl, ⟨B1, hB1, ho1⟩, ⟨B2, hB2, ho2⟩, hl⟩ | ⟨hq, rfl⟩), hx⟩
  · have HK2 := Lib.hid (HB1.out.ext hx)
    have HX2 := Lib.hid (HX1.out.trans hx)
    rw [HSZ.out] at hB1 hB2
    have HBB := Lib.hid (show w.heap.size < B1 by omega)
    have HBC := Lib.hid (show w.heap.size < B2 by omega)
    have hy := ((((((Rx.refl w.heap.size w2).set 0 (.slice S rs.length q)).set 1 (.int .i64 keep)).set 2 (.slice V vs.length cv)).set 3 (.slice L ts.length cl)).set 4 (.int .i64 next)).set 5 (.int .i64 gen)
    have H1 := Lib.hid (hy.own ho1 (by omega))
    have H2 := Lib.hid (hy.own ho2 (by omega))
    have H3 := Lib.hid (rd_row (show Bx w2 w.heap.size #[.slice none 0 0, .int .i64 0, .slice none 0 0, .slice none 0 0, .int .i64 0, .int .i64 0] from HK2.out) (numBox6 _ _ _ _ _ _ _ _ _ _ _ _) hy hl (cxv_apart _))
    have HQ := Lib.hid hq
    have HY := Lib.hid hy
    obtain ⟨c0, c1, c2, c3, c4, c5⟩ := st_at6 (show Bx w2 w.heap.size #[.slice none 0 0, .int .i64 0, .slice none 0 0, .slice none 0 0, .int .i64 0, .int .i64 0] from HK2.out)
    obtain ⟨f0, f1, f2, f3, f4, f5⟩ := st_free6 HK2.out
    clear hq ho1 ho2 hl hx hy
    go_wp2
    refine ret6_cell (st_set6 (show Bx w2 w.heap.size #[.slice none 0 0, .int .i64 0, .slice none 0 0, .slice none 0 0, .int .i64 0, .int .i64 0] from HK2.out) _ _ _ _ _ _) (v := .tuple #[.agg #[.slice S rs.length q, .int .i64 keep, .slice V vs.length cv, .slice L ts.length cl, .int .i64 next, .int .i64 gen], .int .i64 0]) (fun d0 d1 d2 d3 d4 d5 => by simp [results, Tryz.results43, go_sem, d0, d1, d2, d3, d4, d5]) rfl ⟨.inl ⟨rs, keep, vs, ts, next, S, q, V, cv, L, cl, HQ.out, rfl, ⟨B1, HBB.out, H1.out⟩, ⟨B2, HBC.out, H2.out⟩, H3.out⟩, HY.out.over HX2.out (Nat.le_refl _)⟩
  · have HK2 := Lib.hid (HB1.out.ext hx)
    have HX2 := Lib.hid (HX1.out.trans hx)
    have HQ := Lib.hid hq
    obtain ⟨c0, c1, c2, c3, c4, c5⟩ := st_at6 (show Bx w2 w.heap.size #[.slice none 0 0, .int .i64 0, .slice none 0 0, .slice none 0 0, .int .i64 0, .int .i64 0] from HK2.out)
    obtain ⟨f0, f1, f2, f3, f4, f5⟩ := st_free6 HK2.out
    have HY := Lib.hid (((((((Rx.refl w.heap.size w2).set 0 (.slice none 0 0)).set 1 (.int .i64 0)).set 2 (.slice none 0 0)).set 3 (.slice none 0 0)).set 4 (.int .i64 0)).set 5 (.int .i64 0))
    unfold stZ
    clear hq hx
    go_wp2
    refine ret6_cell (st_set6 (show Bx w2 w.heap.size #[.slice none 0 0, .int .i64 0, .slice none 0 0, .slice none 0 0, .int .i64 0, .int .i64 0] from HK2.out) _ _ _ _ _ _) (v := .tuple #[.agg #[.slice none 0 0, .int .i64 0, .slice none 0 0, .slice none 0 0, .int .i64 0, .int .i64 0], .int .i64 2]) (fun d0 d1 d2 d3 d4 d5 => by simp [results, Tryz.results43, go_sem, d0, d1, d2, d3, d4, d5]) rfl ⟨.inr ⟨HQ.out, rfl⟩, HY.out.over HX2.out (Nat.le_refl _)⟩
end Go.Proofs.YtjbfopnkeclfgaaGreat
namespace Go.Proofs.YtjbfopnkeclfgaaGreat
set_option maxRecDepth 20000
open Go.RowKit
attribute [local go_sem ↓] Go.wp_at_zero Go.wp_at_succ
attribute [local go_sem] beq_self_eq_true bne_self_eq_false

/-- What a book of that Gen, Size and Sum tells. -/
def bareN (B : List ByteArray) (g z : Nat) (s : Int) : Option (List Int × Int × List It × List (Nat × Nat) × Int) :=
  if cellsP B.length = 0 ∨ 1631 + 2 * cellsP B.length < z then none else
  match bookT (textM B (2 + g % 2 * areaP (cellsP B.length)) z) g with
  | none => none
  | some x => if ((crc (textM B (2 + g % 2 * areaP (cellsP B.length)) z) : Nat) : Int) ≠ s ∨ x.1.length ≠ cellsP B.length then none else some x
theorem area_in {n g z j bl : Nat} (hz : ¬ 1631 + 2 * n < z) (hb : baseP n + n ≤ bl) (hj : 40 * j < z) : 2 + g % 2 * areaP n + j < bl := by
  have h1 : j < areaP n := by unfold areaP; omega
  have h2 : g % 2 * areaP n ≤ areaP n := by
    have : g % 2 ≤ 1 := by omega
    calc g % 2 * areaP n ≤ 1 * areaP n := Nat.mul_le_mul_right _ this
      _ = areaP n := Nat.one_mul _
  unfold baseP at hb
  omega
theorem area_le {n g bl : Nat} (hb : baseP n + n ≤ bl) : 2 + g % 2 * areaP n ≤ bl := by
  have h2 : g % 2 * areaP n ≤ areaP n := by
    have : g % 2 ≤ 1 := by omega
    calc g % 2 * areaP n ≤ 1 * areaP n := Nat.mul_le_mul_right _ this
      _ = areaP n := Nat.one_mul _
  unfold baseP at hb
  omega
/-- What bare answers. -/
def BareAns (B : List ByteArray) (g z : Nat) (s : Int) (w : World) (e : Ending) (w' : World) : Prop :=
  ((∃ rs keep vs ts next S q V cv L cl, bareN B g z s = some (rs, keep, vs, ts, next) ∧ e = .returned (.tuple #[.agg #[.slice S rs.length q, .int .i64 keep, .slice V vs.length cv, .slice L ts.length cl, .int .i64 next, .int .i64 g], .int .i64 0]) ∧ (∃ b0, w.heap.size < b0 ∧ w'.ownsRow b0 61 4 (.slice S rs.length q) rs.length (hcV rs)) ∧ (∃ b1, w.heap.size < b1 ∧ w'.ownsRow b1 103 2 (.slice V vs.length cv) vs.length (ivs vs)) ∧ Sl w' L ts.length cl ((ts.map tkB2).map cxv)) ∨ (bareN B g z s = none ∧ e = .returned (.tuple #[.agg stZ, .int .i64 2]))) ∧ Ext w w'
set_option maxRecDepth 100000 in
set_option maxHeartbeats 1600000 in
theorem mtBare_any (A A' : Option Addr) (B : List ByteArray) (c c' g z : Nat) (s : Int) (w : World) (hB : B.all okB = true) (hb : B.length ≤ 135) (hg : g ≤ 2147483647) (hz : z ≤ 2147483647) (hA : Sl w A B.length c (B.map sv)) (hA' : Sl w A' 0 c' []) :
    Calls Tryz.prog 17 #[.agg #[.slice A B.length c, .slice A' 0 c'], .agg #[.int .i64 g, .int .i64 z, .int .i64 s]] w (BareAns B g z s w) := by
  have RC := Lib.hid (fun w' => planCells_any B.length w')
  obtain ⟨c1, c2, c3⟩ := cells_facts B.length
  obtain ⟨n, hn⟩ : ∃ n, cellsP B.length = n := ⟨_, rfl⟩
  have HBN := Lib.hid (show bareN B g z s = if n = 0 ∨ 1631 + 2 * n < z then none else match bookT (textM B (2 + g % 2 * areaP n) z) g with | none => none | some x => if ((crc (textM B (2 + g % 2 * areaP n) z) : Nat) : Int) ≠ s ∨ x.1.length ≠ n then none else some x from by rw [← hn]; rfl)
  rw [hn] at RC c1 c2
  clear hn c3
  obtain ⟨W, hW⟩ : ∃ W, ((w.alloc (.cells #[.slice A B.length c, .slice A' 0 c'] 25)).alloc (.cells #[.int .i64 g, .int .i64 z, .int .i64 s] 40)).alloc (.cells stZ 34) = W := ⟨_, rfl⟩
  obtain ⟨hx, hb1, hb2, hb3⟩ := allocs3 hW
  have HX := Lib.hid hx
  have HB1 := Lib.hid hb1
  have HB2 := Lib.hid hb2
  have HB3 := Lib.hid hb3
  have HW := Lib.hid hW
  obtain ⟨p0, p1, z2⟩ := hb1.read2
  have HBL := Lib.hid hb
  clear hx hb1 hb2 hb3 hW
  unfold stZ at HW HB3
  by_cases h0 : n = 0
  · have HNO := Lib.hid (show bareN B g z s = none from by rw [HBN.out, if_pos (.inl h0)])
    subst h0
    clear HBN c2 hB hA hA'
    go_enter Tryz.func17, Tryz.ntmps17
    go_wp2_with (go_at_call 39; refine stop_here ?_)
    refine stop_on ?_
    rw [HW.out]
    refine (RC.out _).mono ?_
    rintro e w2 ⟨rfl, hx2⟩
    have X2 := Lib.hid (HX.out.trans hx2)
    have C2 := Lib.hid (HB3.out.ext hx2)
    have D2 := Lib.hid (HB1.out.ext hx2)
    have S2 := Lib.hid (HB2.out.ext hx2)
    have Y2 := Lib.hid hx2
    obtain ⟨c0, c1, c2, c3, c4, c5⟩ := st_at6 C2.out
    obtain ⟨f0, f1, f2, f3, f4, f5⟩ := st_free6 C2.out
    obtain ⟨s0, s1, s2⟩ : _ ∧ _ ∧ _ := ⟨S2.out.at 0 _ rfl, S2.out.at 1 _ rfl, S2.out.at 2 _ rfl⟩
    clear hx2 p0 p1 z2
    obtain ⟨p0, p1, z2⟩ := D2.out.read2
    go_wp2_with fail
    refine ret6_cell (st_set6 C2.out _ _ _ _ _ _) (v := .tuple #[.agg #[.slice none 0 0, .int .i64 0, .slice none 0 0, .slice none 0 0, .int .i64 0, .int .i64 0], .int .i64 2]) (fun d0 d1 d2 d3 d4 d5 => by simp [results, Tryz.results17, go_sem, d0, d1, d2, d3, d4, d5]) rfl ⟨.inr ⟨HNO.out, rfl⟩, (((((((Rx.refl (w.heap.size + 1 + 1) w2).set 0 (.slice none 0 0)).set 1 (.int .i64 0)).set 2 (.slice none 0 0)).set 3 (.slice none 0 0)).set 4 (.int .i64 0)).set 5 (.int .i64 0)).over X2.out (by omega)⟩
  have d0 : ((n : Int) == 0) = false := by rw [beq_eq_false_iff_ne]; omega
  have g1 : IntKind.i64.wrap (2 * (n : Int)) = ((2 * n : Nat) : Int) := by rw [IntKind.wrap_i64]; omega
  have g2 : IntKind.i64.wrap (1631 + ((2 * n : Nat) : Int)) = ((1631 + 2 * n : Nat) : Int) := by rw [IntKind.wrap_i64]; omega
  by_cases h1 : 1631 + 2 * n < z
  · have HNO := Lib.hid (show bareN B g z s = none from by rw [HBN.out, if_pos (.inr h1)])
    have d1 : decide (1631 + 2 * (n : Int) < (z : Int)) = true := decide_eq_true (by omega)
    clear HBN c2 hB hA hA' h0 h1
    go_enter Tryz.func17, Tryz.ntmps17
    go_wp2_with (go_at_call 39; refine stop_here ?_)
    refine stop_on ?_
    rw [HW.out]
    refine (RC.out _).mono ?_
    rintro e w2 ⟨rfl, hx2⟩
    have X2 := Lib.hid (HX.out.trans hx2)
    have C2 := Lib.hid (HB3.out.ext hx2)
    have D2 := Lib.hid (HB1.out.ext hx2)
    have S2 := Lib.hid (HB2.out.ext hx2)
    have Y2 := Lib.hid hx2
    obtain ⟨c0, c1, c2, c3, c4, c5⟩ := st_at6 C2.out
    obtain ⟨f0, f1, f2, f3, f4, f5⟩ := st_free6 C2.out
    obtain ⟨s0, s1, s2⟩ : _ ∧ _ ∧ _ := ⟨S2.out.at 0 _ rfl, S2.out.at 1 _ rfl, S2.out.at 2 _ rfl⟩
    clear hx2 p0 p1 z2
    obtain ⟨p0, p1, z2⟩ := D2.out.read2
    go_wp2_with fail
    refine ret6_cell (st_set6 C2.out _ _ _ _ _ _) (v := .tuple #[.agg #[.slice none 0 0, .int .i64 0, .slice none 0 0, .slice none 0 0, .int .i64 0, .int .i64 0], .int .i64 2]) (fun d0 d1 d2 d3 d4 d5 => by simp [results, Tryz.results17, go_sem, d0, d1, d2, d3, d4, d5]) rfl ⟨.inr ⟨HNO.out, rfl⟩, (((((((Rx.refl (w.heap.size + 1 + 1) w2).set 0 (.slice none 0 0)).set 1 (.int .i64 0)).set 2 (.slice none 0 0)).set 3 (.slice none 0 0)).set 4 (.int .i64 0)).set 5 (.int .i64 0)).over X2.out (by omega)⟩
  have d1 : decide (1631 + 2 * (n : Int) < (z : Int)) = false := decide_eq_false (by omega)
  have hbn := c2 (by omega)
  have hn60 : n ≤ 135 := by omega
  rw [if_neg (by omega)] at HBN
  have HZN := Lib.hid h1
  have RA := Lib.hid (fun w' => planArea_any n w' (by omega))
  have RT := Lib.hid (fun w' (hx : Ext w w') => mtTaken_any A A' B c c' (2 + g % 2 * areaP n) z w' hB hb (by omega) (fun j hj => area_in h1 hbn hj) (area_le hbn) (hA.ext hx) (hA'.ext hx))
  have HTL := Lib.hid (show (textM B (2 + g % 2 * areaP n) z).length = z from by
    have h := textM_length hB (a := 2 + g % 2 * areaP n) (j := areaP n) (size := z) (by unfold areaP; omega) (by
      have := area_in (g := g) (j := areaP n - 1) h1 hbn
      have h2 : g % 2 * areaP n ≤ areaP n := by
        have : g % 2 ≤ 1 := by omega
        calc g % 2 * areaP n ≤ 1 * areaP n := Nat.mul_le_mul_right _ this
          _ = areaP n := Nat.one_mul _
      unfold baseP at hbn
      omega)
    exact h)
  have har : areaP n ≤ 60 := by unfold areaP; omega
  obtain ⟨par, hpar⟩ : ∃ p, g % 2 = p := ⟨_, rfl⟩
  have hp2 : par ≤ 1 := by omega
  have HPAR := Lib.hid hpar
  rw [hpar] at HBN RT HTL
  generalize areaP n = ar at *
  obtain ⟨mm, hmm⟩ : ∃ m, par * ar = m := ⟨_, rfl⟩
  have hmm2 : mm ≤ 60 := by rw [← hmm]; exact Nat.le_trans (Nat.mul_le_mul_right ar hp2) (by omega)
  have g3 : IntKind.i64.wrap ((par : Int) * (ar : Int)) = (mm : Int) := by
    rw [show (par : Int) * (ar : Int) = ((par * ar : Nat) : Int) by simp, hmm, IntKind.wrap_i64]; omega
  rw [hmm] at HBN RT HTL
  obtain ⟨first, hfi⟩ : ∃ m, 2 + mm = m := ⟨_, rfl⟩
  have g4 : IntKind.i64.wrap (2 + (mm : Int)) = (first : Int) := by rw [IntKind.wrap_i64]; omega
  rw [hfi] at HBN RT HTL
  have g5 : Int.tmod (g : Int) 2 = (par : Int) := by rw [Int.tmod_eq_emod_of_nonneg (by omega)]; omega
  have g6 : IntKind.i64.wrap (par : Int) = (par : Int) := by rw [IntKind.wrap_i64]; omega
  generalize textM B first z = tx at *
  have RB := Lib.hid (fun S d w' h => slotBook_any S tx z d w' HTL.out.symm h)
  have RP := Lib.hid (fun S d w' h => bkParse_own S tx z d (g : Int) w' HTL.out.symm h)
  clear c2 hB hA hA' h0 h1 hbn hfi hmm hpar
  go_enter Tryz.func17, Tryz.ntmps17
  go_wp2_with (go_at_call 39; refine stop_here ?_)
  refine stop_on ?_
  rw [HW.out]
  refine (RC.out _).mono ?_
  rintro e w2 ⟨rfl, hx2⟩
  have X2 := Lib.hid (HX.out.trans hx2)
  have C2 := Lib.hid (HB3.out.ext hx2)
  have D2 := Lib.hid (HB1.out.ext hx2)
  have S2 := Lib.hid (HB2.out.ext hx2)
  have Y2 := Lib.hid hx2
  obtain ⟨c0, c1, c2, c3, c4, c5⟩ := st_at6 C2.out
  obtain ⟨f0, f1, f2, f3, f4, f5⟩ := st_free6 C2.out
  obtain ⟨s0, s1, s2⟩ : _ ∧ _ ∧ _ := ⟨S2.out.at 0 _ rfl, S2.out.at 1 _ rfl, S2.out.at 2 _ rfl⟩
  clear hx2 p0 p1 z2
  obtain ⟨p0, p1, z2⟩ := D2.out.read2
  go_wp2_with fail
  go_cut [7] from 27 to 37 (fun v wx => ∃ S d, v = .slice S z d ∧ Sl wx S z d (tx.map bv) ∧ Ext w2 wx)
  case first =>
    go_region_law (first
      | (go_simp
         go_at_call 41
         refine (RA.out _).mono ?_
         rintro e w3 ⟨rfl, hx3⟩
         have X3 := Lib.hid (show Ext w2 w3 from by first | exact (Ext.refl _).drew.trans hx3 | exact hx3)
         clear hx3
         obtain ⟨p0, p1, z2⟩ := (D2.out.ext X3.out).read2
         obtain ⟨s0, s1, s2⟩ : _ ∧ _ ∧ _ := ⟨(S2.out.ext X3.out).at 0 _ rfl, (S2.out.ext X3.out).at 1 _ rfl, (S2.out.ext X3.out).at 2 _ rfl⟩)
      | (go_simp
         go_at_call 40
         refine (RT.out _ (X2.out.trans X3.out)).mono ?_
         rintro e w4 ⟨S, d, rfl, hs4, hx4⟩
         have X4 := Lib.hid (X3.out.trans hx4)
         have H4 := Lib.hid hs4
         clear hx4 hs4))
    all_goals
      go_wp2_with fail
      go_meet
      exact ⟨S, d, rfl, H4.out, X4.out⟩
  case rest =>
    obtain ⟨S, d, rfl, hs, hxc⟩ := hcut
    have HS := Lib.hid hs
    have XC := Lib.hid (X2.out.trans hxc)
    have CC := Lib.hid (C2.out.ext hxc)
    have SC := Lib.hid (S2.out.ext hxc)
    clear hs hxc p0 p1 z2 c0 c1 c2 c3 c4 c5 f0 f1 f2 f3 f4 f5 s0 s1 s2
    obtain ⟨s0, s1, s2⟩ : _ ∧ _ ∧ _ := ⟨SC.out.at 0 _ rfl, SC.out.at 1 _ rfl, SC.out.at 2 _ rfl⟩
    have RBS := Lib.hid (RB.out S d wc HS.out)
    have RPS := Lib.hid (RP.out S d wc HS.out)
    obtain ⟨cr, hcr⟩ : ∃ k : Nat, crc tx = k := ⟨_, rfl⟩
    rw [hcr] at RBS HBN
    clear hcr RB RP
    go_wp2_with (first
      | (go_at_call 42; refine RBS.out.mono ?_; rintro e w' ⟨rfl, rfl⟩)
      | (go_at_call 43; refine stop_here ?_))
    refine stop_on ?_
    refine RPS.out.mono ?_
    rintro e w5 ⟨(⟨rs, keep, vs, ts, next, Q, q, V, cv, L, cl, hq, rfl, ⟨b0, hb0, ho⟩, ⟨b1, hb1, hv⟩, hl⟩ | ⟨hq, rfl⟩), hx5⟩
    · have X5 := Lib.hid (XC.out.trans hx5)
      have HQ := Lib.hid hq
      have hbz : w.heap.size + 1 + 1 < b0 ∧ w.heap.size + 1 + 1 < b1 := by have := CC.out.lt; omega
      have hyb := Bx.new w5 #[.slice none 0 0, .int .i64 0, .slice none 0 0, .slice none 0 0, .int .i64 0, .int .i64 0] 34
      obtain ⟨y0, y1, y2, y3, y4, y5⟩ := st_at6 hyb
      obtain ⟨z0, z1, z2, z3, z4, z5⟩ := st_free6 hyb
      have zl := hyb.lt
      obtain ⟨W6, hW6⟩ : ∃ W, w5.alloc (.cells #[.slice Q rs.length q, .int .i64 keep, .slice V vs.length cv, .slice L ts.length cl, .int .i64 next, .int .i64 g] 34) = W := ⟨_, rfl⟩
      obtain ⟨hx6, hb6⟩ := allocs1 hW6
      obtain ⟨t0, t1, t2, t3, t4, t5⟩ := st_at6 hb6
      have X6 := Lib.hid (X5.out.trans hx6)
      have C6 := Lib.hid (CC.out.ext (hx5.trans hx6))
      obtain ⟨c0, c1, c2, c3, c4, c5⟩ := st_at6 C6.out
      obtain ⟨f0, f1, f2, f3, f4, f5⟩ := st_free6 C6.out
      have S6 := SC.out.ext (hx5.trans hx6)
      clear s0 s1 s2
      obtain ⟨s0, s1, s2⟩ : _ ∧ _ ∧ _ := ⟨S6.at 0 _ rfl, S6.at 1 _ rfl, S6.at 2 _ rfl⟩
      have HO6 := Lib.hid (own_ext ho hx6)
      have HV6 := Lib.hid (own_ext hv hx6)
      have HL6 := Lib.hid (hl.ext hx6)
      have HW6 := Lib.hid hW6
      clear hyb hx5 hx6 hb6 ho hv hl hq S6 hb0 hb1
      by_cases e1 : (cr : Int) = s
      · have d2 : ((cr : Int) != s) = false := by rw [e1]; simp
        by_cases e2 : rs.length = n
        · have d3 : ((rs.length : Int) != (n : Int)) = false := by rw [e2]; simp
          have HSO := Lib.hid (show bareN B g z s = some (rs, keep, vs, ts, next) from by rw [HBN.out, HQ.out]; exact if_neg (fun h => h.elim (fun h => h e1) (fun h => h e2)))
          clear e1 e2
          go_wp2_with fail
          try rw [HW6.out]
          have HY := Lib.hid (((((((Rx.refl (w.heap.size + 1 + 1) W6).set 0 (.slice Q rs.length q)).set 1 (.int .i64 keep)).set 2 (.slice V vs.length cv)).set 3 (.slice L ts.length cl)).set 4 (.int .i64 next)).set 5 (.int .i64 g))
          refine ret6_cell (st_set6 C6.out _ _ _ _ _ _) (v := .tuple #[.agg #[.slice Q rs.length q, .int .i64 keep, .slice V vs.length cv, .slice L ts.length cl, .int .i64 next, .int .i64 g], .int .i64 0]) (fun d0 d1 d2 d3 d4 d5 => by simp [results, Tryz.results17, go_sem, d0, d1, d2, d3, d4, d5]) rfl ⟨.inl ⟨rs, keep, vs, ts, next, Q, q, V, cv, L, cl, HSO.out, rfl, ⟨b0, by omega, HY.out.own HO6.out hbz.1⟩, ⟨b1, by omega, HY.out.own HV6.out hbz.2⟩, rd_row C6.out (numBox6 _ _ _ _ _ _ _ _ _ _ _ _) HY.out HL6.out (cxv_apart _)⟩, HY.out.over X6.out (by omega)⟩
        · have d3 : ((rs.length : Int) != (n : Int)) = true := by rw [bne_iff_ne]; exact fun h => e2 (by omega)
          have HNO := Lib.hid (show bareN B g z s = none from by rw [HBN.out, HQ.out]; exact if_pos (.inr e2))
          clear e1 e2
          go_wp2_with fail
          try rw [HW6.out]
          refine ret6_cell (st_set6 C6.out _ _ _ _ _ _) (v := .tuple #[.agg #[.slice none 0 0, .int .i64 0, .slice none 0 0, .slice none 0 0, .int .i64 0, .int .i64 0], .int .i64 2]) (fun d0 d1 d2 d3 d4 d5 => by simp [results, Tryz.results17, go_sem, d0, d1, d2, d3, d4, d5]) rfl ⟨.inr ⟨HNO.out, rfl⟩, (((((((Rx.refl (w.heap.size + 1 + 1) W6).set 0 (.slice none 0 0)).set 1 (.int .i64 0)).set 2 (.slice none 0 0)).set 3 (.slice none 0 0)).set 4 (.int .i64 0)).set 5 (.int .i64 0)).over X6.out (by omega)⟩
      · have d2 : ((cr : Int) != s) = true := by simpa using e1
        have HNO := Lib.hid (show bareN B g z s = none from by rw [HBN.out, HQ.out]; exact if_pos (.inl e1))
        clear e1
        go_wp2_with fail
        try rw [HW6.out]
        refine ret6_cell (st_set6 C6.out _ _ _ _ _ _) (v := .tuple #[.agg #[.slice none 0 0, .int .i64 0, .slice none 0 0, .slice none 0 0, .int .i64 0, .int .i64 0], .int .i64 2]) (fun d0 d1 d2 d3 d4 d5 => by simp [results, Tryz.results17, go_sem, d0, d1, d2, d3, d4, d5]) rfl ⟨.inr ⟨HNO.out, rfl⟩, (((((((Rx.refl (w.heap.size + 1 + 1) W6).set 0 (.slice none 0 0)).set 1 (.int .i64 0)).set 2 (.slice none 0 0)).set 3 (.slice none 0 0)).set 4 (.int .i64 0)).set 5 (.int .i64 0)).over X6.out (by omega)⟩
    · have X5 := Lib.hid (XC.out.trans hx5)
      have HNO := Lib.hid (show bareN B g z s = none from by rw [HBN.out, hq])
      have hyb := Bx.new w5 #[.slice none 0 0, .int .i64 0, .slice none 0 0, .slice none 0 0, .int .i64 0, .int .i64 0] 34
      obtain ⟨y0, y1, y2, y3, y4, y5⟩ := st_at6 hyb
      obtain ⟨z0, z1, z2, z3, z4, z5⟩ := st_free6 hyb
      have zl := hyb.lt
      have hx6 := (Ext.refl w5).alloc (.cells #[.slice none 0 0, .int .i64 0, .slice none 0 0, .slice none 0 0, .int .i64 0, .int .i64 0] 34)
      have X6 := Lib.hid (X5.out.trans hx6)
      have C6 := Lib.hid (CC.out.ext (hx5.trans hx6))
      obtain ⟨c0, c1, c2, c3, c4, c5⟩ := st_at6 C6.out
      obtain ⟨f0, f1, f2, f3, f4, f5⟩ := st_free6 C6.out
      have S6 := SC.out.ext (hx5.trans hx6)
      clear s0 s1 s2
      obtain ⟨s0, s1, s2⟩ : _ ∧ _ ∧ _ := ⟨S6.at 0 _ rfl, S6.at 1 _ rfl, S6.at 2 _ rfl⟩
      clear hyb hx5 hx6 hq S6
      unfold stZ
      go_wp2_with fail
      refine ret6_cell (st_set6 C6.out _ _ _ _ _ _) (v := .tuple #[.agg #[.slice none 0 0, .int .i64 0, .slice none 0 0, .slice none 0 0, .int .i64 0, .int .i64 0], .int .i64 2]) (fun d0 d1 d2 d3 d4 d5 => by simp [results, Tryz.results17, go_sem, d0, d1, d2, d3, d4, d5]) rfl ⟨.inr ⟨HNO.out, rfl⟩, (((((((Rx.refl (w.heap.size + 1 + 1) (w5.alloc (.cells #[.slice none 0 0, .int .i64 0, .slice none 0 0, .slice none 0 0, .int .i64 0, .int .i64 0] 34))).set 0 (.slice none 0 0)).set 1 (.int .i64 0)).set 2 (.slice none 0 0)).set 3 (.slice none 0 0)).set 4 (.int .i64 0)).set 5 (.int .i64 0)).over X6.out (by omega)⟩
end Go.Proofs.YtjbfopnkeclfgaaGreat
namespace Go.Proofs.YtjbfopnkeclfgaaGreat
set_option maxRecDepth 20000
open Go.RowKit

/-- One cell's node is filled in. -/
def fillN (B : List ByteArray) (base : Nat) (l : List HC) (p : Nat) : List HC := l.set p ⟨(l.getD p HC.none).ref, (l.getD p HC.none).pin, ndPL (blk B (base + p)), ndPI (blk B (base + p))⟩
def cellsL (B : List ByteArray) (base : Nat) (rs : List Int) (pre : List Nat) : List HC := pre.foldl (fillN B base) (rs.map hcOf)
theorem cellsL_snoc (B : List ByteArray) (base : Nat) (rs : List Int) (pre : List Nat) (p : Nat) : cellsL B base rs (pre ++ [p]) = fillN B base (cellsL B base rs pre) p := by
  unfold cellsL
  rw [List.foldl_append]
  rfl
theorem fillN_len (B : List ByteArray) (base : Nat) (l : List HC) (p : Nat) : (fillN B base l p).length = l.length := by unfold fillN; rw [List.length_set]
theorem fillN_ref (B : List ByteArray) (base : Nat) (l : List HC) (p : Nat) : (fillN B base l p).map (·.ref) = l.map (·.ref) := by
  unfold fillN
  refine List.ext_getElem? fun i => ?_
  rw [List.getElem?_map, List.getElem?_map, List.getElem?_set]
  split
  · next e =>
    subst e
    split
    · next h =>
      rw [List.getD_eq_getElem?_getD, List.getElem?_eq_getElem h]
      rfl
    · next h =>
      rw [List.getElem?_eq_none (by omega)]
  · rfl
theorem cellsL_len (B : List ByteArray) (base : Nat) (rs : List Int) (pre : List Nat) : (cellsL B base rs pre).length = rs.length := by
  unfold cellsL
  suffices h : ∀ (pre : List Nat) (l : List HC), (pre.foldl (fillN B base) l).length = l.length by rw [h, List.length_map]
  intro pre
  induction pre with
  | nil => intro l; rfl
  | cons p pre ih => intro l; rw [List.foldl_cons, ih, fillN_len]
theorem cellsL_ref (B : List ByteArray) (base : Nat) (rs : List Int) (pre : List Nat) : (cellsL B base rs pre).map (·.ref) = rs := by
  unfold cellsL
  suffices h : ∀ (pre : List Nat) (l : List HC), (pre.foldl (fillN B base) l).map (·.ref) = l.map (·.ref) by
    rw [h, List.map_map]
    exact List.map_id _
  intro pre
  induction pre with
  | nil => intro l; rfl
  | cons p pre ih => intro l; rw [List.foldl_cons, ih, fillN_ref]
/-- A cell as it is in the end. -/
def cellE (B : List ByteArray) (base : Nat) (rs : List Int) (k : Nat) : HC := if rs.getD k 0 = 0 then hcOf 0 else ⟨rs.getD k 0, false, ndPL (blk B (base + k)), ndPI (blk B (base + k))⟩
theorem cellsL_at (B : List ByteArray) (base : Nat) (rs : List Int) : ∀ (j : Nat), j ≤ rs.length → ∀ k, k < rs.length → (cellsL B base rs (placesK rs j))[k]? = some (if k < j then cellE B base rs k else hcOf (rs.getD k 0))
  | 0, _, k, hk => by
    rw [placesK_zero, if_neg (by omega)]
    unfold cellsL
    rw [List.foldl_nil, List.getElem?_map, List.getElem?_eq_getElem hk, List.getD_eq_getElem?_getD, List.getElem?_eq_getElem hk]
    rfl
  | j + 1, hj, k, hk => by
    have ih := cellsL_at B base rs j (by omega)
    by_cases h0 : rs.getD j 0 = 0
    · rw [placesK_no h0, ih k hk]
      by_cases e : k = j
      · subst e
        rw [if_neg (by omega), if_pos (by omega)]
        unfold cellE
        rw [if_pos h0, h0]
      · by_cases h : k < j
        · rw [if_pos h, if_pos (by omega)]
        · rw [if_neg h, if_neg (by omega)]
    · rw [placesK_yes h0, cellsL_snoc]
      unfold fillN
      rw [List.getElem?_set]
      by_cases e : j = k
      · subst e
        have hl : j < (cellsL B base rs (placesK rs j)).length := by rw [cellsL_len]; exact hk
        have h2 := ih j hk
        rw [if_neg (by omega)] at h2
        rw [if_pos rfl, if_pos hl, if_pos (by omega), List.getD_eq_getElem?_getD, h2]
        unfold cellE
        rw [if_neg h0]
        rfl
      · rw [if_neg e, ih k hk]
        by_cases h : k < j
        · rw [if_pos h, if_pos (by omega)]
        · rw [if_neg h, if_neg (by omega)]
theorem cellsL_end (B : List ByteArray) (base : Nat) (rs : List Int) : cellsL B base rs (placesK rs rs.length) = (List.range rs.length).map (cellE B base rs) := by
  refine List.ext_getElem? fun k => ?_
  by_cases hk : k < rs.length
  · rw [cellsL_at B base rs rs.length (Nat.le_refl _) k hk, if_pos hk, List.getElem?_map, List.getElem?_range hk]
    rfl
  · rw [List.getElem?_eq_none (by rw [cellsL_len]; omega), List.getElem?_eq_none (by simp; omega)]
theorem ndPI_len (b : ByteArray) : (ndPI b).length ≤ 4 := by
  unfold ndPI
  split
  · next p hp =>
    unfold ndP at hp
    split at hp
    · next hh =>
      cases hp
      show (rawIt _ _).length ≤ 4
      rw [rawIt_length]
      exact hh.2.1
    · cases hp
  · exact Nat.zero_le _
theorem cellE_some {B : List ByteArray} {base : Nat} {rs : List Int} {k : Nat} (h0 : 0 ≤ rs.getD k 0) {x : HC} (h : nodeM (blk B (base + k)) (rs.getD k 0) = some x) : cellE B base rs k = x := by
  unfold nodeM at h
  unfold cellE
  split at h
  · next hp =>
    rw [if_neg (by omega)]
    split at h
    · next p hq =>
      cases h
      unfold ndPL ndPI
      rw [hq]
    · cases h
  · next hp =>
    cases h
    have e : rs.getD k 0 = 0 := by omega
    rw [if_pos e, e]
theorem cellE_none {B : List ByteArray} {base : Nat} {rs : List Int} {k n : Nat} (h : nodeM (blk B (base + k)) (rs.getD k 0) = none) : cellR n (cellE B base rs k) = false := by
  unfold nodeM at h
  unfold cellE
  split at h
  · next hp =>
    rw [if_neg (by omega)]
    split at h
    · cases h
    · next hq =>
      unfold ndPL ndPI
      rw [hq]
      unfold cellR
      simp only
      rw [if_neg (by omega), show ndR [] = false from by decide +kernel]
      simp
  · cases h
/-- Where all blocks are nodes', the cells are those that the document tells; else no state is right with them. -/
theorem cellsL_nodes {B : List ByteArray} {base : Nat} {rs : List Int} (hb : base + rs.length ≤ B.length) (h0 : ∀ r ∈ rs, 0 ≤ r) : (∃ c, nodesM (B.drop base) rs = some c ∧ cellsL B base rs (placesK rs rs.length) = c) ∨ (nodesM (B.drop base) rs = none ∧ ∀ keep, rightH ⟨cellsL B base rs (placesK rs rs.length), keep⟩ = false) := by
  have hg : ∀ k, k < rs.length → 0 ≤ rs.getD k 0 := fun k hk => by
    rw [List.getD_eq_getElem?_getD, List.getElem?_eq_getElem hk]
    exact h0 _ (List.getElem_mem hk)
  by_cases h : ∀ k, k < rs.length → nodeM (blk B (base + k)) (rs.getD k 0) ≠ none
  · left
    have h2 := nodesM_some (B := B) (cellE B base rs) rs base hb (fun k hk => by
      obtain ⟨x, hx⟩ := Option.ne_none_iff_exists'.1 (h k hk)
      rw [cellE_some (hg k hk) hx]
      exact hx)
    exact ⟨_, h2, cellsL_end B base rs⟩
  · right
    have ⟨k, hk, hn⟩ : ∃ k, k < rs.length ∧ nodeM (blk B (base + k)) (rs.getD k 0) = none := by
      refine Classical.byContradiction fun hc => h fun k hk hn => hc ⟨k, hk, hn⟩
    refine ⟨nodesM_no rs base k hb hk hn, fun keep => ?_⟩
    unfold rightH
    rw [Bool.and_eq_false_iff]
    right
    rw [cellsL_end]
    refine Bool.eq_false_iff.2 fun ha => ?_
    have h3 := List.all_eq_true.1 ha (cellE B base rs k) (List.mem_map.2 ⟨k, List.mem_range.2 hk, rfl⟩)
    rw [cellE_none hn] at h3
    cases h3
theorem msOk_cells {B : List ByteArray} {base : Nat} {b : List UInt8} {gen : Int} {rs : List Int} {keep : Int} {vs : List It} {ts : List (Nat × Nat)} {next : Int} (h : bookT b gen = some (rs, keep, vs, ts, next)) (hn : rs.length ≤ 60) : MsOk (cellsL B base rs (placesK rs rs.length)) vs ts ∧ ∀ r ∈ rs, 0 ≤ r := by
  have hrs : ∀ r ∈ rs, 0 ≤ r ∧ r < 65536 := fun r hr => by
    have h2 := (bookT_ok h).2
    unfold toldP at h2
    simp only [Bool.and_eq_true] at h2
    obtain ⟨_, ⟨⟨h3, _⟩, _⟩, _⟩ := h2
    have h6 : (rs.map hcOf).any refBad = false := by simpa using h3
    have h7 := List.any_eq_false.1 h6 (hcOf r) (List.mem_map.2 ⟨r, hr, rfl⟩)
    unfold refBad fromP hcOf at h7
    simp at h7
    omega
  -- a disk whose blocks all are no node's serves for what is said of volumes and tasks
  have h1 := bookT_ok h
  have h2 := h1.2
  unfold toldP at h2
  simp only [Bool.and_eq_true] at h2
  obtain ⟨_, ⟨⟨_, h4⟩, _⟩, h5⟩ := h2
  unfold idsP at h4
  simp only [Bool.and_eq_true, decide_eq_true_eq] at h4
  unfold rightP at h5
  simp only [Bool.and_eq_true, decide_eq_true_eq] at h5
  have hget : ∀ y ∈ cellsL B base rs (placesK rs rs.length), ∃ k, k < rs.length ∧ y = cellE B base rs k := fun y hy => by
    rw [cellsL_end] at hy
    obtain ⟨k, hk, rfl⟩ := List.mem_map.1 hy
    exact ⟨k, List.mem_range.1 hk, rfl⟩
  refine ⟨⟨by rw [cellsL_len]; exact hn, fun y hy => ?_, fun y hy => ?_, by omega, by omega, h1.1⟩, fun r hr => (hrs r hr).1⟩
  · obtain ⟨k, hk, rfl⟩ := hget y hy
    unfold cellE
    split
    · exact Nat.zero_le _
    · exact ndPI_len _
  · obtain ⟨k, hk, rfl⟩ := hget y hy
    unfold cellE
    split
    · show (0 : Int) < 65536
      omega
    · show rs.getD k 0 < 65536
      rw [List.getD_eq_getElem?_getD, List.getElem?_eq_getElem hk]
      exact (hrs _ (List.getElem_mem hk)).2
/-- What the slots tell is in its bounds. -/
theorem supM_nat {B : List ByteArray} (h : supME B = 0) : ∃ g z : Nat, supM B = ⟨g, z, (supM B).s⟩ ∧ g ≤ 2147483647 ∧ z ≤ 2147483647 := by
  have hp : ∀ {b : ByteArray} {x : Sup}, parS b = some x → supR x = true := fun {b x} hx => by
    unfold parS at hx
    split at hx
    · next hh => cases hx; exact hh.2.1
    · cases hx
  have hr : supR (supM B) = true := by
    unfold supME at h
    unfold supM
    split at h
    · next h2 =>
      rw [if_pos h2]
      unfold pickE at h
      unfold pickX
      cases ha : parS (blk B 0) with
      | none =>
        rw [ha] at h
        cases hb : parS (blk B 1) with
        | none => rw [hb] at h; cases h
        | some y => exact hp hb
      | some x =>
        cases hb : parS (blk B 1) with
        | none => exact hp ha
        | some y =>
          simp only
          split
          · exact hp hb
          · exact hp ha
    · cases h
  obtain ⟨h1, h2, h3⟩ := (supR_iff _).1 hr
  refine ⟨(supM B).g.toNat, (supM B).z.toNat, ?_, by omega, by omega⟩
  rw [Int.toNat_of_nonneg (by omega), Int.toNat_of_nonneg (by omega)]
theorem mountM_bare {B : List ByteArray} {g z : Nat} {s : Int} (h : supM B = ⟨g, z, s⟩) : mountM B = match bareN B g z s with
    | none => none
    | some (rs, keep, vs, ts, next) => match nodesM (B.drop (baseP (cellsP B.length))) rs with
      | none => none
      | some c => if wholeM c keep vs ts next g then some ⟨c, keep, vs, ts.map tkB2, next, g⟩ else none := by
  unfold mountM bareN
  rw [h]
  simp only [Int.toNat_natCast]
  by_cases h1 : cellsP B.length = 0 ∨ 1631 + 2 * cellsP B.length < z
  · rw [if_pos h1, if_pos (by omega)]
  · rw [if_neg h1, if_neg (by omega)]
    cases bookT (textM B (2 + g % 2 * areaP (cellsP B.length)) z) g with
    | none => rfl
    | some x =>
      obtain ⟨rs, keep, vs, ts, next⟩ := x
      simp only
      split <;> rfl
theorem bareN_ok {B : List ByteArray} {g z : Nat} {s : Int} {rs : List Int} {keep : Int} {vs : List It} {ts : List (Nat × Nat)} {next : Int} (h : bareN B g z s = some (rs, keep, vs, ts, next)) : rs.length = cellsP B.length ∧ 0 < cellsP B.length ∧ ∃ t : List UInt8, bookT t g = some (rs, keep, vs, ts, next) := by
  unfold bareN at h
  split at h
  · cases h
  · next h1 =>
    cases hb : bookT (textM B (2 + g % 2 * areaP (cellsP B.length)) z) g with
    | none => rw [hb] at h; cases h
    | some x =>
      rw [hb] at h
      simp only at h
      split at h
      · cases h
      · next h2 =>
        cases h
        exact ⟨Classical.byContradiction fun hc => h2 (.inr hc), by omega, _, hb⟩
end Go.Proofs.YtjbfopnkeclfgaaGreat
