/- The walk of High of the reference of layer 7. Walks of isNumber and places of package grow, and of At of a leaf without items. A heap in a box that a closure builds on: what a call on it keeps. The contracts of package heap, all together. What is small, and right; the contracts of layer 5 as the laws use them. Plain lemmas for the laws of layer 5: what stays right. -/
import Derived.Test.YtbfbpddfcakieaaGreatK12
import Derived.Deep.AppendLies
import Derived.Deep.RegionHeld3
import Derived.Deep.DeepCutAuto
import Derived.Deep.DrawnRows
import Derived.RegionTactic
import Derived.Test.YtbfbpddfcakieaaGreatK10
namespace Go.Proofs.YtbfbpddfcakieaaGreat
open Go.RowKit
attribute [local go_sem ↓] Go.wp_at_zero Go.wp_at_succ

/-- A cell's node, its row opened. -/
theorem it_at {w : World} {A : Option Addr} {n c : Nat} {it : List It} (h : Sl w A n c (ivs it)) {k : Nat} (hk : k < it.length) : ∃ b off, A = some ⟨b, off, none⟩ ∧ b < w.heap.size ∧ w.cell? ⟨b, off + k * 2, none⟩ = some (.int .i64 it[k].1) ∧ w.cell? ⟨b, off + k * 2 + 1, none⟩ = some (.int .i64 it[k].2) := by
  obtain ⟨b, off, e, hlt, hc⟩ := h.cells.it hk
  exact ⟨b, off, e, hlt, hc k hk⟩
set_option maxRecDepth 100000 in
set_option maxHeartbeats 1600000 in
theorem ref07High_bel (l : List HC) (hl : AllR l) (hn : l.length ≤ 2000) : ∀ (m : Nat) (p : Int) (R : Option Addr) (n q : Nat) (keep : Int) (w : World), m ≤ 20 → 0 ≤ p → p < l.length → (bel l m p).is = true → HcSl w R n q l →
    Calls Tryz.prog 27 #[.agg #[.slice R n q, .int .i64 keep], .int .i64 p] w fun e w' => e = .returned (.int .i64 (bel l m p).high) ∧ ((bel l m p).high ≤ m ∧ 1 ≤ (bel l m p).high) ∧ Ext w w'
  | 0, p, R, n, q, keep, w, hm, h0, h1, h, hA => (bel_zero h).elim
  | m + 1, p, R, n, q, keep, w, hm, h0, h1, h, hA => by
    obtain ⟨k, rfl⟩ := Int.eq_ofNat_of_zero_le h0
    have hk : k < l.length := by omega
    have hnl := hA.1
    obtain ⟨hr, hc⟩ := bel_is h
    rw [cellT_at hk] at hr hc
    have hx0 := (Ext.refl w).alloc (.cells #[.slice R n q, .int .i64 keep] 24)
    have HB0 := Lib.hid (Bx.new w #[.slice R n q, .int .i64 keep] 24)
    have HX := Lib.hid hx0
    obtain ⟨p0, p1, p2⟩ := HB0.out.read2
    obtain ⟨b, off, rfl, hbl, A, c, r0, r1, r2, r3, hI⟩ := (hA.ext hx0).cell hk
    have hok := cell_ok (hl k hk) hr
    have hkn : k < n := by omega
    have hlen := hok.1.1
    rcases hc with ⟨hlf, hb⟩ | ⟨hlf, hb, hch⟩
    · rw [hb]
      rw [hlf] at r2
      clear hb h hok hA hI hx0 hlen hnl hr hlf h0 h1
      go_enter Tryz.func27, Tryz.ntmps27
      go_wp2
      go_ret
      exact ⟨rfl, ⟨by omega, by omega⟩, HX.out.alloc _⟩
    · have h0l : 0 < l[k].it.length := by omega
      obtain ⟨c1, c2, c3⟩ := hch l[k].it[0] (List.getElem_mem h0l)
      have hpl := hok.2 hlf l[k].it[0] (List.getElem_mem h0l)
      obtain ⟨bi, oi, rfl, hbi, i0, i1⟩ := it_at hI h0l
      rw [← c3]
      have HIH := Lib.hid (fun w' (hx : Ext w w') => ref07High_bel l hl hn m l[k].it[0].2 (some ⟨b, off, none⟩) n q keep w' (by omega) hpl.1 (by omega) c1 (hA.ext hx))
      rw [hlf] at r2
      generalize (bel l m l[k].it[0].2).high = g at *
      generalize l[k].it[0].2 = V at *
      generalize l[k].it[0].1 = K at *
      generalize l[k].it.length = li at *
      rw [show oi + 0 * 2 + 1 = oi + 1 by omega] at i1
      rw [show oi + 0 * 2 = oi by omega] at i0
      have hx1 := hx0.alloc (.cells #[.bool false, .slice (some ⟨bi, oi, none⟩) li c] 51)
      have HX1 := Lib.hid hx1
      have hst : Ext (w.alloc (.cells #[.slice (some ⟨b, off, none⟩) n q, .int .i64 keep] 24)) ((w.alloc (.cells #[.slice (some ⟨b, off, none⟩) n q, .int .i64 keep] 24)).alloc (.cells #[.bool false, .slice (some ⟨bi, oi, none⟩) li c] 51)) := (Ext.refl _).alloc _
      have HBN := Lib.hid (Bx.new (w.alloc (.cells #[.slice (some ⟨b, off, none⟩) n q, .int .i64 keep] 24)) #[.bool false, .slice (some ⟨bi, oi, none⟩) li c] 51)
      have HBH := Lib.hid (HB0.out.ext hst)
      have HRI := Lib.hid (show _ ∧ _ from ⟨(hst.cell (p := ⟨bi, oi, none⟩) hbi).trans i0, (hst.cell (p := ⟨bi, oi + 1, none⟩) hbi).trans i1⟩)
      rw [World.size_alloc] at HBN
      clear hb h hok hA hI hx0 hr hlf h0 h1 hch c1 c2 c3 hpl hnl hx1 hst i0 i1 HB0
      go_enter Tryz.func27, Tryz.ntmps27
      go_wp2
      generalize World.alloc (World.alloc w _) _ = W at *
      clear p0 p1 p2 r0 r1 r2 r3 hbl hbi HX
      obtain ⟨p0, p1, p2⟩ := HBH.out.read2
      obtain ⟨r0, r1, r2⟩ := HBN.out.read2
      obtain ⟨i0, i1⟩ := HRI.out
      go_region_law (first | ((go_simp; go_at_call 27; refine (HIH.out _ (HX1.out.drew)).mono ?_; rintro e w2 ⟨rfl, ⟨hg1, hg2⟩, hx⟩; have HX2 := Lib.hid (HX1.out.drew.trans hx))) | ((go_simp; go_at_call 27; refine (HIH.out _ HX1.out).mono ?_; rintro e w2 ⟨rfl, ⟨hg1, hg2⟩, hx⟩; have HX2 := Lib.hid (HX1.out.trans hx))))
      all_goals
        go_wp2
        go_ret
        have hgw : IntKind.i64.wrap (1 + g) = g + 1 := by rw [IntKind.wrap_i64]; omega
        rw [← hgw]
        exact ⟨rfl, ⟨by rw [hgw]; omega, by rw [hgw]; omega⟩, HX2.out⟩
theorem ref07High_any (R : Option Addr) (l : List HC) (n q : Nat) (keep p : Int) (w : World) (hl : AllR l) (hn : l.length ≤ 2000) (hr : rightR ⟨l, keep⟩ p = true) (hA : HcSl w R n q l) :
    Calls Tryz.prog 27 #[.agg #[.slice R n q, .int .i64 keep], .int .i64 p] w fun e w' => e = .returned (.int .i64 (highT l p)) ∧ (0 ≤ highT l p ∧ highT l p ≤ 20) ∧ Ext w w' := by
  unfold rightR at hr
  rw [Bool.or_eq_true, Bool.and_eq_true] at hr
  rcases Int.lt_or_le p 0 with h0 | h0
  · have HX := Lib.hid ((Ext.refl w).alloc (.cells #[.slice R n q, .int .i64 keep] 24))
    have d0 : decide (p < 0) = true := decide_eq_true h0
    have e : highT l p = 0 := by unfold highT; rw [if_pos h0]
    rw [e]
    clear hr hl hn hA e
    go_enter Tryz.func27, Tryz.ntmps27
    go_wp2
    go_ret
    exact ⟨rfl, ⟨by omega, by omega⟩, HX.out⟩
  · rcases hr with hr | ⟨hu, hb⟩
    · have := of_decide_eq_true hr; omega
    · obtain ⟨k, hk, rfl, _⟩ := usedC_iff (show usedC l p = true from hu)
      have e : highT l (k : Int) = (bel l 20 (k : Int)).high := by unfold highT; rw [if_neg (by omega)]
      rw [e]
      refine (ref07High_bel l hl hn 20 k R n q keep w (by omega) (by omega) (by omega) hb hA).mono ?_
      rintro e w' ⟨rfl, h1, hx⟩
      exact ⟨rfl, ⟨by omega, by omega⟩, hx⟩
end Go.Proofs.YtbfbpddfcakieaaGreat
namespace Go.Proofs.YtbfbpddfcakieaaGreat
open Go.RowKit
attribute [local go_sem ↓] Go.wp_at_zero Go.wp_at_succ

set_option maxHeartbeats 400000 in
theorem searchNone_any (v : Value) (w : World) :
    Calls Tryz.prog 96 #[.int .i64 0, v] w fun e w' => e = .returned (.int .i64 0) ∧ Ext w w' := by
  go_enter Tryz.func96, Tryz.ntmps96
  go_wp2
  go_loopw [5, 6] (fun s5 s6 wr => s5 = .int .i64 0 ∧ s6 = .int .i64 0 ∧ wr = w) (fun _ _ _ => 0)
  case atStart => exact ⟨rfl, rfl, rfl⟩
  case round =>
    obtain ⟨rfl, rfl, rfl⟩ := hrel
    go_wp2
    go_ret
    exact ⟨rfl, Ext.refl _⟩
set_option maxHeartbeats 800000 in
theorem nodeFirstNone_any (A : Option Addr) (c kb : Nat) (w : World) :
    Calls Tryz.prog 73 #[.slice A 0 c, .func (.func 74) #[] #[.pointer (some ⟨kb, 0, none⟩)]] w fun e w' => e = .returned (.int .i64 0) ∧ Ext w w' := by
  have HX := Lib.hid (((Ext.refl w).alloc (.cells #[.slice A 0 c] 47)).alloc (.cells #[.func (.func 74) #[] #[.pointer (some ⟨kb, 0, none⟩)]] 107))
  have H1 := Lib.hid ((Bx.new w #[.slice A 0 c] 47).ext ((Ext.refl _).alloc (.cells #[.func (.func 74) #[] #[.pointer (some ⟨kb, 0, none⟩)]] 107)))
  have r1 := H1.out.at 0 _ rfl
  go_enter Tryz.func73, Tryz.ntmps73
  go_wp2_with (go_at_call 96; refine stop_here ?_)
  refine stop_on ?_
  refine (searchNone_any _ _).mono ?_
  rintro e w1 ⟨rfl, hx⟩
  have HX2 := Lib.hid (HX.out.trans hx)
  clear hx
  go_wp2_with fail
  go_ret
  exact ⟨rfl, HX2.out⟩
set_option maxRecDepth 100000 in
set_option maxHeartbeats 1000000 in
theorem nodeAtNone_any (A : Option Addr) (c : Nat) (key : Int) (w : World) :
    Calls Tryz.prog 46 #[.agg #[.bool true, .slice A 0 c], .int .i64 key] w fun e w' => e = .returned (.tuple #[.int .i64 0, .bool false]) ∧ Ext w w' := by
  obtain ⟨W, hW⟩ : ∃ W, (w.alloc (.cells #[.bool true, .slice A 0 c] 51)).alloc (.cells #[.int .i64 key] 3) = W := ⟨_, rfl⟩
  obtain ⟨hx, hb0, hb1⟩ := allocs2 hW
  have HX := Lib.hid hx
  have HB0 := Lib.hid hb0
  have HB1 := Lib.hid hb1
  obtain ⟨b0, b1, b2⟩ := hb0.read2
  have k0 := hb1.at 0 _ rfl
  clear hx hb0 hb1
  go_enter Tryz.func46, Tryz.ntmps46
  go_wp2_with (go_at_call 73; refine stop_here ?_)
  refine stop_on ?_
  refine (nodeFirstNone_any _ _ _ _).mono ?_
  rintro e w1 ⟨rfl, hx1⟩
  have HX1 := Lib.hid (HX.out.trans hx1)
  obtain ⟨b0, b1, b2⟩ := (HB0.out.ext hx1).read2
  have k0 := (HB1.out.ext hx1).at 0 _ rfl
  clear hx1
  go_wp2_with fail
  go_quiet (fail)
  go_wp2
  go_ret2
  exact ⟨rfl, HX1.out.drewN _⟩
def rowI (n : Nat) (f : Nat → Int) : List Value := (List.range n).map (fun k => iv (f k))
theorem rowI_len (n : Nat) (f : Nat → Int) : (rowI n f).length = n := by unfold rowI; simp
theorem rowI_set {n : Nat} {f : Nat → Int} {k : Nat} (_hk : k < n) (b : Int) : (rowI n f).set k (.int .i64 b) = rowI n (fun j => if j = k then b else f j) := by
  apply List.ext_getElem (by simp [rowI_len])
  intro j h1 h2
  by_cases h : k = j
  · subst h; simp [rowI, iv]
  · simp [rowI, iv, List.getElem_set_ne h, Ne.symm h]
theorem rowI_congr {n : Nat} {f g : Nat → Int} (h : ∀ k, k < n → f k = g k) : rowI n f = rowI n g := by
  unfold rowI
  exact List.map_congr_left (fun k hk => by rw [h k (List.mem_range.1 hk)])
theorem rowI_made (n : Nat) : (madeCells (Value.int .i64 0).cells (n * 1)).toList = rowI n (fun _ => 0) := by
  have hz : (Value.int .i64 0).cells = #[.int .i64 0] := by simp [Value.cells]
  rw [hz, Nat.mul_one]
  apply List.ext_getElem (by simp [rowI_len, size_madeCells])
  intro j h1 h2
  unfold rowI
  simp [madeCells, iv, Nat.mod_one]
/-- A row of numbers of the call's own that holds what f says. -/
def OwnI (w : World) (B g n c : Nat) (f : Nat → Int) : Prop := B ≤ g ∧ w.ownsRow B 3 1 (.slice (some ⟨g, 0, none⟩) n c) n (rowI n f)
theorem OwnI.free {w : World} {B g n c : Nat} {f : Nat → Int} (h : OwnI w B g n c f) (k : Nat) : w.frozen? ⟨g, k, none⟩ = false := own_free h.2 k
theorem OwnI.cell {w : World} {B g n c : Nat} {f : Nat → Int} (h : OwnI w B g n c f) {k : Nat} (hk : k < n) : w.cell? ⟨g, k, none⟩ = some (.int .i64 (f k)) := (h.2.cellAt k (by omega)).trans (by unfold rowI; simp [hk, iv])
theorem OwnI.ext {w w' : World} {B g n c : Nat} {f : Nat → Int} (h : OwnI w B g n c f) (hx : Ext w w') : OwnI w' B g n c f := ⟨h.1, own_ext h.2 hx⟩
theorem OwnI.set {w : World} {B g n c : Nat} {f : Nat → Int} (h : OwnI w B g n c f) {k : Nat} (hk : k < n) (b : Int) : OwnI (w.setCell ⟨g, k, none⟩ (.int .i64 b)) B g n c (fun j => if j = k then b else f j) := ⟨h.1, by rw [← rowI_set hk]; exact own_set h.2 (by omega) _⟩
theorem OwnI.congr {w : World} {B g n c : Nat} {f f' : Nat → Int} (h : OwnI w B g n c f) (he : ∀ k, k < n → f k = f' k) : OwnI w B g n c f' := ⟨h.1, by rw [← rowI_congr he]; exact h.2⟩
theorem OwnI.made (w : World) (B n : Nat) (hB : B ≤ w.heap.size) (hn : n ≤ 90000) : OwnI (w.alloc (.cells (madeCells (Value.int .i64 0).cells (n * 1)) 3)) B w.heap.size n n (fun _ => 0) :=
  ⟨hB, by rw [← rowI_made]; exact World.ownsRow_lit (base := B) (e := 3) (size := 1) w _ n hB (by unfold maxLen; omega) (by rw [size_madeCells])⟩
/-- What items tell, the first ones of them. -/
def vF (it : List It) (j k : Nat) : Int := if k < j then (it.getD k (0, 0)).2 else 0
theorem vF_all (it : List It) {m : Nat} (hm : m = it.length) : rowI m (vF it m) = (it.map (·.2)).map iv := by
  apply List.ext_getElem (by simp [rowI_len, hm])
  intro j h1 h2
  have hj : j < it.length := by simpa using h2
  have e : it.getD j (0, 0) = it[j] := by rw [List.getD_eq_getElem?_getD, List.getElem?_eq_getElem hj]; rfl
  simp [rowI, vF, hm, hj]
theorem infoI : (Tryz.prog.info? 3).map (fun i => (i.zero, i.size, i.bytes)) = some (some (.int .i64 0), 1, 8) := by kernel_rfl
end Go.Proofs.YtbfbpddfcakieaaGreat
namespace Go.Proofs.YtbfbpddfcakieaaGreat
open Go.RowKit
attribute [local go_sem ↓] Go.wp_at_zero Go.wp_at_succ

/-- All blocks but one are as they were; that one holds a heap, and nothing else. -/
structure Hx (b : Nat) (keep : Int) (w w' : World) : Prop where
  os : w'.os = w.os
  tape : w'.tape = w.tape
  output : w'.output = w.output
  size : w.heap.size ≤ w'.heap.size
  block : ∀ k, k < w.heap.size → k ≠ b → w'.heap[k]? = w.heap[k]?
  old : ∃ S n d, Bx w b #[.slice S n d, .int .i64 keep]
  new : ∃ S n d, Bx w' b #[.slice S n d, .int .i64 keep]
theorem Hx.lt {b : Nat} {keep : Int} {w w' : World} (h : Hx b keep w w') : b < w.heap.size := by
  obtain ⟨_, _, _, h⟩ := h.old; exact h.lt
theorem Hx.trans {b : Nat} {keep : Int} {u v w : World} (h : Hx b keep u v) (k : Hx b keep v w) : Hx b keep u w :=
  ⟨k.os.trans h.os, k.tape.trans h.tape, k.output.trans h.output, Nat.le_trans h.size k.size, fun i hi hb => (k.block i (Nat.lt_of_lt_of_le hi h.size) hb).trans (h.block i hi hb), h.old, k.new⟩
theorem Hx.of_ext {b : Nat} {keep : Int} {w w' : World} {S : Option Addr} {n d : Nat} (hb : Bx w b #[.slice S n d, .int .i64 keep]) (hx : Ext w w') : Hx b keep w w' :=
  ⟨hx.os, hx.tape, hx.output, hx.size, fun k hk _ => hx.block k hk, ⟨S, n, d, hb⟩, ⟨S, n, d, hb.ext hx⟩⟩
theorem Hx.ext {b : Nat} {keep : Int} {u v w : World} (h : Hx b keep u v) (hx : Ext v w) : Hx b keep u w := by
  obtain ⟨S, n, d, hb⟩ := h.new
  exact h.trans (Hx.of_ext hb hx)
theorem Hx.bx {b k : Nat} {keep : Int} {w w' : World} {cs : Array Value} (h : Hx b keep w w') (hk : Bx w k cs) (hne : k ≠ b) : Bx w' k cs := by
  have hl := hk.lt
  obtain ⟨t, hk⟩ := hk
  exact ⟨t, (h.block k hl hne).trans hk⟩
theorem Hx.cell {b : Nat} {keep : Int} {w w' : World} {k o : Nat} {v : Value} (h : Hx b keep w w') (hv : w.cell? ⟨k, o, none⟩ = some v) (hne : ∀ S n d, v ≠ .slice S n d) : w'.cell? ⟨k, o, none⟩ = some v := by
  by_cases hk : k = b
  · subst hk
    obtain ⟨S, n, d, h1⟩ := h.old
    obtain ⟨S', n', d', h2⟩ := h.new
    match o, hv with
    | 0, hv => rw [h1.at 0 _ rfl] at hv; cases hv; exact absurd rfl (hne _ _ _)
    | 1, hv => rw [h1.at 1 _ rfl] at hv; rw [h2.at 1 _ rfl]; exact hv
    | i + 2, hv =>
      obtain ⟨t, h1⟩ := h1
      unfold World.cell? at hv
      rw [show w.heap[(⟨k, i + 2, none⟩ : Addr).block]? = _ from h1] at hv
      simp at hv
  · have hl := World.block_lt_of_cell? w _ hv
    exact (World.cell?_of_block (h.block k hl hk)).trans hv
theorem Hx.other {b : Nat} {keep : Int} {w w' : World} {p : Addr} {v : Value} (h : Hx b keep w w') (hv : w.cell? p = some v) (hne : p.block ≠ b) : w'.cell? p = some v :=
  (World.cell?_of_block (h.block p.block (World.block_lt_of_cell? w _ hv) hne)).trans hv
/-- A row of numbers. -/
theorem Hx.row {b : Nat} {keep : Int} {w w' : World} {A : Option Addr} {n c : Nat} {xs : List Value} (h : Hx b keep w w') (hs : Sl w A n c xs) (hne : ∀ u ∈ xs, ∀ S n d, u ≠ .slice S n d) : Sl w' A n c xs := by
  refine ⟨hs.1, hs.2.1, hs.2.2.1, fun hx => ?_⟩
  obtain ⟨k, off, rfl, hlt, hc⟩ := hs.cells hx
  exact ⟨k, off, rfl, Nat.lt_of_lt_of_le hlt h.size, fun j u hu => h.cell (hc j u hu) (hne u (List.mem_of_getElem? hu))⟩
theorem Hx.its {b : Nat} {keep : Int} {w w' : World} {A : Option Addr} {n c : Nat} {l : List It} (h : Hx b keep w w') (hs : Sl w A n c (ivs l)) : Sl w' A n c (ivs l) := h.row hs (ivs_num l)
theorem Hx.ints {b : Nat} {keep : Int} {w w' : World} {A : Option Addr} {n c : Nat} {l : List Int} (h : Hx b keep w w') (hs : Sl w A n c (l.map iv)) : Sl w' A n c (l.map iv) := h.row hs (iv_num l)
/-- A slice of cells. -/
theorem Hx.hc {b : Nat} {keep : Int} {w w' : World} {R : Option Addr} {m q : Nat} {l : List HC} (h : Hx b keep w w') (hA : HcSl w R m q l) : HcSl w' R m q l := by
  obtain ⟨h1, cs, h2, h3⟩ := hA
  refine ⟨h1, cs, ⟨h2.1, h2.2.1, h2.2.2.1, fun hx => ?_⟩, h3.1, fun i hi => ?_⟩
  · obtain ⟨k, off, rfl, hlt, hc⟩ := h2.cells hx
    have hl := h3.1
    have hpos : 0 < l.length := by
      rcases Nat.eq_zero_or_pos l.length with h0 | h0
      · rw [h0] at hl; exact absurd (List.eq_nil_of_length_eq_zero hl) hx
      · exact h0
    obtain ⟨A, c, e1, e2, e3, e4, _⟩ := h3.2 0 hpos
    have hne : k ≠ b := fun e => by
      subst e
      obtain ⟨S, n, d, t, h1⟩ := h.old
      have g3 := hc _ _ e4
      unfold World.cell? at g3
      rw [show w.heap[(⟨k, off + (0 * 4 + 3), none⟩ : Addr).block]? = _ from h1] at g3
      simp only [Nat.zero_mul, Nat.zero_add] at g3
      match off, g3 with
      | 0, g3 => simp at g3
      | o + 1, g3 => simp at g3
    exact ⟨k, off, rfl, Nat.lt_of_lt_of_le hlt h.size, fun j u hu => h.other (hc j u hu) hne⟩
  · obtain ⟨A, c, e1, e2, e3, e4, h5⟩ := h3.2 i hi
    exact ⟨A, c, e1, e2, e3, e4, h.its h5⟩
theorem Hx.own {b : Nat} {keep : Int} {w w' : World} {B e s n : Nat} {v : Value} {xs : List Value} (h : Hx b keep w w') (ho : w.ownsRow B e s v n xs) (hb : b < B) : w'.ownsRow B e s v n xs :=
  ho.kept (row := some b) ⟨h.os, h.tape, h.output, h.size, fun k hk hne => h.block k hk (fun e => hne (by rw [e]))⟩ (.inr (own_old ho hb))
/-- A heap that is written into its box. -/
theorem hx_store {b : Nat} {keep : Int} {w : World} {S : Option Addr} {n d : Nat} (hb : Bx w b #[.slice S n d, .int .i64 keep]) (S' : Option Addr) (n' d' : Nat) :
    Bx ((w.setCell ⟨b, 0, none⟩ (.slice S' n' d')).setCell ⟨b, 1, none⟩ (.int .i64 keep)) b #[.slice S' n' d', .int .i64 keep] ∧
    Hx b keep w ((w.setCell ⟨b, 0, none⟩ (.slice S' n' d')).setCell ⟨b, 1, none⟩ (.int .i64 keep)) := by
  have h := (hb.set 0 (.slice S' n' d')).set 1 (.int .i64 keep)
  refine ⟨h, rfl, rfl, rfl, by simp [World.setCell], fun k hk hne => ?_, ⟨S, n, d, hb⟩, ⟨S', n', d', h⟩⟩
  rw [Below.heap_setCell _ _ _ _ (by simpa using hne), Below.heap_setCell _ _ _ _ (by simpa using hne)]
/-- A box that is written what it holds. -/
theorem set_held {w : World} {k : Nat} {v : Value} (h : Bx w k #[v]) : w.setCell ⟨k, 0, none⟩ v = w := by
  obtain ⟨t, h⟩ := h
  have e : (w.setCell ⟨k, 0, none⟩ v).heap = w.heap := by
    apply Array.ext_getElem?
    intro i
    by_cases hi : i = k
    · subst hi
      simp [World.setCell, Array.getElem?_modify, h]
    · rw [Below.heap_setCell _ _ _ _ (by simpa using hi)]
  have e2 : w.setCell ⟨k, 0, none⟩ v = { w with heap := (w.setCell ⟨k, 0, none⟩ v).heap } := rfl
  rw [e2, e]
/-- A heap that is built on. -/
def HB2 (w : World) (b : Nat) (keep : Int) (n : Nat) (c : List HC) : Prop := ∃ S d, Bx w b #[.slice S n d, .int .i64 keep] ∧ HcSl w S n d c
theorem HB2.ext {w w' : World} {b n : Nat} {keep : Int} {c : List HC} (h : HB2 w b keep n c) (hx : Ext w w') : HB2 w' b keep n c := by
  obtain ⟨S, d, h1, h2⟩ := h
  exact ⟨S, d, h1.ext hx, h2.ext hx⟩
theorem HB2.lt {w : World} {b n : Nat} {keep : Int} {c : List HC} (h : HB2 w b keep n c) : b < w.heap.size := by
  obtain ⟨S, d, h1, h2⟩ := h
  exact h1.lt
theorem HB2.len {w : World} {b n : Nat} {keep : Int} {c : List HC} (h : HB2 w b keep n c) : n = c.length := by
  obtain ⟨S, d, h1, h2⟩ := h
  exact h2.1
theorem HB2.hx {w w' : World} {b n : Nat} {keep : Int} {c : List HC} (h : HB2 w b keep n c) (hx : Ext w w') : Hx b keep w w' := by
  obtain ⟨S, d, h1, h2⟩ := h
  exact Hx.of_ext h1 hx
theorem HB2.refl {w : World} {b n : Nat} {keep : Int} {c : List HC} (h : HB2 w b keep n c) : Hx b keep w w := h.hx (Ext.refl w)
/-- A heap that is written in place of another one. -/
theorem HB2.store {w : World} {b n : Nat} {keep : Int} {S S' : Option Addr} {n0 d d' : Nat} {c' : List HC} (hb : Bx w b #[.slice S n0 d, .int .i64 keep]) (hc : HcSl w S' n d' c') :
    HB2 ((w.setCell ⟨b, 0, none⟩ (.slice S' n d')).setCell ⟨b, 1, none⟩ (.int .i64 keep)) b keep n c' ∧ Hx b keep w ((w.setCell ⟨b, 0, none⟩ (.slice S' n d')).setCell ⟨b, 1, none⟩ (.int .i64 keep)) := by
  obtain ⟨h1, h2⟩ := hx_store hb S' n d'
  exact ⟨⟨S', d', h1, h2.hc hc⟩, h2⟩
set_option maxRecDepth 100000 in
set_option maxHeartbeats 1600000 in
theorem prunePlaces_any (A : Option Addr) (it : List It) (m c : Nat) (w : World) (hm : m = it.length) (hb : m ≤ 90000) (hI : Sl w A m c (ivs it)) :
    Calls Tryz.prog 49 #[.slice A m c] w fun e w' => ∃ S d, e = .returned (.slice S m d) ∧ Sl w' S m d ((it.map (·.2)).map iv) ∧ Ext w w' := by
  have HM := Lib.hid hm
  have HI := Lib.hid hI
  obtain ⟨i0, hi, hz0, hz1, hz2⟩ := info_parts infoI
  have HII := Lib.hid hi
  have HZ0 := Lib.hid hz0
  have HZ1 := Lib.hid hz1
  have HZ2 := Lib.hid hz2
  clear hm hI hi hz0 hz1 hz2
  go_enter Tryz.func49, Tryz.ntmps49
  go_wp2_with (at_make; refine stop_here ?_)
  refine stop_on ?_
  refine wpList_make_cap _ rfl _ _ 38 rfl 3 i0 _ Tryz.underlying38 HII.out HZ0.out _ _ _ _ m m rfl rfl (by omega) (by omega) (by omega) (by rw [HZ2.out]; omega) (by unfold maxLen; omega) ?_
  rw [HZ1.out]
  have HO0 := Lib.hid (OwnI.made w w.heap.size m (Nat.le_refl _) hb)
  have HX0 := Lib.hid ((Ext.refl w).alloc (.cells (madeCells (Value.int .i64 0).cells (m * 1)) 3))
  generalize hW : World.alloc w (.cells (madeCells (Value.int .i64 0).cells (m * 1)) 3) = W at *
  clear hW
  obtain ⟨g, hg⟩ : ∃ g, w.heap.size = g := ⟨_, rfl⟩
  have HG := Lib.hid hg
  rw [hg] at HO0
  rw [hg]
  clear hg
  go_wp2_with fail
  go_loopw [11] (fun i wr => ∃ j : Nat, j ≤ m ∧ i = .int .i64 j ∧ OwnI wr g g m m (vF it j) ∧ Ext w wr) (fun i _ => m - (intOf i).toNat)
  case atStart => exact ⟨0, Nat.zero_le _, rfl, HO0.out, HX0.out⟩
  case round =>
    obtain ⟨j, hj, rfl, ho, hx⟩ := hrel
    have HO := Lib.hid ho
    have HXR := Lib.hid hx
    clear ho hx
    rcases Nat.lt_or_ge j m with hlt | hlt
    · have hjl : j < it.length := by rw [← HM.out]; exact hlt
      obtain ⟨b2, off2, rfl, hb2, a0, a1⟩ := it_at HI.out hjl
      have i0 := (HXR.out.cell (p := ⟨b2, off2 + j * 2, none⟩) hb2).trans a0
      have i1 := (HXR.out.cell (p := ⟨b2, off2 + j * 2 + 1, none⟩) hb2).trans a1
      have hji : (j : Int) < (m : Int) := by omega
      have HV := Lib.hid (show ∀ k, k < m → (if k = j then it[j].2 else vF it j k) = vF it (j + 1) k from fun k _ => by
        unfold vF
        have e : it.getD j (0, 0) = it[j] := by rw [List.getD_eq_getElem?_getD, List.getElem?_eq_getElem hjl]; rfl
        by_cases h : k = j
        · subst h; rw [if_pos rfl, if_pos (by omega), e]
        · rw [if_neg h]
          by_cases h2 : k < j
          · rw [if_pos h2, if_pos (by omega)]
          · rw [if_neg h2, if_neg (by omega)])
      clear a0 a1 hb2
      generalize it[j].1 = x at *
      generalize it[j].2 = y at *
      clear hjl
      have HB5 := Lib.hid (Bx.new wr #[.int .i64 x, .int .i64 y] 46)
      have HX5 := Lib.hid ((Ext.refl wr).alloc (.cells #[.int .i64 x, .int .i64 y] 46))
      obtain ⟨c0, c1, c2⟩ := HB5.out.read2
      have f0 := (HO.out.ext HX5.out).free j
      have r0 := (HO.out.ext HX5.out).cell hlt
      go_wp2_with fail
      go_roundw
      case rel => exact ⟨j + 1, by omega, by go_num, ((HO.out.ext HX5.out).set hlt y).congr HV.out, (HXR.out.trans HX5.out).set (by show w.heap.size ≤ g; exact Nat.le_of_eq HG.out) _⟩
      case measure => simp [intOf]; omega
    · obtain rfl : m = j := by omega
      have d1 : decide ((m : Int) < (m : Int)) = false := decide_eq_false (by omega)
      have HE := Lib.hid (vF_all it HM.out)
      have hs := own_sl HO.out.2
      rw [HE.out] at hs
      have HS := Lib.hid hs
      clear hlt hs
      go_wp2
      go_ret
      exact ⟨_, m, rfl, HS.out, HXR.out⟩
end Go.Proofs.YtbfbpddfcakieaaGreat
namespace Go.Proofs.YtbfbpddfcakieaaGreat
end Go.Proofs.YtbfbpddfcakieaaGreat
namespace Go.Proofs.YtbfbpddfcakieaaGreat
open Go.RowKit

theorem may_iff {l : List HC} {keep most : Int} (h : mayH ⟨l, keep⟩ most = true) : (l.length : Int) ≤ most ∧ (∀ k (hk : k < l.length), l[k].it.length ≤ 10 ∧ l[k].ref ≤ 1000000) ∧ rightH ⟨l, keep⟩ = true := by
  unfold mayH smallH at h
  simp only [Bool.and_eq_true, decide_eq_true_eq, List.all_eq_true] at h
  exact ⟨h.1.1, fun k hk => h.1.2 _ (List.getElem_mem hk), h.2⟩
theorem may_small {l : List HC} {keep most : Int} (h : mayH ⟨l, keep⟩ most = true) : smallH ⟨l, keep⟩ most = true := by
  unfold mayH at h; simp only [Bool.and_eq_true] at h; exact h.1
theorem may_bd {l : List HC} {keep most : Int} (h : mayH ⟨l, keep⟩ most = true) : Bd l := fun k hk => by have := ((may_iff h).2.1 k hk).2; omega
theorem right_ref {l : List HC} {keep : Int} (h : rightH ⟨l, keep⟩ = true) : ∀ k (hk : k < l.length), 0 ≤ l[k].ref ∧ l[k].ref ≤ 2147483647 := fun k hk => by
  have h1 := (rightH_iff h).2 k hk
  unfold cellR at h1
  split at h1
  · rename_i e; omega
  · simp only [Bool.and_eq_true, decide_eq_true_eq] at h1; omega
theorem ref05Alloc_any (R : Option Addr) (l : List HC) (n q : Nat) (keep : Int) (leaf : Bool) (A : Option Addr) (it : List It) (m c : Nat) (H : Option Addr) (held : List Int) (t d : Nat) (w : World) (hb : n ≤ 90000) (hbd : ∀ k (hk : k < l.length), l[k].ref ≤ 8000000000000000000) (hA : HcSl w R n q l) (hm : m = it.length) (hI : Sl w A m c (ivs it)) (ht : t = held.length) (hH : Sl w H t d (held.map iv)) :
    Calls Tryz.prog 64 #[.agg #[.slice R n q, .int .i64 keep], .agg #[.bool leaf, .slice A m c], .slice H t d] w fun e w' => ∃ S d, e = .returned (.tuple #[.agg #[.slice S n d, .int .i64 keep], .int .i64 (allocP l leaf it : Nat), .int .i64 (allocE l leaf it)]) ∧ HcSl w' S n d (allocL l leaf it held) ∧ Ext w w' := by
  cases hg : (ndR it && leadsC l leaf it)
  · obtain ⟨e1, e2, e3⟩ := alloc_bad (held := held) hg
    rw [e1, e2, e3]
    exact ref05Alloc_no R l n q keep leaf A it m c H held t d w hg hA hm hI
  · cases leaf
    · exact ref05Alloc_over R l n q keep A it m c H held t d w hg hb hbd hA hm hI ht hH
    · exact ref05Alloc_leaf R l n q keep A it m c H held t d w hg hb hbd hA hm hI ht hH
theorem usedN_le (l : List HC) : usedN l ≤ l.length := List.countP_le_length
theorem ref05Loose_is (R : Option Addr) (l : List HC) (n q : Nat) (keep p : Int) (w : World) (hb : n ≤ 90000) (hbd : Bd l) (hA : HcSl w R n q l) :
    Calls Tryz.prog 29 #[.agg #[.slice R n q, .int .i64 keep], .int .i64 p] w fun e w' => ∃ S d, e = .returned (.tuple #[.agg #[.slice S n d, .int .i64 keep], .int .i64 (looseE ⟨l, keep⟩ p)]) ∧ HcSl w' S n d (looseL (l.length + 1) l p) ∧ Ext w w' :=
  ref05Loose_any (usedN l) (l.length + 1) R l n q keep p w (Nat.le_refl _) (by have := usedN_le l; omega) hb hbd hA
theorem heapLoose_is (R : Option Addr) (l : List HC) (n q : Nat) (keep p : Int) (w : World) (hM : rightH ⟨l, keep⟩ = true) (hbd : Bd l) (hA : HcSl w R n q l) :
    Calls Tryz.prog 24 #[.agg #[.slice R n q, .int .i64 keep], .int .i64 p] w fun e w' => ∃ S d, e = .returned (.tuple #[.agg #[.slice S n d, .int .i64 keep], .int .i64 (looseE ⟨l, keep⟩ p)]) ∧ HcSl w' S n d (looseL (l.length + 1) l p) ∧ Ext w w' := by
  refine (heapLoose_any R l n q keep w p hM hbd hA).mono ?_
  rintro e w' ⟨S, d, cs, rfl, _, h1, h2, hx⟩
  exact ⟨S, d, rfl, ⟨by rw [loose_len]; exact hA.1, cs, h1, h2⟩, hx⟩
theorem ref05Same_eq (R S : Option Addr) (a : List HC) (n q q' : Nat) (k : Int) (w : World) (hA : HcSl w R n q a) (hB : HcSl w S n q' a) :
    Calls Tryz.prog 10 #[.agg #[.slice R n q, .int .i64 k], .agg #[.slice S n q', .int .i64 k]] w fun e w' => e = .returned (.bool true) ∧ Ext w w' := by
  have h := ref05Same_any R S a a n n q q' k k w hA hB
  unfold sameH at h
  rw [decide_eq_true rfl] at h
  exact h
theorem ref05May_is (R : Option Addr) (l : List HC) (n q : Nat) (keep most : Int) (w : World) (hA : HcSl w R n q l) {r : Bool} (h : mayH ⟨l, keep⟩ most = r) :
    Calls Tryz.prog 19 #[.agg #[.slice R n q, .int .i64 keep], .int .i64 most] w fun e w' => e = .returned (.bool r) ∧ Ext w w' := by
  subst h; exact ref05May_any R l n q keep most w hA
theorem may_of {l : List HC} {keep most : Int} (h1 : smallH ⟨l, keep⟩ most = true) (h2 : rightH ⟨l, keep⟩ = true) : mayH ⟨l, keep⟩ most = true := by unfold mayH; rw [h1, h2]; rfl
theorem ref05Small_is (R : Option Addr) (l : List HC) (n q : Nat) (keep most : Int) (w : World) (hA : HcSl w R n q l) {r : Bool} (h : smallH ⟨l, keep⟩ most = r) :
    Calls Tryz.prog 40 #[.agg #[.slice R n q, .int .i64 keep], .int .i64 most] w fun e w' => e = .returned (.bool r) ∧ Ext w w' := by
  subst h; exact ref05Small_any R l n q keep most w hA
theorem ref05Right_is (R : Option Addr) (l : List HC) (n q : Nat) (keep : Int) (w : World) (hA : HcSl w R n q l) {r : Bool} (h : rightH ⟨l, keep⟩ = r) :
    Calls Tryz.prog 41 #[.agg #[.slice R n q, .int .i64 keep]] w fun e w' => e = .returned (.bool r) ∧ Ext w w' := by
  subst h; exact ref05Right_any R l n q keep w hA
section
variable (R : Option Addr) (l : List HC) (n q : Nat) (keep : Int) (w : World)
theorem heapFree_is {m : Nat} (hM : mayH ⟨l, keep⟩ 60 = true) (h : l.countP freeC = m) (hA : HcSl w R n q l) :
    Calls Tryz.prog 43 #[.agg #[.slice R n q, .int .i64 keep]] w fun e w' => e = .returned (.int .i64 m) ∧ Ext w w' := by subst h; exact heapFree_any R l n q keep w hM hA
theorem ref05Free_is {m : Nat} (h : l.countP freeC = m) (hA : HcSl w R n q l) :
    Calls Tryz.prog 52 #[.agg #[.slice R n q, .int .i64 keep]] w fun e w' => e = .returned (.int .i64 m) ∧ Ext w w' := by subst h; exact ref05Free_any R l n q keep w hA
theorem heapFits_is {r : Bool} (x : Int) (deep : Bool) (hM : mayH ⟨l, keep⟩ 60 = true) (h : fitsH ⟨l, keep⟩ x deep = r) (hA : HcSl w R n q l) :
    Calls Tryz.prog 21 #[.agg #[.slice R n q, .int .i64 keep], .int .i64 x, .bool deep] w fun e w' => e = .returned (.bool r) ∧ Ext w w' := by subst h; exact heapFits_any R l n q keep w x deep hM hA
theorem ref05Fits_is {r : Bool} (x : Int) (deep : Bool) (hk : 0 ≤ keep ∧ keep ≤ 9223372036854775807) (h : fitsH ⟨l, keep⟩ x deep = r) (hA : HcSl w R n q l) :
    Calls Tryz.prog 26 #[.agg #[.slice R n q, .int .i64 keep], .int .i64 x, .bool deep] w fun e w' => e = .returned (.bool r) ∧ Ext w w' := by subst h; exact ref05Fits_any R l n q keep x deep w hk hA
end
theorem ref05Same_is (R S : Option Addr) (a b : List HC) (n m q q' : Nat) (ka kb : Int) (w : World) {r : Bool} (h : sameH ⟨a, ka⟩ ⟨b, kb⟩ = r) (hA : HcSl w R n q a) (hB : HcSl w S m q' b) :
    Calls Tryz.prog 10 #[.agg #[.slice R n q, .int .i64 ka], .agg #[.slice S m q', .int .i64 kb]] w fun e w' => e = .returned (.bool r) ∧ Ext w w' := by subst h; exact ref05Same_any R S a b n m q q' ka kb w hA hB
end Go.Proofs.YtbfbpddfcakieaaGreat
namespace Go.Proofs.YtbfbpddfcakieaaGreat
open Go.RowKit

theorem right_set {l : List HC} {keep : Int} (h : rightH ⟨l, keep⟩ = true) (k : Nat) (x : HC) (hx : cellR l.length x = true) : rightH ⟨l.set k x, keep⟩ = true := by
  obtain ⟨h1, h2⟩ := rightH_iff h
  refine rightH_yes (by rw [List.length_set]; exact h1) fun j hj => ?_
  rw [List.length_set] at hj ⊢
  rw [List.getElem_set]
  split
  · exact hx
  · exact h2 j hj
theorem cellR_used {n : Nat} {x : HC} (h : cellR n x = true) (hp : 0 < x.ref) (r : Int) (h0 : 0 < r) (h1 : r ≤ 2147483647) : cellR n ⟨r, x.pin, x.leaf, x.it⟩ = true := by
  unfold cellR at h ⊢
  rw [if_neg (by omega)] at h
  rw [if_neg (by simp only; omega)]
  simp only [Bool.and_eq_true, decide_eq_true_eq] at h ⊢
  exact ⟨h0, h1, h.2.2⟩
theorem used_nopin {n : Nat} {x : HC} (h : cellR n x = true) (hp : 0 < x.ref) : x.pin = false := by
  unfold cellR at h
  rw [if_neg (by omega)] at h
  simp only [Bool.and_eq_true, decide_eq_true_eq, Bool.not_eq_true'] at h
  exact h.2.2.1
theorem right_more {l : List HC} {keep : Int} {k : Nat} (h : rightH ⟨l, keep⟩ = true) (hk : k < l.length) (hp : 0 < l[k].ref) (hm : l[k].ref < 2147483647) : rightH ⟨l.set k l[k].more, keep⟩ = true :=
  right_set h k _ (cellR_used ((rightH_iff h).2 k hk) hp _ (by omega) (by omega))
/-- Held, and loosed, as often as that. -/
def plusC (l : List HC) (k : Nat) (j : Nat) : List HC := l.set k ⟨(l.getD k HC.none).ref + j, (l.getD k HC.none).pin, (l.getD k HC.none).leaf, (l.getD k HC.none).it⟩
theorem plusC_len (l : List HC) (k j : Nat) : (plusC l k j).length = l.length := by unfold plusC; simp
theorem getD_at {l : List HC} {k : Nat} (hk : k < l.length) : l.getD k HC.none = l[k] := by rw [List.getD_eq_getElem?_getD, List.getElem?_eq_getElem hk]; rfl
theorem plusC_zero {l : List HC} {k : Nat} (hk : k < l.length) : plusC l k 0 = l := by
  unfold plusC; rw [getD_at hk]
  have e : (⟨l[k].ref + (0 : Nat), l[k].pin, l[k].leaf, l[k].it⟩ : HC) = l[k] := by
    have : l[k].ref + ((0 : Nat) : Int) = l[k].ref := by omega
    rw [this]
  rw [e, List.set_getElem_self]
theorem plusC_at {l : List HC} {k j : Nat} (hk : k < l.length) : (plusC l k j)[k]'(by rw [plusC_len]; exact hk) = ⟨l[k].ref + j, l[k].pin, l[k].leaf, l[k].it⟩ := by
  unfold plusC; rw [List.getElem_set_self, getD_at hk]
theorem plusC_succ {l : List HC} {k j : Nat} (hk : k < l.length) : (plusC l k j).set k ((plusC l k j)[k]'(by rw [plusC_len]; exact hk)).more = plusC l k (j + 1) := by
  rw [plusC_at hk]
  unfold plusC HC.more
  rw [List.set_set, getD_at hk]
  have : l[k].ref + (j : Int) + 1 = l[k].ref + ((j + 1 : Nat) : Int) := by omega
  simp only [this]
theorem plusC_used {l : List HC} {k j : Nat} (hk : k < l.length) (hp : 0 < l[k].ref) : usedC (plusC l k j) (k : Int) = true := by
  rw [usedC_at (by rw [plusC_len]; exact hk), plusC_at hk]
  simp only [decide_eq_true_eq]; omega
theorem plusC_hold {l : List HC} {keep : Int} {k j : Nat} (hk : k < l.length) (hp : 0 < l[k].ref) : holdH ⟨plusC l k j, keep⟩ (k : Int) = ⟨plusC l k (j + 1), keep⟩ ∧ holdE ⟨plusC l k j, keep⟩ (k : Int) = 0 := by
  obtain ⟨e1, e2⟩ := holdH_at (keep := keep) (by rw [plusC_len]; exact hk) (plusC_used (j := j) hk hp)
  exact ⟨by rw [e1, plusC_succ hk], e2⟩
theorem plusC_loose {l : List HC} {n : Nat} {k j f : Nat} (hk : k < l.length) (hr : cellR n l[k] = true) (hp : 0 < l[k].ref) : looseL (f + 1) (plusC l k (j + 1)) (k : Int) = plusC l k j := by
  have hk' : k < (plusC l k (j + 1)).length := by rw [plusC_len]; exact hk
  rw [looseL_at f hk' (plusC_used hk hp), plusC_at hk, if_pos (by simp only; omega)]
  have hpn := used_nopin hr hp
  unfold plusC
  rw [List.set_set, getD_at hk, hpn]
  have : l[k].ref + ((j + 1 : Nat) : Int) - 1 = l[k].ref + (j : Int) := by omega
  simp only [this]
theorem plusC_right {l : List HC} {keep : Int} {k j : Nat} (h : rightH ⟨l, keep⟩ = true) (hk : k < l.length) (hp : 0 < l[k].ref) (hm : l[k].ref + j ≤ 2147483647) : rightH ⟨plusC l k j, keep⟩ = true := by
  unfold plusC; rw [getD_at hk]
  exact right_set h k _ (cellR_used ((rightH_iff h).2 k hk) hp _ (by omega) (by omega))
theorem plusC_bd {l : List HC} {k j : Nat} (h : Bd l) (hk : k < l.length) (hm : l[k].ref + j ≤ 2147483647) : Bd (plusC l k j) := by
  unfold plusC; rw [getD_at hk]
  exact h.set k _ (by simp only; omega)
end Go.Proofs.YtbfbpddfcakieaaGreat
