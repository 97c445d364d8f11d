/- Walks of isNumber and places of package grow, and of At of a leaf without items. A heap in a box that a closure builds on: what a call on it keeps. The contracts of package heap, all together. What is small, and right; the contracts of layer 5 as the laws use them. Plain lemmas for the laws of layer 5: what stays right. Plain lemmas for the laws of layer 5: cells held once more for each place in a row; what is laid, and loosed again. -/
import Derived.Test.YtbfbpddfcakieaaK11
import Derived.Test.YtbfbpddfcakieaaK09
namespace Go.Proofs.Ytbfbpddfcakieaa
open Go.RowKit
attribute [local go_sem ↓] Go.wp_at_zero Go.wp_at_succ

set_option maxHeartbeats 400000 in
theorem searchNone_any (v : Value) (w : World) :
    Calls Try.prog 92 #[.int .i64 0, v] w fun e w' => e = .returned (.int .i64 0) ∧ Ext w w' := by
  go_enter Try.func92, Try.ntmps92
  go_wp2
  go_loopw [5, 6] (fun s5 s6 wr => s5 = .int .i64 0 ∧ s6 = .int .i64 0 ∧ wr = w) (fun _ _ _ => 0)
  case atStart => exact ⟨rfl, rfl, rfl⟩
  case round =>
    obtain ⟨rfl, rfl, rfl⟩ := hrel
    go_wp2
    go_ret
    exact ⟨rfl, Ext.refl _⟩
set_option maxHeartbeats 800000 in
theorem nodeFirstNone_any (A : Option Addr) (c kb : Nat) (w : World) :
    Calls Try.prog 78 #[.slice A 0 c, .func (.func 79) #[] #[.pointer (some ⟨kb, 0, none⟩)]] w fun e w' => e = .returned (.int .i64 0) ∧ Ext w w' := by
  have HX := Lib.hid (((Ext.refl w).alloc (.cells #[.slice A 0 c] 40)).alloc (.cells #[.func (.func 79) #[] #[.pointer (some ⟨kb, 0, none⟩)]] 112))
  have H1 := Lib.hid ((Bx.new w #[.slice A 0 c] 40).ext ((Ext.refl _).alloc (.cells #[.func (.func 79) #[] #[.pointer (some ⟨kb, 0, none⟩)]] 112)))
  have r1 := H1.out.at 0 _ rfl
  go_enter Try.func78, Try.ntmps78
  go_wp2_with (go_at_call 92; refine stop_here ?_)
  refine stop_on ?_
  refine (searchNone_any _ _).mono ?_
  rintro e w1 ⟨rfl, hx⟩
  have HX2 := Lib.hid (HX.out.trans hx)
  clear hx
  go_wp2_with fail
  go_ret
  exact ⟨rfl, HX2.out⟩
set_option maxRecDepth 100000 in
set_option maxHeartbeats 1000000 in
theorem nodeAtNone_any (A : Option Addr) (c : Nat) (key : Int) (w : World) :
    Calls Try.prog 49 #[.agg #[.bool true, .slice A 0 c], .int .i64 key] w fun e w' => e = .returned (.tuple #[.int .i64 0, .bool false]) ∧ Ext w w' := by
  obtain ⟨W, hW⟩ : ∃ W, (w.alloc (.cells #[.bool true, .slice A 0 c] 57)).alloc (.cells #[.int .i64 key] 3) = W := ⟨_, rfl⟩
  obtain ⟨hx, hb0, hb1⟩ := allocs2 hW
  have HX := Lib.hid hx
  have HB0 := Lib.hid hb0
  have HB1 := Lib.hid hb1
  obtain ⟨b0, b1, b2⟩ := hb0.read2
  have k0 := hb1.at 0 _ rfl
  clear hx hb0 hb1
  go_enter Try.func49, Try.ntmps49
  go_wp2_with (go_at_call 78; refine stop_here ?_)
  refine stop_on ?_
  refine (nodeFirstNone_any _ _ _ _).mono ?_
  rintro e w1 ⟨rfl, hx1⟩
  have HX1 := Lib.hid (HX.out.trans hx1)
  obtain ⟨b0, b1, b2⟩ := (HB0.out.ext hx1).read2
  have k0 := (HB1.out.ext hx1).at 0 _ rfl
  clear hx1
  go_wp2_with fail
  go_quiet (fail)
  go_wp2
  go_ret2
  exact ⟨rfl, HX1.out.drewN _⟩
def rowI (n : Nat) (f : Nat → Int) : List Value := (List.range n).map (fun k => iv (f k))
theorem rowI_len (n : Nat) (f : Nat → Int) : (rowI n f).length = n := by unfold rowI; simp
theorem rowI_set {n : Nat} {f : Nat → Int} {k : Nat} (_hk : k < n) (b : Int) : (rowI n f).set k (.int .i64 b) = rowI n (fun j => if j = k then b else f j) := by
  apply List.ext_getElem (by simp [rowI_len])
  intro j h1 h2
  by_cases h : k = j
  · subst h; simp [rowI, iv]
  · simp [rowI, iv, List.getElem_set_ne h, Ne.symm h]
theorem rowI_congr {n : Nat} {f g : Nat → Int} (h : ∀ k, k < n → f k = g k) : rowI n f = rowI n g := by
  unfold rowI
  exact List.map_congr_left (fun k hk => by rw [h k (List.mem_range.1 hk)])
theorem rowI_made (n : Nat) : (madeCells (Value.int .i64 0).cells (n * 1)).toList = rowI n (fun _ => 0) := by
  have hz : (Value.int .i64 0).cells = #[.int .i64 0] := by simp [Value.cells]
  rw [hz, Nat.mul_one]
  apply List.ext_getElem (by simp [rowI_len, size_madeCells])
  intro j h1 h2
  unfold rowI
  simp [madeCells, iv, Nat.mod_one]
/-- A row of numbers of the call's own that holds what f says. -/
def OwnI (w : World) (B g n c : Nat) (f : Nat → Int) : Prop := B ≤ g ∧ w.ownsRow B 3 1 (.slice (some ⟨g, 0, none⟩) n c) n (rowI n f)
theorem OwnI.free {w : World} {B g n c : Nat} {f : Nat → Int} (h : OwnI w B g n c f) (k : Nat) : w.frozen? ⟨g, k, none⟩ = false := own_free h.2 k
theorem OwnI.cell {w : World} {B g n c : Nat} {f : Nat → Int} (h : OwnI w B g n c f) {k : Nat} (hk : k < n) : w.cell? ⟨g, k, none⟩ = some (.int .i64 (f k)) := (h.2.cellAt k (by omega)).trans (by unfold rowI; simp [hk, iv])
theorem OwnI.ext {w w' : World} {B g n c : Nat} {f : Nat → Int} (h : OwnI w B g n c f) (hx : Ext w w') : OwnI w' B g n c f := ⟨h.1, own_ext h.2 hx⟩
theorem OwnI.set {w : World} {B g n c : Nat} {f : Nat → Int} (h : OwnI w B g n c f) {k : Nat} (hk : k < n) (b : Int) : OwnI (w.setCell ⟨g, k, none⟩ (.int .i64 b)) B g n c (fun j => if j = k then b else f j) := ⟨h.1, by rw [← rowI_set hk]; exact own_set h.2 (by omega) _⟩
theorem OwnI.congr {w : World} {B g n c : Nat} {f f' : Nat → Int} (h : OwnI w B g n c f) (he : ∀ k, k < n → f k = f' k) : OwnI w B g n c f' := ⟨h.1, by rw [← rowI_congr he]; exact h.2⟩
theorem OwnI.made (w : World) (B n : Nat) (hB : B ≤ w.heap.size) (hn : n ≤ 90000) : OwnI (w.alloc (.cells (madeCells (Value.int .i64 0).cells (n * 1)) 3)) B w.heap.size n n (fun _ => 0) :=
  ⟨hB, by rw [← rowI_made]; exact World.ownsRow_lit (base := B) (e := 3) (size := 1) w _ n hB (by unfold maxLen; omega) (by rw [size_madeCells])⟩
/-- What items tell, the first ones of them. -/
def vF (it : List It) (j k : Nat) : Int := if k < j then (it.getD k (0, 0)).2 else 0
theorem vF_all (it : List It) {m : Nat} (hm : m = it.length) : rowI m (vF it m) = (it.map (·.2)).map iv := by
  apply List.ext_getElem (by simp [rowI_len, hm])
  intro j h1 h2
  have hj : j < it.length := by simpa using h2
  have e : it.getD j (0, 0) = it[j] := by rw [List.getD_eq_getElem?_getD, List.getElem?_eq_getElem hj]; rfl
  simp [rowI, vF, hm, hj]
theorem infoI : (Try.prog.info? 3).map (fun i => (i.zero, i.size, i.bytes)) = some (some (.int .i64 0), 1, 8) := by kernel_rfl
end Go.Proofs.Ytbfbpddfcakieaa
namespace Go.Proofs.Ytbfbpddfcakieaa
open Go.RowKit
attribute [local go_sem ↓] Go.wp_at_zero Go.wp_at_succ

/-- All blocks but one are as they were; that one holds a heap, and nothing else. -/
structure Hx (b : Nat) (keep : Int) (w w' : World) : Prop where
  os : w'.os = w.os
  tape : w'.tape = w.tape
  output : w'.output = w.output
  size : w.heap.size ≤ w'.heap.size
  block : ∀ k, k < w.heap.size → k ≠ b → w'.heap[k]? = w.heap[k]?
  old : ∃ S n d, Bx w b #[.slice S n d, .int .i64 keep]
  new : ∃ S n d, Bx w' b #[.slice S n d, .int .i64 keep]
theorem Hx.lt {b : Nat} {keep : Int} {w w' : World} (h : Hx b keep w w') : b < w.heap.size := by
  obtain ⟨_, _, _, h⟩ := h.old; exact h.lt
theorem Hx.trans {b : Nat} {keep : Int} {u v w : World} (h : Hx b keep u v) (k : Hx b keep v w) : Hx b keep u w :=
  ⟨k.os.trans h.os, k.tape.trans h.tape, k.output.trans h.output, Nat.le_trans h.size k.size, fun i hi hb => (k.block i (Nat.lt_of_lt_of_le hi h.size) hb).trans (h.block i hi hb), h.old, k.new⟩
theorem Hx.of_ext {b : Nat} {keep : Int} {w w' : World} {S : Option Addr} {n d : Nat} (hb : Bx w b #[.slice S n d, .int .i64 keep]) (hx : Ext w w') : Hx b keep w w' :=
  ⟨hx.os, hx.tape, hx.output, hx.size, fun k hk _ => hx.block k hk, ⟨S, n, d, hb⟩, ⟨S, n, d, hb.ext hx⟩⟩
theorem Hx.ext {b : Nat} {keep : Int} {u v w : World} (h : Hx b keep u v) (hx : Ext v w) : Hx b keep u w := by
  obtain ⟨S, n, d, hb⟩ := h.new
  exact h.trans (Hx.of_ext hb hx)
theorem Hx.bx {b k : Nat} {keep : Int} {w w' : World} {cs : Array Value} (h : Hx b keep w w') (hk : Bx w k cs) (hne : k ≠ b) : Bx w' k cs := by
  have hl := hk.lt
  obtain ⟨t, hk⟩ := hk
  exact ⟨t, (h.block k hl hne).trans hk⟩
theorem Hx.cell {b : Nat} {keep : Int} {w w' : World} {k o : Nat} {v : Value} (h : Hx b keep w w') (hv : w.cell? ⟨k, o, none⟩ = some v) (hne : ∀ S n d, v ≠ .slice S n d) : w'.cell? ⟨k, o, none⟩ = some v := by
  by_cases hk : k = b
  · subst hk
    obtain ⟨S, n, d, h1⟩ := h.old
    obtain ⟨S', n', d', h2⟩ := h.new
    match o, hv with
    | 0, hv => rw [h1.at 0 _ rfl] at hv; cases hv; exact absurd rfl (hne _ _ _)
    | 1, hv => rw [h1.at 1 _ rfl] at hv; rw [h2.at 1 _ rfl]; exact hv
    | i + 2, hv =>
      obtain ⟨t, h1⟩ := h1
      unfold World.cell? at hv
      rw [show w.heap[(⟨k, i + 2, none⟩ : Addr).block]? = _ from h1] at hv
      simp at hv
  · have hl := World.block_lt_of_cell? w _ hv
    exact (World.cell?_of_block (h.block k hl hk)).trans hv
theorem Hx.other {b : Nat} {keep : Int} {w w' : World} {p : Addr} {v : Value} (h : Hx b keep w w') (hv : w.cell? p = some v) (hne : p.block ≠ b) : w'.cell? p = some v :=
  (World.cell?_of_block (h.block p.block (World.block_lt_of_cell? w _ hv) hne)).trans hv
/-- A row of numbers. -/
theorem Hx.row {b : Nat} {keep : Int} {w w' : World} {A : Option Addr} {n c : Nat} {xs : List Value} (h : Hx b keep w w') (hs : Sl w A n c xs) (hne : ∀ u ∈ xs, ∀ S n d, u ≠ .slice S n d) : Sl w' A n c xs := by
  refine ⟨hs.1, hs.2.1, hs.2.2.1, fun hx => ?_⟩
  obtain ⟨k, off, rfl, hlt, hc⟩ := hs.cells hx
  exact ⟨k, off, rfl, Nat.lt_of_lt_of_le hlt h.size, fun j u hu => h.cell (hc j u hu) (hne u (List.mem_of_getElem? hu))⟩
theorem Hx.its {b : Nat} {keep : Int} {w w' : World} {A : Option Addr} {n c : Nat} {l : List It} (h : Hx b keep w w') (hs : Sl w A n c (ivs l)) : Sl w' A n c (ivs l) := h.row hs (ivs_num l)
theorem Hx.ints {b : Nat} {keep : Int} {w w' : World} {A : Option Addr} {n c : Nat} {l : List Int} (h : Hx b keep w w') (hs : Sl w A n c (l.map iv)) : Sl w' A n c (l.map iv) := h.row hs (iv_num l)
/-- A slice of cells. -/
theorem Hx.hc {b : Nat} {keep : Int} {w w' : World} {R : Option Addr} {m q : Nat} {l : List HC} (h : Hx b keep w w') (hA : HcSl w R m q l) : HcSl w' R m q l := by
  obtain ⟨h1, cs, h2, h3⟩ := hA
  refine ⟨h1, cs, ⟨h2.1, h2.2.1, h2.2.2.1, fun hx => ?_⟩, h3.1, fun i hi => ?_⟩
  · obtain ⟨k, off, rfl, hlt, hc⟩ := h2.cells hx
    have hl := h3.1
    have hpos : 0 < l.length := by
      rcases Nat.eq_zero_or_pos l.length with h0 | h0
      · rw [h0] at hl; exact absurd (List.eq_nil_of_length_eq_zero hl) hx
      · exact h0
    obtain ⟨A, c, e1, e2, e3, e4, _⟩ := h3.2 0 hpos
    have hne : k ≠ b := fun e => by
      subst e
      obtain ⟨S, n, d, t, h1⟩ := h.old
      have g3 := hc _ _ e4
      unfold World.cell? at g3
      rw [show w.heap[(⟨k, off + (0 * 4 + 3), none⟩ : Addr).block]? = _ from h1] at g3
      simp only [Nat.zero_mul, Nat.zero_add] at g3
      match off, g3 with
      | 0, g3 => simp at g3
      | o + 1, g3 => simp at g3
    exact ⟨k, off, rfl, Nat.lt_of_lt_of_le hlt h.size, fun j u hu => h.other (hc j u hu) hne⟩
  · obtain ⟨A, c, e1, e2, e3, e4, h5⟩ := h3.2 i hi
    exact ⟨A, c, e1, e2, e3, e4, h.its h5⟩
theorem Hx.own {b : Nat} {keep : Int} {w w' : World} {B e s n : Nat} {v : Value} {xs : List Value} (h : Hx b keep w w') (ho : w.ownsRow B e s v n xs) (hb : b < B) : w'.ownsRow B e s v n xs :=
  ho.kept (row := some b) ⟨h.os, h.tape, h.output, h.size, fun k hk hne => h.block k hk (fun e => hne (by rw [e]))⟩ (.inr (own_old ho hb))
/-- A heap that is written into its box. -/
theorem hx_store {b : Nat} {keep : Int} {w : World} {S : Option Addr} {n d : Nat} (hb : Bx w b #[.slice S n d, .int .i64 keep]) (S' : Option Addr) (n' d' : Nat) :
    Bx ((w.setCell ⟨b, 0, none⟩ (.slice S' n' d')).setCell ⟨b, 1, none⟩ (.int .i64 keep)) b #[.slice S' n' d', .int .i64 keep] ∧
    Hx b keep w ((w.setCell ⟨b, 0, none⟩ (.slice S' n' d')).setCell ⟨b, 1, none⟩ (.int .i64 keep)) := by
  have h := (hb.set 0 (.slice S' n' d')).set 1 (.int .i64 keep)
  refine ⟨h, rfl, rfl, rfl, by simp [World.setCell], fun k hk hne => ?_, ⟨S, n, d, hb⟩, ⟨S', n', d', h⟩⟩
  rw [Below.heap_setCell _ _ _ _ (by simpa using hne), Below.heap_setCell _ _ _ _ (by simpa using hne)]
/-- A box that is written what it holds. -/
theorem set_held {w : World} {k : Nat} {v : Value} (h : Bx w k #[v]) : w.setCell ⟨k, 0, none⟩ v = w := by
  obtain ⟨t, h⟩ := h
  have e : (w.setCell ⟨k, 0, none⟩ v).heap = w.heap := by
    apply Array.ext_getElem?
    intro i
    by_cases hi : i = k
    · subst hi
      simp [World.setCell, Array.getElem?_modify, h]
    · rw [Below.heap_setCell _ _ _ _ (by simpa using hi)]
  have e2 : w.setCell ⟨k, 0, none⟩ v = { w with heap := (w.setCell ⟨k, 0, none⟩ v).heap } := rfl
  rw [e2, e]
/-- A heap that is built on. -/
def HB2 (w : World) (b : Nat) (keep : Int) (n : Nat) (c : List HC) : Prop := ∃ S d, Bx w b #[.slice S n d, .int .i64 keep] ∧ HcSl w S n d c
theorem HB2.ext {w w' : World} {b n : Nat} {keep : Int} {c : List HC} (h : HB2 w b keep n c) (hx : Ext w w') : HB2 w' b keep n c := by
  obtain ⟨S, d, h1, h2⟩ := h
  exact ⟨S, d, h1.ext hx, h2.ext hx⟩
theorem HB2.lt {w : World} {b n : Nat} {keep : Int} {c : List HC} (h : HB2 w b keep n c) : b < w.heap.size := by
  obtain ⟨S, d, h1, h2⟩ := h
  exact h1.lt
theorem HB2.len {w : World} {b n : Nat} {keep : Int} {c : List HC} (h : HB2 w b keep n c) : n = c.length := by
  obtain ⟨S, d, h1, h2⟩ := h
  exact h2.1
theorem HB2.hx {w w' : World} {b n : Nat} {keep : Int} {c : List HC} (h : HB2 w b keep n c) (hx : Ext w w') : Hx b keep w w' := by
  obtain ⟨S, d, h1, h2⟩ := h
  exact Hx.of_ext h1 hx
theorem HB2.refl {w : World} {b n : Nat} {keep : Int} {c : List HC} (h : HB2 w b keep n c) : Hx b keep w w := h.hx (Ext.refl w)
/-- A heap that is written in place of another one. -/
theorem HB2.store {w : World} {b n : Nat} {keep : Int} {S S' : Option Addr} {n0 d d' : Nat} {c' : List HC} (hb : Bx w b #[.slice S n0 d, .int .i64 keep]) (hc : HcSl w S' n d' c') :
    HB2 ((w.setCell ⟨b, 0, none⟩ (.slice S' n d')).setCell ⟨b, 1, none⟩ (.int .i64 keep)) b keep n c' ∧ Hx b keep w ((w.setCell ⟨b, 0, none⟩ (.slice S' n d')).setCell ⟨b, 1, none⟩ (.int .i64 keep)) := by
  obtain ⟨h1, h2⟩ := hx_store hb S' n d'
  exact ⟨⟨S', d', h1, h2.hc hc⟩, h2⟩
set_option maxRecDepth 100000 in
set_option maxHeartbeats 1600000 in
theorem prunePlaces_any (A : Option Addr) (it : List It) (m c : Nat) (w : World) (hm : m = it.length) (hb : m ≤ 90000) (hI : Sl w A m c (ivs it)) :
    Calls Try.prog 52 #[.slice A m c] w fun e w' => ∃ S d, e = .returned (.slice S m d) ∧ Sl w' S m d ((it.map (·.2)).map iv) ∧ Ext w w' := by
  have HM := Lib.hid hm
  have HI := Lib.hid hI
  obtain ⟨i0, hi, hz0, hz1, hz2⟩ := info_parts infoI
  have HII := Lib.hid hi
  have HZ0 := Lib.hid hz0
  have HZ1 := Lib.hid hz1
  have HZ2 := Lib.hid hz2
  clear hm hI hi hz0 hz1 hz2
  go_enter Try.func52, Try.ntmps52
  go_wp2_with (at_make; refine stop_here ?_)
  refine stop_on ?_
  refine wpList_make_cap _ rfl _ _ 27 rfl 3 i0 _ Try.underlying27 HII.out HZ0.out _ _ _ _ m m rfl rfl (by omega) (by omega) (by omega) (by rw [HZ2.out]; omega) (by unfold maxLen; omega) ?_
  rw [HZ1.out]
  have HO0 := Lib.hid (OwnI.made w w.heap.size m (Nat.le_refl _) hb)
  have HX0 := Lib.hid ((Ext.refl w).alloc (.cells (madeCells (Value.int .i64 0).cells (m * 1)) 3))
  generalize hW : World.alloc w (.cells (madeCells (Value.int .i64 0).cells (m * 1)) 3) = W at *
  clear hW
  obtain ⟨g, hg⟩ : ∃ g, w.heap.size = g := ⟨_, rfl⟩
  have HG := Lib.hid hg
  rw [hg] at HO0
  rw [hg]
  clear hg
  go_wp2_with fail
  go_loopw [11] (fun i wr => ∃ j : Nat, j ≤ m ∧ i = .int .i64 j ∧ OwnI wr g g m m (vF it j) ∧ Ext w wr) (fun i _ => m - (intOf i).toNat)
  case atStart => exact ⟨0, Nat.zero_le _, rfl, HO0.out, HX0.out⟩
  case round =>
    obtain ⟨j, hj, rfl, ho, hx⟩ := hrel
    have HO := Lib.hid ho
    have HXR := Lib.hid hx
    clear ho hx
    rcases Nat.lt_or_ge j m with hlt | hlt
    · have hjl : j < it.length := by rw [← HM.out]; exact hlt
      obtain ⟨b2, off2, rfl, hb2, a0, a1⟩ := it_at HI.out hjl
      have i0 := (HXR.out.cell (p := ⟨b2, off2 + j * 2, none⟩) hb2).trans a0
      have i1 := (HXR.out.cell (p := ⟨b2, off2 + j * 2 + 1, none⟩) hb2).trans a1
      have hji : (j : Int) < (m : Int) := by omega
      have HV := Lib.hid (show ∀ k, k < m → (if k = j then it[j].2 else vF it j k) = vF it (j + 1) k from fun k _ => by
        unfold vF
        have e : it.getD j (0, 0) = it[j] := by rw [List.getD_eq_getElem?_getD, List.getElem?_eq_getElem hjl]; rfl
        by_cases h : k = j
        · subst h; rw [if_pos rfl, if_pos (by omega), e]
        · rw [if_neg h]
          by_cases h2 : k < j
          · rw [if_pos h2, if_pos (by omega)]
          · rw [if_neg h2, if_neg (by omega)])
      clear a0 a1 hb2
      generalize it[j].1 = x at *
      generalize it[j].2 = y at *
      clear hjl
      have HB5 := Lib.hid (Bx.new wr #[.int .i64 x, .int .i64 y] 45)
      have HX5 := Lib.hid ((Ext.refl wr).alloc (.cells #[.int .i64 x, .int .i64 y] 45))
      obtain ⟨c0, c1, c2⟩ := HB5.out.read2
      have f0 := (HO.out.ext HX5.out).free j
      have r0 := (HO.out.ext HX5.out).cell hlt
      go_wp2_with fail
      go_roundw
      case rel => exact ⟨j + 1, by omega, by go_num, ((HO.out.ext HX5.out).set hlt y).congr HV.out, (HXR.out.trans HX5.out).set (by show w.heap.size ≤ g; exact Nat.le_of_eq HG.out) _⟩
      case measure => simp [intOf]; omega
    · obtain rfl : m = j := by omega
      have d1 : decide ((m : Int) < (m : Int)) = false := decide_eq_false (by omega)
      have HE := Lib.hid (vF_all it HM.out)
      have hs := own_sl HO.out.2
      rw [HE.out] at hs
      have HS := Lib.hid hs
      clear hlt hs
      go_wp2
      go_ret
      exact ⟨_, m, rfl, HS.out, HXR.out⟩
end Go.Proofs.Ytbfbpddfcakieaa
namespace Go.Proofs.Ytbfbpddfcakieaa
end Go.Proofs.Ytbfbpddfcakieaa
namespace Go.Proofs.Ytbfbpddfcakieaa
open Go.RowKit

theorem may_iff {l : List HC} {keep most : Int} (h : mayH ⟨l, keep⟩ most = true) : (l.length : Int) ≤ most ∧ (∀ k (hk : k < l.length), l[k].it.length ≤ 10 ∧ l[k].ref ≤ 1000000) ∧ rightH ⟨l, keep⟩ = true := by
  unfold mayH smallH at h
  simp only [Bool.and_eq_true, decide_eq_true_eq, List.all_eq_true] at h
  exact ⟨h.1.1, fun k hk => h.1.2 _ (List.getElem_mem hk), h.2⟩
theorem may_small {l : List HC} {keep most : Int} (h : mayH ⟨l, keep⟩ most = true) : smallH ⟨l, keep⟩ most = true := by
  unfold mayH at h; simp only [Bool.and_eq_true] at h; exact h.1
theorem may_bd {l : List HC} {keep most : Int} (h : mayH ⟨l, keep⟩ most = true) : Bd l := fun k hk => by have := ((may_iff h).2.1 k hk).2; omega
theorem right_ref {l : List HC} {keep : Int} (h : rightH ⟨l, keep⟩ = true) : ∀ k (hk : k < l.length), 0 ≤ l[k].ref ∧ l[k].ref ≤ 2147483647 := fun k hk => by
  have h1 := (rightH_iff h).2 k hk
  unfold cellR at h1
  split at h1
  · rename_i e; omega
  · simp only [Bool.and_eq_true, decide_eq_true_eq] at h1; omega
theorem ref05Alloc_any (R : Option Addr) (l : List HC) (n q : Nat) (keep : Int) (leaf : Bool) (A : Option Addr) (it : List It) (m c : Nat) (H : Option Addr) (held : List Int) (t d : Nat) (w : World) (hb : n ≤ 90000) (hbd : ∀ k (hk : k < l.length), l[k].ref ≤ 8000000000000000000) (hA : HcSl w R n q l) (hm : m = it.length) (hI : Sl w A m c (ivs it)) (ht : t = held.length) (hH : Sl w H t d (held.map iv)) :
    Calls Try.prog 34 #[.agg #[.slice R n q, .int .i64 keep], .agg #[.bool leaf, .slice A m c], .slice H t d] w fun e w' => ∃ S d, e = .returned (.tuple #[.agg #[.slice S n d, .int .i64 keep], .int .i64 (allocP l leaf it : Nat), .int .i64 (allocE l leaf it)]) ∧ HcSl w' S n d (allocL l leaf it held) ∧ Ext w w' := by
  cases hg : (ndR it && leadsC l leaf it)
  · obtain ⟨e1, e2, e3⟩ := alloc_bad (held := held) hg
    rw [e1, e2, e3]
    exact ref05Alloc_no R l n q keep leaf A it m c H held t d w hg hA hm hI
  · cases leaf
    · exact ref05Alloc_over R l n q keep A it m c H held t d w hg hb hbd hA hm hI ht hH
    · exact ref05Alloc_leaf R l n q keep A it m c H held t d w hg hb hbd hA hm hI ht hH
theorem usedN_le (l : List HC) : usedN l ≤ l.length := List.countP_le_length
theorem ref05Loose_is (R : Option Addr) (l : List HC) (n q : Nat) (keep p : Int) (w : World) (hb : n ≤ 90000) (hbd : Bd l) (hA : HcSl w R n q l) :
    Calls Try.prog 37 #[.agg #[.slice R n q, .int .i64 keep], .int .i64 p] w fun e w' => ∃ S d, e = .returned (.tuple #[.agg #[.slice S n d, .int .i64 keep], .int .i64 (looseE ⟨l, keep⟩ p)]) ∧ HcSl w' S n d (looseL (l.length + 1) l p) ∧ Ext w w' :=
  ref05Loose_any (usedN l) (l.length + 1) R l n q keep p w (Nat.le_refl _) (by have := usedN_le l; omega) hb hbd hA
theorem heapLoose_is (R : Option Addr) (l : List HC) (n q : Nat) (keep p : Int) (w : World) (hM : rightH ⟨l, keep⟩ = true) (hbd : Bd l) (hA : HcSl w R n q l) :
    Calls Try.prog 29 #[.agg #[.slice R n q, .int .i64 keep], .int .i64 p] w fun e w' => ∃ S d, e = .returned (.tuple #[.agg #[.slice S n d, .int .i64 keep], .int .i64 (looseE ⟨l, keep⟩ p)]) ∧ HcSl w' S n d (looseL (l.length + 1) l p) ∧ Ext w w' := by
  refine (heapLoose_any R l n q keep w p hM hbd hA).mono ?_
  rintro e w' ⟨S, d, cs, rfl, _, h1, h2, hx⟩
  exact ⟨S, d, rfl, ⟨by rw [loose_len]; exact hA.1, cs, h1, h2⟩, hx⟩
theorem ref05May_is (R : Option Addr) (l : List HC) (n q : Nat) (keep most : Int) (w : World) (hA : HcSl w R n q l) {r : Bool} (h : mayH ⟨l, keep⟩ most = r) :
    Calls Try.prog 31 #[.agg #[.slice R n q, .int .i64 keep], .int .i64 most] w fun e w' => e = .returned (.bool r) ∧ Ext w w' := by
  subst h; exact ref05May_any R l n q keep most w hA
theorem may_of {l : List HC} {keep most : Int} (h1 : smallH ⟨l, keep⟩ most = true) (h2 : rightH ⟨l, keep⟩ = true) : mayH ⟨l, keep⟩ most = true := by unfold mayH; rw [h1, h2]; rfl
theorem ref05Small_is (R : Option Addr) (l : List HC) (n q : Nat) (keep most : Int) (w : World) (hA : HcSl w R n q l) {r : Bool} (h : smallH ⟨l, keep⟩ most = r) :
    Calls Try.prog 41 #[.agg #[.slice R n q, .int .i64 keep], .int .i64 most] w fun e w' => e = .returned (.bool r) ∧ Ext w w' := by
  subst h; exact ref05Small_any R l n q keep most w hA
theorem ref05Right_is (R : Option Addr) (l : List HC) (n q : Nat) (keep : Int) (w : World) (hA : HcSl w R n q l) {r : Bool} (h : rightH ⟨l, keep⟩ = r) :
    Calls Try.prog 55 #[.agg #[.slice R n q, .int .i64 keep]] w fun e w' => e = .returned (.bool r) ∧ Ext w w' := by
  subst h; exact ref05Right_any R l n q keep w hA
section
variable (R : Option Addr) (l : List HC) (n q : Nat) (keep : Int) (w : World)
theorem heapFree_is {m : Nat} (hM : mayH ⟨l, keep⟩ 60 = true) (h : l.countP freeC = m) (hA : HcSl w R n q l) :
    Calls Try.prog 46 #[.agg #[.slice R n q, .int .i64 keep]] w fun e w' => e = .returned (.int .i64 m) ∧ Ext w w' := by subst h; exact heapFree_any R l n q keep w hM hA
theorem ref05Free_is {m : Nat} (h : l.countP freeC = m) (hA : HcSl w R n q l) :
    Calls Try.prog 11 #[.agg #[.slice R n q, .int .i64 keep]] w fun e w' => e = .returned (.int .i64 m) ∧ Ext w w' := by subst h; exact ref05Free_any R l n q keep w hA
theorem heapFits_is {r : Bool} (x : Int) (deep : Bool) (hM : mayH ⟨l, keep⟩ 60 = true) (h : fitsH ⟨l, keep⟩ x deep = r) (hA : HcSl w R n q l) :
    Calls Try.prog 26 #[.agg #[.slice R n q, .int .i64 keep], .int .i64 x, .bool deep] w fun e w' => e = .returned (.bool r) ∧ Ext w w' := by subst h; exact heapFits_any R l n q keep w x deep hM hA
theorem ref05Fits_is {r : Bool} (x : Int) (deep : Bool) (hk : 0 ≤ keep ∧ keep ≤ 9223372036854775807) (h : fitsH ⟨l, keep⟩ x deep = r) (hA : HcSl w R n q l) :
    Calls Try.prog 32 #[.agg #[.slice R n q, .int .i64 keep], .int .i64 x, .bool deep] w fun e w' => e = .returned (.bool r) ∧ Ext w w' := by subst h; exact ref05Fits_any R l n q keep x deep w hk hA
end
end Go.Proofs.Ytbfbpddfcakieaa
namespace Go.Proofs.Ytbfbpddfcakieaa
open Go.RowKit

theorem right_set {l : List HC} {keep : Int} (h : rightH ⟨l, keep⟩ = true) (k : Nat) (x : HC) (hx : cellR l.length x = true) : rightH ⟨l.set k x, keep⟩ = true := by
  obtain ⟨h1, h2⟩ := rightH_iff h
  refine rightH_yes (by rw [List.length_set]; exact h1) fun j hj => ?_
  rw [List.length_set] at hj ⊢
  rw [List.getElem_set]
  split
  · exact hx
  · exact h2 j hj
theorem cellR_used {n : Nat} {x : HC} (h : cellR n x = true) (hp : 0 < x.ref) (r : Int) (h0 : 0 < r) (h1 : r ≤ 2147483647) : cellR n ⟨r, x.pin, x.leaf, x.it⟩ = true := by
  unfold cellR at h ⊢
  rw [if_neg (by omega)] at h
  rw [if_neg (by simp only; omega)]
  simp only [Bool.and_eq_true, decide_eq_true_eq] at h ⊢
  exact ⟨h0, h1, h.2.2⟩
theorem used_nopin {n : Nat} {x : HC} (h : cellR n x = true) (hp : 0 < x.ref) : x.pin = false := by
  unfold cellR at h
  rw [if_neg (by omega)] at h
  simp only [Bool.and_eq_true, decide_eq_true_eq, Bool.not_eq_true'] at h
  exact h.2.2.1
theorem right_more {l : List HC} {keep : Int} {k : Nat} (h : rightH ⟨l, keep⟩ = true) (hk : k < l.length) (hp : 0 < l[k].ref) (hm : l[k].ref < 2147483647) : rightH ⟨l.set k l[k].more, keep⟩ = true :=
  right_set h k _ (cellR_used ((rightH_iff h).2 k hk) hp _ (by omega) (by omega))
/-- Held, and loosed, as often as that. -/
def plusC (l : List HC) (k : Nat) (j : Nat) : List HC := l.set k ⟨(l.getD k HC.none).ref + j, (l.getD k HC.none).pin, (l.getD k HC.none).leaf, (l.getD k HC.none).it⟩
theorem plusC_len (l : List HC) (k j : Nat) : (plusC l k j).length = l.length := by unfold plusC; simp
theorem getD_at {l : List HC} {k : Nat} (hk : k < l.length) : l.getD k HC.none = l[k] := by rw [List.getD_eq_getElem?_getD, List.getElem?_eq_getElem hk]; rfl
theorem plusC_zero {l : List HC} {k : Nat} (hk : k < l.length) : plusC l k 0 = l := by
  unfold plusC; rw [getD_at hk]
  have e : (⟨l[k].ref + (0 : Nat), l[k].pin, l[k].leaf, l[k].it⟩ : HC) = l[k] := by
    have : l[k].ref + ((0 : Nat) : Int) = l[k].ref := by omega
    rw [this]
  rw [e, List.set_getElem_self]
theorem plusC_at {l : List HC} {k j : Nat} (hk : k < l.length) : (plusC l k j)[k]'(by rw [plusC_len]; exact hk) = ⟨l[k].ref + j, l[k].pin, l[k].leaf, l[k].it⟩ := by
  unfold plusC; rw [List.getElem_set_self, getD_at hk]
theorem plusC_succ {l : List HC} {k j : Nat} (hk : k < l.length) : (plusC l k j).set k ((plusC l k j)[k]'(by rw [plusC_len]; exact hk)).more = plusC l k (j + 1) := by
  rw [plusC_at hk]
  unfold plusC HC.more
  rw [List.set_set, getD_at hk]
  have : l[k].ref + (j : Int) + 1 = l[k].ref + ((j + 1 : Nat) : Int) := by omega
  simp only [this]
theorem plusC_used {l : List HC} {k j : Nat} (hk : k < l.length) (hp : 0 < l[k].ref) : usedC (plusC l k j) (k : Int) = true := by
  rw [usedC_at (by rw [plusC_len]; exact hk), plusC_at hk]
  simp only [decide_eq_true_eq]; omega
theorem plusC_hold {l : List HC} {keep : Int} {k j : Nat} (hk : k < l.length) (hp : 0 < l[k].ref) : holdH ⟨plusC l k j, keep⟩ (k : Int) = ⟨plusC l k (j + 1), keep⟩ ∧ holdE ⟨plusC l k j, keep⟩ (k : Int) = 0 := by
  obtain ⟨e1, e2⟩ := holdH_at (keep := keep) (by rw [plusC_len]; exact hk) (plusC_used (j := j) hk hp)
  exact ⟨by rw [e1, plusC_succ hk], e2⟩
theorem plusC_loose {l : List HC} {n : Nat} {k j f : Nat} (hk : k < l.length) (hr : cellR n l[k] = true) (hp : 0 < l[k].ref) : looseL (f + 1) (plusC l k (j + 1)) (k : Int) = plusC l k j := by
  have hk' : k < (plusC l k (j + 1)).length := by rw [plusC_len]; exact hk
  rw [looseL_at f hk' (plusC_used hk hp), plusC_at hk, if_pos (by simp only; omega)]
  have hpn := used_nopin hr hp
  unfold plusC
  rw [List.set_set, getD_at hk, hpn]
  have : l[k].ref + ((j + 1 : Nat) : Int) - 1 = l[k].ref + (j : Int) := by omega
  simp only [this]
theorem plusC_right {l : List HC} {keep : Int} {k j : Nat} (h : rightH ⟨l, keep⟩ = true) (hk : k < l.length) (hp : 0 < l[k].ref) (hm : l[k].ref + j ≤ 2147483647) : rightH ⟨plusC l k j, keep⟩ = true := by
  unfold plusC; rw [getD_at hk]
  exact right_set h k _ (cellR_used ((rightH_iff h).2 k hk) hp _ (by omega) (by omega))
theorem plusC_bd {l : List HC} {k j : Nat} (h : Bd l) (hk : k < l.length) (hm : l[k].ref + j ≤ 2147483647) : Bd (plusC l k j) := by
  unfold plusC; rw [getD_at hk]
  exact h.set k _ (by simp only; omega)
end Go.Proofs.Ytbfbpddfcakieaa
namespace Go.Proofs.Ytbfbpddfcakieaa
open Go.RowKit

def upC (ps : List Int) (k : Nat) (c : HC) : HC := ⟨c.ref + (ps.count (k : Int) : Nat), c.pin, c.leaf, c.it⟩
/-- Each cell held once more for each time that its place stands in the row. -/
def upL (l : List HC) (ps : List Int) : List HC := l.mapIdx (upC ps)
theorem upL_len (l : List HC) (ps : List Int) : (upL l ps).length = l.length := by unfold upL; simp
theorem upL_at {l : List HC} {ps : List Int} {k : Nat} (hk : k < l.length) : (upL l ps)[k]'(by rw [upL_len]; exact hk) = upC ps k l[k] := by
  unfold upL; rw [List.getElem_mapIdx]
theorem upL_nil (l : List HC) : upL l [] = l := by
  apply List.ext_getElem (upL_len l [])
  intro k h1 h2
  rw [upL_at h2]
  unfold upC
  simp
theorem upL_same {l : List HC} {ps qs : List Int} (h : ∀ x, ps.count x = qs.count x) : upL l ps = upL l qs := by
  unfold upL
  congr 1
  funext k c
  unfold upC
  rw [h]
theorem upL_cons {l : List HC} {qs : List Int} {p : Nat} (hp : p < l.length) : moreI (upL l qs) (p : Int) = upL l ((p : Int) :: qs) := by
  unfold moreI
  rw [Int.toNat_natCast, getD_at (by rw [upL_len]; exact hp), upL_at hp]
  apply List.ext_getElem (by rw [List.length_set, upL_len, upL_len])
  intro k h1 h2
  rw [upL_len] at h2
  rw [List.getElem_set]
  split
  · rename_i e
    subst e
    rw [upL_at hp]
    unfold upC HC.more
    simp only [List.count_cons_self]
    have : l[p].ref + ((qs.count (p : Int) : Nat) : Int) + 1 = l[p].ref + ((qs.count (p : Int) + 1 : Nat) : Int) := by omega
    rw [this]
  · rename_i e
    rw [upL_at h2, upL_at h2]
    unfold upC
    rw [List.count_cons_of_ne (by omega)]
theorem upL_fold {l : List HC} : ∀ (ps qs : List Int), (∀ p ∈ ps, usedC l p = true) → ps.foldl moreI (upL l qs) = upL l (ps.reverse ++ qs)
  | [], qs, _ => rfl
  | p :: ps, qs, h => by
    obtain ⟨k, hk, rfl, _⟩ := usedC_iff (h p (by simp))
    rw [List.foldl_cons, upL_cons hk, upL_fold ps _ (fun x hx => h x (by simp [hx]))]
    simp
theorem more_up {l : List HC} {ps : List Int} (h : ∀ p ∈ ps, usedC l p = true) : ps.foldl moreI l = upL l ps := by
  have h1 := upL_fold ps [] h
  rw [upL_nil] at h1
  rw [h1]
  exact upL_same (fun x => by simp)
theorem count_unused {l : List HC} {ps : List Int} (h : ∀ p ∈ ps, usedC l p = true) {k : Nat} (hk : k < l.length) (h0 : ¬ 0 < l[k].ref) : ps.count (k : Int) = 0 := by
  rw [List.count_eq_zero]
  intro hm
  have := h _ hm
  rw [usedC_at hk] at this
  simp at this
  omega
theorem loose_up {l : List HC} {keep : Int} (hr : rightH ⟨l, keep⟩ = true) {q : Nat} (hq : ∀ hk : q < l.length, ¬ 0 < l[q].ref) (x : HC) (f : Nat) : ∀ (ps : List Int), (∀ p ∈ ps, usedC l p = true) → ps.foldl (looseL (f + 1)) ((upL l ps).set q x) = l.set q x
  | [], _ => by rw [upL_nil]; rfl
  | p :: ps, h => by
    obtain ⟨k, hk, rfl, hp⟩ := usedC_iff (h p (by simp))
    have hkq : ¬ q = k := fun e => by subst e; exact hq hk hp
    have hk' : k < ((upL l ((k : Int) :: ps)).set q x).length := by rw [List.length_set, upL_len]; exact hk
    have hg : ((upL l ((k : Int) :: ps)).set q x)[k] = upC ((k : Int) :: ps) k l[k] := by rw [List.getElem_set_ne hkq, upL_at hk]
    have hpn := used_nopin ((rightH_iff hr).2 k hk) hp
    have hu : usedC ((upL l ((k : Int) :: ps)).set q x) (k : Int) = true := by
      rw [usedC_at hk', hg]
      unfold upC
      simp only [decide_eq_true_eq]
      omega
    have hstep : looseL (f + 1) ((upL l ((k : Int) :: ps)).set q x) (k : Int) = (upL l ps).set q x := by
      rw [looseL_at f hk' hu, hg]
      have hc : (((k : Int) :: ps).count (k : Int)) = ps.count (k : Int) + 1 := List.count_cons_self ..
      rw [if_pos (by unfold upC; simp only; rw [hc]; omega)]
      apply List.ext_getElem (by simp [upL_len])
      intro j h1 h2
      have hj : j < l.length := by simpa [upL_len] using h2
      rw [List.getElem_set]
      split
      · rename_i e
        subst e
        rw [List.getElem_set_ne hkq, upL_at hj]
        unfold upC
        simp only
        rw [hc, hpn]
        have : l[k].ref + ((ps.count (k : Int) + 1 : Nat) : Int) - 1 = l[k].ref + ((ps.count (k : Int) : Nat) : Int) := by omega
        rw [this]
      · rename_i e
        rw [List.getElem_set, List.getElem_set]
        split
        · rfl
        · rw [upL_at hj, upL_at hj]
          unfold upC
          rw [List.count_cons_of_ne (by omega)]
    rw [List.foldl_cons, hstep]
    exact loose_up hr hq x f ps (fun y hy => h y (by simp [hy]))
theorem countP_set1 {α : Type} (p : α → Bool) : ∀ (l : List α) (k : Nat) (hk : k < l.length) (x : α), (l.set k x).countP p + (if p l[k] then 1 else 0) = l.countP p + (if p x then 1 else 0)
  | [], k, hk, _ => by simp at hk
  | y :: l, 0, _, x => by simp [List.countP_cons]; omega
  | y :: l, k + 1, hk, x => by
    have := countP_set1 p l k (by simpa using hk) x
    simp only [List.set_cons_succ, List.countP_cons, List.getElem_cons_succ]
    omega
theorem upL_free {l : List HC} {ps : List Int} (h : ∀ p ∈ ps, usedC l p = true) (_hr : ∀ k (hk : k < l.length), 0 ≤ l[k].ref) : (upL l ps).countP freeC = l.countP freeC := by
  have e : (upL l ps).map freeC = l.map freeC := by
    apply List.ext_getElem (by simp [upL_len])
    intro k h1 h2
    have hk : k < l.length := by simpa using h2
    rw [List.getElem_map, List.getElem_map, upL_at hk]
    unfold upC freeC
    simp only
    by_cases h0 : 0 < l[k].ref
    · rw [decide_eq_false (by omega), decide_eq_false (by omega)]
    · rw [count_unused h hk h0]; simp
  have h1 : ∀ m : List HC, m.countP freeC = (m.map freeC).countP id := fun m => by rw [List.countP_map]; rfl
  rw [h1, h1, e]
theorem upL_right {l : List HC} {ps : List Int} {keep : Int} (h : ∀ p ∈ ps, usedC l p = true) (hr : rightH ⟨l, keep⟩ = true) (hs : ∀ k (hk : k < l.length), l[k].ref ≤ 1000000) (hp : ps.length ≤ 100) : rightH ⟨upL l ps, keep⟩ = true := by
  obtain ⟨h1, h2⟩ := rightH_iff hr
  refine rightH_yes (by rw [upL_len]; exact h1) fun k hk => ?_
  have hk' : k < l.length := by rw [upL_len] at hk; exact hk
  rw [upL_len, upL_at hk']
  have hc : ps.count (k : Int) ≤ ps.length := List.count_le_length
  have hsk := hs k hk'
  by_cases h0 : 0 < l[k].ref
  · exact cellR_used (h2 k hk') h0 _ (by omega) (by omega)
  · have e : upC ps k l[k] = l[k] := by
      unfold upC
      rw [count_unused h hk' h0]
      simp
    rw [e]
    exact h2 k hk'
theorem told_all {l : List HC} {leaf : Bool} {it : List It} (h : leadsC l leaf it = true) : ∀ p ∈ toldL leaf it, usedC l p = true := by
  rw [leads_told, List.all_eq_true] at h
  exact h
theorem told_len (leaf : Bool) (it : List It) : (toldL leaf it).length ≤ it.length := by unfold toldL; split <;> simp
theorem places_leads {l : List HC} {leaf : Bool} {it : List It} (h : leadsC l leaf it = true) : placesC l.length leaf it = true := by
  rw [places_told]
  have h1 := told_all h
  have : (toldL leaf it).any (fun p => !isPl p l.length) = false := by
    rw [List.any_eq_false]
    intro p hp
    obtain ⟨k, hk, rfl, _⟩ := usedC_iff (h1 p hp)
    unfold isPl
    rw [decide_eq_true (by omega), decide_eq_true (by omega)]
    simp
  rw [this]; rfl
/-- What is laid: each cell held once more for each item that tells it, but those that are held already; the node in the first free cell. -/
theorem alloc_up {l : List HC} {leaf : Bool} {it : List It} {held : List Int} {q : Nat} (hg : (ndR it && leadsC l leaf it) = true) (hq : q < l.length) (hf : firstF l = q) :
    allocL l leaf it held = (upL l ((toldL leaf it).filter (fun x => !inL held x))).set q ⟨1, false, leaf, it⟩ := by
  rw [(alloc_ok (held := held) hg hq hf).2.2, ← more_told]
  rw [Bool.and_eq_true] at hg
  rw [more_up (fun p hp => told_all hg.2 p (List.mem_filter.1 hp).1)]
theorem first_free {l : List HC} {keep : Int} (hr : rightH ⟨l, keep⟩ = true) {q : Nat} (hq : q < l.length) (hf : firstF l = q) : l[q] = ⟨0, false, false, []⟩ := by
  have h1 : stopC l[q] = true := by
    unfold firstF at hf
    exact ((List.findIdx_eq hq).1 hf).1
  rw [free_stop (right_ref hr q hq).1] at h1
  have h2 := (rightH_iff hr).2 q hq
  unfold freeC at h1
  simp only [Bool.and_eq_true, decide_eq_true_eq, Bool.not_eq_true'] at h1
  unfold cellR at h2
  rw [if_pos h1.1] at h2
  simp only [Bool.and_eq_true, Bool.not_eq_true', decide_eq_true_eq] at h2
  have h3 := List.eq_nil_of_length_eq_zero h2.2
  generalize l[q] = x at *
  obtain ⟨a, b, c, d⟩ := x
  simp only at h1 h2 h3
  rw [h1.1, h1.2, h2.1, h3]
theorem first_ahead {l : List HC} {keep : Int} (hr : rightH ⟨l, keep⟩ = true) {q : Nat} (hq : q < l.length) (hf : firstF l = q) {k : Nat} (hk : k < l.length) (hkq : k ≤ q) : freeC l[k] = decide (k = q) := by
  rcases Nat.lt_or_ge k q with h | h
  · unfold firstF at hf
    have h1 := ((List.findIdx_eq hq).1 hf).2 k h
    rw [free_stop (right_ref hr k hk).1] at h1
    rw [h1, decide_eq_false (by omega)]
  · obtain rfl : k = q := by omega
    rw [first_free hr hk hf, decide_eq_true rfl]
    rfl
/-- What is laid, whatever is held already, is right, and has a free cell less. -/
theorem alloc_right {l : List HC} {leaf : Bool} {it : List It} {held : List Int} {keep : Int} {q : Nat} (hr : rightH ⟨l, keep⟩ = true) (hs : ∀ k (hk : k < l.length), l[k].ref ≤ 1000000) (hg : (ndR it && leadsC l leaf it) = true) (hq : q < l.length) (hf : firstF l = q) :
    rightH ⟨allocL l leaf it held, keep⟩ = true ∧ (allocL l leaf it held).countP freeC + 1 = l.countP freeC ∧ (allocL l leaf it held).length = l.length := by
  rw [alloc_up hg hq hf]
  have hg2 := hg
  rw [Bool.and_eq_true] at hg2
  have hu : ∀ p ∈ (toldL leaf it).filter (fun x => !inL held x), usedC l p = true := fun p hp => told_all hg2.2 p (List.mem_filter.1 hp).1
  have hlen : ((toldL leaf it).filter (fun x => !inL held x)).length ≤ 100 := by
    have h1 := List.length_filter_le (fun x => !inL held x) (toldL leaf it)
    have h2 := told_len leaf it
    have h3 := ((ndR_iff it).1 hg2.1).1
    omega
  refine ⟨right_set (upL_right hu hr hs hlen) q _ ?_, ?_, by rw [List.length_set, upL_len]⟩
  · unfold cellR
    rw [if_neg (by simp)]
    simp only
    rw [hg2.1, upL_len, places_leads hg2.2]
    rfl
  · have h1 := countP_set1 freeC (upL l ((toldL leaf it).filter (fun x => !inL held x))) q (by rw [upL_len]; exact hq) ⟨1, false, leaf, it⟩
    rw [upL_free hu (fun k hk => (right_ref hr k hk).1), upL_at hq, first_free hr hq hf] at h1
    have h2 : freeC (upC ((toldL leaf it).filter (fun x => !inL held x)) q ⟨0, false, false, []⟩) = true := by
      unfold upC freeC
      rw [count_unused hu hq (by rw [first_free hr hq hf]; simp)]
      rfl
    rw [h2] at h1
    have h3 : freeC ⟨1, false, leaf, it⟩ = false := rfl
    rw [h3] at h1
    simp only [if_true, Bool.false_eq_true, if_false] at h1
    omega
/-- What is laid, and loosed again, is as it was, but for its Pin. -/
theorem alloc_back {l : List HC} {leaf : Bool} {it : List It} {keep : Int} {q : Nat} (hr : rightH ⟨l, keep⟩ = true) (hg : (ndR it && leadsC l leaf it) = true) (hq : q < l.length) (hf : firstF l = q) :
    looseE ⟨allocL l leaf it [], keep⟩ (q : Int) = 0 ∧ looseL ((allocL l leaf it []).length + 1) (allocL l leaf it []) (q : Int) = l.set q ⟨0, true, false, []⟩ := by
  have hg2 := hg
  rw [Bool.and_eq_true] at hg2
  have ef : (toldL leaf it).filter (fun x => !inL [] x) = toldL leaf it := by
    rw [List.filter_eq_self]; intro x _; rfl
  have ha := alloc_up (held := []) hg hq hf
  rw [ef] at ha
  have hlen : (allocL l leaf it []).length = l.length := by rw [ha, List.length_set, upL_len]
  have hq' : q < (allocL l leaf it []).length := by rw [hlen]; exact hq
  have hat : (allocL l leaf it [])[q] = ⟨1, false, leaf, it⟩ := by simp only [ha, List.getElem_set_self]
  have hu : usedC (allocL l leaf it []) (q : Int) = true := by rw [usedC_at hq', hat]; rfl
  refine ⟨by unfold looseE usedH; simp only [hu]; rfl, ?_⟩
  rw [looseL_told _ hq' hu (by rw [hat]; simp), hat, hlen]
  simp only
  rw [ha, List.set_set]
  obtain ⟨f, hf9⟩ : ∃ f, l.length = f + 1 := ⟨l.length - 1, by omega⟩
  rw [hf9]
  exact loose_up hr (fun hk => by rw [first_free hr hk hf]; simp) _ f _ (told_all hg2.2)
theorem alloc_cell {l : List HC} {leaf : Bool} {it : List It} {held : List Int} {q : Nat} (hg : (ndR it && leadsC l leaf it) = true) (hq : q < l.length) (hf : firstF l = q) (hq' : q < (allocL l leaf it held).length) : (allocL l leaf it held)[q] = ⟨1, false, leaf, it⟩ := by
  simp only [alloc_up hg hq hf, List.getElem_set_self]
theorem alloc_other {l : List HC} {leaf : Bool} {it : List It} {held : List Int} {q : Nat} (hg : (ndR it && leadsC l leaf it) = true) (hq : q < l.length) (hf : firstF l = q) {k : Nat} (hk : k < l.length) (hkq : k ≠ q) (hk' : k < (allocL l leaf it held).length) :
    (allocL l leaf it held)[k] = ⟨l[k].ref + ((if inL held (k : Int) then 0 else (toldL leaf it).count (k : Int) : Nat) : Int), l[k].pin, l[k].leaf, l[k].it⟩ := by
  simp only [alloc_up hg hq hf]
  rw [List.getElem_set_ne (Ne.symm hkq), upL_at hk]
  unfold upC
  cases hi : inL held (k : Int)
  · rw [List.count_filter (by rw [hi]; rfl)]
    simp
  · have h0 : ((toldL leaf it).filter (fun x => !inL held x)).count (k : Int) = 0 := by
      rw [List.count_eq_zero]
      intro hm
      have := (List.mem_filter.1 hm).2
      rw [hi] at this
      cases this
    rw [h0]
    simp
end Go.Proofs.Ytbfbpddfcakieaa
