/- The walks of must, number and tasks of package book's reader: what they tell, and where they panic. The walks of vol, cell and both rows of package book's reader. The walks of both rows of package book's reader. The walks of isFrom, areRefs, areRoots and areIds of package book. -/
import Derived.Test.YtjbfopnkeclfgaaGreatK24
import Derived.Test.YtjbfopnkeclfgaaGreatK26
import Derived.WalkLawsBesides
import Derived.Test.YtjbfopnkeclfgaaGreatK06
import Derived.Test.YtjbfopnkeclfgaaGreatK23
namespace Go.Proofs.YtjbfopnkeclfgaaGreat
set_option maxRecDepth 20000
open Go.RowKit
attribute [local go_sem ↓] Go.wp_at_zero Go.wp_at_succ

/-- What the reader's panic bears. -/
def rdPanic : List PanicEntry := [{ v := .iface 35 (.int .i64 2), recovered := false }]
/-- All blocks but one are as they were. -/
structure Rx (b : Nat) (w w' : World) : Prop where
  os : w'.os = w.os
  tape : w'.tape = w.tape
  output : w'.output = w.output
  size : w.heap.size ≤ w'.heap.size
  block : ∀ k, k < w.heap.size → k ≠ b → w'.heap[k]? = w.heap[k]?
theorem Rx.refl (b : Nat) (w : World) : Rx b w w := ⟨rfl, rfl, rfl, Nat.le_refl _, fun _ _ _ => rfl⟩
theorem Rx.trans {b : Nat} {u v w : World} (h : Rx b u v) (k : Rx b v w) : Rx b u w :=
  ⟨k.os.trans h.os, k.tape.trans h.tape, k.output.trans h.output, Nat.le_trans h.size k.size, fun i hi hb => (k.block i (Nat.lt_of_lt_of_le hi h.size) hb).trans (h.block i hi hb)⟩
theorem Rx.of_ext {b : Nat} {w w' : World} (hx : Ext w w') : Rx b w w' := ⟨hx.os, hx.tape, hx.output, hx.size, fun k hk _ => hx.block k hk⟩
theorem Rx.ext {b : Nat} {u v w : World} (h : Rx b u v) (hx : Ext v w) : Rx b u w := h.trans (Rx.of_ext hx)
theorem Rx.over {b : Nat} {v w w' : World} (h : Rx b w w') (hx : Ext v w) (hb : v.heap.size ≤ b) : Ext v w' :=
  ⟨h.os.trans hx.os, h.tape.trans hx.tape, h.output.trans hx.output, Nat.le_trans hx.size h.size, fun k hk => (h.block k (Nat.lt_of_lt_of_le hk hx.size) (by omega)).trans (hx.block k hk)⟩
theorem Rx.set {b : Nat} {w w' : World} (h : Rx b w w') (i : Nat) (v : Value) : Rx b w (w'.setCell ⟨b, i, none⟩ v) :=
  ⟨h.os, h.tape, h.output, by simpa [World.setCell] using h.size, fun k hk hne => by rw [Below.heap_setCell _ _ _ _ (by simpa using hne)]; exact h.block k hk hne⟩
theorem Rx.put {b k : Nat} {w w' : World} (h : Rx b w w') (hk : w.heap.size ≤ k) (i : Nat) (v : Value) : Rx b w (w'.setCell ⟨k, i, none⟩ v) :=
  ⟨h.os, h.tape, h.output, by simpa [World.setCell] using h.size, fun j hj hne => by rw [Below.heap_setCell _ _ _ _ (by simp; omega)]; exact h.block j hj hne⟩
theorem Rx.app {b : Nat} {u v w : World} {B e s n : Nat} {x : Value} {xs : List Value} (h : Rx b u v) (o : v.ownsRow B e s x n xs) (hB : u.heap.size ≤ B) (hg : v.grownBy w x.ownBlock) : Rx b u w :=
  ⟨hg.os.trans h.os, hg.tape.trans h.tape, hg.output.trans h.output, Nat.le_trans h.size hg.size, fun j hj hne => (hg.block j (Nat.lt_of_lt_of_le hj h.size) (fun e => by have := (o.lt j e.symm).1; omega)).trans (h.block j hj hne)⟩
theorem Rx.bx {b k : Nat} {w w' : World} {cs : Array Value} (h : Rx b w w') (hk : Bx w k cs) (hne : k ≠ b) : Bx w' k cs := by
  have hl := hk.lt
  obtain ⟨t, hk⟩ := hk
  exact ⟨t, (h.block k hl hne).trans hk⟩
theorem Rx.own {b : Nat} {w w' : World} {B e s n : Nat} {v : Value} {xs : List Value} (h : Rx b w w') (ho : w.ownsRow B e s v n xs) (hb : b < B) : w'.ownsRow B e s v n xs :=
  ho.kept (row := some b) ⟨h.os, h.tape, h.output, h.size, fun k hk hne => h.block k hk (fun e => hne (by rw [e]))⟩ (.inr (own_old ho hb))
theorem Rx.cell {b : Nat} {w w' : World} {p : Addr} {v : Value} (h : Rx b w w') (hv : w.cell? p = some v) (hne : p.block ≠ b) : w'.cell? p = some v :=
  (World.cell?_of_block (h.block p.block (World.block_lt_of_cell? w _ hv) hne)).trans hv
/-- A reader: its box, at a place of the bytes that lie in an elder world. -/
structure Rd (v : World) (R : Nat) (A : Option Addr) (m c : Nat) (a : Int) (w : World) : Prop where
  ext : Ext v w
  new : v.heap.size ≤ R
  box : Bx w R #[.slice A m c, .int .i64 a]
theorem Rd.on {v : World} {R : Nat} {A : Option Addr} {m c : Nat} {a : Int} {w w' : World} (h : Rd v R A m c a w) (hx : Ext w w') : Rd v R A m c a w' := ⟨h.ext.trans hx, h.new, h.box.ext hx⟩
theorem Rd.at {v : World} {R : Nat} {A : Option Addr} {m c : Nat} {a : Int} {w : World} (h : Rd v R A m c a w) (b : Int) : Rd v R A m c b (w.setCell ⟨R, 1, none⟩ (.int .i64 b)) :=
  ⟨((Rx.refl R w).set 1 _).over h.ext h.new, h.new, h.box.set 1 (.int .i64 b)⟩
theorem Bx.get {w : World} {k o : Nat} {cs : Array Value} {v : Value} (hb : Bx w k cs) (hv : w.cell? ⟨k, o, none⟩ = some v) : cs[o]? = some v := by
  obtain ⟨t, hb⟩ := hb
  unfold World.cell? at hv
  rw [show w.heap[(⟨k, o, none⟩ : Addr).block]? = _ from hb] at hv
  simpa using hv
/-- A box of slices and numbers alone. -/
def NumBox (cs : Array Value) : Prop := ∀ v ∈ cs.toList, (∃ S n d, v = .slice S n d) ∨ ∃ z, v = .int .i64 z
/-- What is neither a slice nor a number lies in no such box. -/
theorem rd_apart {w : World} {R k o : Nat} {cs : Array Value} {v : Value} (hb : Bx w R cs) (hN : NumBox cs) (hv : w.cell? ⟨k, o, none⟩ = some v) (h1 : ∀ S n d, v ≠ .slice S n d) (h2 : ∀ z, v ≠ .int .i64 z) : k ≠ R := fun e => by
  subst e
  have h := hb.get hv
  rcases hN v (by rw [Array.mem_toList_iff]; exact Array.mem_of_getElem? h) with ⟨S, n, d, h3⟩ | ⟨z, h3⟩
  · exact h1 _ _ _ h3
  · exact h2 _ h3
theorem rd_row {w w' : World} {R : Nat} {cs : Array Value} {S : Option Addr} {n d : Nat} {xs : List Value} (hb : Bx w R cs) (hN : NumBox cs) (hx : Rx R w w') (hs : Sl w S n d xs) (hne : ∀ u ∈ xs, (∀ S n d, u ≠ .slice S n d) ∧ (∀ z, u ≠ .int .i64 z)) : Sl w' S n d xs := by
  refine ⟨hs.1, hs.2.1, hs.2.2.1, fun h => ?_⟩
  obtain ⟨k, off, rfl, hlt, hc⟩ := hs.cells h
  refine ⟨k, off, rfl, Nat.lt_of_lt_of_le hlt hx.size, fun j u hu => ?_⟩
  have h1 := hne u (List.mem_of_getElem? hu)
  exact hx.cell (hc j u hu) (rd_apart hb hN (hc j u hu) h1.1 h1.2)
theorem numBox2 (A : Option Addr) (m c : Nat) (a : Int) : NumBox #[.slice A m c, .int .i64 a] := by
  intro v hv
  simp only [List.mem_cons, List.not_mem_nil, or_false] at hv
  rcases hv with rfl | rfl
  · exact .inl ⟨_, _, _, rfl⟩
  · exact .inr ⟨_, rfl⟩
theorem numBox1 (a : Int) : NumBox #[.int .i64 a] := by
  intro v hv
  simp only [List.mem_cons, List.not_mem_nil, or_false] at hv
  exact .inr ⟨a, hv⟩
theorem numBox6 (A1 A2 A3 : Option Addr) (n1 c1 n2 c2 n3 c3 : Nat) (x y z : Int) : NumBox #[.slice A1 n1 c1, .int .i64 x, .slice A2 n2 c2, .slice A3 n3 c3, .int .i64 y, .int .i64 z] := by
  intro v hv
  simp only [List.mem_cons, List.not_mem_nil, or_false] at hv
  rcases hv with rfl | rfl | rfl | rfl | rfl | rfl
  · exact .inl ⟨_, _, _, rfl⟩
  · exact .inr ⟨_, rfl⟩
  · exact .inl ⟨_, _, _, rfl⟩
  · exact .inl ⟨_, _, _, rfl⟩
  · exact .inr ⟨_, rfl⟩
  · exact .inr ⟨_, rfl⟩
theorem cxv_apart (l : List Tk) : ∀ u ∈ l.map cxv, (∀ S n d, u ≠ .slice S n d) ∧ (∀ z, u ≠ .int .i64 z) := by
  intro u hu
  obtain ⟨x, _, rfl⟩ := List.mem_map.1 hu
  exact ⟨fun _ _ _ h => (by cases h), fun _ h => (by cases h)⟩
theorem Rd.app {v : World} {R : Nat} {A : Option Addr} {m c : Nat} {a : Int} {u w : World} {B e s n : Nat} {x : Value} {xs : List Value} (h : Rd v R A m c a u) (o : u.ownsRow B e s x n xs) (hB : R < B) (hg : u.grownBy w x.ownBlock) : Rd v R A m c a w :=
  ⟨h.ext.app o (Nat.le_trans h.new (Nat.le_of_lt hB)) hg, h.new, h.box.grown hg (own_old o hB)⟩
theorem rdMust_any (p : Value) (b : Bool) (w : World) :
    Calls Tryz.prog 117 #[p, .bool b] w fun e w' => e = (if b then .returned (.tuple #[]) else .panicked rdPanic) ∧ w = w' := by
  unfold rdPanic
  go_enter Tryz.func117, Tryz.ntmps117
  cases b
  · go_wp2
    exact ⟨rfl, rfl, rfl⟩
  · go_wp2
    go_end0
    exact ⟨rfl, rfl⟩
set_option maxHeartbeats 1600000 in
theorem rdNumber_any (v : World) (R : Nat) (A : Option Addr) (l : List UInt8) (m c : Nat) (a wide : Int) (w : World) (hm : m = l.length) (hA : Sl v A m c (l.map bv)) (h : Rd v R A m c a w) (ha : 0 ≤ a) (hb : a ≤ m) :
    Calls Tryz.prog 111 #[.pointer (some ⟨R, 0, none⟩), .int .i64 wide] w fun e w' => ((∃ n, takeS l a wide = some n ∧ e = .returned (.int .i64 n) ∧ Rd v R A m c (a + wide) w') ∨ (takeS l a wide = none ∧ e = .panicked rdPanic ∧ Rd v R A m c a w')) ∧ Rx R w w' := by
  have hlen := hA.len
  unfold maxLen at hlen
  subst hm
  have HT := Lib.hid (fun w' (hx : Ext v w') => (numTake_any A l c a wide w' hA.len (hA.ext hx).cells (by omega) (by omega)).mono fun e w'' (h : e = _ ∧ w' = w'') => (show e = _ ∧ w'' = w' from ⟨h.1, h.2.symm⟩))
  have HR := Lib.hid h
  have HM := Lib.hid (fun p b w => rdMust_any p b w)
  obtain ⟨p0, p1, hlt⟩ := h.box.read2
  obtain ⟨f0, f1⟩ := h.box.free2
  cases h1 : takeS l a wide with
  | none =>
    have H1 := Lib.hid (fun w' hx => HT.out w' hx)
    rw [takeV_no h1] at H1
    clear h1 HT h hA
    go_enter Tryz.func111, Tryz.ntmps111
    go_wp2_with fail
    go_quiet ((go_at_call 119; exact Calls.quiet_of_same (H1.out _ (by first | exact HR.out.ext.drewN _ | exact HR.out.ext.drew | exact HR.out.ext))))
    go_wp2_with ((go_at_call 117; with_reducible refine (HM.out _ false _).mono ?_; rintro e w' ⟨rfl, rfl⟩))
    exact ⟨rfl, .inr ⟨trivial, rfl, HR.out.on (by first | exact (Ext.refl _).drewN _ | exact (Ext.refl _).drew)⟩, Rx.of_ext (by first | exact (Ext.refl _).drewN _ | exact (Ext.refl _).drew)⟩
  | some n =>
    have H1 := Lib.hid (fun w' hx => HT.out w' hx)
    rw [takeV_is h1] at H1
    clear h1 HT h hA
    go_enter Tryz.func111, Tryz.ntmps111
    go_wp2_with fail
    go_quiet ((go_at_call 119; exact Calls.quiet_of_same (H1.out _ (by first | exact HR.out.ext.drewN _ | exact HR.out.ext.drew | exact HR.out.ext))))
    go_wp2_with ((go_at_call 117; with_reducible refine (HM.out _ true _).mono ?_; rintro e w' ⟨rfl, rfl⟩))
    go_ret
    exact ⟨.inl ⟨n, by first | rfl | trivial, rfl, (HR.out.on ((Ext.refl w).drewN _)).at _⟩, (Rx.of_ext ((Ext.refl w).drewN _)).set 1 _⟩
set_option maxHeartbeats 1600000 in
theorem rdTasks_any (v : World) (R : Nat) (A : Option Addr) (l : List UInt8) (m c : Nat) (a : Int) (w : World) (hm : m = l.length) (hA : Sl v A m c (l.map bv)) (h : Rd v R A m c a w) (ha : 0 ≤ a) (hb : a ≤ m) :
    Calls Tryz.prog 114 #[.pointer (some ⟨R, 0, none⟩)] w fun e w' => ((∃ r b S d, tasksP l a 2000 = some (r, b) ∧ e = .returned (.slice S r.length d) ∧ Sl w' S r.length d ((r.map tkB2).map cxv) ∧ Rd v R A m c b w') ∨ (tasksP l a 2000 = none ∧ e = .panicked rdPanic)) ∧ Rx R w w' := by
  have hlen := hA.len
  unfold maxLen at hlen
  have HT := Lib.hid (fun w' (hx : Ext v w') => tdParse_any A l m c a 2000 w' hm (by omega) (by omega) (hA.ext hx))
  have HR := Lib.hid h
  have HM := Lib.hid (fun p b w => rdMust_any p b w)
  obtain ⟨p0, p1, hlt⟩ := h.box.read2
  obtain ⟨f0, f1⟩ := h.box.free2
  clear h hA hm
  have HK := Lib.hid (fun w' (hy : Ext w w') => (show w'.cell? ⟨R, 0, none⟩ = some (.slice A m c) ∧ w'.cell? ⟨R, 1, none⟩ = some (.int .i64 a) from ⟨(HR.out.box.ext hy).read2.1, (HR.out.box.ext hy).read2.2.1⟩))
  cases h1 : tasksP l a 2000 with
  | none =>
    have H1 := Lib.hid (fun w' hx => (HT.out w' hx).mono fun e w'' (g : _ ∧ Ext w' w'') => (show e = .returned (.tuple #[.slice none 0 0, .int .i64 0, .int .i64 2]) ∧ Ext w' w'' from by
      obtain ⟨(⟨r, b, S, d, g1, g2, g3⟩ | ⟨g1, g2⟩), g4⟩ := g
      · rw [h1] at g1; cases g1
      · exact ⟨g2, g4⟩))
    clear HT h1
    go_enter Tryz.func114, Tryz.ntmps114
    go_wp2_with fail
    go_region_held3 (fun w' => w'.cell? ⟨R, 0, none⟩ = some (.slice A m c) ∧ w'.cell? ⟨R, 1, none⟩ = some (.int .i64 a))
      (first | (with_reducible exact HK.out _ (Ext.refl w).drew) | (with_reducible exact HK.out _ (Ext.refl w)) | (with_reducible exact HK.out _ X1.out))
      ((go_at_call 138
        with_reducible refine (H1.out _ ?_).mono ?_
        exact HR.out.ext.drew
        rintro e w1 ⟨rfl, hx⟩
        have X1 := Lib.hid ((Ext.refl w).drew.trans hx)
        clear hx))
    go_wp2_with ((go_at_call 117; with_reducible refine (HM.out _ false _).mono ?_; rintro e w' ⟨rfl, rfl⟩))
    exact ⟨rfl, .inr ⟨by first | rfl | trivial, rfl⟩, Rx.of_ext X1.out⟩
  | some y =>
    obtain ⟨r, b⟩ := y
    have H1 := Lib.hid (fun w' hx => (HT.out w' hx).mono fun e w'' (g : _ ∧ Ext w' w'') => (show ∃ S d, e = .returned (.tuple #[.slice S r.length d, .int .i64 b, .int .i64 0]) ∧ Sl w'' S r.length d ((r.map tkB2).map cxv) ∧ Ext w' w'' from by
      obtain ⟨(⟨r', b', S, d, g1, g2, g3⟩ | ⟨g1, g2⟩), g4⟩ := g
      · rw [h1] at g1; cases g1; exact ⟨S, d, g2, g3, g4⟩
      · rw [h1] at g1; cases g1))
    clear HT h1
    go_enter Tryz.func114, Tryz.ntmps114
    go_wp2_with fail
    go_region_held3 (fun w' => w'.cell? ⟨R, 0, none⟩ = some (.slice A m c) ∧ w'.cell? ⟨R, 1, none⟩ = some (.int .i64 a))
      (first | (with_reducible exact HK.out _ (Ext.refl w).drew) | (with_reducible exact HK.out _ (Ext.refl w)) | (with_reducible exact HK.out _ X1.out))
      ((go_at_call 138
        with_reducible refine (H1.out _ ?_).mono ?_
        exact HR.out.ext.drew
        rintro e w1 ⟨S, d, rfl, hs, hx⟩
        have X1 := Lib.hid ((Ext.refl w).drew.trans hx)
        have HS := Lib.hid hs
        clear hs hx))
    obtain ⟨f0, f1⟩ := (HR.out.box.ext X1.out).free2
    go_wp2_with ((go_at_call 117; with_reducible refine (HM.out _ true _).mono ?_; rintro e w' ⟨rfl, rfl⟩))
    go_ret
    exact ⟨.inl ⟨r, b, S, d, by first | rfl | trivial, rfl, rd_row (HR.out.box.ext X1.out) (numBox2 _ _ _ _) ((Rx.refl R _).set 1 _) HS.out (cxv_apart _), (HR.out.on X1.out).at _⟩, (Rx.of_ext X1.out).set 1 _⟩
end Go.Proofs.YtjbfopnkeclfgaaGreat
namespace Go.Proofs.YtjbfopnkeclfgaaGreat
set_option maxRecDepth 20000
open Go.RowKit
attribute [local go_sem ↓] Go.wp_at_zero Go.wp_at_succ

/-- The volume whose bytes stand at a place. -/
def volP (l : List UInt8) (a : Int) : Option It :=
  match takeS l a 4 with
  | none => none
  | some i => match takeS l (a + 4) 2 with
    | none => none
    | some r => some ((i : Int), (r : Int) - 1)
theorem volP_small {l : List UInt8} {a : Int} {x : It} (h : volP l a = some x) : 0 ≤ a ∧ a + 6 ≤ l.length ∧ 0 ≤ x.1 ∧ -1 ≤ x.2 ∧ x.2 < 65535 := by
  unfold volP at h
  split at h
  · cases h
  · rename_i p h1
    split at h
    · cases h
    · rename_i k h2
      cases h
      have h3 := takeS_at h1
      have h4 := takeS_at h2
      have h5 := takeS_small h2 (by omega)
      refine ⟨h3.1, by omega, ?_, ?_, ?_⟩
      · show (0 : Int) ≤ (p : Int)
        omega
      · show (-1 : Int) ≤ (k : Int) - 1
        omega
      · show (k : Int) - 1 < 65535
        omega
set_option maxHeartbeats 1600000 in
theorem rdVol_any (v : World) (R : Nat) (A : Option Addr) (l : List UInt8) (m c : Nat) (a : Int) (w : World) (hm : m = l.length) (hA : Sl v A m c (l.map bv)) (h : Rd v R A m c a w) (ha : 0 ≤ a) (hb : a ≤ m) :
    Calls Tryz.prog 113 #[.pointer (some ⟨R, 0, none⟩)] w fun e w' => ((∃ x, volP l a = some x ∧ e = .returned (.agg #[.int .i64 x.1, .int .i64 x.2]) ∧ Rd v R A m c (a + 6) w') ∨ (volP l a = none ∧ e = .panicked rdPanic)) ∧ Rx R w w' := by
  have hlt := h.box.lt
  have HN := Lib.hid (fun b wide w' (h : Rd v R A m c b w') (h1 : 0 ≤ b) (h2 : b ≤ m) => rdNumber_any v R A l m c b wide w' hm hA h h1 h2)
  have hk := Bx.new w #[.int .i64 0, .int .i64 0] 103
  have hx := (Ext.refl w).alloc (.cells #[.int .i64 0, .int .i64 0] 103)
  have HR := Lib.hid (h.on hx)
  have HX := Lib.hid (Rx.of_ext (b := R) hx)
  have HK := Lib.hid hk
  have hle : ∀ b, takeS l b 4 ≠ none → b + 4 ≤ m := fun b hn => by
    cases h1 : takeS l b 4 with
    | none => exact absurd h1 hn
    | some n => rw [hm]; exact (takeS_at h1).2.1
  have HLE := Lib.hid hle
  obtain ⟨res, hres⟩ : ∃ r, volP l a = r := ⟨_, rfl⟩
  have HP := Lib.hid hres
  rw [hres]
  clear h hA hk hx hm hle hres
  go_enter Tryz.func113, Tryz.ntmps113
  go_wp2_with (go_at_call 111; refine stop_here ?_)
  refine stop_on ?_
  refine (HN.out a 4 _ HR.out ha hb).mono ?_
  rintro e w1 ⟨(⟨n, h1, rfl, hr1⟩ | ⟨h1, rfl, hr1⟩), hx1⟩
  · have HR1 := Lib.hid hr1
    have HX1 := Lib.hid (HX.out.trans hx1)
    have HK1 := Lib.hid (hx1.bx HK.out (by omega))
    have ha2 : a + 4 ≤ m := HLE.out a (by rw [h1]; simp)
    have H1 := Lib.hid h1
    clear hr1 hx1 h1
    go_wp2_with (go_at_call 111; refine stop_here ?_)
    refine stop_on ?_
    refine (HN.out (a + 4) 2 _ HR1.out (by omega) ha2).mono ?_
    rintro e w2 ⟨(⟨n2, h2, rfl, hr2⟩ | ⟨h2, rfl, hr2⟩), hx2⟩
    · have hn2 := takeS_small h2 (by omega)
      have hwr : IntKind.i64.wrap ((n2 : Int) - 1) = (n2 : Int) - 1 := by simp only [IntKind.wrap_i64]; omega
      have HE := Lib.hid (show res = some ((n : Int), (n2 : Int) - 1) from by rw [← HP.out]; unfold volP; rw [H1.out]; simp only [h2])
      have HR2 := Lib.hid hr2
      have HX2 := Lib.hid (HX1.out.trans hx2)
      have HK2 := Lib.hid (hx2.bx HK1.out (by omega))
      obtain ⟨f0, f1⟩ := HK2.out.free2
      obtain ⟨p0, p1, p2⟩ := HK2.out.read2
      have hne : ¬ R = w.heap.size := by omega
      clear hr2 hx2 h2
      go_wp2
      refine ret2_cell (v := .agg #[.int .i64 n, .int .i64 ((n2 : Int) - 1)]) (HK2.out.set2 (.int .i64 n) (.int .i64 ((n2 : Int) - 1))) (fun r0 r1 => by simp [results, Tryz.results113, go_sem, r0, r1]) rfl ?_
      have hy := (Rx.refl w.heap.size w2).set 0 (.int .i64 n) |>.set 1 (.int .i64 ((n2 : Int) - 1))
      refine ⟨.inl ⟨_, HE.out, rfl, ?_⟩, ?_⟩
      · have h3 := HR2.out
        rw [show a + 4 + 2 = a + 6 by omega] at h3
        exact ⟨hy.over h3.ext (Nat.le_trans HR.out.new (by omega)), h3.new, hy.bx h3.box hne⟩
      · exact (HX2.out.put (Nat.le_refl _) 0 _).put (Nat.le_refl _) 1 _
    · have HE := Lib.hid (show res = none from by rw [← HP.out]; unfold volP; rw [H1.out]; simp only [h2])
      have HX2 := Lib.hid (HX1.out.trans hx2)
      clear hr2 hx2 h2
      go_wp2
      exact ⟨rfl, .inr ⟨HE.out, rfl⟩, HX2.out⟩
  · have HE := Lib.hid (show res = none from by rw [← HP.out]; unfold volP; rw [h1])
    have HX1 := Lib.hid (HX.out.trans hx1)
    clear hr1 hx1 h1
    go_wp2
    exact ⟨rfl, .inr ⟨HE.out, rfl⟩, HX1.out⟩
set_option maxHeartbeats 1600000 in
theorem rdCell_any (v : World) (R : Nat) (A : Option Addr) (l : List UInt8) (m c : Nat) (a : Int) (w : World) (hm : m = l.length) (hA : Sl v A m c (l.map bv)) (h : Rd v R A m c a w) (ha : 0 ≤ a) (hb : a ≤ m) :
    Calls Tryz.prog 116 #[.pointer (some ⟨R, 0, none⟩)] w fun e w' => ((∃ n : Nat, takeS l a 2 = some n ∧ e = .returned (.agg #[.int .i64 n, .bool false, .bool false, .slice none 0 0]) ∧ Rd v R A m c (a + 2) w') ∨ (takeS l a 2 = none ∧ e = .panicked rdPanic)) ∧ Rx R w w' := by
  have hlt := h.box.lt
  have HN := Lib.hid (fun b wide w' (h : Rd v R A m c b w') (h1 : 0 ≤ b) (h2 : b ≤ m) => rdNumber_any v R A l m c b wide w' hm hA h h1 h2)
  have hk := Bx.new w #[.int .i64 0, .bool false, .bool false, .slice none 0 0] 61
  have hx := (Ext.refl w).alloc (.cells #[.int .i64 0, .bool false, .bool false, .slice none 0 0] 61)
  have HR := Lib.hid (h.on hx)
  have HX := Lib.hid (Rx.of_ext (b := R) hx)
  have HK := Lib.hid hk
  obtain ⟨res, hres⟩ : ∃ r, takeS l a 2 = r := ⟨_, rfl⟩
  have HP := Lib.hid hres
  rw [hres]
  clear h hA hk hx hm hres
  go_enter Tryz.func116, Tryz.ntmps116
  go_wp2_with (go_at_call 111; refine stop_here ?_)
  refine stop_on ?_
  refine (HN.out a 2 _ HR.out ha hb).mono ?_
  rintro e w2 ⟨(⟨n, h1, rfl, hr1⟩ | ⟨h1, rfl, hr1⟩), hx1⟩
  · have HE := Lib.hid (show res = some n from by rw [← HP.out]; exact h1)
    have HR2 := Lib.hid hr1
    have HX2 := Lib.hid (HX.out.trans hx1)
    have HK2 := Lib.hid (hx1.bx HK.out (by omega))
    obtain ⟨f0, f1, f2, f3⟩ := (show w2.frozen? ⟨w.heap.size, 0, none⟩ = false ∧ w2.frozen? ⟨w.heap.size, 1, none⟩ = false ∧ w2.frozen? ⟨w.heap.size, 2, none⟩ = false ∧ w2.frozen? ⟨w.heap.size, 3, none⟩ = false from ⟨HK2.out.free 0, HK2.out.free 1, HK2.out.free 2, HK2.out.free 3⟩)
    obtain ⟨p0, p1, p2, p3⟩ := HK2.out.read4
    have hne : ¬ R = w.heap.size := by omega
    clear hr1 hx1 h1
    go_wp2
    have hz := (((HK2.out.set 0 (.int .i64 n)).set 1 (.bool false)).set 2 (.bool false)).set 3 (.slice none 0 0)
    refine bodyPost_ret (v := .agg #[.int .i64 n, .bool false, .bool false, .slice none 0 0]) (by
      have r0 := hz.at 0 (.int .i64 n) rfl
      have r1 := hz.at 1 (.bool false) rfl
      have r2 := hz.at 2 (.bool false) rfl
      have r3 := hz.at 3 (.slice none 0 0) rfl
      simp [results, Tryz.results116, go_sem, r0, r1, r2, r3]) rfl ?_
    have hy := ((((Rx.refl w.heap.size w2).set 0 (.int .i64 n)).set 1 (.bool false)).set 2 (.bool false)).set 3 (.slice none 0 0)
    refine ⟨.inl ⟨_, HE.out, rfl, ?_⟩, ?_⟩
    · have h3 := HR2.out
      exact ⟨hy.over h3.ext (Nat.le_trans HR.out.new (by omega)), h3.new, hy.bx h3.box hne⟩
    · exact (((HX2.out.put (Nat.le_refl _) 0 _).put (Nat.le_refl _) 1 _).put (Nat.le_refl _) 2 _).put (Nat.le_refl _) 3 _
  · have HE := Lib.hid (show res = none from by rw [← HP.out, h1])
    have HX1 := Lib.hid (HX.out.trans hx1)
    clear hr1 hx1 h1
    go_wp2
    exact ⟨rfl, .inr ⟨HE.out, rfl⟩, HX1.out⟩
/-- So many volumes whose bytes stand from a place on. -/
def rowV (l : List UInt8) : Nat → Int → Option (List It)
  | 0, _ => some []
  | m + 1, a => match volP l a with
    | none => none
    | some x => (rowV l m (a + 6)).map (x :: ·)
def volsP (l : List UInt8) (a : Int) : Option (List It × Int) :=
  match takeS l a 1 with
  | none => none
  | some n => (rowV l n (a + 1)).map (fun r => (r, a + 1 + 6 * n))
/-- So many Refs whose bytes stand from a place on. -/
def rowC (l : List UInt8) : Nat → Int → Option (List Int)
  | 0, _ => some []
  | m + 1, a => match takeS l a 2 with
    | none => none
    | some x => (rowC l m (a + 2)).map ((x : Int) :: ·)
def cellsR (l : List UInt8) (a : Int) : Option (List Int × Int) :=
  match takeS l a 2 with
  | none => none
  | some n => (rowC l n (a + 2)).map (fun r => (r, a + 2 + 2 * n))
/-- A cell without a node. -/
def hcOf (r : Int) : HC := ⟨r, false, false, []⟩
def hcV : List Int → List Value
  | [] => []
  | r :: l => .int .i64 r :: .bool false :: .bool false :: .slice none 0 0 :: hcV l
theorem hcV_app (l k : List Int) : hcV (l ++ k) = hcV l ++ hcV k := by
  induction l with
  | nil => rfl
  | cons x l ih => simp [hcV, ih]
theorem hcV_one (l : List Int) : ∀ u ∈ hcV l, u.oneCell' = true := by
  induction l with
  | nil => intro u h; cases h
  | cons x l ih =>
    intro u h
    simp only [hcV, List.mem_cons] at h
    rcases h with rfl | rfl | rfl | rfl | h
    · rfl
    · rfl
    · rfl
    · rfl
    · exact ih u h
theorem hcV_at (w : World) : ∀ l : List Int, HcAt w (hcV l) (l.map hcOf)
  | [] => HcAt.nil w
  | r :: l => by
    have h1 := HcAt.one (w := w) (A := none) (c := 0) (hcOf r) (by
      refine ⟨fun _ => rfl, Nat.le_refl _, by unfold maxLen; omega, Cells.nil _ _⟩)
    have h2 := hcV_at w l
    exact HcAt.app h1 h2
end Go.Proofs.YtjbfopnkeclfgaaGreat
namespace Go.Proofs.YtjbfopnkeclfgaaGreat
set_option maxRecDepth 20000
open Go.RowKit
attribute [local go_sem ↓] Go.wp_at_zero Go.wp_at_succ

theorem infoVol : (Tryz.prog.info? 103).map (fun i => (i.zero, i.size, i.bytes)) = some (some (.agg #[.int .i64 0, .int .i64 0]), 2, 16) := by kernel_rfl
theorem app_vol (w : World) {ops : Array Oper} {rest : List Oper} {o : Oper} {a : Act} {Q : Exit → Act → World → Prop} (hgd : o.guard = none) (s x : Operand)
    (ho : o.op = .call { callee := .builtin .append, args := #[s, x], argTypes := #[31, 31] })
    (B : Nat) (v : Value) (n : Nat) (l : List It) (hs : a.eval s = v) (hown : w.ownsRow B 103 2 v n (ivs l))
    (A : Option Addr) (m c : Nat) (k : List It) (hx : a.eval x = .slice A m c) (hl : k.length = m) (hS : Sl w A m c (ivs k))
    (hsz : n + m ≤ 100000) (hB : B ≤ w.heap.size)
    (h : ∀ A' c' w', w'.ownsRow B 103 2 (.slice A' (n + m) c') (n + m) (ivs (l ++ k)) → w.grownBy w' v.ownBlock → wpList Tryz.prog ops Q rest (a.put o.dst (.slice A' (n + m) c')) w') : wpList Tryz.prog ops Q (o :: rest) a w := by
  refine wpList_app_sl w hgd s x 31 ho B 103 (.agg #[.int .i64 0, .int .i64 0]) 2 16 Tryz.underlying31 infoVol rfl (by omega) v n (ivs l) hs hown A m c (ivs k) hx (by rw [ivs_length, hl]) hS (ivs_oneCell k) (by unfold maxLen; omega) (by omega) hB ?_
  intro A' c' w' h1 h2
  rw [← ivs_append] at h1
  exact h A' c' w' h1 h2
theorem takeS_one {l : List UInt8} {a : Int} {n : Nat} (h : takeS l a 1 = some n) : n < 256 := by
  obtain ⟨h1, h2, h3, h4, rfl⟩ := takeS_at h
  have h5 := leNat_lt ((l.drop a.toNat).take (1 : Int).toNat)
  have h6 : ((l.drop a.toNat).take (1 : Int).toNat).length ≤ 1 := by rw [List.length_take]; exact Nat.min_le_left _ _
  have h7 : 256 ^ ((l.drop a.toNat).take (1 : Int).toNat).length ≤ 256 ^ 1 := Nat.pow_le_pow_right (by omega) h6
  omega
set_option maxRecDepth 100000 in
set_option maxHeartbeats 1600000 in
theorem rdVols_any (v : World) (R : Nat) (A : Option Addr) (l : List UInt8) (m c : Nat) (a : Int) (w : World) (hm : m = l.length) (hA : Sl v A m c (l.map bv)) (h : Rd v R A m c a w) (ha : 0 ≤ a) (hb : a ≤ m) :
    Calls Tryz.prog 112 #[.pointer (some ⟨R, 0, none⟩), .int .i64 1, .func (.func 113) #[.pointer (some ⟨R, 0, none⟩)] #[]] w fun e w' => ((∃ L b S d, volsP l a = some (L, b) ∧ e = .returned (.slice S L.length d) ∧ w'.ownsRow w.heap.size 103 2 (.slice S L.length d) L.length (ivs L) ∧ Rd v R A m c b w') ∨ (volsP l a = none ∧ e = .panicked rdPanic)) ∧ Rx R w w' := by
  have hlt := h.box.lt
  have hlen := hA.len
  unfold maxLen at hlen
  have HN := Lib.hid (fun b wide w' (h : Rd v R A m c b w') (h1 : 0 ≤ b) (h2 : b ≤ m) => rdNumber_any v R A l m c b wide w' hm hA h h1 h2)
  have HV := Lib.hid (fun b w' (h : Rd v R A m c b w') (h1 : 0 ≤ b) (h2 : b ≤ m) => rdVol_any v R A l m c b w' hm hA h h1 h2)
  have HR := Lib.hid h
  have HM := Lib.hid hm
  obtain ⟨res, hres⟩ : ∃ r, volsP l a = r := ⟨_, rfl⟩
  have HP := Lib.hid hres
  rw [hres]
  clear h hA hres
  cases h0 : takeS l a 1 with
  | none =>
    have HE := Lib.hid (show res = none from by rw [← HP.out]; unfold volsP; rw [h0])
    have H0 := Lib.hid h0
    clear h0 hm
    go_enter Tryz.func112, Tryz.ntmps112
    go_wp2_with (go_at_call 111; refine stop_here ?_)
    refine stop_on ?_
    refine (HN.out a 1 _ HR.out ha hb).mono ?_
    rintro e w2 ⟨(⟨n, h1, rfl, hr1⟩ | ⟨h1, rfl, hr1⟩), hx1⟩
    · rw [H0.out] at h1; cases h1
    · have HX1 := Lib.hid hx1
      clear hr1 hx1 h1
      go_wp2
      exact ⟨rfl, .inr ⟨HE.out, rfl⟩, HX1.out⟩
  | some n =>
    have hn := takeS_one h0
    have ha1 : a + 1 ≤ m := by rw [hm]; exact (takeS_at h0).2.1
    have HE := Lib.hid (show res = (rowV l n (a + 1)).map (fun r => (r, a + 1 + 6 * n)) from by rw [← HP.out]; unfold volsP; rw [h0])
    have H0 := Lib.hid h0
    clear h0 hm
    go_enter Tryz.func112, Tryz.ntmps112
    go_wp2_with (go_at_call 111; refine stop_here ?_)
    refine stop_on ?_
    refine (HN.out a 1 _ HR.out ha hb).mono ?_
    rintro e w2 ⟨(⟨n', h1, rfl, hr1⟩ | ⟨h1, rfl, hr1⟩), hx1⟩
    rotate_left 1
    · rw [H0.out] at h1; cases h1
    rw [H0.out] at h1
    cases h1
    have HR1 := Lib.hid hr1
    have HX1 := Lib.hid hx1
    clear hr1 hx1
    go_wp2_with fail
    go_loopw [7, 11] (fun s i wr => ∃ (k : Nat) (ys : List It) (z : Int) (S : Option Addr) (d : Nat), k ≤ n ∧ i = .int .i64 k ∧ z = a + 1 + 6 * k ∧ z ≤ m ∧ s = .slice S k d ∧ ys.length = k ∧ rowV l n (a + 1) = (rowV l (n - k) z).map (ys ++ ·) ∧ wr.ownsRow w.heap.size 103 2 (.slice S k d) k (ivs ys) ∧ Rd v R A m c z wr ∧ Rx R w wr) (fun _ i _ => n - (intOf i).toNat)
    case atStart => exact ⟨0, [], a + 1, none, 0, Nat.zero_le _, rfl, by omega, ha1, rfl, rfl, by cases rowV l n (a + 1) <;> simp, World.ownsRow_nil _ _ _ _, HR1.out, HX1.out⟩
    case round =>
      obtain ⟨k, ys, z, S, d, hk, rfl, hz, hzm, rfl, hys, hrow, ho, hr, hx⟩ := hrel
      have HO := Lib.hid ho
      have HX := Lib.hid hx
      have HRR := Lib.hid hr
      have HZ := Lib.hid hz
      have HYS := Lib.hid hys
      have HRW := Lib.hid hrow
      have hz0 : 0 ≤ z := by omega
      clear ho hx hz hys hrow hr
      rcases Nat.lt_or_ge k n with hlt2 | hge
      · have hki : (k : Int) < (n : Int) := by omega
        obtain ⟨j, hj⟩ : ∃ j, n - k = j + 1 := ⟨n - k - 1, by omega⟩
        have HJ := Lib.hid hj
        clear hj
        go_wp2_with (go_at_call 113; refine stop_here ?_)
        refine stop_on ?_
        refine (HV.out z _ HRR.out hz0 hzm).mono ?_
        rintro e w5 ⟨(⟨x, hx1, rfl, hr5⟩ | ⟨hx1, rfl⟩), hx5⟩
        · have hb4 := (volP_small hx1).2.1
          rw [← HM.out] at hb4
          have HNX := Lib.hid (show rowV l n (a + 1) = (rowV l (n - (k + 1)) (z + 6)).map ((ys ++ [x]) ++ ·) from by
            rw [HRW.out, HJ.out, show n - (k + 1) = j by have := HJ.out; omega, rowV, hx1]
            simp only [Option.map_map]
            congr 1
            funext r
            simp)
          have O5 := Lib.hid (hx5.own HO.out hlt)
          have R5 := Lib.hid hr5
          have X5 := Lib.hid (HX.out.trans hx5)
          clear hx1 hr5 hx5
          go_wp2_with (at_builtin; refine stop_here ?_)
          refine stop_on ?_
          have hy := (Ext.refl w5).alloc (.cells #[.int .i64 x.1, .int .i64 x.2] 103)
          have Y := Lib.hid (X5.out.ext hy)
          have RY := Lib.hid (R5.out.on hy)
          refine app_vol _ rfl _ _ rfl w.heap.size (.slice S k d) k ys rfl (own_ext O5.out hy) (some ⟨w5.heap.size, 0, none⟩) 1 1 [x] rfl rfl (sl_lit w5 _ 1 (ivs [x]) (by unfold maxLen; omega)) (by omega) Y.out.size ?_
          clear hy
          intro S2 d2 w6 hown hg
          have X6 := Lib.hid (Y.out.app (own_ext O5.out ((Ext.refl w5).alloc (.cells #[.int .i64 x.1, .int .i64 x.2] 103))) (Nat.le_refl _) hg)
          have R6 := Lib.hid (RY.out.app (own_ext O5.out ((Ext.refl w5).alloc (.cells #[.int .i64 x.1, .int .i64 x.2] 103))) hlt hg)
          have O6 := Lib.hid hown
          clear hown hg
          go_wp2
          go_roundw
          case rel => exact ⟨k + 1, ys ++ [x], z + 6, S2, d2, by omega, by go_num, by have := HZ.out; omega, by omega, rfl, by rw [List.length_append, HYS.out]; rfl, HNX.out, O6.out, R6.out, X6.out⟩
          case measure => simp [intOf]; omega
        · have HE2 := Lib.hid (show res = none from by
            rw [HE.out, HRW.out, HJ.out, rowV, hx1]
            rfl)
          have X5 := Lib.hid (HX.out.trans hx5)
          clear hx1 hx5
          go_wp2
          exact ⟨rfl, .inr ⟨HE2.out, rfl⟩, X5.out⟩
      · obtain rfl : n = k := by omega
        have HE2 := Lib.hid (show res = some (ys, z) from by
          have h1 := HZ.out
          rw [HE.out, HRW.out, Nat.sub_self]
          simp [rowV]
          omega)
        clear hge
        go_wp2
        go_ret
        exact ⟨.inl ⟨ys, z, S, d, HE2.out, by rw [HYS.out]; rfl, by rw [HYS.out]; exact HO.out, HRR.out⟩, HX.out⟩
set_option maxRecDepth 100000 in
set_option maxHeartbeats 1600000 in
theorem rdCells_any (v : World) (R : Nat) (A : Option Addr) (l : List UInt8) (m c : Nat) (a : Int) (w : World) (hm : m = l.length) (hA : Sl v A m c (l.map bv)) (h : Rd v R A m c a w) (ha : 0 ≤ a) (hb : a ≤ m) :
    Calls Tryz.prog 115 #[.pointer (some ⟨R, 0, none⟩), .int .i64 2, .func (.func 116) #[.pointer (some ⟨R, 0, none⟩)] #[]] w fun e w' => ((∃ L b S d, cellsR l a = some (L, b) ∧ e = .returned (.slice S L.length d) ∧ w'.ownsRow w.heap.size 61 4 (.slice S L.length d) L.length (hcV L) ∧ Rd v R A m c b w') ∨ (cellsR l a = none ∧ e = .panicked rdPanic)) ∧ Rx R w w' := by
  have hlt := h.box.lt
  have hlen := hA.len
  unfold maxLen at hlen
  have HN := Lib.hid (fun b wide w' (h : Rd v R A m c b w') (h1 : 0 ≤ b) (h2 : b ≤ m) => rdNumber_any v R A l m c b wide w' hm hA h h1 h2)
  have HV := Lib.hid (fun b w' (h : Rd v R A m c b w') (h1 : 0 ≤ b) (h2 : b ≤ m) => rdCell_any v R A l m c b w' hm hA h h1 h2)
  have HR := Lib.hid h
  have HM := Lib.hid hm
  obtain ⟨res, hres⟩ : ∃ r, cellsR l a = r := ⟨_, rfl⟩
  have HP := Lib.hid hres
  rw [hres]
  clear h hA hres
  cases h0 : takeS l a 2 with
  | none =>
    have HE := Lib.hid (show res = none from by rw [← HP.out]; unfold cellsR; rw [h0])
    have H0 := Lib.hid h0
    clear h0 hm
    go_enter Tryz.func115, Tryz.ntmps115
    go_wp2_with (go_at_call 111; refine stop_here ?_)
    refine stop_on ?_
    refine (HN.out a 2 _ HR.out ha hb).mono ?_
    rintro e w2 ⟨(⟨n, h1, rfl, hr1⟩ | ⟨h1, rfl, hr1⟩), hx1⟩
    · rw [H0.out] at h1; cases h1
    · have HX1 := Lib.hid hx1
      clear hr1 hx1 h1
      go_wp2
      exact ⟨rfl, .inr ⟨HE.out, rfl⟩, HX1.out⟩
  | some n =>
    have hn := takeS_small h0 (by omega)
    have ha1 : a + 2 ≤ m := by rw [hm]; exact (takeS_at h0).2.1
    have HE := Lib.hid (show res = (rowC l n (a + 2)).map (fun r => (r, a + 2 + 2 * n)) from by rw [← HP.out]; unfold cellsR; rw [h0])
    have H0 := Lib.hid h0
    clear h0 hm
    go_enter Tryz.func115, Tryz.ntmps115
    go_wp2_with (go_at_call 111; refine stop_here ?_)
    refine stop_on ?_
    refine (HN.out a 2 _ HR.out ha hb).mono ?_
    rintro e w2 ⟨(⟨n', h1, rfl, hr1⟩ | ⟨h1, rfl, hr1⟩), hx1⟩
    rotate_left 1
    · rw [H0.out] at h1; cases h1
    rw [H0.out] at h1
    cases h1
    have HR1 := Lib.hid hr1
    have HX1 := Lib.hid hx1
    clear hr1 hx1
    go_wp2_with fail
    go_loopw [7, 11] (fun s i wr => ∃ (k : Nat) (ys : List Int) (z : Int) (S : Option Addr) (d : Nat), k ≤ n ∧ i = .int .i64 k ∧ z = a + 2 + 2 * k ∧ z ≤ m ∧ s = .slice S k d ∧ ys.length = k ∧ rowC l n (a + 2) = (rowC l (n - k) z).map (ys ++ ·) ∧ wr.ownsRow w.heap.size 61 4 (.slice S k d) k (hcV ys) ∧ Rd v R A m c z wr ∧ Rx R w wr) (fun _ i _ => n - (intOf i).toNat)
    case atStart => exact ⟨0, [], a + 2, none, 0, Nat.zero_le _, rfl, by omega, ha1, rfl, rfl, by cases rowC l n (a + 2) <;> simp, World.ownsRow_nil _ _ _ _, HR1.out, HX1.out⟩
    case round =>
      obtain ⟨k, ys, z, S, d, hk, rfl, hz, hzm, rfl, hys, hrow, ho, hr, hx⟩ := hrel
      have HO := Lib.hid ho
      have HX := Lib.hid hx
      have HRR := Lib.hid hr
      have HZ := Lib.hid hz
      have HYS := Lib.hid hys
      have HRW := Lib.hid hrow
      have hz0 : 0 ≤ z := by omega
      clear ho hx hz hys hrow hr
      rcases Nat.lt_or_ge k n with hlt2 | hge
      · have hki : (k : Int) < (n : Int) := by omega
        obtain ⟨j, hj⟩ : ∃ j, n - k = j + 1 := ⟨n - k - 1, by omega⟩
        have HJ := Lib.hid hj
        clear hj
        go_wp2_with (go_at_call 116; refine stop_here ?_)
        refine stop_on ?_
        refine (HV.out z _ HRR.out hz0 hzm).mono ?_
        rintro e w5 ⟨(⟨x, hx1, rfl, hr5⟩ | ⟨hx1, rfl⟩), hx5⟩
        · have hb4 := (takeS_at hx1).2.1
          rw [← HM.out] at hb4
          have HNX := Lib.hid (show rowC l n (a + 2) = (rowC l (n - (k + 1)) (z + 2)).map ((ys ++ [(x : Int)]) ++ ·) from by
            rw [HRW.out, HJ.out, show n - (k + 1) = j by have := HJ.out; omega, rowC, hx1]
            simp only [Option.map_map]
            congr 1
            funext r
            simp)
          have O5 := Lib.hid (hx5.own HO.out hlt)
          have R5 := Lib.hid hr5
          have X5 := Lib.hid (HX.out.trans hx5)
          clear hx1 hr5 hx5
          go_wp2_with (at_builtin; refine stop_here ?_)
          refine stop_on ?_
          have hy := (Ext.refl w5).alloc (.cells #[.int .i64 x, .bool false, .bool false, .slice none 0 0] 61)
          have Y := Lib.hid (X5.out.ext hy)
          have RY := Lib.hid (R5.out.on hy)
          refine app_hcs _ rfl _ _ rfl w.heap.size (.slice S k d) k (hcV ys) rfl (own_ext O5.out hy) (some ⟨w5.heap.size, 0, none⟩) 1 1 (hcV [(x : Int)]) rfl rfl (sl_lit w5 _ 1 (hcV [(x : Int)]) (by unfold maxLen; omega)) (hcV_one _) (by omega) Y.out.size ?_
          clear hy
          intro S2 d2 w6 hown hg
          have X6 := Lib.hid (Y.out.app (own_ext O5.out ((Ext.refl w5).alloc (.cells #[.int .i64 x, .bool false, .bool false, .slice none 0 0] 61))) (Nat.le_refl _) hg)
          have R6 := Lib.hid (RY.out.app (own_ext O5.out ((Ext.refl w5).alloc (.cells #[.int .i64 x, .bool false, .bool false, .slice none 0 0] 61))) hlt hg)
          rw [← hcV_app] at hown
          have O6 := Lib.hid hown
          clear hown hg
          go_wp2
          go_roundw
          case rel => exact ⟨k + 1, ys ++ [(x : Int)], z + 2, S2, d2, by omega, by go_num, by have := HZ.out; omega, by omega, rfl, by rw [List.length_append, HYS.out]; rfl, HNX.out, O6.out, R6.out, X6.out⟩
          case measure => simp [intOf]; omega
        · have HE2 := Lib.hid (show res = none from by
            rw [HE.out, HRW.out, HJ.out, rowC, hx1]
            rfl)
          have X5 := Lib.hid (HX.out.trans hx5)
          clear hx1 hx5
          go_wp2
          exact ⟨rfl, .inr ⟨HE2.out, rfl⟩, X5.out⟩
      · obtain rfl : n = k := by omega
        have HE2 := Lib.hid (show res = some (ys, z) from by
          have h1 := HZ.out
          rw [HE.out, HRW.out, Nat.sub_self]
          simp [rowC]
          omega)
        clear hge
        go_wp2
        go_ret
        exact ⟨.inl ⟨ys, z, S, d, HE2.out, by rw [HYS.out]; rfl, by rw [HYS.out]; exact HO.out, HRR.out⟩, HX.out⟩
end Go.Proofs.YtjbfopnkeclfgaaGreat
namespace Go.Proofs.YtjbfopnkeclfgaaGreat
set_option maxRecDepth 20000
open Go.RowKit
attribute [local go_sem ↓] Go.wp_at_zero Go.wp_at_succ

def fromP (lo x hi : Int) : Bool := decide (lo ≤ x) && decide (x ≤ hi)
theorem bkFrom_any (lo x hi : Int) (w : World) :
    Calls Tryz.prog 139 #[.int .i64 lo, .int .i64 x, .int .i64 hi] w fun e w' => e = .returned (.bool (fromP lo x hi)) ∧ w = w' := by
  unfold fromP
  rcases Int.lt_or_le x lo with h | h
  · have d1 : decide (lo ≤ x) = false := decide_eq_false (by omega)
    rw [d1]
    go_enter Tryz.func139, Tryz.ntmps139
    go_wp2
    go_ret
    exact ⟨rfl, rfl⟩
  · have d1 : decide (lo ≤ x) = true := decide_eq_true h
    rw [d1]
    rcases Int.lt_or_le hi x with k | k
    · have d2 : decide (x ≤ hi) = false := decide_eq_false (by omega)
      rw [d2]
      go_enter Tryz.func139, Tryz.ntmps139
      go_wp2
      go_ret
      exact ⟨rfl, rfl⟩
    · have d2 : decide (x ≤ hi) = true := decide_eq_true k
      rw [d2]
      go_enter Tryz.func139, Tryz.ntmps139
      go_wp2
      go_ret
      exact ⟨rfl, rfl⟩
/-- Is a cell's Ref one that no book tells? -/
def refBad (x : HC) : Bool := !fromP 0 x.ref 65535
theorem bkRefF_any (x : HC) (A : Option Addr) (m c : Nat) (w : World) :
    Calls Tryz.prog 153 #[.agg #[.int .i64 x.ref, .bool x.pin, .bool x.leaf, .slice A m c]] w fun e w' => e = .returned (.bool (refBad x)) ∧ Ext w w' := by
  unfold refBad
  obtain ⟨r, p, l, it⟩ := x
  simp only
  have HF := Lib.hid (fun w' => bkFrom_any 0 r 65535 w')
  have hb := Bx.new w #[.int .i64 r, .bool p, .bool l, .slice A m c] 61
  have HX := Lib.hid ((Ext.refl w).alloc (.cells #[.int .i64 r, .bool p, .bool l, .slice A m c] 61))
  obtain ⟨p0, p1, p2, p3⟩ := hb.read4
  generalize fromP 0 r 65535 = b at *
  clear hb
  go_enter Tryz.func153, Tryz.ntmps153
  go_wp2_with (go_at_call 139; with_reducible refine (HF.out _).mono ?_; rintro e w' ⟨rfl, rfl⟩)
  go_ret
  exact ⟨rfl, HX.out⟩
set_option maxRecDepth 100000 in
set_option maxHeartbeats 1600000 in
theorem bkIdxRef_any (S : Option Addr) (l : List HC) (t d : Nat) (w : World) (hS : HcSl w S t d l) (hl : t ≤ 1000000) :
    Calls Tryz.prog 159 #[.slice S t d, .func (.func 153) #[] #[]] w fun e w' => e = .returned (.int .i64 (idxBy refBad l)) ∧ Ext w w' := by
  have HT := Lib.hid hS.1
  have HS := Lib.hid hS
  have HF := Lib.hid (fun x A m c w => bkRefF_any x A m c w)
  clear hS
  go_enter Tryz.func159, Tryz.ntmps159
  go_wp2_with fail
  go_loopw [8] (fun i wr => ∃ k : Nat, k ≤ t ∧ i = .int .i64 k ∧ (∀ j (hj : j < l.length), j < k → refBad l[j] = false) ∧ Ext w wr) (fun i _ => t - (intOf i).toNat)
  case atStart => exact ⟨0, Nat.zero_le _, rfl, fun _ _ h => by omega, Ext.refl _⟩
  case round =>
    obtain ⟨k, hk, rfl, hb, hx⟩ := hrel
    have HB := Lib.hid hb
    have HX := Lib.hid hx
    clear hb hx
    rcases Nat.lt_or_ge k t with hlt | hlt
    · have hkl : k < l.length := by rw [← HT.out]; exact hlt
      obtain ⟨b, off, rfl, hbl, A, c, c0, c1, c2, c3, _⟩ := (HS.out.ext HX.out).cell hkl
      have hki : (k : Int) < (t : Int) := by omega
      have HH := Lib.hid (fun h => idx_hit (f := refBad) hkl h HB.out)
      have HN := Lib.hid (fun (h : refBad l[k] = false) => (show ∀ j (hj : j < l.length), j < k + 1 → refBad l[j] = false from fun j hj hjk => by
        rcases Nat.lt_or_ge j k with h' | h'
        · exact HB.out j hj h'
        · obtain rfl : j = k := by omega
          exact h))
      have HC := Lib.hid (HF.out l[k] A l[k].it.length c wr)
      clear HB
      generalize refBad l[k] = fy at *
      generalize l[k] = y at *
      obtain ⟨r, p, lf, it⟩ := y
      simp only at c0 c1 c2 c3 HC
      cases fy
      · have HE := Lib.hid (HN.out rfl)
        clear HH HN
        go_wp2_with (go_at_call 153; refine HC.out.mono ?_; rintro e w1 ⟨rfl, hx⟩; have X1 := Lib.hid (HX.out.trans hx); clear hx)
        go_roundw
        case rel => exact ⟨k + 1, by omega, by go_num, HE.out, X1.out⟩
        case measure => simp [intOf]; omega
      · have HE := Lib.hid (HH.out rfl)
        clear HH HN
        go_wp2_with (go_at_call 153; refine HC.out.mono ?_; rintro e w1 ⟨rfl, hx⟩; have X1 := Lib.hid (HX.out.trans hx); clear hx)
        go_ret
        exact ⟨ret_int HE.out.symm, X1.out⟩
    · obtain rfl : k = t := by omega
      have HE := Lib.hid (idx_none (f := refBad) (fun j hj => HB.out j hj (by rw [HT.out]; exact hj)))
      clear hlt
      go_wp2_with fail
      go_ret
      exact ⟨ret_int HE.out.symm, HX.out⟩
set_option maxHeartbeats 800000 in
theorem bkRefs_any (S : Option Addr) (l : List HC) (t d : Nat) (w : World) (hS : HcSl w S t d l) (hl : t ≤ 1000000) :
    Calls Tryz.prog 140 #[.slice S t d] w fun e w' => e = .returned (.bool (!l.any refBad)) ∧ Ext w w' := by
  have HI := Lib.hid (show Calls Tryz.prog 152 #[.slice S t d, .func (.func 153) #[] #[]] w fun e w' => e = .returned (.bool (l.any refBad)) ∧ Ext w w' from by
    have HI := Lib.hid (bkIdxRef_any S l t d w hS hl)
    rw [← idx_any refBad l]
    generalize idxBy refBad l = z at *
    clear hS hl
    go_enter Tryz.func152, Tryz.ntmps152
    go_wp2_with (go_at_call 159; refine HI.out.mono ?_; rintro e w1 ⟨rfl, hx⟩; have X1 := Lib.hid hx; clear hx)
    go_ret
    exact ⟨by first | rfl | simp, X1.out⟩)
  generalize l.any refBad = z at *
  clear hS hl
  go_enter Tryz.func140, Tryz.ntmps140
  go_wp2_with (go_at_call 152; refine HI.out.mono ?_; rintro e w1 ⟨rfl, hx⟩; have X1 := Lib.hid hx; clear hx)
  go_ret
  exact ⟨rfl, X1.out⟩
/-- Is a root neither that of no tree nor a cell that something refers to? -/
def rootBad (c : List HC) (p : Int) : Bool := if p = -1 then false else if 0 ≤ p ∧ p < c.length then decide ((c.getD p.toNat HC.none).ref = 0) else true
set_option maxHeartbeats 1600000 in
theorem bkRootF_any (c : List HC) (p : Int) (R : Option Addr) (n q kb : Nat) (w : World) (hA : HcSl w R n q c) (hn : n ≤ 1000000) (hb : w.cell? ⟨kb, 0, none⟩ = some (.slice R n q)) :
    Calls Tryz.prog 154 #[.int .i64 p, .pointer (some ⟨kb, 0, none⟩)] w fun e w' => e = .returned (.bool (rootBad c p)) ∧ w = w' := by
  have HF := Lib.hid (fun w' => bkFrom_any 0 p ((n : Int) - 1) w')
  have hwr : IntKind.i64.wrap ((n : Int) - 1) = (n : Int) - 1 := by simp only [IntKind.wrap_i64]; omega
  unfold rootBad
  rw [← hA.1]
  by_cases h1 : p = -1
  · have d1 : (p != -1) = false := by simp [h1]
    rw [if_pos h1]
    clear hA hb
    subst h1
    go_enter Tryz.func154, Tryz.ntmps154
    go_wp2
    go_ret
    exact ⟨rfl, rfl⟩
  rw [if_neg h1]
  have d1 : (p != -1) = true := by simpa using h1
  by_cases h2 : 0 ≤ p ∧ p < n
  · rw [if_pos h2]
    obtain ⟨k, rfl⟩ : ∃ k : Nat, p = k := ⟨p.toNat, by omega⟩
    have hf : fromP 0 k ((n : Int) - 1) = true := by unfold fromP; simp; omega
    rw [hf] at HF
    have hkl : k < c.length := by rw [← hA.1]; omega
    obtain ⟨b, off, rfl, hbl, A, cc, c0, c1, c2, c3, _⟩ := hA.cell hkl
    have hg : c.getD k HC.none = c[k] := by rw [List.getD_eq_getElem?_getD, List.getElem?_eq_getElem hkl]; rfl
    rw [Int.toNat_natCast, hg]
    have h2b := h2.2
    generalize c[k].ref = r at *
    clear hA hf h1 hg c1 c2 c3
    go_enter Tryz.func154, Tryz.ntmps154
    go_wp2_with (go_at_call 139; with_reducible refine (HF.out _).mono ?_; rintro e w' ⟨rfl, rfl⟩)
    go_ret
    exact ⟨by first | rfl | (simp; done), rfl⟩
  · rw [if_neg h2]
    have hf : fromP 0 p ((n : Int) - 1) = false := by
      unfold fromP
      rw [Bool.eq_false_iff]
      intro h
      simp only [Bool.and_eq_true, decide_eq_true_eq] at h
      omega
    rw [hf] at HF
    clear hA h2 hf h1
    go_enter Tryz.func154, Tryz.ntmps154
    go_wp2_with (go_at_call 139; with_reducible refine (HF.out _).mono ?_; rintro e w' ⟨rfl, rfl⟩)
    go_ret
    exact ⟨rfl, rfl⟩
end Go.Proofs.YtjbfopnkeclfgaaGreat
