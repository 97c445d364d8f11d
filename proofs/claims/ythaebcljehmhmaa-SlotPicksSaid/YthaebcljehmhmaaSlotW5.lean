/- Walks of taken, Book and the reference's Book. -/
import Derived.Test.YthaebcljehmhmaaSlotW4
namespace Go.Proofs.Ythaebcljehmhmaa
open Go.RowKit

theorem Bx.set {w : World} {k : Nat} {cs : Array Value} (h : Bx w k cs) (i : Nat) (v : Value) : Bx (w.setCell ⟨k, i, none⟩ v) k (cs.setIfInBounds i v) := by
  obtain ⟨t, h⟩ := h
  refine ⟨t, ?_⟩
  simp [World.setCell, Array.getElem?_modify, h]
theorem Bx.set_other {w : World} {k : Nat} {cs : Array Value} (h : Bx w k cs) {p : Addr} (hp : p.block ≠ k) (v : Value) : Bx (w.setCell p v) k cs := by
  obtain ⟨t, h⟩ := h
  exact ⟨t, by rw [Below.heap_setCell _ _ _ _ (by simpa using Ne.symm hp), h]⟩
theorem Bx.set3 {w : World} {k : Nat} {a b c : Value} (h : Bx w k #[a, b, c]) (x y z : Value) : Bx (((w.setCell ⟨k, 0, none⟩ x).setCell ⟨k, 1, none⟩ y).setCell ⟨k, 2, none⟩ z) k #[x, y, z] :=
  ((h.set 0 x).set 1 y).set 2 z
theorem Ext.store3 {w0 w : World} (h : Ext w0 w) {k : Nat} (hk : w0.heap.size ≤ k) (x y z : Value) : Ext w0 (((w.setCell ⟨k, 0, none⟩ x).setCell ⟨k, 1, none⟩ y).setCell ⟨k, 2, none⟩ z) :=
  ((h.set (p := ⟨k, 0, none⟩) hk x).set (p := ⟨k, 1, none⟩) hk y).set (p := ⟨k, 2, none⟩) hk z
theorem Bx.free3 {w : World} {k : Nat} {a b c : Value} (h : Bx w k #[a, b, c]) : w.frozen? ⟨k, 0, none⟩ = false ∧ w.frozen? ⟨k, 1, none⟩ = false ∧ w.frozen? ⟨k, 2, none⟩ = false := ⟨h.free 0, h.free 1, h.free 2⟩

def takK (a b c : Int) : Nat → Array Value
  | 0 => #[.int .i64 0, .int .i64 0, .int .i64 0]
  | 1 => #[.int .i64 a, .int .i64 0, .int .i64 0]
  | 2 => #[.int .i64 a, .int .i64 b, .int .i64 0]
  | _ => #[.int .i64 a, .int .i64 b, .int .i64 c]

set_option maxRecDepth 100000 in
set_option maxHeartbeats 2000000 in
theorem slotTaken_any (A : Option Addr) (l : List UInt8) (c : Nat) (w : World) (hl : l.length = 36) (hS : Sl w A 36 c (l.map bv)) :
    Calls Try.prog 25 #[.slice A 36 c] w fun e w' => e = .returned (Sup.v (supAt l)) ∧ Ext w w' := by
  have HT0 := Lib.hid (fun w' (hx : Ext w w') => numTake_n A l 36 c 2 2 w' hl.symm rfl (by omega) (hS.ext hx))
  have HT1 := Lib.hid (fun w' (hx : Ext w w') => numTake_n A l 36 c 6 6 w' hl.symm rfl (by omega) (hS.ext hx))
  have HT2 := Lib.hid (fun w' (hx : Ext w w') => numTake_n A l 36 c 10 10 w' hl.symm rfl (by omega) (hS.ext hx))
  unfold Sup.v supAt
  simp only
  generalize ((leNat ((l.drop 2).take 4) : Nat) : Int) = n0 at *
  generalize ((leNat ((l.drop 6).take 4) : Nat) : Int) = n1 at *
  generalize ((leNat ((l.drop 10).take 4) : Nat) : Int) = n2 at *
  clear hl hS
  go_enter Try.func25, Try.ntmps25
  go_wp2
  generalize hW : (World.alloc (World.alloc w _) _) = W
  obtain ⟨hx, hb0, hb1⟩ := allocs2 hW
  have HX := Lib.hid hx
  have HB0 := Lib.hid hb0
  have HB1 := Lib.hid hb1
  clear hx hb0 hb1 hW
  go_loopw [4, 6] (fun v i wr => ∃ k : Nat, k ≤ 3 ∧ i = .int .i64 k ∧ v = .int .i64 (2 + 4 * k) ∧ Ext w wr ∧ Bx wr w.heap.size #[.int .i64 0, .int .i64 0, .int .i64 0] ∧ Bx wr (w.heap.size + 1) (takK n0 n1 n2 k)) (fun _ i _ => 3 - (intOf i).toNat)
  case atStart => exact ⟨0, by omega, rfl, rfl, HX.out, HB0.out, HB1.out⟩
  case round =>
    obtain ⟨k, hk, rfl, rfl, hxr, hbr0, hbr1⟩ := hrel
    have HXR := Lib.hid hxr
    have HC0 := Lib.hid hbr0
    have HC1 := Lib.hid hbr1
    clear hxr hbr0 hbr1
    have hk3 : k = 0 ∨ k = 1 ∨ k = 2 ∨ k = 3 := by omega
    rcases hk3 with rfl | rfl | rfl | rfl
    · obtain ⟨r0, r1, r2⟩ := Bx.read3 (a := .int .i64 0) (b := .int .i64 0) (c := .int .i64 0) HC1.out
      obtain ⟨f0, f1, f2⟩ := Bx.free3 (a := .int .i64 0) (b := .int .i64 0) (c := .int .i64 0) HC1.out
      have r3 := HC1.out.lt
      go_wp2_with (go_at_call 32; refine (HT0.out _ HXR.out).mono ?_; rintro e w2 ⟨rfl, rfl⟩)
      go_roundw
      case rel => exact ⟨1, by omega, by go_num, by go_num, HXR.out.set (p := ⟨_, 0, none⟩) (by simp) _, HC0.out.set_other (p := ⟨_, 0, none⟩) (by simp) _, HC1.out.set 0 _⟩
      case measure => simp [intOf]
    · obtain ⟨r0, r1, r2⟩ := Bx.read3 (a := .int .i64 n0) (b := .int .i64 0) (c := .int .i64 0) HC1.out
      obtain ⟨f0, f1, f2⟩ := Bx.free3 (a := .int .i64 n0) (b := .int .i64 0) (c := .int .i64 0) HC1.out
      have r3 := HC1.out.lt
      go_wp2_with (go_at_call 32; refine (HT1.out _ HXR.out).mono ?_; rintro e w2 ⟨rfl, rfl⟩)
      go_roundw
      case rel => exact ⟨2, by omega, by go_num, by go_num, HXR.out.set (p := ⟨_, 1, none⟩) (by simp) _, HC0.out.set_other (p := ⟨_, 1, none⟩) (by simp) _, HC1.out.set 1 _⟩
      case measure => simp [intOf]
    · obtain ⟨r0, r1, r2⟩ := Bx.read3 (a := .int .i64 n0) (b := .int .i64 n1) (c := .int .i64 0) HC1.out
      obtain ⟨f0, f1, f2⟩ := Bx.free3 (a := .int .i64 n0) (b := .int .i64 n1) (c := .int .i64 0) HC1.out
      have r3 := HC1.out.lt
      go_wp2_with (go_at_call 32; refine (HT2.out _ HXR.out).mono ?_; rintro e w2 ⟨rfl, rfl⟩)
      go_roundw
      case rel => exact ⟨3, by omega, by go_num, by go_num, HXR.out.set (p := ⟨_, 2, none⟩) (by simp) _, HC0.out.set_other (p := ⟨_, 2, none⟩) (by simp) _, HC1.out.set 2 _⟩
      case measure => simp [intOf]
    · obtain ⟨r0, r1, r2⟩ := Bx.read3 (a := .int .i64 n0) (b := .int .i64 n1) (c := .int .i64 n2) HC1.out
      have r3 := HC1.out.lt
      obtain ⟨s0, s1, s2⟩ := HC0.out.read3
      obtain ⟨f0, f1, f2⟩ := HC0.out.free3
      have s3 := HC0.out.lt
      go_wp2
      have HB := Lib.hid (HC0.out.set3 (.int .i64 n0) (.int .i64 n1) (.int .i64 n2))
      have HX2 := Lib.hid (HXR.out.store3 (k := w.heap.size) (by omega) (.int .i64 n0) (.int .i64 n1) (.int .i64 n2))
      clear r0 r1 r2 s0 s1 s2 f0 f1 f2
      obtain ⟨r0, r1, r2⟩ := HB.out.read3
      refine bodyPost_ret (v := .agg #[.int .i64 n0, .int .i64 n1, .int .i64 n2]) (by simp [results, Try.results25, go_sem, r0, r1, r2]) rfl ⟨rfl, HX2.out⟩

set_option maxHeartbeats 1000000 in
theorem slotBook_any (A : Option Addr) (l : List UInt8) (n c : Nat) (w : World) (hn : n = l.length) (hS : Sl w A n c (l.map bv)) :
    Calls Try.prog 15 #[.slice A n c] w fun e w' => e = .returned (.tuple #[.int .i64 n, .int .i64 (crc l : Nat)]) ∧ w = w' := by
  have HS := Lib.hid (numSum_n A l n c w hn hS)
  clear hS hn
  go_enter Try.func15, Try.ntmps15
  go_wp2_with (go_at_call 28; refine HS.out.mono ?_; rintro e w' ⟨rfl, rfl⟩)
  go_ret2
  exact ⟨rfl, rfl⟩
set_option maxHeartbeats 1000000 in
theorem ref03Book_any (A : Option Addr) (l : List UInt8) (n c : Nat) (w : World) (hn : n = l.length) (hS : Sl w A n c (l.map bv)) :
    Calls Try.prog 16 #[.slice A n c] w fun e w' => e = .returned (.tuple #[.int .i64 n, .int .i64 (crc l : Nat)]) ∧ w = w' := by
  have HS := Lib.hid (ref01Sum_n A l n c w hn hS)
  clear hS hn
  go_enter Try.func16, Try.ntmps16
  go_wp2_with (go_at_call 29; refine HS.out.mono ?_; rintro e w' ⟨rfl, rfl⟩)
  go_ret2
  exact ⟨rfl, rfl⟩
end Go.Proofs.Ythaebcljehmhmaa
