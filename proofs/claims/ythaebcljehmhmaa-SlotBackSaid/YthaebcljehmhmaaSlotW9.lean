/- The contracts with their values laid, and the walk of the example. -/
import Derived.Test.YthaebcljehmhmaaSlotW8
import Derived.Deep.QuietTactic
import Derived.BigQuiet
import Derived.ChangeSame
namespace Go.Proofs.Ythaebcljehmhmaa
open Go.RowKit

/-- How two of them are compared. -/
theorem eq_sup (a b c d e f : Int) (w : World) : (Op.equalIn 10000 23 (.agg #[.int .i64 a, .int .i64 b, .int .i64 c]) (.agg #[.int .i64 d, .int .i64 e, .int .i64 f])).run Try.prog w = .ok (decide ((a, b, c) = (d, e, f))) w := by
  have u3 := Try.underlying3
  have a3 := Try.isAgg3
  have z3 := Try.sizeOf3
  have hS : Try.prog.underlying 23 = some (.struct (Try.prog.fieldsOf 23)) := by kernel_rfl
  have hp : Try.prog.stoodInHeld 23 = false := by kernel_rfl
  rw [show (10000 : Nat) = 9999 + 1 from rfl, run_equalIn_agg w 9999 23 _ _ hS hp]
  simp only [Program.fieldsOf, Try.underlying23]
  go_simp
  by_cases h1 : a = d <;> by_cases h2 : b = e <;> by_cases h3 : c = f <;> simp [h1, h2, h3]

section
variable (g z s : Int) (w : World) (h : supR ⟨g, z, s⟩ = true)
include h
theorem slotPrint_y : Calls Try.prog 9 #[.agg #[.int .i64 g, .int .i64 z, .int .i64 s]] w fun e w' => e = .returned (.tuple #[.string (supB ⟨g, z, s⟩), .int .i64 0]) ∧ Ext w w' := by
  have k := slotPrint_any g z s w
  unfold supE at k
  rw [h] at k; exact k
theorem ref03Print_y : Calls Try.prog 10 #[.agg #[.int .i64 g, .int .i64 z, .int .i64 s]] w fun e w' => e = .returned (.tuple #[.string (supB ⟨g, z, s⟩), .int .i64 0]) ∧ Ext w w' := by
  have k := ref03Print_any g z s w
  unfold supE at k
  rw [h] at k; exact k
theorem slotRight_y : Calls Try.prog 17 #[.agg #[.int .i64 g, .int .i64 z, .int .i64 s]] w fun e w' => e = .returned (.bool true) ∧ Ext w w' := by
  have k := slotRight_any g z s w
  rw [h] at k; exact k
theorem ref03Right_y : Calls Try.prog 18 #[.agg #[.int .i64 g, .int .i64 z, .int .i64 s]] w fun e w' => e = .returned (.bool true) ∧ Ext w w' := by
  have k := ref03Right_any g z s w
  rw [h] at k; exact k
end
theorem pickV_is {a b : ByteArray} {i : Int} {x : Sup} {e : Int} (h1 : pickI a b = i) (h2 : pickX a b = x) (h3 : pickE a b = e) : pickV a b = .tuple #[.int .i64 i, Sup.v x, .int .i64 e] := by unfold pickV; rw [h1, h2, h3]
section
variable (a b : ByteArray) (w : World) (ha : a.size ≤ maxLen) (hb : b.size ≤ maxLen)
include ha hb
theorem slotPick_is {i g z s e : Int} (h : pickV a b = .tuple #[.int .i64 i, .agg #[.int .i64 g, .int .i64 z, .int .i64 s], .int .i64 e]) : Calls Try.prog 13 #[.string a, .string b] w fun r w' => r = .returned (.tuple #[.int .i64 i, .agg #[.int .i64 g, .int .i64 z, .int .i64 s], .int .i64 e]) ∧ Ext w w' := by
  have k := slotPick_any a b w ha hb
  rw [h] at k; exact k
end

def dig9 : List UInt8 := [49, 50, 51, 52, 53, 54, 55, 56, 57]
theorem crc9 : crc dig9 = 3421780262 := by decide +kernel
theorem one_right : supR ⟨1, 3, 4⟩ = true := by decide
theorem two_right : supR ⟨2, 5, 6⟩ = true := by decide
theorem pick12 : pickV (supB ⟨1, 3, 4⟩) (supB ⟨2, 5, 6⟩) = .tuple #[.int .i64 1, .agg #[.int .i64 2, .int .i64 5, .int .i64 6], .int .i64 0] := by
  unfold pickV pickI pickX pickE
  rw [par_print _ one_right, par_print _ two_right]
  rfl
theorem lit9 (w : World) : Sl (w.alloc (.cells #[.int .u8 49, .int .u8 50, .int .u8 51, .int .u8 52, .int .u8 53, .int .u8 54, .int .u8 55, .int .u8 56, .int .u8 57] 5 (9, 10))) (some ⟨w.heap.size, 0, none⟩) 9 9 (dig9.map bv) := by
  refine ⟨(fun h => by cases h), by omega, by unfold maxLen; omega, fun _ => ⟨_, 0, rfl, by simp, fun j u hu => ?_⟩⟩
  rw [Nat.zero_add, cell_of_row _ _ j _ 5 (9, 10) (heap_alloc_new w _), ← hu]
  unfold dig9
  have hj := (List.getElem?_eq_some_iff.1 hu).1
  simp [dig9] at hj
  rcases (by omega : j = 0 ∨ j = 1 ∨ j = 2 ∨ j = 3 ∨ j = 4 ∨ j = 5 ∨ j = 6 ∨ j = 7 ∨ j = 8) with rfl | rfl | rfl | rfl | rfl | rfl | rfl | rfl | rfl <;> rfl

/-- A constant string's bytes behind one more box. -/
theorem kc_one (w : World) (o : Obj) (C : Array Value) (n c : Nat) : (convert 24 24 (.slice (some ⟨w.heap.size + 1, 0, none⟩) n c)).run Try.prog ((w.alloc o).alloc (.cells C 5)) =
    .ok (.slice (some ⟨w.heap.size + 1, 0, none⟩) n c) ((w.alloc o).alloc (.cells C 5 (C.size, C.size + 1))) := by
  have h := Lib.run_convert_bytes_const (P := Try.prog) (w.alloc o) 24 5 C n c Try.underlying24 Try.underlying5
  have e : (w.alloc o).heap.size = w.heap.size + 1 := by simp
  rw [e] at h; exact h

set_option maxRecDepth 100000 in
set_option maxHeartbeats 4000000 in
theorem shown_any (w : World) : Calls Try.prog 8 #[] w fun e w' => e = .returned (.bool true) ∧ Ext w w' := by
  have ha := supB_size _ one_right
  have hb := supB_size _ two_right
  have HA := Lib.hid (fun w' => slotPrint_y 1 3 4 w' one_right)
  have HB := Lib.hid (fun w' => slotPrint_y 2 5 6 w' two_right)
  have HP := Lib.hid (fun w' => slotPick_is _ _ w' (by rw [ha]; unfold maxLen; omega) (by rw [hb]; unfold maxLen; omega) pick12)
  have HQ := Lib.hid (fun w' => slotParse_y _ w' (by rw [ha]; unfold maxLen; omega) (par_print _ one_right))
  have HR := Lib.hid (fun w' => slotRight_y 1 3 4 w' one_right)
  have kc := kc_one
  have HE := Lib.hid (fun w' => eq_sup 2 5 6 2 5 6 w')
  generalize supB ⟨1, 3, 4⟩ = a at *
  generalize supB ⟨2, 5, 6⟩ = b at *
  clear ha hb
  go_enter Try.func8, Try.ntmps8
  go_wp2_with (first
    | (go_at_call 9; with_reducible refine (HA.out _).mono ?_; rintro e w1 ⟨rfl, hx⟩; have HX1 := Lib.hid hx; clear hx)
    | (go_at_call 9; with_reducible refine (HB.out _).mono ?_; rintro e w2 ⟨rfl, hx⟩; have HX2 := Lib.hid (HX1.out.trans hx); clear hx)
    | (go_at_call 13; with_reducible refine (HP.out _).mono ?_; rintro e w3 ⟨rfl, hx⟩; have HX3 := Lib.hid (HX2.out.trans hx); clear hx)
    | (go_at_call 11; with_reducible refine (HQ.out _).mono ?_; rintro e w4 ⟨rfl, hx⟩; have HX4 := Lib.hid ((HX3.out.alloc _).trans hx); have HB1 := Lib.hid ((Bx.new w3 #[.int .i64 2, .int .i64 5, .int .i64 6] 23).ext hx); clear hx)
    | (go_at_call 15; refine stop_here ?_))
  refine stop_on ?_
  have hS := lit9 (w4.alloc (.cells #[.int .i64 1, .int .i64 3, .int .i64 4] 23))
  have e1 : (w4.alloc (.cells #[.int .i64 1, .int .i64 3, .int .i64 4] 23)).heap.size = w4.heap.size + 1 := by simp
  rw [e1] at hS
  have hK := slotBook_any _ dig9 9 9 _ rfl hS
  rw [crc9] at hK
  refine hK.mono ?_
  rintro e w5 ⟨rfl, hw⟩
  have hb1 := (HB1.out.ext ((Ext.refl w4).alloc (.cells #[.int .i64 1, .int .i64 3, .int .i64 4] 23))).ext ((Ext.refl _).alloc (.cells #[.int .u8 49, .int .u8 50, .int .u8 51, .int .u8 52, .int .u8 53, .int .u8 54, .int .u8 55, .int .u8 56, .int .u8 57] 5 (9, 10)))
  have hb2 := (Bx.new w4 #[.int .i64 1, .int .i64 3, .int .i64 4] 23).ext ((Ext.refl _).alloc (.cells #[.int .u8 49, .int .u8 50, .int .u8 51, .int .u8 52, .int .u8 53, .int .u8 54, .int .u8 55, .int .u8 56, .int .u8 57] 5 (9, 10)))
  have HX5 := Lib.hid (show Ext w w5 from by rw [← hw]; exact (HX4.out.alloc _).alloc _)
  rw [hw] at hb1 hb2
  clear hK hS e1 hw
  obtain ⟨r0, r1, r2⟩ := hb1.read3
  have r3 := hb1.lt
  obtain ⟨s0, s1, s2⟩ := hb2.read3
  have s3 := hb2.lt
  have he := HE.out
  clear hb1 hb2
  go_wp2_with (go_at_call 17; with_reducible refine (HR.out _).mono ?_; rintro e w6 ⟨rfl, hx⟩; have HX6 := Lib.hid (HX5.out.trans hx); clear hx)
  go_ret
  exact ⟨rfl, HX6.out⟩
end Go.Proofs.Ythaebcljehmhmaa
