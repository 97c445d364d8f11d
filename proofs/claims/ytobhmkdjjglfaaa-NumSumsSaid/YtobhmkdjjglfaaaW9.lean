/- Walk of shown. -/
import Derived.Test.YtobhmkdjjglfaaaW8
import Derived.Lib.SlBytesConst
namespace Go.Proofs.Ytobhmkdjjglfaaa
open Go.RowKit

theorem open_seal (b : List UInt8) (h : b.length ≤ 36) : openE (sealL b) = 0 ∧ openL (sealL b) = padL b := by
  have hp := padL_length b h
  have e1 : (sealL b).take 36 = padL b := by unfold sealL; rw [← hp]; exact List.take_left
  have e2 : (sealL b).drop 36 = putL (crc (padL b)) 4 := by unfold sealL; rw [← hp]; exact List.drop_left
  rw [← e1]
  refine open_yes (sealL_length b h) ?_
  rw [e1, e2, List.take_of_length_le (by rw [putL_length]; exact Nat.le_refl _), leNat_putL]
  exact Nat.mod_eq_of_lt (by have := crc_lt (padL b); omega)

theorem crc_nine : crc [49, 50, 51, 52, 53, 54, 55, 56, 57] = 3421780262 := by decide +kernel
theorem put_258 : putS 258 2 = [2, 1] := by decide +kernel
theorem take_258 : takeV [2, 1] 0 2 2 = .tuple #[.int .i64 258, .int .i64 2, .int .i64 0] := takeV_some (l := [2, 1]) (a := 0) (m := 2) (z := 2) (by omega) (by omega) (by decide)
def ab : List UInt8 := [97, 98]
theorem seal_ab : sealV ab = .tuple #[.string ⟨(sealL ab).toArray⟩, .int .i64 0] := rfl

theorem cells_new (w : World) (C : Array Value) (e : TypeId) (fr : Nat × Nat) : Cells (w.alloc (.cells C e fr)) (some ⟨w.heap.size, 0, none⟩) C.toList := fun _ =>
  ⟨_, 0, rfl, by simp, fun j u hu => by rw [Nat.zero_add]; refine (World.cell?_alloc_mark w C e fr j).trans ?_; rw [← hu]; simp⟩
def nine : List UInt8 := [49, 50, 51, 52, 53, 54, 55, 56, 57]

set_option maxHeartbeats 1000000 in
theorem shown_any (w : World) : Calls Try.prog 9 #[] w fun e w' => e = .returned (.bool true) ∧ Below w.heap.size w w' := by
  go_enter Try.func9, Try.ntmps9
  go_wp2_with fail
  refine (putP_any _ _ _ (by omega) (by omega)).mono ?_
  rw [put_258]
  rintro e w1 ⟨v, rfl, ⟨A, cap, rfl, hc1, hc2, hnil, hcells⟩, hb1⟩
  obtain ⟨b, off, rfl, hlt, hc⟩ := hcells.byte (k := 0) (by decide)
  have HB1 := Lib.hid hb1
  have HC1 := Lib.hid hcells
  have hx0 : w1.cell? ⟨b, off, none⟩ = some (.int .u8 2) := hc 0 (by decide)
  have HX := Lib.hid hx0
  clear hb1 hcells hc hx0
  have hT := takeP_any (some ⟨b, off, none⟩) [2, 1] cap 0 2 w1 (by unfold maxLen; decide) HC1.out (by omega) (by omega)
  rw [take_258] at hT
  have HT := Lib.hid hT; clear hT
  have kc := fun (w : World) (C : Array Value) (n c : Nat) => Lib.run_convert_bytes_const (P := Try.prog) w 22 5 C n c Try.underlying22 Try.underlying5
  go_wp2_with (first | (go_at_call 10; refine HT.out.mono ?_; rintro e w' ⟨rfl, rfl⟩) | (go_at_call 17; refine stop_here ?_))
  refine stop_on ?_
  have hab := cells_new w1 #[.int .u8 97, .int .u8 98] 5 (2, 3)
  have hS := sealP_any (some ⟨w1.heap.size, 0, none⟩) ab 2 _ (by unfold maxLen; decide) hab
  rw [seal_ab] at hS
  refine hS.mono ?_
  rintro e w2 ⟨rfl, hb2⟩
  have HB2 := Lib.hid ((HB1.out.alloc HB1.out.size (.cells #[.int .u8 97, .int .u8 98] 5 (2, 3))).trans (hb2.mono (by have := HB1.out.size; simp; omega)))
  have HB12 := Lib.hid (((Below.refl w1.heap.size w1).alloc (Nat.le_refl _) (.cells #[.int .u8 97, .int .u8 98] 5 (2, 3))).trans (hb2.mono (by simp)))
  clear hS hab hb2
  go_wp2_with (go_at_call 19; refine stop_here ?_)
  refine stop_on ?_
  refine (openP_any _ w2 (by unfold maxLen; decide)).mono ?_
  rw [(open_seal ab (by decide)).1, (open_seal ab (by decide)).2]
  have hz : (((⟨(sealL ab).toArray⟩ : ByteArray).size : Int) == 40) = true := by decide +kernel
  rw [show (padL ab) = padL ab from rfl]
  generalize (⟨(sealL ab).toArray⟩ : ByteArray) = sb at *
  rintro e w3 ⟨v3, rfl, hgot, hb3⟩
  have hl36 := padL_length ab (by decide)
  obtain ⟨A3, cap3, rfl, _, _, _, _⟩ := hgot
  rw [hl36]
  have HB3 := Lib.hid (HB2.out.trans (hb3.mono HB2.out.size))
  have HB13 := Lib.hid (HB12.out.trans (hb3.mono HB12.out.size))
  have HX3 := Lib.hid ((HB13.out.cell (p := ⟨b, off, none⟩) hlt).trans HX.out)
  clear hl36 hb3 HB2 HB12
  have hN := cells_new w3 (nine.map bv).toArray 5 (9, 10)
  have hSum := sumP_any (some ⟨w3.heap.size, 0, none⟩) nine 9 _ (by unfold maxLen; decide) hN
  rw [show crc nine = 3421780262 from crc_nine] at hSum
  have HSum := Lib.hid hSum
  clear hN hSum
  have hxn : ∀ o, (w3.alloc o).cell? ⟨b, off, none⟩ = some (.int .u8 2) := fun o => (World.cell?_alloc_lt w3 o ⟨b, off, none⟩ (Nat.lt_of_lt_of_le hlt HB13.out.size)).trans HX3.out
  go_wp2_with (go_at_call 15; refine HSum.out.mono ?_; rintro e w' ⟨rfl, rfl⟩)
  go_ret
  exact ⟨rfl, HB3.out.alloc HB3.out.size _⟩
end Go.Proofs.Ytobhmkdjjglfaaa
