/- Walks of Open. -/
import Derived.Test.YtpcchbcibcfldaaNumW7
namespace Go.Proofs.Ytpcchbcibcfldaa
open Go.RowKit

/-- P1.3: what is in a sealed block. -/
def openS (s : List UInt8) : Option (List UInt8) := if s.length = 40 ∧ leNat ((s.drop 36).take 4) = crc (s.take 36) then some (s.take 36) else none
def openE (s : List UInt8) : Int := if (openS s).isSome then 0 else 2
def openL (s : List UInt8) : List UInt8 := (openS s).getD []

/-- A string made a slice of bytes. -/
theorem conv_bytes (s : ByteArray) (w : World) (hs : s.size ≤ maxLen) : ∃ cap W, (convert 9 57 (.string s)).run Try.prog w = .ok (.slice (some ⟨w.heap.size, 0, none⟩) s.size cap) W ∧
    Below w.heap.size w W ∧ s.size ≤ cap ∧ cap ≤ maxLen ∧ Cells W (some ⟨w.heap.size, 0, none⟩) (s.data.toList.map bv) := by
  refine ⟨_, _, run_bytes_of_string (P := Try.prog) w 9 57 5 s Try.underlying9 Try.underlying57 Try.underlying5, ((Below.refl _ _).drew).alloc (Nat.le_refl _) _, grownCap_ge _ _ _ _, grownCap_le_maxLen _ _ _ _ hs, fun _ => ⟨_, 0, rfl, ?_, fun j u hu => ?_⟩⟩
  · have : w.drew.heap.size = w.heap.size := rfl
    simp [this]
  · rw [Nat.zero_add]
    refine (World.cell?_alloc_mark w.drew _ 5 _ j).trans ?_
    have hj : j < s.data.size := by have := (List.getElem?_eq_some_iff.1 hu).1; simpa using this
    rw [bytesRow_at s _ j hj, ← hu]
    simp [bv, List.getElem?_map, Array.getElem?_toList, Array.getElem?_eq_getElem hj]

theorem extract36 (s : ByteArray) : (s.extract 0 36).data.toList = s.data.toList.take 36 := by
  simp

theorem open_yes {s : List UInt8} (h : s.length = 40) (hq : leNat ((s.drop 36).take 4) = crc (s.take 36)) : openE s = 0 ∧ openL s = s.take 36 := by
  have e : openS s = some (s.take 36) := by unfold openS; rw [if_pos ⟨h, hq⟩]
  unfold openE openL; rw [e]; exact ⟨rfl, rfl⟩
theorem open_no {s : List UInt8} (h : ¬ (s.length = 40 ∧ leNat ((s.drop 36).take 4) = crc (s.take 36))) : openE s = 2 ∧ openL s = [] := by
  have e : openS s = none := by unfold openS; rw [if_neg h]
  unfold openE openL; rw [e]; exact ⟨rfl, rfl⟩
theorem take36 (s : List UInt8) (h : s.length = 40) (z : Int) : takeV s 36 4 z = .tuple #[.int .i64 (leNat ((s.drop 36).take 4) : Nat), .int .i64 40, .int .i64 0] :=
  takeV_some (a := 36) (m := 4) (by omega) (by omega) (by omega)

set_option maxHeartbeats 1000000 in
theorem numOpen_any (s : ByteArray) (w : World) (hs : s.size ≤ maxLen) :
    Calls Try.prog 32 #[.string s] w fun e w' => ∃ v, e = .returned (.tuple #[v, .int .i64 (openE s.data.toList)]) ∧ Got w' v (openL s.data.toList) ∧ Below w.heap.size w w' := by
  by_cases h40 : s.size = 40
  · have t1 : ((s.size : Int) != 40) = false := by simp; omega
    have hl40 : s.data.toList.length = 40 := by simpa using h40
    have h36 : (s.extract 0 36).size = 36 := by rw [ByteArray.size_extract]; omega
    obtain ⟨c1, W1, e1, b1, hc1, hm1, g1⟩ := conv_bytes (s.extract 0 36) w (by rw [h36]; unfold maxLen; omega)
    obtain ⟨c2, W2, e2, b2, hc2, hm2, g2⟩ := conv_bytes s W1 hs
    rw [extract36] at g1
    rw [h36] at e1 hc1
    rw [h40] at e2
    have hT := numTake_any (some ⟨W1.heap.size, 0, none⟩) s.data.toList c2 36 4 W2 (by rw [hl40]; unfold maxLen; omega) g2 (by omega) (by omega)
    rw [take36 _ hl40, hl40] at hT
    have hS := numSum_any (some ⟨w.heap.size, 0, none⟩) (s.data.toList.take 36) c1 W2 (by simp; unfold maxLen; omega) (g1.below b2)
    have hl36 : (s.data.toList.take 36).length = 36 := by rw [List.length_take, hl40]; rfl
    rw [hl36] at hS
    have HG : Hid (Got W2 (.slice (some ⟨w.heap.size, 0, none⟩) 36 c1) (s.data.toList.take 36)) := ⟨_, c1, by rw [hl36], by rw [hl36]; exact hc1, hm1, (fun h => by cases h), g1.below b2⟩
    have HT := Lib.hid hT
    have HS := Lib.hid hS
    have HB := Lib.hid (b1.trans (b2.mono b1.size))
    have hge : 36 ≤ s.size := by omega
    have HL := Lib.hid hl40
    by_cases hq : leNat ((s.data.toList.drop 36).take 4) = crc (s.data.toList.take 36)
    · have HE := Lib.hid (open_yes hl40 hq)
      have t2 : ((leNat ((s.data.toList.drop 36).take 4) : Int) != (crc (s.data.toList.take 36) : Nat)) = false := by simp [hq]
      clear hq hl40 hl36 h40 hT hS g1 g2 b1 b2
      generalize leNat ((s.data.toList.drop 36).take 4) = x at *
      generalize crc (s.data.toList.take 36) = y at *
      go_enter Try.func32, Try.ntmps32
      go_wp2_with (first | (go_at_call 47; refine HT.out.mono ?_; rintro e w' ⟨rfl, rfl⟩) | (go_at_call 44; refine HS.out.mono ?_; rintro e w' ⟨rfl, rfl⟩))
      go_ret2
      refine ⟨.slice (some ⟨w.heap.size, 0, none⟩) 36 c1, ?_, ?_, HB.out⟩
      · rw [HE.out.1]; rfl
      · rw [HE.out.2]; exact HG.out
    · have HE := Lib.hid (open_no (s := s.data.toList) (fun h => hq h.2))
      have t2 : ((leNat ((s.data.toList.drop 36).take 4) : Int) != (crc (s.data.toList.take 36) : Nat)) = true := by simp; omega
      clear hq hl40 hl36 h40 hT hS g1 g2 b1 b2
      generalize leNat ((s.data.toList.drop 36).take 4) = x at *
      generalize crc (s.data.toList.take 36) = y at *
      go_enter Try.func32, Try.ntmps32
      go_wp2_with (first | (go_at_call 47; refine HT.out.mono ?_; rintro e w' ⟨rfl, rfl⟩) | (go_at_call 44; refine HS.out.mono ?_; rintro e w' ⟨rfl, rfl⟩))
      go_ret2
      refine ⟨.slice none 0 0, ?_, ?_, HB.out⟩
      · rw [HE.out.1]; rfl
      · rw [HE.out.2]; exact got_nil _
  · have t1 : ((s.size : Int) != 40) = true := by simp; omega
    have HE := Lib.hid (open_no (s := s.data.toList) (fun h => h40 (by simpa using h.1)))
    go_enter Try.func32, Try.ntmps32
    go_wp2
    go_ret2
    refine ⟨.slice none 0 0, ?_, ?_, Below.refl _ _⟩
    · rw [HE.out.1]; rfl
    · rw [HE.out.2]; exact got_nil w

set_option maxHeartbeats 1000000 in
theorem ref01Open_any (s : ByteArray) (w : World) (hs : s.size ≤ maxLen) :
    Calls Try.prog 34 #[.string s] w fun e w' => ∃ v, e = .returned (.tuple #[v, .int .i64 (openE s.data.toList)]) ∧ Got w' v (openL s.data.toList) ∧ Below w.heap.size w w' := by
  by_cases h40 : s.size = 40
  · have t1 : ((s.size : Int) != 40) = false := by simp; omega
    have hl40 : s.data.toList.length = 40 := by simpa using h40
    obtain ⟨c2, W2, e2, b2, hc2, hm2, g2⟩ := conv_bytes s w hs
    rw [h40] at e2 hc2
    have hT := ref01Take_any (some ⟨w.heap.size, 0, none⟩) s.data.toList c2 36 4 W2 (by rw [hl40]; unfold maxLen; omega) g2 (by omega) (by omega)
    rw [take36 _ hl40, hl40] at hT
    have hl36 : (s.data.toList.take 36).length = 36 := by rw [List.length_take, hl40]; rfl
    have g36 : Cells W2 (some ⟨w.heap.size, 0, none⟩) ((s.data.toList.take 36).map bv) := fun _ => by
      obtain ⟨b, off, h, hlt, hc⟩ := g2.byte (k := 0) (by omega)
      refine ⟨b, off, h, hlt, fun j u hu => ?_⟩
      have hj : j < 36 := by have := (List.getElem?_eq_some_iff.1 hu).1; simp at this; omega
      rw [hc j (by omega), ← hu]
      simp [bv, hj, hl40]
    have hS := ref01Sum_any (some ⟨w.heap.size, 0, none⟩) (s.data.toList.take 36) c2 W2 (by simp; unfold maxLen; omega) g36
    rw [hl36] at hS
    have HG : Hid (Got W2 (.slice (some ⟨w.heap.size, 0, none⟩) 36 c2) (s.data.toList.take 36)) := ⟨_, c2, by rw [hl36], by rw [hl36]; omega, hm2, (fun h => by cases h), g36⟩
    have HT := Lib.hid hT
    have HS := Lib.hid hS
    have HB := Lib.hid b2
    have hge : 40 ≤ c2 := hc2
    have hne : ((36 : Int) == (c2 : Int)) = false := by simp; omega
    have HL := Lib.hid hl40
    by_cases hq : leNat ((s.data.toList.drop 36).take 4) = crc (s.data.toList.take 36)
    · have HE := Lib.hid (open_yes hl40 hq)
      have t2 : ((leNat ((s.data.toList.drop 36).take 4) : Int) != (crc (s.data.toList.take 36) : Nat)) = false := by simp [hq]
      clear hq hl40 hl36 h40 hT hS g36 g2 b2
      generalize leNat ((s.data.toList.drop 36).take 4) = x at *
      generalize crc (s.data.toList.take 36) = y at *
      go_enter Try.func34, Try.ntmps34
      go_wp2_with (first | (go_at_call 35; refine HT.out.mono ?_; rintro e w' ⟨rfl, rfl⟩) | (go_at_call 46; refine HS.out.mono ?_; rintro e w' ⟨rfl, rfl⟩))
      go_ret2
      refine ⟨.slice (some ⟨w.heap.size, 0, none⟩) 36 c2, ?_, ?_, HB.out⟩
      · rw [HE.out.1]; rfl
      · rw [HE.out.2]; exact HG.out
    · have HE := Lib.hid (open_no (s := s.data.toList) (fun h => hq h.2))
      have t2 : ((leNat ((s.data.toList.drop 36).take 4) : Int) != (crc (s.data.toList.take 36) : Nat)) = true := by simp; omega
      clear hq hl40 hl36 h40 hT hS g36 g2 b2
      generalize leNat ((s.data.toList.drop 36).take 4) = x at *
      generalize crc (s.data.toList.take 36) = y at *
      go_enter Try.func34, Try.ntmps34
      go_wp2_with (first | (go_at_call 35; refine HT.out.mono ?_; rintro e w' ⟨rfl, rfl⟩) | (go_at_call 46; refine HS.out.mono ?_; rintro e w' ⟨rfl, rfl⟩))
      go_ret2
      refine ⟨.slice none 0 0, ?_, ?_, HB.out⟩
      · rw [HE.out.1]; rfl
      · rw [HE.out.2]; exact got_nil _
  · have t1 : ((s.size : Int) != 40) = true := by simp; omega
    have HE := Lib.hid (open_no (s := s.data.toList) (fun h => h40 (by simpa using h.1)))
    go_enter Try.func34, Try.ntmps34
    go_wp2
    go_ret2
    refine ⟨.slice none 0 0, ?_, ?_, Below.refl _ _⟩
    · rw [HE.out.1]; rfl
    · rw [HE.out.2]; exact got_nil w
theorem open_seal (b : List UInt8) (h : b.length ≤ 36) : openE (sealL b) = 0 ∧ openL (sealL b) = padL b := by
  have hp := padL_length b h
  have e1 : (sealL b).take 36 = padL b := by unfold sealL; rw [← hp]; exact List.take_left
  have e2 : (sealL b).drop 36 = putL (crc (padL b)) 4 := by unfold sealL; rw [← hp]; exact List.drop_left
  rw [← e1]
  refine open_yes (sealL_length b h) ?_
  rw [e1, e2, List.take_of_length_le (by rw [putL_length]; exact Nat.le_refl _), leNat_putL]
  exact Nat.mod_eq_of_lt (by have := crc_lt (padL b); omega)
end Go.Proofs.Ytpcchbcibcfldaa
