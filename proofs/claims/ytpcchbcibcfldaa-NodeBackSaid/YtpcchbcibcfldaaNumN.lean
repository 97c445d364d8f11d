/- The contracts of bytes and sealed blocks, with lengths as numbers of their own. -/
import Derived.Test.YtpcchbcibcfldaaNumB
import Derived.Test.YtpcchbcibcfldaaLaw
namespace Go.Proofs.Ytpcchbcibcfldaa
open Go.RowKit

theorem openL_len {s : List UInt8} (h : openE s = 0) : (openL s).length = 36 := by
  unfold openE at h
  unfold openL
  cases hs : openS s with
  | none => rw [hs] at h; simp at h
  | some l =>
    unfold openS at hs
    split at hs
    · rename_i hh
      cases hs
      simp [hh.1]
    · cases hs
theorem openL_none {s : List UInt8} (h : openE s ≠ 0) : openL s = [] ∧ openE s = 2 := by
  unfold openE at h ⊢
  unfold openL
  cases hs : openS s with
  | none => simp
  | some l => rw [hs] at h; simp at h
theorem Got.sl {w : World} {v : Value} {l : List UInt8} (h : Got w v l) {n : Nat} (hn : l.length = n) : ∃ A cap, v = .slice A n cap ∧ Sl w A n cap (l.map bv) := by
  obtain ⟨A, cap, rfl, h1, h2, h3, h4⟩ := h
  subst hn
  exact ⟨A, cap, rfl, h3, h1, h2, h4⟩
theorem putS_four {g : Int} (h0 : 0 ≤ g) (h1 : g < 4294967296) : putS g 4 = putL g.toNat 4 := by
  have e : (256 : Int) ^ (4 : Int).toNat = 4294967296 := by decide
  unfold putS; rw [if_pos ⟨by omega, by omega, h0, by rw [e]; exact h1⟩]; rfl

section
variable (g : Int) (w : World) (h0 : 0 ≤ g) (h1 : g < 4294967296)
include h0 h1
theorem numPut_n : Calls Try.prog 28 #[.int .i64 g, .int .i64 4] w fun e w' => ∃ A cap, e = .returned (.slice A 4 cap) ∧ Sl w' A 4 cap ((putL g.toNat 4).map bv) ∧ Ext w w' := by
  refine (numPut_any g 4 w (by omega) (by omega)).mono ?_
  rintro e w' ⟨v, rfl, h, hb⟩
  rw [putS_four h0 h1] at h
  obtain ⟨A, cap, rfl, hs⟩ := h.sl (putL_length 4 _)
  exact ⟨A, cap, rfl, hs, hb⟩
theorem ref01Put_n : Calls Try.prog 30 #[.int .i64 g, .int .i64 4] w fun e w' => ∃ A cap, e = .returned (.slice A 4 cap) ∧ Sl w' A 4 cap ((putL g.toNat 4).map bv) ∧ Ext w w' := by
  refine (ref01Put_any g 4 w (by omega) (by omega)).mono ?_
  rintro e w' ⟨v, rfl, h, hb⟩
  rw [putS_four h0 h1] at h
  obtain ⟨A, cap, rfl, hs⟩ := h.sl (putL_length 4 _)
  exact ⟨A, cap, rfl, hs, hb⟩
end
theorem takeV_four {l : List UInt8} {at_ : Int} {k : Nat} (hk : at_ = (k : Int)) (h : k + 4 ≤ l.length) (z : Int) : takeV l at_ 4 z = .tuple #[.int .i64 (leNat ((l.drop k).take 4) : Nat), .int .i64 (at_ + 4), .int .i64 0] := by
  subst hk
  unfold takeV takeS
  rw [if_pos (by omega)]
  rfl
section
variable (A : Option Addr) (l : List UInt8) (n c : Nat) (at_ : Int) (k : Nat) (w : World) (hn : n = l.length) (hk : at_ = (k : Int)) (h : k + 4 ≤ n) (hS : Sl w A n c (l.map bv))
include hn hk h hS
theorem numTake_n : Calls Try.prog 47 #[.slice A n c, .int .i64 at_, .int .i64 4] w fun e w' => e = .returned (.tuple #[.int .i64 (leNat ((l.drop k).take 4) : Nat), .int .i64 (at_ + 4), .int .i64 0]) ∧ w = w' := by
  subst hn
  have hl := hS.len
  rw [← takeV_four hk h 2]
  exact numTake_any A l c at_ 4 w hl hS.cells (by omega) (by unfold maxLen at hl; omega)
theorem ref01Take_n : Calls Try.prog 35 #[.slice A n c, .int .i64 at_, .int .i64 4] w fun e w' => e = .returned (.tuple #[.int .i64 (leNat ((l.drop k).take 4) : Nat), .int .i64 (at_ + 4), .int .i64 0]) ∧ w = w' := by
  subst hn
  have hl := hS.len
  rw [← takeV_four hk h 2]
  exact ref01Take_any A l c at_ 4 w hl hS.cells (by omega) (by unfold maxLen at hl; omega)
end
section
variable (s : ByteArray) (w : World) (hs : s.size ≤ maxLen)
include hs
theorem numOpen_y (h : openE s.data.toList = 0) : Calls Try.prog 32 #[.string s] w fun e w' => ∃ A cap, e = .returned (.tuple #[.slice A 36 cap, .int .i64 0]) ∧ Sl w' A 36 cap ((openL s.data.toList).map bv) ∧ Ext w w' := by
  refine (numOpen_any s w hs).mono ?_
  rintro e w' ⟨v, rfl, hg, hb⟩
  obtain ⟨A, cap, rfl, hS⟩ := hg.sl (openL_len h)
  exact ⟨A, cap, by rw [h], hS, hb⟩
theorem numOpen_n (h : openE s.data.toList ≠ 0) : Calls Try.prog 32 #[.string s] w fun e w' => ∃ A cap, e = .returned (.tuple #[.slice A 0 cap, .int .i64 2]) ∧ Ext w w' := by
  refine (numOpen_any s w hs).mono ?_
  rintro e w' ⟨v, rfl, hg, hb⟩
  obtain ⟨h1, h2⟩ := openL_none h
  obtain ⟨A, cap, rfl, _⟩ := hg.sl (n := 0) (by rw [h1]; rfl)
  exact ⟨A, cap, by rw [h2], hb⟩
theorem ref01Open_y (h : openE s.data.toList = 0) : Calls Try.prog 34 #[.string s] w fun e w' => ∃ A cap, e = .returned (.tuple #[.slice A 36 cap, .int .i64 0]) ∧ Sl w' A 36 cap ((openL s.data.toList).map bv) ∧ Ext w w' := by
  refine (ref01Open_any s w hs).mono ?_
  rintro e w' ⟨v, rfl, hg, hb⟩
  obtain ⟨A, cap, rfl, hS⟩ := hg.sl (openL_len h)
  exact ⟨A, cap, by rw [h], hS, hb⟩
theorem ref01Open_n (h : openE s.data.toList ≠ 0) : Calls Try.prog 34 #[.string s] w fun e w' => ∃ A cap, e = .returned (.tuple #[.slice A 0 cap, .int .i64 2]) ∧ Ext w w' := by
  refine (ref01Open_any s w hs).mono ?_
  rintro e w' ⟨v, rfl, hg, hb⟩
  obtain ⟨h1, h2⟩ := openL_none h
  obtain ⟨A, cap, rfl, _⟩ := hg.sl (n := 0) (by rw [h1]; rfl)
  exact ⟨A, cap, by rw [h2], hb⟩
end
theorem sealV_short {l : List UInt8} (h : l.length ≤ 36) : sealV l = .tuple #[.string (sealB l), .int .i64 0] := by
  unfold sealV sealE; rw [if_pos h]
section
variable (A : Option Addr) (l : List UInt8) (n c : Nat) (w : World) (hn : n = l.length) (h : n ≤ 36) (hS : Sl w A n c (l.map bv))
include hn h hS
theorem numSeal_n : Calls Try.prog 29 #[.slice A n c] w fun e w' => e = .returned (.tuple #[.string (sealB l), .int .i64 0]) ∧ Ext w w' := by
  subst hn
  rw [← sealV_short h]
  exact numSeal_any A l c w hS.len hS.cells
theorem ref01Seal_n : Calls Try.prog 31 #[.slice A n c] w fun e w' => e = .returned (.tuple #[.string (sealB l), .int .i64 0]) ∧ Ext w w' := by
  subst hn
  rw [← sealV_short h]
  exact ref01Seal_any A l c w hS.len hS.1 hS.cells
end
section
variable (A : Option Addr) (l : List UInt8) (n c : Nat) (w : World) (hn : n = l.length) (hS : Sl w A n c (l.map bv))
include hn hS
theorem numSum_n : Calls Try.prog 44 #[.slice A n c] w fun e w' => e = .returned (.int .i64 (crc l : Nat)) ∧ w = w' := by
  subst hn; exact numSum_any A l c w hS.len hS.cells
theorem ref01Sum_n : Calls Try.prog 46 #[.slice A n c] w fun e w' => e = .returned (.int .i64 (crc l : Nat)) ∧ w = w' := by
  subst hn; exact ref01Sum_any A l c w hS.len hS.cells
end
end Go.Proofs.Ytpcchbcibcfldaa
