/- Walks of Seal. -/
import Derived.Test.YtpcchbcibcfldaaNumW5
import Derived.Laws.CopyOwn
namespace Go.Proofs.Ytpcchbcibcfldaa
open Go.RowKit

/-- 36 bytes: b, and bytes 0 behind. -/
def padL (b : List UInt8) : List UInt8 := b ++ List.replicate (36 - b.length) 0
theorem padL_length (b : List UInt8) (h : b.length ≤ 36) : (padL b).length = 36 := by simp [padL]; omega
def sealL (b : List UInt8) : List UInt8 := padL b ++ putL (crc (padL b)) 4
theorem sealL_length (b : List UInt8) (h : b.length ≤ 36) : (sealL b).length = 40 := by simp [sealL, padL_length b h, putL_length]
def sealB (b : List UInt8) : ByteArray := if b.length ≤ 36 then ⟨(sealL b).toArray⟩ else ⟨#[]⟩
def sealE (b : List UInt8) : Int := if b.length ≤ 36 then 0 else 1
def sealV (b : List UInt8) : Value := .tuple #[.string (sealB b), .int .i64 (sealE b)]
theorem putS_crc (l : List UInt8) : putS (crc l : Nat) 4 = putL (crc l) 4 := putS_some (n := crc l) (m := 4) (by omega) (by omega) (by have := crc_lt l; omega)
/-- 40 cells 0 that were just made. -/
def zeros (n : Nat) : Array Value := Array.replicate n (.int .u8 0)
theorem make_40 (w : World) : (Instr.makeSlice 57 (.int .i64 36) (.int .i64 40)).run Try.prog w = .ok (.slice (some ⟨w.heap.size, 0, none⟩) 36 40) (w.alloc (.cells (zeros 40) 5)) := by kernel_rfl
theorem zeros_toList (n : Nat) : (zeros n).toList = List.replicate n (.int .u8 0) := by simp [zeros]
def zl (n : Nat) : List Value := List.replicate n (.int .u8 0)
theorem zl_length (n : Nat) : (zl n).length = n := by simp [zl]
theorem zeros_zl (n : Nat) : zeros n = (zl n).toArray := by simp [zeros, zl]
theorem pad_splice (b : List UInt8) (h : b.length ≤ 36) : splice (zl 40) 0 (b.map bv) = (padL b).map bv ++ zl 4 := by
  have e : bv 0 = .int .u8 0 := rfl
  simp only [splice, padL, zl, List.map_append, List.map_replicate, e, List.take_zero, List.nil_append, Nat.zero_add, List.length_map, List.drop_replicate, List.append_assoc, List.replicate_append_replicate]
  rw [show 36 - b.length + 4 = 40 - b.length by omega]
/-- What lies in the row behind the copy. -/
theorem pad_own {w : World} {g : Nat} {b : List UInt8} (h : b.length ≤ 36) (hg : w.heap[g]? = some (.cells (splice (zl 40) 0 (b.map bv)).toArray 5 (0, 0))) :
    w.ownsRow g 5 1 (.slice (some ⟨g, 0, none⟩) 36 40) 36 ((padL b).map bv) := by
  rw [pad_splice b h] at hg
  refine ⟨by simp [padL_length b h], .inr ⟨g, 40, _, rfl, Nat.le_refl _, hg, by omega, by unfold maxLen; omega, by simp [padL_length b h, zl_length], ?_⟩⟩
  simp [padL_length b h]
theorem bytes_oneCell (l : List UInt8) : ∀ u ∈ l.map bv, u.oneCell' = true := by
  intro u hu
  obtain ⟨x, _, rfl⟩ := List.mem_map.1 hu
  rfl
theorem Cells.some_ {w : World} {A : Option Addr} {xs : List Value} (h : Cells w A xs) (hp : 0 < xs.length) : ∃ ad, A = some ad ∧ ∀ j v, xs[j]? = some v → w.cell? (ad.add j) = some v := by
  obtain ⟨b, off, rfl, _, hc⟩ := h (by intro e; subst e; simp at hp)
  refine ⟨_, rfl, fun j v hv => ?_⟩
  have e : (⟨b, off, none⟩ : Addr).add j = ⟨b, off + j, none⟩ := by unfold Addr.add; split <;> simp_all
  rw [e]; exact hc j v hv

theorem own_below {w w' : World} {B e s n : Nat} {v : Value} {xs : List Value} (h : w.ownsRow B e s v n xs) (hb : Below w.heap.size w w') : w'.ownsRow B e s v n xs :=
  h.kept (row := none) ⟨hb.os, hb.tape, hb.output, hb.size, fun k hk _ => hb.block k hk⟩ (by cases hv : v.ownBlock <;> simp)
theorem own_cells {w : World} {B n : Nat} {A : Option Addr} {k c : Nat} {l : List UInt8} (h : w.ownsRow B 5 1 (.slice A k c) n (l.map bv)) : Cells w A (l.map bv) := by
  obtain ⟨A', cap', h', _, _, _, h3⟩ := got_own h
  obtain rfl : A = A' := (Value.slice.inj h').1
  exact h3
/-- A slice of bytes made a string. -/
theorem conv_str {w : World} {A : Option Addr} {l : List UInt8} {c : Nat} (h : Cells w A (l.map bv)) (hp : 0 < l.length) :
    (convert 57 9 (.slice A l.length c)).run Try.prog w = .ok (.string ⟨l.toArray⟩) w := by
  obtain ⟨ad, rfl, hc⟩ := h.some_ (by simpa using hp)
  exact run_convert_bytes_back (P := Try.prog) w 57 9 5 ad c l Try.underlying57 Try.underlying5 Try.underlying9 (fun j hj => hc j _ (by simp [bv, hj]))

set_option maxHeartbeats 1000000 in
theorem numSeal_any (A : Option Addr) (l : List UInt8) (c : Nat) (w : World) (hl : l.length ≤ maxLen) (hA : Cells w A (l.map bv)) :
    Calls Try.prog 29 #[.slice A l.length c] w fun e w' => e = .returned (sealV l) ∧ Below w.heap.size w w' := by
  unfold maxLen at hl
  by_cases h36 : l.length ≤ 36
  · have hmk := make_40
    have HV := Lib.hid (show sealV l = .tuple #[.string ⟨(sealL l).toArray⟩, .int .i64 0] by unfold sealV sealB sealE; rw [if_pos h36, if_pos h36])
    have hA1 : Cells (w.alloc (.cells (zeros 40) 5)) A (l.map bv) := hA.below ((Below.refl _ _).alloc (Nat.le_refl _) _)
    obtain ⟨i0, hi, hz0, hz1, hz2⟩ := info_parts info5
    go_enter Try.func29, Try.ntmps29
    go_wp2_with (with_reducible refine wpList_copy_splice rfl _ _ _ _ rfl 5 Try.underlying57 ?k0 _ A _ _ _ _ rfl rfl w.heap.size 0 (zl 40) 5 ?k1 (l.map bv) ?k2 ?k3 ?k4 (bytes_oneCell l) w.heap.size w ?k5 (Nat.le_refl _) ?_)
    case k0 => rw [hi]; simp [hz1]
    case k1 => rw [← zeros_zl]; exact heap_alloc_new w _
    case k2 => simp [Nat.min_eq_left h36]
    case k3 => first | (intro hp; exact hA1.some_ hp) | (intro hp; simpa using hA1.some_ (by simpa using hp))
    case k4 => rw [zl_length, List.length_map]; omega
    case k5 => exact (Below.refl _ _).alloc (Nat.le_refl _) _
    intro w1 hg hb
    have HO := Lib.hid (pad_own h36 hg.out)
    have HB := Lib.hid hb
    clear hg hb hA1 hA
    have hlp := padL_length l h36
    have HG := Lib.hid (got_own HO.out)
    have HL := Lib.hid hlp
    clear hlp
    generalize hp : padL l = p at *
    have HPL := Lib.hid hp; clear hp
    have hcl := crc_lt p
    have HC : Cells w1 (some ⟨w.heap.size, 0, none⟩) (p.map bv) := by
      obtain ⟨A', cap', h, _, _, _, h3⟩ := HG.out
      have : A' = some ⟨w.heap.size, 0, none⟩ := by simpa using (Value.slice.inj h).1.symm
      rw [this] at h3; exact h3
    have HSum : Calls Try.prog 44 #[.slice (some ⟨w.heap.size, 0, none⟩) 36 40] w1 fun e w' => e = .returned (.int .i64 (crc p : Nat)) ∧ w1 = w' := by
      have := numSum_any (some ⟨w.heap.size, 0, none⟩) p 40 w1 (by rw [HL.out]; unfold maxLen; omega) HC
      rw [HL.out] at this; exact this
    have HSum := Lib.hid HSum
    clear HC
    go_wp2_with (first | (at_builtin; refine stop_here ?_) | (go_at_call 44; refine HSum.out.mono ?_; rintro e w' ⟨rfl, rfl⟩) | (go_at_call 28; refine (numPut_any _ _ _ (by omega) (by omega)).mono ?_; rintro e w2 ⟨v, rfl, hgot, hb2⟩; have HG2 := Lib.hid hgot; have HB2 := Lib.hid hb2; clear hgot hb2))
    refine stop_on ?_
    have hgot := HG2.out
    rw [putS_crc] at hgot
    obtain ⟨A2, cap2, rfl, hc2, _, hnil, hcells⟩ := hgot
    have h4 := putL_length 4 (crc p)
    rw [h4] at hc2
    rw [h4]
    refine wpList_append_fits_any _ rfl _ _ 57 rfl w.heap.size 5 i0 1 Try.underlying57 hi hz1 w.heap.size 36 40 (p.map bv) rfl (own_below HO.out HB2.out) A2 4 cap2 ((putL (crc p) 4).map bv) rfl (by simp [h4]) ?k6 ?k7 (bytes_oneCell _) (by omega) ?_
    case k6 => intro h; have := hnil h; omega
    case k7 => intro ad had j u hu; obtain ⟨ad', h', hc⟩ := hcells.some_ (by simp [h4]); rw [had] at h'; cases h'; exact hc j u hu
    intro w3 hown hgrow
    rw [← List.map_append] at hown
    have hl40 : (p ++ putL (crc p) 4).length = 40 := by rw [List.length_append, HL.out, h4]
    have hcv := conv_str (c := 40) (own_cells hown) (by rw [hl40]; omega)
    rw [hl40] at hcv
    have HB3 := Lib.hid (show Below w.heap.size w w3 from (HB.out.trans (HB2.out.mono HB.out.size)).grown hgrow (by have := HB.out.size; have := HB2.out.size; omega) (by intro k hk; cases hk; exact Nat.le_refl _))
    have HV2 := Lib.hid (show sealV l = .tuple #[.string ⟨(p ++ putL (crc p) 4).toArray⟩, .int .i64 0] by rw [HV.out]; unfold sealL; rw [HPL.out])
    clear hown hgrow hcells hnil HO HG HSum hl40 h4
    generalize (p ++ putL (crc p) 4).toArray = z at *
    go_wp2
    go_ret2
    exact ⟨congrArg Ending.returned HV2.out.symm, HB3.out⟩
  · have HV := Lib.hid (show sealV l = .tuple #[.string ⟨#[]⟩, .int .i64 1] by unfold sealV sealB sealE; rw [if_neg h36, if_neg h36])
    go_enter Try.func29, Try.ntmps29
    go_wp2
    go_ret2
    exact ⟨congrArg Ending.returned HV.out.symm, Below.refl _ _⟩
end Go.Proofs.Ytpcchbcibcfldaa
