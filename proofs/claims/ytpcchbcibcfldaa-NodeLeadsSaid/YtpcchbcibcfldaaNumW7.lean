/- Walks of the reference's Seal, and of Open. -/
import Derived.Test.YtpcchbcibcfldaaNumW6
import Derived.Test.YtpcchbcibcfldaaDiskP3
namespace Go.Proofs.Ytpcchbcibcfldaa
open Go.RowKit


theorem Cells.none_ {w : World} {A : Option Addr} {l : List UInt8} (h : Cells w A (l.map bv)) (hA : A = none) : l.length = 0 := by
  rcases Nat.eq_zero_or_pos l.length with h0 | h0
  · exact h0
  · obtain ⟨ad, h', _⟩ := h.some_ (by simpa using h0)
    rw [hA] at h'; cases h'
def slLen : Value → Nat | .slice _ n _ => n | _ => 0
theorem pad_step (b : List UInt8) (k : Nat) : (b ++ List.replicate k 0).map bv ++ [bv 0] = (b ++ List.replicate (k + 1) 0).map bv := by
  rw [List.replicate_succ']; simp

set_option maxHeartbeats 1000000 in
theorem ref01Seal_any (A : Option Addr) (l : List UInt8) (c : Nat) (w : World) (hl : l.length ≤ maxLen) (hn : A = none → c = 0) (hA : Cells w A (l.map bv)) :
    Calls Try.prog 31 #[.slice A l.length c] w fun e w' => e = .returned (sealV l) ∧ Below w.heap.size w w' := by
  unfold maxLen at hl
  by_cases h36 : l.length ≤ 36
  · have HV := Lib.hid (show sealV l = .tuple #[.string ⟨(sealL l).toArray⟩, .int .i64 0] by unfold sealV sealB sealE; rw [if_pos h36, if_pos h36])
    obtain ⟨i0, hi, hz0, hz1, hz2⟩ := info_parts info5
    go_enter Try.func31, Try.ntmps31
    go_wp2_with (at_builtin; refine stop_here ?_)
    refine stop_on ?_
    have h0 := World.ownsRow_lit (base := w.heap.size) (e := 5) (size := 1) w #[] 0 (Nat.le_refl _) (Nat.zero_le _) rfl
    have hA1 : Cells (w.alloc (.cells #[] 5)) A (l.map bv) := hA.below ((Below.refl _ _).alloc (Nat.le_refl _) _)
    refine wpList_app _ rfl _ _ 57 rfl w.heap.size 5 i0 (.int .u8 0) 1 1 Try.underlying57 hi hz0 hz1 hz2 rfl (by decide) _ 0 [] rfl h0 A l.length c (l.map bv) rfl (by simp) ?k1 hA1.at_ (bytes_oneCell _) (by unfold maxLen; omega) (by omega) (by simp) ?_
    case k1 => intro h; exact ⟨hA.none_ h, hn h⟩
    intro v1 w1 hown hgrow
    have HB := Lib.hid (show Below w.heap.size w w1 from ((Below.refl _ _).alloc (Nat.le_refl _) _).grown hgrow (by simp) (by intro k hk; cases hk; exact Nat.le_refl _))
    have HO := Lib.hid (show w1.ownsRow w.heap.size 5 1 v1 l.length ((l ++ List.replicate 0 0).map bv) by simpa using hown)
    clear hown hgrow hA1 h0
    obtain ⟨A1, cap1, hv1⟩ := own_shape HO.out
    subst hv1
    go_wp2
    go_loopw [4] (fun v wr => ∃ (k cap : Nat) (A : Option Addr), l.length + k ≤ 36 ∧ v = .slice A (l.length + k) cap ∧ wr.ownsRow w.heap.size 5 1 v (l.length + k) ((l ++ List.replicate k 0).map bv) ∧ Below w.heap.size w wr) (fun v _ => 36 - slLen v)
    case atStart => exact ⟨0, cap1, A1, by omega, rfl, HO.out, HB.out⟩
    case round =>
      obtain ⟨k, cap, A2, hk, rfl, ho, hb⟩ := hrel
      have HO2 := Lib.hid ho
      have HB2 := Lib.hid hb
      clear ho hb
      by_cases hlt : l.length + k < 36
      · go_wp2_with (at_builtin; refine stop_here ?_)
        refine stop_on ?_
        refine wpList_app _ rfl _ _ 57 rfl w.heap.size 5 i0 (.int .u8 0) 1 1 Try.underlying57 hi hz0 hz1 hz2 rfl (by decide) _ (l.length + k) _ rfl (HO2.out.alloc _) (some ⟨wr.heap.size, 0, none⟩) 1 1 [bv 0] rfl rfl (by intro h; cases h) (by intro ad h; cases h; exact cell_one_new _ _ _) (by intro u hu; simp at hu; subst hu; rfl) (by unfold maxLen; omega) (by omega) (by have := HB2.out.size; simp; omega) ?_
        intro v2 w2 hown hgrow
        rw [pad_step] at hown
        have HB3 := Lib.hid (show Below w.heap.size w w2 from (HB2.out.alloc HB2.out.size _).grown hgrow (by have := HB2.out.size; simp; omega) (fun q hq => (HO2.out.lt q hq).1))
        have HO3 := Lib.hid hown
        clear hown hgrow
        obtain ⟨A3, cap3, hv3⟩ := own_shape HO3.out
        subst hv3
        go_wp2
        go_roundw
        case rel => exact ⟨k + 1, cap3, A3, by omega, rfl, HO3.out, HB3.out⟩
        case measure => simp [slLen]; omega
      · have hk36 : l.length + k = 36 := by omega
        have HK := Lib.hid hk36
        have hpad : l ++ List.replicate k 0 = padL l := by unfold padL; rw [show k = 36 - l.length by omega]
        rw [hpad] at HO2
        rw [hk36] at HO2 ⊢
        clear hpad hk36 hk hlt
        have hlp := padL_length l h36
        have HL := Lib.hid hlp
        clear hlp
        generalize hp : padL l = p at *
        have HPL := Lib.hid hp; clear hp
        have hcl := crc_lt p
        have HSum : Calls Try.prog 46 #[.slice A2 36 cap] wr fun e w' => e = .returned (.int .i64 (crc p : Nat)) ∧ wr = w' := by
          have := ref01Sum_any A2 p cap wr (by rw [HL.out]; unfold maxLen; omega) (own_cells HO2.out)
          rw [HL.out] at this; exact this
        have HSum := Lib.hid HSum
        go_wp2_with (first | (at_builtin; refine stop_here ?_) | (go_at_call 46; refine HSum.out.mono ?_; rintro e w' ⟨rfl, rfl⟩) | (go_at_call 30; refine (ref01Put_any _ _ _ (by omega) (by omega)).mono ?_; rintro e w2 ⟨v, rfl, hgot, hb2⟩; have HG2 := Lib.hid hgot; have HB3 := Lib.hid hb2; clear hgot hb2))
        refine stop_on ?_
        have hgot := HG2.out
        rw [putS_crc] at hgot
        obtain ⟨A4, cap4, rfl, hc4, _, hnil, hcells⟩ := hgot
        have h4 := putL_length 4 (crc p)
        rw [h4] at hc4
        rw [h4]
        refine wpList_app _ rfl _ _ 57 rfl w.heap.size 5 i0 (.int .u8 0) 1 1 Try.underlying57 hi hz0 hz1 hz2 rfl (by decide) _ 36 (p.map bv) rfl (own_below HO2.out HB3.out) A4 4 cap4 ((putL (crc p) 4).map bv) rfl (by simp [h4]) (by intro h; have := hcells.none_ h; omega) hcells.at_ (bytes_oneCell _) (by unfold maxLen; omega) (by omega) (by have := HB2.out.size; have := HB3.out.size; omega) ?_
        intro v5 w5 hown hgrow
        rw [← List.map_append] at hown
        have hl40 : (p ++ putL (crc p) 4).length = 40 := by rw [List.length_append, HL.out, h4]
        obtain ⟨A5, cap5, rfl⟩ := own_shape hown
        have hcv := conv_str (c := cap5) (own_cells hown) (by rw [hl40]; omega)
        rw [hl40] at hcv
        have HB5 := Lib.hid (show Below w.heap.size w w5 from (HB2.out.trans (HB3.out.mono HB2.out.size)).grown hgrow (by have := HB2.out.size; have := HB3.out.size; omega) (fun q hq => (HO2.out.lt q hq).1))
        have HV2 := Lib.hid (show sealV l = .tuple #[.string ⟨(p ++ putL (crc p) 4).toArray⟩, .int .i64 0] by rw [HV.out]; unfold sealL; rw [HPL.out])
        clear hown hgrow hcells hnil HO HO2 HSum hl40 h4
        generalize (p ++ putL (crc p) 4).toArray = z at *
        go_wp2
        go_ret2
        exact ⟨congrArg Ending.returned HV2.out.symm, HB5.out⟩
  · have HV := Lib.hid (show sealV l = .tuple #[.string ⟨#[]⟩, .int .i64 1] by unfold sealV sealB sealE; rw [if_neg h36, if_neg h36])
    go_enter Try.func31, Try.ntmps31
    go_wp2
    go_ret2
    exact ⟨congrArg Ending.returned HV.out.symm, Below.refl _ _⟩

end Go.Proofs.Ytpcchbcibcfldaa
