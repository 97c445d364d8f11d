/- Walks of Put. Walks of Seal. Walks of the reference's Seal, and of Open. Walks of Open. Plain facts on the check sum: it is linear, and turned bits within 32 in a row are seen. What else holds of bytes, sums, and sealed blocks; rows of bytes that are the call's own. -/
import Derived.Test.YtpcimjccngidgaaK03
import Derived.Laws.CopyOwn
import Derived.Test.YtpcimjccngidgaaK01
namespace Go.Proofs.Ytpcimjccngidgaa
set_option maxRecDepth 20000
open Go.RowKit

theorem info5 : (Try.prog.info? 5).map (fun i => (i.zero, i.size, i.bytes)) = some (some (.int .u8 0), 1, 1) := by kernel_rfl

/-- A slice value that tells the bytes l. -/
def Got (w : World) (v : Value) (l : List UInt8) : Prop := ∃ A cap, v = .slice A l.length cap ∧ l.length ≤ cap ∧ cap ≤ maxLen ∧ (A = none → cap = 0) ∧ Cells w A (l.map bv)

theorem got_nil (w : World) : Got w (.slice none 0 0) [] := ⟨none, 0, rfl, Nat.le_refl _, by unfold maxLen; omega, fun _ => rfl, fun h => absurd rfl h⟩
theorem got_own {w : World} {B n : Nat} {v : Value} {l : List UInt8} (h : w.ownsRow B 5 1 v n (l.map bv)) : Got w v l := by
  have hn : l.length = n := by have := h.1; simpa using this
  subst hn
  rcases h.2 with ⟨rfl, hl⟩ | ⟨g, cap, cur, rfl, _, hg, hc, hm, _, _⟩
  · rw [List.eq_nil_of_length_eq_zero hl]; exact got_nil w
  · refine ⟨_, cap, rfl, hc, hm, (fun h => by cases h), fun _ => ⟨g, 0, rfl, (Array.getElem?_eq_some_iff.1 hg).1, fun j u hu => ?_⟩⟩
    have := h.cellAt j (by have := (List.getElem?_eq_some_iff.1 hu).1; simpa using this)
    rw [Nat.zero_add, this, hu]
theorem Got.below {w w' : World} {v : Value} {l : List UInt8} (h : Got w v l) (hb : Below w.heap.size w w') : Got w' v l := by
  obtain ⟨A, cap, rfl, h1, h2, h4, h3⟩ := h
  exact ⟨A, cap, rfl, h1, h2, h4, h3.below hb⟩
theorem below_grown {w w' w'' : World} {row : Option Nat} (h : Below w.heap.size w w') (hg : w'.grownBy w'' row) (hr : ∀ k, row = some k → w.heap.size ≤ k) : Below w.heap.size w w'' := h.grown hg h.size hr

theorem putS_some {n m : Nat} (h1 : 1 ≤ m) (h2 : m ≤ 4) (h3 : n < 256 ^ m) : putS n m = putL n m := by
  unfold putS
  have : (n : Int) < 256 ^ (m : Int).toNat := by
    rw [Int.toNat_natCast]
    have e : ((256 ^ m : Nat) : Int) = (256 : Int) ^ m := by simp
    rw [← e]; omega
  rw [if_pos ⟨by omega, by omega, by omega, this⟩]; rfl
theorem putS_none {n w : Int} (h : ¬ (1 ≤ w ∧ w ≤ 4 ∧ 0 ≤ n ∧ n < 256 ^ w.toNat)) : putS n w = [] := by
  unfold putS; rw [if_neg h]
theorem pow8 (k : Nat) : (2 : Nat) ^ (8 * k) = 256 ^ k := by rw [show (256 : Nat) = 2 ^ 8 from rfl, ← Nat.pow_mul]
theorem shr_byte (n k : Nat) : (n : Int) / 2 ^ (8 * k) = ((n / 256 ^ k : Nat) : Int) := by
  rw [← pow8]; simp
theorem shr_zero (n m : Nat) (h : n < 256 ^ m) : ((n : Int) / 2 ^ (8 * m) != 0) = false := by
  rw [shr_byte, Nat.div_eq_of_lt h]; rfl
theorem shr_pos (n m : Nat) (h : ¬ n < 256 ^ m) : ((n : Int) / 2 ^ (8 * m) != 0) = true := by
  rw [shr_byte]
  have : 0 < n / 256 ^ m := Nat.div_pos (by omega) (Nat.pow_pos (by omega))
  generalize n / 256 ^ m = z at *
  simp; omega
theorem bv_ofNat (n : Nat) : Value.int .u8 ((n : Int) % 256) = bv (UInt8.ofNat n) := by
  unfold bv; simp
/-- What the new row holds behind k rounds. -/
def putCells (n m k : Nat) : List Value := (putL n k).map bv ++ List.replicate (m - k) (.int .u8 0)
theorem putCells_set (n m k : Nat) (h : k < m) : (putCells n m k).set k (bv (UInt8.ofNat (n / 256 ^ k))) = putCells n m (k + 1) := by
  unfold putCells
  rw [List.set_append_right _ _ (by simp [putL_length])]
  simp only [List.length_map, putL_length, Nat.sub_self]
  rw [show m - k = (m - (k + 1)) + 1 by omega, List.replicate_succ, List.set_cons_zero, putL_snoc]
  simp

set_option maxHeartbeats 1000000 in
theorem numPut_any (n w_ : Int) (w : World) (hn1 : -9223372036854775808 ≤ n) (hn2 : n ≤ 9223372036854775807) :
    Calls Try.prog 68 #[.int .i64 n, .int .i64 w_] w fun e w' => ∃ v, e = .returned v ∧ Got w' v (putS n w_) ∧ Below w.heap.size w w' := by
  by_cases hw : 1 ≤ w_ ∧ w_ ≤ 4
  · have t1 : isW w_ = true := by unfold isW; simp; omega
    by_cases h0 : 0 ≤ n
    · obtain ⟨m, rfl⟩ := Int.eq_ofNat_of_zero_le (show 0 ≤ w_ by omega)
      obtain ⟨n, rfl⟩ := Int.eq_ofNat_of_zero_le h0
      obtain ⟨hw1, hw2⟩ := hw
      by_cases hlt : n < 256 ^ m
      · have t2 := shr_zero n m hlt
        have HP := Lib.hid (putS_some (n := n) (m := m) (by omega) (by omega) hlt)
        clear hlt
        obtain ⟨i0, hi, hz0, hz1, hz2⟩ := info_parts info5
        go_enter Try.func68, Try.ntmps68
        go_wp2_with (first | (go_at_call 82; refine (numIsWidth_any _ _).mono ?_; rintro e w' ⟨rfl, rfl⟩) | (at_make; refine wpList_make_full _ rfl _ _ 23 rfl w.heap.size 5 i0 (.int .u8 0) 1 Try.underlying23 hi hz0 hz1 _ _ _ _ m rfl rfl rfl rfl (by rw [hz2]; omega) (by unfold maxLen; omega) (Nat.le_refl _) ?_; intro w1 hown hgrow))
        have ec : (madeCells (Value.int IntKind.u8 0).cells (m * 1)).toList = putCells n m 0 := by
          rw [Nat.mul_one]; exact toList_madeCells_one _ _
        rw [ec] at hown
        go_loopw [24] (fun i wr => ∃ k : Nat, k ≤ m ∧ i = .int .i64 k ∧ wr.ownsRow w.heap.size 5 1 (.slice (some ⟨w.heap.size, 0, none⟩) m m) m (putCells n m k) ∧ Below w.heap.size w wr) (fun i _ => m - (intOf i).toNat)
        case atStart => exact ⟨0, Nat.zero_le _, rfl, hown, below_grown (Below.refl _ _) hgrow (by intro k h; cases h)⟩
        case round =>
          obtain ⟨k, hk, rfl, ho, hb⟩ := hrel
          clear hown hgrow ec
          by_cases hlt : k < m
          · have hf := ho.frozenAt k
            obtain ⟨u, hu⟩ : ∃ u, wr.cell? ⟨w.heap.size, k, none⟩ = some u := by
              rw [ho.cellAt k (by omega)]
              have hl := ho.1
              exact ⟨_, List.getElem?_eq_getElem (by omega)⟩
            have HO := Lib.hid (ho.stored k (bv (UInt8.ofNat (n / 256 ^ k))))
            have HB := Lib.hid hb
            have HC := Lib.hid (putCells_set n m k hlt)
            have HS := Lib.hid (shr_byte n k)
            clear ho hb
            go_wp2
            rw [HS.out, bv_ofNat]
            go_roundw
            case rel => exact ⟨k + 1, by omega, by go_num, HC.out ▸ HO.out.1, below_grown HB.out HO.out.2 (by intro q h; cases h; exact Nat.le_refl _)⟩
            case measure => simp [intOf]; omega
          · obtain rfl : k = m := by omega
            have HO := Lib.hid ho
            have HB := Lib.hid hb
            clear ho hb
            go_wp2
            go_ret
            refine ⟨_, rfl, ?_, HB.out⟩
            rw [HP.out]
            have h := HO.out
            unfold putCells at h
            rw [Nat.sub_self, List.replicate_zero, List.append_nil] at h
            exact got_own h
      · have t2 := shr_pos n m hlt
        have HP := Lib.hid (putS_none (n := n) (w := m) (by
          rintro ⟨_, _, _, h⟩
          apply hlt
          rw [Int.toNat_natCast] at h
          have e : ((256 ^ m : Nat) : Int) = (256 : Int) ^ m := by simp
          rw [← e] at h; omega))
        go_enter Try.func68, Try.ntmps68
        go_wp2_with (go_at_call 82; refine (numIsWidth_any _ _).mono ?_; rintro e w' ⟨rfl, rfl⟩)
        go_ret
        exact ⟨_, rfl, HP.out ▸ got_nil w, Below.refl _ _⟩
    · have HP := Lib.hid (putS_none (n := n) (w := w_) (by omega))
      go_enter Try.func68, Try.ntmps68
      go_wp2_with (go_at_call 82; refine (numIsWidth_any _ _).mono ?_; rintro e w' ⟨rfl, rfl⟩)
      go_ret
      exact ⟨_, rfl, HP.out ▸ got_nil w, Below.refl _ _⟩
  · have t1 : isW w_ = false := by unfold isW; simp; omega
    have HP := Lib.hid (putS_none (n := n) (w := w_) (by omega))
    go_enter Try.func68, Try.ntmps68
    go_wp2_with (go_at_call 82; refine (numIsWidth_any _ _).mono ?_; rintro e w' ⟨rfl, rfl⟩)
    go_ret
    exact ⟨_, rfl, HP.out ▸ got_nil w, Below.refl _ _⟩

end Go.Proofs.Ytpcimjccngidgaa
namespace Go.Proofs.Ytpcimjccngidgaa
set_option maxRecDepth 20000
open Go.RowKit

/-- 36 bytes: b, and bytes 0 behind. -/
def padL (b : List UInt8) : List UInt8 := b ++ List.replicate (36 - b.length) 0
theorem padL_length (b : List UInt8) (h : b.length ≤ 36) : (padL b).length = 36 := by simp [padL]; omega
def sealL (b : List UInt8) : List UInt8 := padL b ++ putL (crc (padL b)) 4
theorem sealL_length (b : List UInt8) (h : b.length ≤ 36) : (sealL b).length = 40 := by simp [sealL, padL_length b h, putL_length]
def sealB (b : List UInt8) : ByteArray := if b.length ≤ 36 then ⟨(sealL b).toArray⟩ else ⟨#[]⟩
def sealE (b : List UInt8) : Int := if b.length ≤ 36 then 0 else 1
def sealV (b : List UInt8) : Value := .tuple #[.string (sealB b), .int .i64 (sealE b)]
theorem putS_crc (l : List UInt8) : putS (crc l : Nat) 4 = putL (crc l) 4 := putS_some (n := crc l) (m := 4) (by omega) (by omega) (by have := crc_lt l; omega)
/-- 40 cells 0 that were just made. -/
def zeros (n : Nat) : Array Value := Array.replicate n (.int .u8 0)
theorem make_40 (w : World) : (Instr.makeSlice 23 (.int .i64 36) (.int .i64 40)).run Try.prog w = .ok (.slice (some ⟨w.heap.size, 0, none⟩) 36 40) (w.alloc (.cells (zeros 40) 5)) := by kernel_rfl
theorem zeros_toList (n : Nat) : (zeros n).toList = List.replicate n (.int .u8 0) := by simp [zeros]
def zl (n : Nat) : List Value := List.replicate n (.int .u8 0)
theorem zl_length (n : Nat) : (zl n).length = n := by simp [zl]
theorem zeros_zl (n : Nat) : zeros n = (zl n).toArray := by simp [zeros, zl]
theorem pad_splice (b : List UInt8) (h : b.length ≤ 36) : splice (zl 40) 0 (b.map bv) = (padL b).map bv ++ zl 4 := by
  have e : bv 0 = .int .u8 0 := rfl
  simp only [splice, padL, zl, List.map_append, List.map_replicate, e, List.take_zero, List.nil_append, Nat.zero_add, List.length_map, List.drop_replicate, List.append_assoc, List.replicate_append_replicate]
  rw [show 36 - b.length + 4 = 40 - b.length by omega]
/-- What lies in the row behind the copy. -/
theorem pad_own {w : World} {g : Nat} {b : List UInt8} (h : b.length ≤ 36) (hg : w.heap[g]? = some (.cells (splice (zl 40) 0 (b.map bv)).toArray 5 (0, 0))) :
    w.ownsRow g 5 1 (.slice (some ⟨g, 0, none⟩) 36 40) 36 ((padL b).map bv) := by
  rw [pad_splice b h] at hg
  refine ⟨by simp [padL_length b h], .inr ⟨g, 40, _, rfl, Nat.le_refl _, hg, by omega, by unfold maxLen; omega, by simp [padL_length b h, zl_length], ?_⟩⟩
  simp [padL_length b h]
theorem bytes_oneCell (l : List UInt8) : ∀ u ∈ l.map bv, u.oneCell' = true := by
  intro u hu
  obtain ⟨x, _, rfl⟩ := List.mem_map.1 hu
  rfl
theorem Cells.some_ {w : World} {A : Option Addr} {xs : List Value} (h : Cells w A xs) (hp : 0 < xs.length) : ∃ ad, A = some ad ∧ ∀ j v, xs[j]? = some v → w.cell? (ad.add j) = some v := by
  obtain ⟨b, off, rfl, _, hc⟩ := h (by intro e; subst e; simp at hp)
  refine ⟨_, rfl, fun j v hv => ?_⟩
  have e : (⟨b, off, none⟩ : Addr).add j = ⟨b, off + j, none⟩ := by unfold Addr.add; split <;> simp_all
  rw [e]; exact hc j v hv

theorem own_below {w w' : World} {B e s n : Nat} {v : Value} {xs : List Value} (h : w.ownsRow B e s v n xs) (hb : Below w.heap.size w w') : w'.ownsRow B e s v n xs :=
  h.kept (row := none) ⟨hb.os, hb.tape, hb.output, hb.size, fun k hk _ => hb.block k hk⟩ (by cases hv : v.ownBlock <;> simp)
theorem own_cells {w : World} {B n : Nat} {A : Option Addr} {k c : Nat} {l : List UInt8} (h : w.ownsRow B 5 1 (.slice A k c) n (l.map bv)) : Cells w A (l.map bv) := by
  obtain ⟨A', cap', h', _, _, _, h3⟩ := got_own h
  obtain rfl : A = A' := (Value.slice.inj h').1
  exact h3
/-- A slice of bytes made a string. -/
theorem conv_str {w : World} {A : Option Addr} {l : List UInt8} {c : Nat} (h : Cells w A (l.map bv)) (hp : 0 < l.length) :
    (convert 23 9 (.slice A l.length c)).run Try.prog w = .ok (.string ⟨l.toArray⟩) w := by
  obtain ⟨ad, rfl, hc⟩ := h.some_ (by simpa using hp)
  exact run_convert_bytes_back (P := Try.prog) w 23 9 5 ad c l Try.underlying23 Try.underlying5 Try.underlying9 (fun j hj => hc j _ (by simp [bv, hj]))

set_option maxHeartbeats 1000000 in
theorem numSeal_any (A : Option Addr) (l : List UInt8) (c : Nat) (w : World) (hl : l.length ≤ maxLen) (hA : Cells w A (l.map bv)) :
    Calls Try.prog 69 #[.slice A l.length c] w fun e w' => e = .returned (sealV l) ∧ Below w.heap.size w w' := by
  unfold maxLen at hl
  by_cases h36 : l.length ≤ 36
  · have hmk := make_40
    have HV := Lib.hid (show sealV l = .tuple #[.string ⟨(sealL l).toArray⟩, .int .i64 0] by unfold sealV sealB sealE; rw [if_pos h36, if_pos h36])
    have hA1 : Cells (w.alloc (.cells (zeros 40) 5)) A (l.map bv) := hA.below ((Below.refl _ _).alloc (Nat.le_refl _) _)
    obtain ⟨i0, hi, hz0, hz1, hz2⟩ := info_parts info5
    go_enter Try.func69, Try.ntmps69
    go_wp2_with (with_reducible refine wpList_copy_splice rfl _ _ _ _ rfl 5 Try.underlying23 ?k0 _ A _ _ _ _ rfl rfl w.heap.size 0 (zl 40) 5 ?k1 (l.map bv) ?k2 ?k3 ?k4 (bytes_oneCell l) w.heap.size w ?k5 (Nat.le_refl _) ?_)
    case k0 => rw [hi]; simp [hz1]
    case k1 => rw [← zeros_zl]; exact heap_alloc_new w _
    case k2 => simp [Nat.min_eq_left h36]
    case k3 => first | (intro hp; exact hA1.some_ hp) | (intro hp; simpa using hA1.some_ (by simpa using hp))
    case k4 => rw [zl_length, List.length_map]; omega
    case k5 => exact (Below.refl _ _).alloc (Nat.le_refl _) _
    intro w1 hg hb
    have HO := Lib.hid (pad_own h36 hg.out)
    have HB := Lib.hid hb
    clear hg hb hA1 hA
    have hlp := padL_length l h36
    have HG := Lib.hid (got_own HO.out)
    have HL := Lib.hid hlp
    clear hlp
    generalize hp : padL l = p at *
    have HPL := Lib.hid hp; clear hp
    have hcl := crc_lt p
    have HC : Cells w1 (some ⟨w.heap.size, 0, none⟩) (p.map bv) := by
      obtain ⟨A', cap', h, _, _, _, h3⟩ := HG.out
      have : A' = some ⟨w.heap.size, 0, none⟩ := by simpa using (Value.slice.inj h).1.symm
      rw [this] at h3; exact h3
    have HSum : Calls Try.prog 61 #[.slice (some ⟨w.heap.size, 0, none⟩) 36 40] w1 fun e w' => e = .returned (.int .i64 (crc p : Nat)) ∧ w1 = w' := by
      have := numSum_any (some ⟨w.heap.size, 0, none⟩) p 40 w1 (by rw [HL.out]; unfold maxLen; omega) HC
      rw [HL.out] at this; exact this
    have HSum := Lib.hid HSum
    clear HC
    go_wp2_with (first | (at_builtin; refine stop_here ?_) | (go_at_call 61; refine HSum.out.mono ?_; rintro e w' ⟨rfl, rfl⟩) | (go_at_call 68; refine (numPut_any _ _ _ (by omega) (by omega)).mono ?_; rintro e w2 ⟨v, rfl, hgot, hb2⟩; have HG2 := Lib.hid hgot; have HB2 := Lib.hid hb2; clear hgot hb2))
    refine stop_on ?_
    have hgot := HG2.out
    rw [putS_crc] at hgot
    obtain ⟨A2, cap2, rfl, hc2, _, hnil, hcells⟩ := hgot
    have h4 := putL_length 4 (crc p)
    rw [h4] at hc2
    rw [h4]
    refine wpList_append_fits_any _ rfl _ _ 23 rfl w.heap.size 5 i0 1 Try.underlying23 hi hz1 w.heap.size 36 40 (p.map bv) rfl (own_below HO.out HB2.out) A2 4 cap2 ((putL (crc p) 4).map bv) rfl (by simp [h4]) ?k6 ?k7 (bytes_oneCell _) (by omega) ?_
    case k6 => intro h; have := hnil h; omega
    case k7 => intro ad had j u hu; obtain ⟨ad', h', hc⟩ := hcells.some_ (by simp [h4]); rw [had] at h'; cases h'; exact hc j u hu
    intro w3 hown hgrow
    rw [← List.map_append] at hown
    have hl40 : (p ++ putL (crc p) 4).length = 40 := by rw [List.length_append, HL.out, h4]
    have hcv := conv_str (c := 40) (own_cells hown) (by rw [hl40]; omega)
    rw [hl40] at hcv
    have HB3 := Lib.hid (show Below w.heap.size w w3 from (HB.out.trans (HB2.out.mono HB.out.size)).grown hgrow (by have := HB.out.size; have := HB2.out.size; omega) (by intro k hk; cases hk; exact Nat.le_refl _))
    have HV2 := Lib.hid (show sealV l = .tuple #[.string ⟨(p ++ putL (crc p) 4).toArray⟩, .int .i64 0] by rw [HV.out]; unfold sealL; rw [HPL.out])
    clear hown hgrow hcells hnil HO HG HSum hl40 h4
    generalize (p ++ putL (crc p) 4).toArray = z at *
    go_wp2
    go_ret2
    exact ⟨congrArg Ending.returned HV2.out.symm, HB3.out⟩
  · have HV := Lib.hid (show sealV l = .tuple #[.string ⟨#[]⟩, .int .i64 1] by unfold sealV sealB sealE; rw [if_neg h36, if_neg h36])
    go_enter Try.func69, Try.ntmps69
    go_wp2
    go_ret2
    exact ⟨congrArg Ending.returned HV.out.symm, Below.refl _ _⟩
end Go.Proofs.Ytpcimjccngidgaa
namespace Go.Proofs.Ytpcimjccngidgaa
set_option maxRecDepth 20000
open Go.RowKit


theorem Cells.none_ {w : World} {A : Option Addr} {l : List UInt8} (h : Cells w A (l.map bv)) (hA : A = none) : l.length = 0 := by
  rcases Nat.eq_zero_or_pos l.length with h0 | h0
  · exact h0
  · obtain ⟨ad, h', _⟩ := h.some_ (by simpa using h0)
    rw [hA] at h'; cases h'
def slLen : Value → Nat | .slice _ n _ => n | _ => 0
theorem pad_step (b : List UInt8) (k : Nat) : (b ++ List.replicate k 0).map bv ++ [bv 0] = (b ++ List.replicate (k + 1) 0).map bv := by
  rw [List.replicate_succ']; simp

end Go.Proofs.Ytpcimjccngidgaa
namespace Go.Proofs.Ytpcimjccngidgaa
set_option maxRecDepth 20000
open Go.RowKit

/-- P1.3: what is in a sealed block. -/
def openS (s : List UInt8) : Option (List UInt8) := if s.length = 40 ∧ leNat ((s.drop 36).take 4) = crc (s.take 36) then some (s.take 36) else none
def openE (s : List UInt8) : Int := if (openS s).isSome then 0 else 2
def openL (s : List UInt8) : List UInt8 := (openS s).getD []

/-- A string made a slice of bytes. -/
theorem conv_bytes (s : ByteArray) (w : World) (hs : s.size ≤ maxLen) : ∃ cap W, (convert 9 23 (.string s)).run Try.prog w = .ok (.slice (some ⟨w.heap.size, 0, none⟩) s.size cap) W ∧
    Below w.heap.size w W ∧ s.size ≤ cap ∧ cap ≤ maxLen ∧ Cells W (some ⟨w.heap.size, 0, none⟩) (s.data.toList.map bv) := by
  refine ⟨_, _, run_bytes_of_string (P := Try.prog) w 9 23 5 s Try.underlying9 Try.underlying23 Try.underlying5, ((Below.refl _ _).drew).alloc (Nat.le_refl _) _, grownCap_ge _ _ _ _, grownCap_le_maxLen _ _ _ _ hs, fun _ => ⟨_, 0, rfl, ?_, fun j u hu => ?_⟩⟩
  · have : w.drew.heap.size = w.heap.size := rfl
    simp [this]
  · rw [Nat.zero_add]
    refine (World.cell?_alloc_mark w.drew _ 5 _ j).trans ?_
    have hj : j < s.data.size := by have := (List.getElem?_eq_some_iff.1 hu).1; simpa using this
    rw [bytesRow_at s _ j hj, ← hu]
    simp [bv, List.getElem?_map, Array.getElem?_toList, Array.getElem?_eq_getElem hj]

theorem extract36 (s : ByteArray) : (s.extract 0 36).data.toList = s.data.toList.take 36 := by
  simp

theorem open_yes {s : List UInt8} (h : s.length = 40) (hq : leNat ((s.drop 36).take 4) = crc (s.take 36)) : openE s = 0 ∧ openL s = s.take 36 := by
  have e : openS s = some (s.take 36) := by unfold openS; rw [if_pos ⟨h, hq⟩]
  unfold openE openL; rw [e]; exact ⟨rfl, rfl⟩
theorem open_no {s : List UInt8} (h : ¬ (s.length = 40 ∧ leNat ((s.drop 36).take 4) = crc (s.take 36))) : openE s = 2 ∧ openL s = [] := by
  have e : openS s = none := by unfold openS; rw [if_neg h]
  unfold openE openL; rw [e]; exact ⟨rfl, rfl⟩
theorem take36 (s : List UInt8) (h : s.length = 40) (z : Int) : takeV s 36 4 z = .tuple #[.int .i64 (leNat ((s.drop 36).take 4) : Nat), .int .i64 40, .int .i64 0] :=
  takeV_some (a := 36) (m := 4) (by omega) (by omega) (by omega)

theorem open_seal (b : List UInt8) (h : b.length ≤ 36) : openE (sealL b) = 0 ∧ openL (sealL b) = padL b := by
  have hp := padL_length b h
  have e1 : (sealL b).take 36 = padL b := by unfold sealL; rw [← hp]; exact List.take_left
  have e2 : (sealL b).drop 36 = putL (crc (padL b)) 4 := by unfold sealL; rw [← hp]; exact List.drop_left
  rw [← e1]
  refine open_yes (sealL_length b h) ?_
  rw [e1, e2, List.take_of_length_le (by rw [putL_length]; exact Nat.le_refl _), leNat_putL]
  exact Nat.mod_eq_of_lt (by have := crc_lt (padL b); omega)
end Go.Proofs.Ytpcimjccngidgaa
namespace Go.Proofs.Ytpcimjccngidgaa
set_option maxRecDepth 20000

theorem xor_div2 (a b : Nat) : (a ^^^ b) / 2 = a / 2 ^^^ b / 2 := by
  have := Nat.xor_div_two_pow (a := a) (b := b) (n := 1)
  simpa using this
theorem xor_mod2 (a b : Nat) : (a ^^^ b) % 2 = (a % 2 + b % 2) % 2 := by
  have := Nat.xor_mod_two_pow (a := a) (b := b) (n := 1)
  simp only [Nat.pow_one] at this
  rw [this]
  rcases Nat.mod_two_eq_zero_or_one a with h | h <;> rcases Nat.mod_two_eq_zero_or_one b with h' | h' <;> rw [h, h'] <;> rfl
theorem foldS_xor (a b : Nat) : foldS (a ^^^ b) = foldS a ^^^ foldS b := by
  unfold foldS
  have hm := xor_mod2 a b
  rw [xor_div2]
  rcases Nat.mod_two_eq_zero_or_one a with h | h <;> rcases Nat.mod_two_eq_zero_or_one b with h' | h' <;> rw [h, h'] at hm <;> simp only [hm, h, h', Nat.zero_add, Nat.add_zero, if_true, Nat.zero_mod, Nat.reduceAdd, Nat.reduceMod, Nat.zero_ne_one, if_false]
  · rw [Nat.xor_assoc]
  · rw [Nat.xor_assoc, Nat.xor_comm (b / 2), ← Nat.xor_assoc]
  · rw [Nat.xor_assoc (a / 2), Nat.xor_comm (b / 2), ← Nat.xor_assoc 3988292384, Nat.xor_self, Nat.zero_xor]
theorem foldN_xor (n : Nat) : ∀ a b, foldN n (a ^^^ b) = foldN n a ^^^ foldN n b := by
  induction n with
  | zero => intro a b; rfl
  | succ n ih => intro a b; simp only [foldN]; rw [foldS_xor, ih]
theorem foldN_add (m n c : Nat) : foldN (m + n) c = foldN n (foldN m c) := by
  induction m generalizing c with
  | zero => simp [foldN]
  | succ m ih => rw [show m + 1 + n = (m + n) + 1 by omega]; simp only [foldN]; exact ih _
theorem foldS_double (m : Nat) : foldS (2 * m) = m := by
  unfold foldS
  rw [if_neg (by omega)]; omega
theorem foldN_shift (n : Nat) : ∀ m, foldN n (2 ^ n * m) = m := by
  induction n with
  | zero => intro m; simp [foldN]
  | succ n ih =>
    intro m
    simp only [foldN]
    rw [Nat.pow_succ, Nat.mul_comm (2 ^ n) 2, Nat.mul_assoc, foldS_double, ih]
theorem foldS_zero (c : Nat) (hc : c < 4294967296) (h : foldS c = 0) : c = 0 := by
  unfold foldS at h
  split at h
  · have e : c / 2 = 3988292384 := by
      have := congrArg (· ^^^ 3988292384) h
      simpa [Nat.xor_assoc] using this
    omega
  · omega
theorem foldN_zero (n : Nat) : ∀ c, c < 4294967296 → foldN n c = 0 → c = 0 := by
  induction n with
  | zero => intro c _ h; exact h
  | succ n ih => intro c hc h; exact foldS_zero c hc (ih _ (foldS_lt c hc) h)

theorem xor_add (a m : Nat) (ha : a < 256) : a ^^^ 256 * m = a + 256 * m := by
  have h1 := Nat.xor_div_two_pow (a := a) (b := 256 * m) (n := 8)
  have h2 := Nat.xor_mod_two_pow (a := a) (b := 256 * m) (n := 8)
  simp only [Nat.reducePow] at h1 h2
  rw [show a / 256 = 0 by omega, show 256 * m / 256 = m by omega, Nat.zero_xor] at h1
  rw [show a % 256 = a by omega, show 256 * m % 256 = 0 by omega, Nat.xor_zero] at h2
  omega
/-- The sum's register over bytes is that over their number. -/
theorem reg_num (l : List UInt8) : ∀ c, reg c l = foldN (8 * l.length) (c ^^^ leNat l) := by
  induction l with
  | nil => intro c; simp [reg, leNat, foldN]
  | cons u r ih =>
    intro c
    have e : reg c (u :: r) = reg (regB c u) r := rfl
    rw [e, ih, List.length_cons, show 8 * (r.length + 1) = 8 + 8 * r.length by omega, foldN_add]
    congr 1
    rw [leNat, ← xor_add _ _ u.toNat_lt, ← Nat.xor_assoc, foldN_xor 8 (c ^^^ u.toNat)]
    rw [show 256 * leNat r = 2 ^ 8 * leNat r from rfl, foldN_shift]; rfl
theorem leNat_append (l m : List UInt8) : leNat (l ++ m) = leNat l + 256 ^ l.length * leNat m := by
  induction l with
  | nil => simp [leNat]
  | cons u r ih => simp only [List.cons_append, leNat, ih, List.length_cons, Nat.pow_succ, Nat.mul_add]; rw [Nat.mul_comm (256 ^ r.length) 256, Nat.mul_assoc]; omega
theorem xor_ones (c : Nat) : c ^^^ (c ^^^ 4294967295) = 4294967295 := by rw [← Nat.xor_assoc, Nat.xor_self, Nat.zero_xor]
theorem reg_append (l m : List UInt8) (c : Nat) : reg c (l ++ m) = reg (reg c l) m := by simp [reg]
/-- Behind bytes and their sum the register is one and the same. -/
theorem reg_seal (l : List UInt8) : reg 4294967295 (l ++ putL (crc l) 4) = foldN 32 4294967295 := by
  rw [reg_append, reg_num (putL (crc l) 4), putL_length, leNat_putL, Nat.mod_eq_of_lt (by have := crc_lt l; omega)]
  unfold crc
  rw [xor_ones]
/-- And it isn't, behind other bytes. -/
theorem reg_open (l m : List UInt8) (hm : m.length = 4) (h : reg 4294967295 (l ++ m) = foldN 32 4294967295) : leNat m = crc l := by
  rw [reg_append, reg_num m, hm] at h
  have hlt : leNat m < 4294967296 := by have := leNat_lt m; rw [hm] at this; omega
  have hr := reg_lt l 4294967295 (by omega)
  have h2 : foldN 32 ((reg 4294967295 l ^^^ leNat m) ^^^ 4294967295) = 0 := by rw [foldN_xor, h, Nat.xor_self]
  have h3 := foldN_zero 32 _ (xor_lt32 (xor_lt32 hr hlt) (by omega)) h2
  unfold crc
  have h4 : (reg 4294967295 l ^^^ leNat m) = 4294967295 := by
    have := congrArg (· ^^^ 4294967295) h3
    simpa [Nat.xor_assoc] using this
  have h5 := congrArg (reg 4294967295 l ^^^ ·) h4
  simp only [← Nat.xor_assoc, Nat.xor_self, Nat.zero_xor] at h5
  exact h5
/-- Bits within 32 in a row that are turned are seen. -/
theorem spoilt (c d : List UInt8) (first t : Nat) (hc : c.length = 40) (hd : d.length = 40) (hf : first ≤ 288) (ht : t < 4294967296) (h0 : t ≠ 0)
    (hx : leNat d = leNat c ^^^ (2 ^ first * t)) (h : reg 4294967295 c = foldN 32 4294967295) : reg 4294967295 d ≠ foldN 32 4294967295 := by
  intro hd2
  rw [reg_num, hd] at hd2
  rw [reg_num, hc] at h
  rw [hx, ← Nat.xor_assoc, foldN_xor, h] at hd2
  have h3 : foldN (8 * 40) (2 ^ first * t) = 0 := by
    have := congrArg (foldN 32 4294967295 ^^^ ·) hd2
    simp only [← Nat.xor_assoc, Nat.xor_self, Nat.zero_xor] at this
    exact this
  rw [show 8 * 40 = first + (320 - first) by omega, foldN_add, foldN_shift] at h3
  exact h0 (foldN_zero _ _ ht h3)
theorem xor_split (a b m n : Nat) (ha : a < 256) (hb : b < 256) : (a + 256 * m) ^^^ (b + 256 * n) = (a ^^^ b) + 256 * (m ^^^ n) := by
  have h1 := Nat.xor_div_two_pow (a := a + 256 * m) (b := b + 256 * n) (n := 8)
  have h2 := Nat.xor_mod_two_pow (a := a + 256 * m) (b := b + 256 * n) (n := 8)
  simp only [Nat.reducePow] at h1 h2
  rw [show (a + 256 * m) / 256 = m by omega, show (b + 256 * n) / 256 = n by omega] at h1
  rw [show (a + 256 * m) % 256 = a by omega, show (b + 256 * n) % 256 = b by omega] at h2
  omega
/-- A byte of a number that is xored. -/
theorem leNat_set (l : List UInt8) : ∀ (j : Nat) (b : UInt8) (hj : j < l.length), leNat (l.set j (l[j] ^^^ b)) = leNat l ^^^ (256 ^ j * b.toNat) := by
  induction l with
  | nil => intro j b hj; simp at hj
  | cons u r ih =>
    intro j b hj
    cases j with
    | zero =>
      have := xor_split u.toNat b.toNat (leNat r) 0 u.toNat_lt b.toNat_lt
      simp only [List.set_cons_zero, List.getElem_cons_zero, leNat, Nat.pow_zero, Nat.one_mul, UInt8.toNat_xor]
      simpa using this.symm
    | succ j =>
      have hj' : j < r.length := by simpa using hj
      have := xor_split u.toNat 0 (leNat r) (256 ^ j * b.toNat) u.toNat_lt (by omega)
      simp only [List.set_cons_succ, List.getElem_cons_succ, leNat, ih j b hj']
      rw [Nat.pow_succ, Nat.mul_comm (256 ^ j) 256, Nat.mul_assoc]
      simpa using this.symm
theorem xor_high (i a m : Nat) (h : a < 2 ^ i) : a ^^^ 2 ^ i * m = a + 2 ^ i * m := by
  have h1 := Nat.xor_div_two_pow (a := a) (b := 2 ^ i * m) (n := i)
  have h2 := Nat.xor_mod_two_pow (a := a) (b := 2 ^ i * m) (n := i)
  rw [Nat.div_eq_of_lt h, Nat.mul_div_cancel_left _ (Nat.pow_pos (by omega)), Nat.zero_xor] at h1
  rw [Nat.mod_eq_of_lt h, Nat.mul_mod_right, Nat.xor_zero] at h2
  have h3 := Nat.div_add_mod (a ^^^ 2 ^ i * m) (2 ^ i)
  rw [h1, h2] at h3
  omega
theorem mul_xor (f a b : Nat) : 2 ^ f * a ^^^ 2 ^ f * b = 2 ^ f * (a ^^^ b) := by
  have h1 := Nat.xor_div_two_pow (a := 2 ^ f * a) (b := 2 ^ f * b) (n := f)
  have h2 := Nat.xor_mod_two_pow (a := 2 ^ f * a) (b := 2 ^ f * b) (n := f)
  have hp : 0 < 2 ^ f := Nat.pow_pos (by omega)
  rw [Nat.mul_div_cancel_left _ hp, Nat.mul_div_cancel_left _ hp] at h1
  rw [Nat.mul_mod_right, Nat.mul_mod_right, Nat.xor_zero] at h2
  have h3 := Nat.div_add_mod (2 ^ f * a ^^^ 2 ^ f * b) (2 ^ f)
  rw [h1, h2] at h3
  omega
theorem turn_odd (f i t : Nat) (h : t / 2 ^ i % 2 = 1) : 2 ^ f * (t % 2 ^ i) ^^^ 2 ^ (f + i) = 2 ^ f * (t % 2 ^ (i + 1)) := by
  rw [Nat.pow_add, mul_xor]
  congr 1
  have := xor_high i (t % 2 ^ i) 1 (Nat.mod_lt _ (Nat.pow_pos (by omega)))
  rw [Nat.mul_one] at this
  rw [this, Nat.pow_succ, Nat.mod_mul, h, Nat.mul_one]
theorem turn_even (f i t : Nat) (h : t / 2 ^ i % 2 = 0) : 2 ^ f * (t % 2 ^ i) = 2 ^ f * (t % 2 ^ (i + 1)) := by
  rw [Nat.pow_succ, Nat.mod_mul, h, Nat.mul_zero, Nat.add_zero]
theorem place (k : Nat) : 256 ^ (k / 8) * 2 ^ (k % 8) = 2 ^ k := by
  rw [show (256 : Nat) = 2 ^ 8 from rfl, ← Nat.pow_mul, ← Nat.pow_add]
  congr 1; omega
/-- One bit of a row of bytes is turned. -/
theorem turn_bit (l : List UInt8) (k : Nat) (hk : k / 8 < l.length) : leNat (l.set (k / 8) (l[k / 8] ^^^ UInt8.ofNat (2 ^ (k % 8)))) = leNat l ^^^ 2 ^ k := by
  rw [leNat_set l (k / 8) _ hk]
  have h8 : 2 ^ (k % 8) ≤ 2 ^ 7 := Nat.pow_le_pow_right (by omega) (by omega)
  rw [show (UInt8.ofNat (2 ^ (k % 8))).toNat = 2 ^ (k % 8) by simp; omega, place]
end Go.Proofs.Ytpcimjccngidgaa
namespace Go.Proofs.Ytpcimjccngidgaa
set_option maxRecDepth 20000
open Go.RowKit


theorem Cells.take {w : World} {A : Option Addr} {xs : List Value} (h : Cells w A xs) (k : Nat) : Cells w A (xs.take k) := fun hne => by
  obtain ⟨b, off, e, hlt, hc⟩ := h (by intro e; subst e; simp at hne)
  exact ⟨b, off, e, hlt, fun j u hu => hc j u (by
    rw [List.getElem?_take] at hu
    split at hu
    · exact hu
    · cases hu)⟩
theorem leNat_one (l : List UInt8) (k : Nat) (hk : k < l.length) : leNat ((l.drop k).take 1) = l[k].toNat := by
  rw [List.drop_eq_getElem_cons hk, List.take_succ_cons, List.take_zero]; simp [leNat]
theorem leNat_step (l : List UInt8) (k : Nat) (hk : k < l.length) : leNat (l.take (k + 1)) = leNat (l.take k) + 256 ^ k * l[k].toNat := by
  have := leNat_take_succ l 0 k (by omega)
  simpa using this
theorem putL_take (n w : Nat) : ∀ k, k ≤ w → (putL n w).take k = putL n k := by
  induction w generalizing n with
  | zero =>
    intro k hk
    have e : k = 0 := by omega
    rw [e]; rfl
  | succ w ih =>
    intro k hk
    cases k with
    | zero => rfl
    | succ k => simp only [putL, List.take_succ_cons]; rw [ih _ k (by omega)]
theorem putL_mod (n w : Nat) : putL (n % 256 ^ w) w = putL n w := by
  have h := putL_leNat (putL n w)
  rw [leNat_putL, putL_length] at h
  exact h
theorem putL_inj (a b w : Nat) (ha : a < 256 ^ w) (hb : b < 256 ^ w) (h : putL a w = putL b w) : a = b := by
  have := congrArg leNat h
  rwa [leNat_putL, leNat_putL, Nat.mod_eq_of_lt ha, Nat.mod_eq_of_lt hb] at this


theorem own_empty_b (w : World) : (w.alloc (.cells #[] 5)).ownsRow w.heap.size 5 1 (.slice (some ⟨w.heap.size, 0, none⟩) 0 0) 0 (([] : List UInt8).map bv) :=
  World.ownsRow_lit (base := w.heap.size) (e := 5) (size := 1) w #[] 0 (Nat.le_refl _) (Nat.zero_le _) rfl
theorem own_zero (w : World) (B : Nat) (h : B ≤ w.heap.size) : (w.alloc (.cells #[.int .u8 0] 5)).ownsRow B 5 1 (.slice (some ⟨w.heap.size, 0, none⟩) 1 1) 1 (([0] : List UInt8).map bv) :=
  World.ownsRow_lit (base := B) (e := 5) (size := 1) w #[.int .u8 0] 1 h (by unfold maxLen; omega) rfl

/-- append of bytes onto a row of the call's own. -/
theorem app_bytes (w : World) {ops : Array Oper} {rest : List Oper} {o : Oper} {a : Act} {Q : Exit → Act → World → Prop} (hgd : o.guard = none) (s x : Operand)
    (ho : o.op = .call { callee := .builtin .append, args := #[s, x], argTypes := #[23, 23] })
    (B : Nat) (v : Value) (n : Nat) (l : List UInt8) (hs : a.eval s = v) (hown : w.ownsRow B 5 1 v n (l.map bv))
    (A : Option Addr) (m c : Nat) (k : List UInt8) (hx : a.eval x = .slice A m c) (hl : k.length = m) (hnil : A = none → c = 0) (hc : Cells w A (k.map bv))
    (hsz : n + m ≤ 100000) (hB : B ≤ w.heap.size)
    (h : ∀ A' c' w', w'.ownsRow B 5 1 (.slice A' (n + m) c') (n + m) ((l ++ k).map bv) → w.grownBy w' v.ownBlock → wpList Try.prog ops Q rest (a.put o.dst (.slice A' (n + m) c')) w') : wpList Try.prog ops Q (o :: rest) a w := by
  obtain ⟨i0, hi, hz0, hz1, hz2⟩ := info_parts info5
  subst hl
  refine wpList_app w hgd s x 23 ho B 5 i0 (.int .u8 0) 1 1 Try.underlying23 hi hz0 hz1 hz2 rfl (by decide) v n _ hs hown A k.length c (k.map bv) hx (by simp) (fun e => ⟨hc.none_ e, hnil e⟩) hc.at_ (bytes_oneCell _) (by unfold maxLen; omega) (by omega) hB ?_
  intro v' w' hown' hg
  rw [← List.map_append] at hown'
  obtain ⟨A', c', rfl⟩ := own_shape hown'
  exact h A' c' w' hown' hg

theorem crc_both (a m : List UInt8) : crc ((a ++ putL (crc a) 4) ++ m) = reg (foldN 32 4294967295) m ^^^ 4294967295 := by
  unfold crc
  rw [reg_append]
  have := reg_seal a
  unfold crc at this
  rw [this]


/-- Block g's first cells are the bytes l, and may be written. -/
def Mine (w : World) (g : Nat) (l : List UInt8) : Prop := ∃ cur t lo hi, w.heap[g]? = some (.cells cur t (lo, hi)) ∧ l.length ≤ lo ∧ ∀ j (hj : j < l.length), cur[j]? = some (bv l[j])
theorem Mine.lt {w : World} {g : Nat} {l : List UInt8} (h : Mine w g l) : g < w.heap.size := by
  obtain ⟨cur, t, lo, hi, h1, _⟩ := h
  exact (Array.getElem?_eq_some_iff.1 h1).1
theorem Mine.cell {w : World} {g : Nat} {l : List UInt8} (h : Mine w g l) (j : Nat) (hj : j < l.length) : w.cell? ⟨g, j, none⟩ = some (.int .u8 (l[j].toNat : Int)) := by
  obtain ⟨cur, t, lo, hi, h1, _, h2⟩ := h
  rw [cell_of_row w g j cur t (lo, hi) h1, h2 j hj]; rfl
theorem Mine.free {w : World} {g : Nat} {l : List UInt8} (h : Mine w g l) (j : Nat) (hj : j < l.length) : w.frozen? ⟨g, j, none⟩ = false := by
  obtain ⟨cur, t, lo, hi, h1, h3, _⟩ := h
  simp [World.frozen?, h1]
  omega
theorem Mine.set {w : World} {g : Nat} {l : List UInt8} (h : Mine w g l) (j : Nat) (u : UInt8) : Mine (w.setCell ⟨g, j, none⟩ (bv u)) g (l.set j u) := by
  obtain ⟨cur, t, lo, hi, h1, h3, h2⟩ := h
  refine ⟨cur.setIfInBounds j (bv u), t, lo, hi, ?_, by simpa using h3, fun i hi => ?_⟩
  · simp [World.setCell, Array.getElem?_modify, h1]
  · have hi' : i < l.length := by simpa using hi
    rw [Array.getElem?_setIfInBounds]
    by_cases e : j = i
    · subst e
      have hlt : j < cur.size := (Array.getElem?_eq_some_iff.1 (h2 j hi')).1
      simp [hlt]
    · rw [if_neg e, h2 i hi']
      simp [e]
theorem Mine.cells {w : World} {g : Nat} {l : List UInt8} (h : Mine w g l) : Cells w (some ⟨g, 0, none⟩) (l.map bv) := fun _ =>
  ⟨g, 0, rfl, h.lt, fun j u hu => by
    have hj : j < l.length := by have := (List.getElem?_eq_some_iff.1 hu).1; simpa using this
    rw [Nat.zero_add, h.cell j hj, ← hu]
    simp [bv, hj]⟩
theorem conv_mine (s : ByteArray) (w : World) : ∃ cap W, (convert 9 23 (.string s)).run Try.prog w = .ok (.slice (some ⟨w.heap.size, 0, none⟩) s.size cap) W ∧
    Ext w W ∧ Mine W w.heap.size s.data.toList := by
  refine ⟨_, _, run_bytes_of_string (P := Try.prog) w 9 23 5 s Try.underlying9 Try.underlying23 Try.underlying5, ((Below.refl _ _).drew).alloc (Nat.le_refl _) _, ?_⟩
  have hcap := grownCap_ge w s.size 0 5
  refine ⟨_, 5, _, _, heap_alloc_new w.drew _, ?_, fun j hj => ?_⟩
  · simp [bytesRow]
  · have hj' : j < s.data.size := by simpa using hj
    rw [bytesRow_at s _ j hj']
    simp [bv]

theorem bits_xor8 (a b : UInt8) : bits BinOp.xor IntKind.u8 (a.toNat : Int) (b.toNat : Int) = ((a ^^^ b).toNat : Int) := by
  rw [u8_xor_nat _ _ a.toNat_lt b.toNat_lt, UInt8.toNat_xor]

theorem bits_turn (u : UInt8) (q : Nat) (hq : q < 8) : Value.int .u8 (bits BinOp.xor IntKind.u8 (u.toNat : Int) (2 ^ q)) = bv (u ^^^ UInt8.ofNat (2 ^ q)) := by
  have h8 : 2 ^ q ≤ 2 ^ 7 := Nat.pow_le_pow_right (by omega) (by omega)
  have e : ((2 : Int) ^ q) = (((UInt8.ofNat (2 ^ q)).toNat : Nat) : Int) := by
    rw [show (UInt8.ofNat (2 ^ q)).toNat = 2 ^ q by simp; omega]; simp
  rw [e, bits_xor8]; rfl
theorem open_spoilt (c d : List UInt8) (first t : Nat) (hc : c.length = 40) (hd : d.length = 40) (hf : first ≤ 288) (ht : t < 4294967296) (h0 : t ≠ 0)
    (hx : leNat d = leNat c ^^^ (2 ^ first * t)) (h : reg 4294967295 c = foldN 32 4294967295) : openE d = 2 := by
  refine (open_no (s := d) ?_).1
  rintro ⟨_, hq⟩
  refine spoilt c d first t hc hd hf ht h0 hx h ?_
  have hm : (d.drop 36).take 4 = d.drop 36 := List.take_of_length_le (by simp [hd])
  rw [hm] at hq
  have hl : (d.drop 36).length = 4 := by simp [hd]
  have hput : putL (crc (d.take 36)) 4 = d.drop 36 := by
    rw [← hq, ← hl]; exact putL_leNat _
  have := reg_seal (d.take 36)
  rw [hput, List.take_append_drop] at this
  exact this


/-- What is sealed, opened: b with noughts behind, or nothing. -/
def unsealed (b : List UInt8) : List UInt8 := if b.length ≤ 36 then padL b else []
theorem unsealed_at (b : List UInt8) (i : Nat) (hi : i < (unsealed b).length) : (∀ h : i < b.length, (unsealed b)[i] = b[i]) ∧ (b.length ≤ i → (unsealed b)[i] = 0) := by
  unfold unsealed at hi ⊢
  split at hi
  · rename_i h
    simp only [if_pos h]
    unfold padL
    constructor
    · intro h'; rw [List.getElem_append_left h']
    · intro h'; rw [List.getElem_append_right h']; simp
  · simp at hi
theorem open_sealB (b : List UInt8) : openL (sealB b).data.toList = unsealed b ∧ openE (sealB b).data.toList = (if b.length ≤ 36 then 0 else 2) ∧ (sealB b).size = (if b.length ≤ 36 then 40 else 0) := by
  unfold sealB unsealed
  by_cases h : b.length ≤ 36
  · simp only [if_pos h]
    have := open_seal b h
    exact ⟨this.2, this.1, sealL_length b h⟩
  · simp only [if_neg h]
    have := open_no (s := ([] : List UInt8)) (by simp)
    exact ⟨this.2, this.1, rfl⟩
theorem seal_open (s : ByteArray) (h : openE s.data.toList = 0) : sealV (openL s.data.toList) = .tuple #[.string s, .int .i64 0] := by
  by_cases hc : s.data.toList.length = 40 ∧ leNat ((s.data.toList.drop 36).take 4) = crc (s.data.toList.take 36)
  · obtain ⟨h40, hq⟩ := hc
    rw [(open_yes h40 hq).2]
    have hl : (s.data.toList.take 36).length = 36 := by rw [List.length_take, h40]; rfl
    have hd : (s.data.toList.drop 36).length = 4 := by rw [List.length_drop, h40]
    unfold sealV sealB sealE
    rw [if_pos (by omega), if_pos (by omega)]
    have hp : padL (s.data.toList.take 36) = s.data.toList.take 36 := by unfold padL; rw [hl]; simp
    have e : sealL (s.data.toList.take 36) = s.data.toList := by
      unfold sealL
      have ht : (s.data.toList.drop 36).take 4 = s.data.toList.drop 36 := List.take_of_length_le (by omega)
      rw [hp, ← hq, ht]
      have := putL_leNat (s.data.toList.drop 36)
      rw [hd] at this
      rw [this, List.take_append_drop]
    rw [e]
  · rw [(open_no hc).1] at h
    cases h

theorem unsealed_length (b : List UInt8) : (unsealed b).length = if b.length ≤ 36 then 36 else 0 := by
  unfold unsealed
  by_cases h : b.length ≤ 36
  · rw [if_pos h, if_pos h]; exact padL_length b h
  · rw [if_neg h, if_neg h]; rfl
theorem openE_two (s : List UInt8) : openE s = 0 ∨ openE s = 2 := by
  unfold openE; split
  · exact .inl rfl
  · exact .inr rfl
theorem openL_le (s : List UInt8) : (openL s).length ≤ 36 := by
  unfold openL openS
  split
  · simp; omega
  · simp

end Go.Proofs.Ytpcimjccngidgaa
