/- Walk of NumSpoilt. -/
import Derived.Test.YtobhmkdjjglfaaaL3
namespace Go.Proofs.Ytobhmkdjjglfaaa
open Go.RowKit

/-- Block g's first cells are the bytes l, and may be written. -/
def Mine (w : World) (g : Nat) (l : List UInt8) : Prop := ∃ cur t lo hi, w.heap[g]? = some (.cells cur t (lo, hi)) ∧ l.length ≤ lo ∧ ∀ j (hj : j < l.length), cur[j]? = some (bv l[j])
theorem Mine.lt {w : World} {g : Nat} {l : List UInt8} (h : Mine w g l) : g < w.heap.size := by
  obtain ⟨cur, t, lo, hi, h1, _⟩ := h
  exact (Array.getElem?_eq_some_iff.1 h1).1
theorem Mine.cell {w : World} {g : Nat} {l : List UInt8} (h : Mine w g l) (j : Nat) (hj : j < l.length) : w.cell? ⟨g, j, none⟩ = some (.int .u8 (l[j].toNat : Int)) := by
  obtain ⟨cur, t, lo, hi, h1, _, h2⟩ := h
  rw [cell_of_row w g j cur t (lo, hi) h1, h2 j hj]; rfl
theorem Mine.free {w : World} {g : Nat} {l : List UInt8} (h : Mine w g l) (j : Nat) (hj : j < l.length) : w.frozen? ⟨g, j, none⟩ = false := by
  obtain ⟨cur, t, lo, hi, h1, h3, _⟩ := h
  simp [World.frozen?, h1]
  omega
theorem Mine.set {w : World} {g : Nat} {l : List UInt8} (h : Mine w g l) (j : Nat) (u : UInt8) : Mine (w.setCell ⟨g, j, none⟩ (bv u)) g (l.set j u) := by
  obtain ⟨cur, t, lo, hi, h1, h3, h2⟩ := h
  refine ⟨cur.setIfInBounds j (bv u), t, lo, hi, ?_, by simpa using h3, fun i hi => ?_⟩
  · simp [World.setCell, Array.getElem?_modify, h1]
  · have hi' : i < l.length := by simpa using hi
    rw [Array.getElem?_setIfInBounds]
    by_cases e : j = i
    · subst e
      have hlt : j < cur.size := (Array.getElem?_eq_some_iff.1 (h2 j hi')).1
      simp [hlt]
    · rw [if_neg e, h2 i hi']
      simp [e]
theorem Mine.cells {w : World} {g : Nat} {l : List UInt8} (h : Mine w g l) : Cells w (some ⟨g, 0, none⟩) (l.map bv) := fun _ =>
  ⟨g, 0, rfl, h.lt, fun j u hu => by
    have hj : j < l.length := by have := (List.getElem?_eq_some_iff.1 hu).1; simpa using this
    rw [Nat.zero_add, h.cell j hj, ← hu]
    simp [bv, hj]⟩
theorem conv_mine (s : ByteArray) (w : World) : ∃ cap W, (convert 9 22 (.string s)).run Try.prog w = .ok (.slice (some ⟨w.heap.size, 0, none⟩) s.size cap) W ∧
    Ext w W ∧ Mine W w.heap.size s.data.toList := by
  refine ⟨_, _, run_bytes_of_string (P := Try.prog) w 9 22 5 s Try.underlying9 Try.underlying22 Try.underlying5, ((Below.refl _ _).drew).alloc (Nat.le_refl _) _, ?_⟩
  have hcap := grownCap_ge w s.size 0 5
  refine ⟨_, 5, _, _, heap_alloc_new w.drew _, ?_, fun j hj => ?_⟩
  · simp [bytesRow]
  · have hj' : j < s.data.size := by simpa using hj
    rw [bytesRow_at s _ j hj']
    simp [bv]

theorem bits_xor8 (a b : UInt8) : bits BinOp.xor IntKind.u8 (a.toNat : Int) (b.toNat : Int) = ((a ^^^ b).toNat : Int) := by
  rw [u8_xor_nat _ _ a.toNat_lt b.toNat_lt, UInt8.toNat_xor]

theorem bits_turn (u : UInt8) (q : Nat) (hq : q < 8) : Value.int .u8 (bits BinOp.xor IntKind.u8 (u.toNat : Int) (2 ^ q)) = bv (u ^^^ UInt8.ofNat (2 ^ q)) := by
  have h8 : 2 ^ q ≤ 2 ^ 7 := Nat.pow_le_pow_right (by omega) (by omega)
  have e : ((2 : Int) ^ q) = (((UInt8.ofNat (2 ^ q)).toNat : Nat) : Int) := by
    rw [show (UInt8.ofNat (2 ^ q)).toNat = 2 ^ q by simp; omega]; simp
  rw [e, bits_xor8]; rfl
theorem Ext.set {a b : World} (h : Ext a b) {p : Addr} (hp : a.heap.size ≤ p.block) (u : Value) : Ext a (b.setCell p u) := Below.setCell h hp u
theorem open_spoilt (c d : List UInt8) (first t : Nat) (hc : c.length = 40) (hd : d.length = 40) (hf : first ≤ 288) (ht : t < 4294967296) (h0 : t ≠ 0)
    (hx : leNat d = leNat c ^^^ (2 ^ first * t)) (h : reg 4294967295 c = foldN 32 4294967295) : openE d = 2 := by
  refine (open_no (s := d) ?_).1
  rintro ⟨_, hq⟩
  refine spoilt c d first t hc hd hf ht h0 hx h ?_
  have hm : (d.drop 36).take 4 = d.drop 36 := List.take_of_length_le (by simp [hd])
  rw [hm] at hq
  have hl : (d.drop 36).length = 4 := by simp [hd]
  have hput : putL (crc (d.take 36)) 4 = d.drop 36 := by
    rw [← hq, ← hl]; exact putL_leNat _
  have := reg_seal (d.take 36)
  rw [hput, List.take_append_drop] at this
  exact this

set_option maxHeartbeats 2000000 in
theorem numSpoilt_any (A : Option Addr) (l : List UInt8) (c at_ t : Nat) (w : World) (hl : l.length ≤ maxLen) (hA : Cells w A (l.map bv)) (hat : at_ < 65536) (ht : t < 4294967296) :
    Calls Try.prog 6 #[.slice A l.length c, .int .u16 at_, .int .u32 t] w fun e w' => e = .returned (.bool true) ∧ Below w.heap.size w w' := by
  have HL := Lib.hid hl
  have HA := Lib.hid hA
  have hlen : l.length ≤ 36 ∨ 36 < l.length := by omega
  clear hl hA
  rcases hlen with hlen | hlen
  · by_cases h0 : t = 0
    · have t1 : ((t : Int) == 0) = true := by simp [h0]
      go_enter Try.func6, Try.ntmps6
      go_wp2_with (go_at_call 9; refine (shown_any _).mono ?_; rintro e w1 ⟨rfl, hb1⟩; have HB1 := Lib.hid hb1; clear hb1)
      go_ret
      exact ⟨rfl, HB1.out⟩
    · have t1 : ((t : Int) == 0) = false := by simp [h0]
      have H0 := Lib.hid h0
      clear h0
      go_enter Try.func6, Try.ntmps6
      go_wp2_with (go_at_call 9; refine stop_here ?_)
      refine stop_on ?_
      refine (shown_any _).mono ?_
      rintro e w1 ⟨rfl, hb1⟩
      have X1 := Lib.hid (show Ext w w1 from hb1)
      clear hb1
      have hC := sealP_any A l c w1 HL.out (HA.out.ext X1.out)
      have e1 : sealV l = .tuple #[.string ⟨(sealL l).toArray⟩, .int .i64 0] := by unfold sealV sealB sealE; rw [if_pos hlen, if_pos hlen]
      rw [e1] at hC
      have hsz := sealL_length l hlen
      have HLE := Lib.hid (open_seal l hlen)
      have HSZ := Lib.hid hsz
      have HR := Lib.hid (show reg 4294967295 (sealL l) = foldN 32 4294967295 from reg_seal (padL l))
      have hq : ((⟨(sealL l).toArray⟩ : ByteArray).size) = 40 := by rw [← hsz]; rfl
      have hq2 : (⟨(sealL l).toArray⟩ : ByteArray).data.toList = sealL l := rfl
      clear hsz e1
      generalize (⟨(sealL l).toArray⟩ : ByteArray) = sb at *
      generalize sealL l = sl at *
      have hq3 : ((sb.size : Int) != 40) = false := by simp [hq]
      have HQ := Lib.hid hq
      have HQ2 := Lib.hid hq2
      clear hq hq2
      go_wp2_with (go_at_call 17; refine stop_here ?_)
      refine stop_on ?_
      refine hC.mono ?_
      clear hC
      rintro e w2 ⟨rfl, hb2⟩
      have X2 := Lib.hid (X1.out.trans hb2)
      clear hb2
      obtain ⟨cap, w3, e3, x3, m3⟩ := conv_mine sb w2
      rw [HQ.out] at e3
      rw [HQ2.out] at m3
      have X3 := Lib.hid (X2.out.trans x3)
      have M3 := Lib.hid m3
      clear x3 m3
      go_wp2
      rw [show ((at_ : Int) % 289) = ((at_ % 289 : Nat) : Int) by omega]
      have hf : at_ % 289 ≤ 288 := by omega
      have X03 : w.heap.size ≤ w2.heap.size := X2.out.size
      generalize at_ % 289 = f at *
      generalize w2.heap.size = g at *
      clear e3
      go_loopw [2, 12] (fun tv iv wr => ∃ (i : Nat) (r : List UInt8), i ≤ 32 ∧ iv = .int .i64 i ∧ tv = .int .u32 (t / 2 ^ i : Nat) ∧ r.length = 40 ∧ leNat r = leNat sl ^^^ 2 ^ f * (t % 2 ^ i) ∧ Mine wr g r ∧ Ext w wr) (fun _ iv _ => 32 - (intOf iv).toNat)
      case atStart => exact ⟨0, sl, by omega, rfl, by simp, HSZ.out, by simp [Nat.mod_one], M3.out, X3.out⟩
      case round =>
        obtain ⟨i, r, hi, rfl, rfl, hr40, hnum, hm, hx⟩ := hrel
        have HR40 := Lib.hid hr40
        have HNUM := Lib.hid hnum
        have M := Lib.hid hm
        have X := Lib.hid hx
        clear hr40 hnum hm hx
        by_cases h32 : i < 32
        · have hdl : t / 2 ^ i ≤ t := Nat.div_le_self _ _
          have HDD := Lib.hid (show t / 2 ^ i / 2 = t / 2 ^ (i + 1) by rw [Nat.div_div_eq_div_mul, Nat.pow_succ])
          have HTO := Lib.hid (turn_odd f i t)
          have HTE := Lib.hid (turn_even f i t)
          generalize t / 2 ^ i = y at *
          by_cases ho : y % 2 = 1
          · have ho' : (((y : Int) % 2) == 1) = true := by simp; omega
            have hk40 : (f + i) / 8 < r.length := by rw [HR40.out]; omega
            have HTB := Lib.hid (turn_bit r (f + i) hk40)
            have HO := Lib.hid (HTO.out ho)
            have HC := Lib.hid (M.out.cell _ hk40)
            have HF := Lib.hid (M.out.free _ hk40)
            go_wp2
            go_loop [14, 15] (fun b q => ∃ n : Nat, n ≤ (f + i) % 8 ∧ q = .int .i64 n ∧ b = .int .u8 (2 ^ n : Nat)) (fun _ q => 8 - (intOf q).toNat)
            case atStart => exact ⟨0, by omega, rfl, rfl⟩
            case round =>
              obtain ⟨n, hn, rfl, rfl⟩ := hrel
              have hpow : 2 ^ n ≤ 2 ^ 7 := Nat.pow_le_pow_right (by omega) (by omega)
              have HPW := Lib.hid (Nat.pow_succ 2 n)
              by_cases hlt : n < (f + i) % 8
              · have hp6 : 2 ^ n ≤ 2 ^ 6 := Nat.pow_le_pow_right (by omega) (by omega)
                generalize 2 ^ n = z at *
                go_wp2
                go_round
                case rel => exact ⟨n + 1, by omega, by go_num, by rw [HPW.out]; go_num⟩
                case measure => simp [intOf]; omega
              · obtain rfl : n = (f + i) % 8 := by omega
                have hc := HC.out
                have hfr := HF.out
                go_wp2
                rw [bits_turn _ _ (Nat.mod_lt _ (by omega))]
                go_roundw
                case rel => exact ⟨i + 1, _, by omega, by go_num, by rw [← HDD.out]; go_num, by rw [List.length_set]; exact HR40.out, by rw [HTB.out, HNUM.out, Nat.xor_assoc, HO.out], M.out.set _ _, X.out.set X03 _⟩
                case measure => simp [intOf]; omega
          · have ho' : (((y : Int) % 2) == 1) = false := by simp; omega
            have HE := Lib.hid (HTE.out (by omega))
            go_wp2
            go_roundw
            case rel => exact ⟨i + 1, r, by omega, by go_num, by rw [← HDD.out]; go_num, HR40.out, by rw [HNUM.out, HE.out], M.out, X.out⟩
            case measure => simp [intOf]; omega
        · obtain rfl : i = 32 := by omega
          have hop := open_spoilt sl r f t HSZ.out HR40.out hf ht H0.out (by rw [HNUM.out, Nat.mod_eq_of_lt (by omega)]) HR.out
          have HOP := Lib.hid hop
          have hcv := conv_str (c := cap) M.out.cells (by rw [HR40.out]; omega)
          rw [HR40.out] at hcv
          have hO := openP_any ⟨r.toArray⟩ wr (by rw [show (⟨r.toArray⟩ : ByteArray).size = r.length from rfl, HR40.out]; unfold maxLen; omega)
          rw [show (⟨r.toArray⟩ : ByteArray).data.toList = r from rfl, HOP.out] at hO
          have HOO := Lib.hid hO
          clear hO hop HNUM
          generalize (⟨r.toArray⟩ : ByteArray) = rs at *
          go_wp2_with (go_at_call 19; refine stop_here ?_)
          refine stop_on ?_
          refine HOO.out.mono ?_
          rintro e w9 ⟨v9, rfl, _, hb9⟩
          have X9 := Lib.hid (X.out.trans hb9)
          clear hb9 HOO
          go_wp2
          go_ret
          exact ⟨rfl, X9.out⟩
  · go_enter Try.func6, Try.ntmps6
    go_wp2_with (go_at_call 9; refine (shown_any _).mono ?_; rintro e w1 ⟨rfl, hb1⟩; have HB1 := Lib.hid hb1; clear hb1)
    go_ret
    exact ⟨rfl, HB1.out⟩
end Go.Proofs.Ytobhmkdjjglfaaa
