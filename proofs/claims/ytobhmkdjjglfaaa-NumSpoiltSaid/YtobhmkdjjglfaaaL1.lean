/- Walks of NumTells and NumSeals. -/
import Derived.Test.YtobhmkdjjglfaaaW9
namespace Go.Proofs.Ytobhmkdjjglfaaa
open Go.RowKit

theorem takeV_three (l : List UInt8) (a m z : Int) : ∃ x y t, takeV l a m z = .tuple #[.int .i64 x, .int .i64 y, .int .i64 t] := by
  unfold takeV; split <;> exact ⟨_, _, _, rfl⟩

theorem below_drewN {B : Nat} {a w : World} (h : Below B a w) (n : Nat) : Below B a (w.drewN n) := ⟨h.os, h.tape, h.output, h.size, h.block⟩

set_option maxHeartbeats 1000000 in
theorem numTells_any (n wd at_ : Int) (A : Option Addr) (l : List UInt8) (c : Nat) (w : World) (hl : l.length ≤ maxLen) (hA : Cells w A (l.map bv))
    (h1 : -9223372036854775808 ≤ at_) (h2 : at_ ≤ 9223372036854775807) (hn1 : -9223372036854775808 ≤ n) (hn2 : n ≤ 9223372036854775807) :
    Calls Try.prog 3 #[.agg #[.int .i64 n, .int .i64 wd, .slice A l.length c, .int .i64 at_]] w fun e w' => e = .returned (.bool true) ∧ Below w.heap.size w w' := by
  have HL := Lib.hid hl
  have HA := Lib.hid hA
  have hlen : l.length ≤ 1000 ∨ 1000 < l.length := by omega
  have hB0 := fun o => (Below.refl w.heap.size w).alloc (Nat.le_refl _) o
  have HB0 := Lib.hid hB0
  clear hl hA hB0
  rcases hlen with hlen | hlen
  · go_enter Try.func3, Try.ntmps3
    go_wp2_with (go_at_call 9; refine stop_here ?_)
    refine stop_on ?_
    refine (shown_any _).mono ?_
    rintro e w1 ⟨rfl, hb1⟩
    have HB1 := Lib.hid ((HB0.out _).trans (hb1.mono (by simp)))
    clear hb1
    have HA1 := Lib.hid (HA.out.below HB1.out)
    have HT := Lib.hid (takeP_any A l c at_ wd w1 HL.out HA1.out h1 h2)
    have HT2 := Lib.hid (takeR_any A l c at_ wd w1 HL.out HA1.out h1 h2)
    obtain ⟨x, y, t, hx⟩ := takeV_three l at_ wd 2
    rw [hx] at HT HT2
    go_wp2_with (first | (go_at_call 10; refine HT.out.mono ?_; rintro e w' ⟨rfl, rfl⟩) | (go_at_call 11; refine HT2.out.mono ?_; rintro e w' ⟨rfl, rfl⟩) | (go_at_call 13; refine stop_here ?_))
    refine stop_on ?_
    refine (putP_any _ _ _ hn1 hn2).mono ?_
    rintro e w2 ⟨v2, rfl, hgot2, hb2⟩
    have HG2 := Lib.hid hgot2
    have HB2 := Lib.hid hb2
    clear hgot2 hb2
    go_wp2_with (go_at_call 14; refine stop_here ?_)
    refine stop_on ?_
    refine (putR_any _ _ _ hn1 hn2).mono ?_
    rintro e w3 ⟨v3, rfl, hgot3, hb3⟩
    obtain ⟨A2, c2, rfl, _, hm2, _, hc2⟩ := HG2.out
    obtain ⟨A3, c3, rfl, _, hm3, _, hc3⟩ := hgot3
    have HB3 := Lib.hid hb3
    have HC2 := Lib.hid (hc2.below hb3)
    have HC3 := Lib.hid hc3
    have hp : (putS n wd).length ≤ maxLen := by omega
    have HP := Lib.hid hp
    clear hb3 hc2 hc3 hp hm2 hm3 HG2
    have HR := Lib.hid (row_any A2 A3 (putS n wd) (putS n wd) c2 c3 w3 HP.out HP.out HC2.out HC3.out)
    rw [rowB_true _ _ rfl] at HR
    have HB13 := Lib.hid (HB2.out.trans (HB3.out.mono HB2.out.size))
    have HBw := Lib.hid (HB1.out.trans (HB13.out.mono HB1.out.size))
    have HS := fun m => Lib.hid (sumP_any A l c (w3.drewN m) HL.out ((HA.out.below HBw.out).drewN m))
    have HS2 := fun m => Lib.hid (sumR_any A l c (w3.drewN m) HL.out ((HA.out.below HBw.out).drewN m))
    go_wp2_with (first | (go_at_call 12; refine HR.out.mono ?_; rintro e w' ⟨rfl, m, rfl⟩) | (go_at_call 15; refine (HS _).out.mono ?_; rintro e w' ⟨rfl, rfl⟩) | (go_at_call 16; refine (HS2 _).out.mono ?_; rintro e w' ⟨rfl, rfl⟩))
    go_ret
    exact ⟨rfl, below_drewN HBw.out m⟩
  · go_enter Try.func3, Try.ntmps3
    go_wp2_with (go_at_call 9; refine (shown_any _).mono ?_; rintro e w1 ⟨rfl, hb1⟩; have HB1 := Lib.hid ((HB0.out _).trans (hb1.mono (by simp))); clear hb1)
    go_ret
    exact ⟨rfl, HB1.out⟩

set_option maxHeartbeats 1000000 in
theorem numSeals_any (A : Option Addr) (l : List UInt8) (c : Nat) (s : ByteArray) (w : World) (hl : l.length ≤ maxLen) (hn : A = none → c = 0) (hA : Cells w A (l.map bv)) (hs : s.size ≤ maxLen) :
    Calls Try.prog 4 #[.slice A l.length c, .string s] w fun e w' => e = .returned (.bool true) ∧ Below w.heap.size w w' := by
  have HL := Lib.hid hl
  have HA := Lib.hid hA
  have HN := Lib.hid hn
  have HS := Lib.hid hs
  have hlen : l.length ≤ 1000 ∨ 1000 < l.length := by omega
  have hlen2 : s.size ≤ 1000 ∨ 1000 < s.size := by omega
  clear hl hA hn hs
  rcases hlen with hlen | hlen
  · rcases hlen2 with hlen2 | hlen2
    · go_enter Try.func4, Try.ntmps4
      go_wp2_with (go_at_call 9; refine stop_here ?_)
      refine stop_on ?_
      refine (shown_any _).mono ?_
      rintro e w1 ⟨rfl, hb1⟩
      have HB1 := Lib.hid hb1
      clear hb1
      have HC1 := Lib.hid (sealP_any A l c w1 HL.out (HA.out.below HB1.out))
      unfold sealV at HC1
      go_wp2_with (go_at_call 17; refine stop_here ?_)
      refine stop_on ?_
      refine HC1.out.mono ?_
      rintro e w2 ⟨rfl, hb2⟩
      have HB2 := Lib.hid (HB1.out.trans (hb2.mono HB1.out.size))
      clear hb2 HC1
      have HC2 := Lib.hid (sealR_any A l c w2 HL.out HN.out (HA.out.below HB2.out))
      unfold sealV at HC2
      generalize sealB l = sb at *
      generalize sealE l = se at *
      go_wp2_with (go_at_call 18; refine stop_here ?_)
      refine stop_on ?_
      refine HC2.out.mono ?_
      rintro e w3 ⟨rfl, hb3⟩
      have HB3 := Lib.hid (HB2.out.trans (hb3.mono HB2.out.size))
      clear hb3 HC2
      go_wp2_with (go_at_call 19; refine stop_here ?_)
      refine stop_on ?_
      refine (openP_any s w3 HS.out).mono ?_
      rintro e w4 ⟨v4, rfl, hgot4, hb4⟩
      have HB4 := Lib.hid (HB3.out.trans (hb4.mono HB3.out.size))
      have HG4 := Lib.hid hgot4
      clear hb4 hgot4
      go_wp2_with (go_at_call 20; refine stop_here ?_)
      refine stop_on ?_
      refine (openR_any s w4 HS.out).mono ?_
      rintro e w5 ⟨v5, rfl, hgot5, hb5⟩
      have HB5 := Lib.hid (HB4.out.trans (hb5.mono HB4.out.size))
      obtain ⟨A4, c4, rfl, _, hm4, _, hc4⟩ := HG4.out
      obtain ⟨A5, c5, rfl, _, hm5, _, hc5⟩ := hgot5
      have HR := Lib.hid (row_any A4 A5 _ _ c4 c5 w5 (by omega) (by omega) (hc4.below hb5) hc5)
      clear hb5 HG4 hm4 hm5 hc4 hc5
      rw [rowB_true _ _ rfl] at HR
      generalize openL s.data.toList = ol at *
      generalize openE s.data.toList = oe at *
      go_wp2_with (go_at_call 12; refine HR.out.mono ?_; rintro e w' ⟨rfl, m, rfl⟩)
      go_ret
      exact ⟨rfl, below_drewN HB5.out m⟩
    · go_enter Try.func4, Try.ntmps4
      go_wp2_with (go_at_call 9; refine (shown_any _).mono ?_; rintro e w1 ⟨rfl, hb1⟩; have HB1 := Lib.hid hb1; clear hb1)
      go_ret
      exact ⟨rfl, HB1.out⟩
  · go_enter Try.func4, Try.ntmps4
    go_wp2_with (go_at_call 9; refine (shown_any _).mono ?_; rintro e w1 ⟨rfl, hb1⟩; have HB1 := Lib.hid hb1; clear hb1)
    go_ret
    exact ⟨rfl, HB1.out⟩
end Go.Proofs.Ytobhmkdjjglfaaa
