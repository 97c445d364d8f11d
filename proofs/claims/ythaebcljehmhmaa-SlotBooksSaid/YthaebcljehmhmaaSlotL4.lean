/- The walk of SlotBooks. -/
import Derived.Test.YthaebcljehmhmaaSlotM
namespace Go.Proofs.Ythaebcljehmhmaa
open Go.RowKit
attribute [local go_sem ↓] Go.wp_at_zero Go.wp_at_succ

set_option maxRecDepth 100000 in
set_option maxHeartbeats 8000000 in
theorem books_any (A : Option Addr) (l : List UInt8) (c : Nat) (at_ : Int) (by_ more : UInt8) (w : World) (hA : Sl w A l.length c (l.map bv)) (h0 : 0 ≤ at_) (h1 : at_ < 65536) :
    Calls Try.prog 6 #[.agg #[.slice A l.length c, .int .u16 at_, .int .u8 by_.toNat, .int .u8 more.toNat]] w fun e w' => e = .returned (.bool true) ∧ Ext w w' := by
  have HA := Lib.hid hA
  clear hA
  have X0 := Lib.hid (fun o => (Ext.refl w).alloc o)
  rcases Decidable.em ((l.length : Int) ≤ 1000) with hl | hl
  rotate_left
  · go_enter Try.func6, Try.ntmps6
    go_wp2_with (go_at_call 8; refine (shown_any _).mono ?_; rintro e w1 ⟨rfl, hb1⟩; have HB1 := Lib.hid ((X0.out _).trans hb1); clear hb1)
    go_ret
    exact ⟨rfl, HB1.out⟩
  rcases Nat.eq_zero_or_pos l.length with hz | hz
  · rw [hz]
    go_enter Try.func6, Try.ntmps6
    go_wp2_with (go_at_call 8; refine (shown_any _).mono ?_; rintro e w1 ⟨rfl, hb1⟩; have HB1 := Lib.hid ((X0.out _).trans hb1); clear hb1)
    go_ret
    exact ⟨rfl, HB1.out⟩
  have hz1 : ((l.length : Int) == 0) = false := by
    have : (l.length : Int) ≠ 0 := by omega
    simpa using this
  have HZ := Lib.hid hz
  obtain ⟨k, hk⟩ : ∃ k : Nat, at_ % (l.length : Int) = (k : Int) := Int.eq_ofNat_of_zero_le (Int.emod_nonneg _ (by omega))
  have hkn : k < l.length := by have := Int.emod_lt_of_pos at_ (show (0 : Int) < l.length by omega); omega
  have Hk := Lib.hid hk
  have hm0 : 0 ≤ at_ % (l.length : Int) := by omega
  have hm1 : at_ % (l.length : Int) < (l.length : Int) := by omega
  clear hk hz
  go_enter Try.func6, Try.ntmps6
  go_wp2_with (first | (at_builtin; refine stop_here ?_) | (go_at_call 8; refine (shown_any _).mono ?_; rintro e w1 ⟨rfl, hb1⟩; have HX1 := Lib.hid ((X0.out _).trans hb1); clear hb1))
  refine stop_on ?_
  refine app_bytes _ rfl _ _ rfl w1.heap.size _ 0 [] rfl (own_empty_b w1) A l.length c l rfl rfl HA.out.1 (HA.out.ext (HX1.out.alloc _)).cells (by omega) (by simp) ?_
  intro A2 c2 w2 hown hg
  rw [List.nil_append, Nat.zero_add] at hown
  rw [Nat.zero_add]
  have HX12 := Lib.hid (show Ext w1 w2 from Below.grown ((Ext.refl w1).alloc _) hg (by simp) (by intro q hq; cases hq; exact Nat.le_refl _))
  obtain ⟨g, rfl, hg1, hf, hc1, hc2⟩ := own_free hown HZ.out
  have HF := Lib.hid hf
  have HX2 := Lib.hid (HX1.out.trans HX12.out)
  have hf1 : w2.cell? ⟨g, (at_ % (l.length : Int)).toNat, none⟩ = some (.int .u8 (l[k].toNat : Int)) := by rw [Hk.out]; exact hf.cell k hkn
  have hf2 : w2.frozen? ⟨g, (at_ % (l.length : Int)).toNat, none⟩ = false := by rw [Hk.out]; exact hf.free k
  have hf3 := hf.lt
  clear hown hg hf
  go_wp2_with (go_at_call 15; refine stop_here ?_)
  refine stop_on ?_
  clear hf1 hf2 hf3 hm0 hm1
  simp only [Hk.out, Int.toNat_natCast, bits_u8]
  obtain ⟨m, hm⟩ : ∃ m, l.set k (l[k] ^^^ by_) = m := ⟨_, rfl⟩
  have hml : m.length = l.length := by rw [← hm, List.length_set]
  have hcs := crc_set l k by_ hkn
  rw [hm] at hcs
  have hf := HF.out.set k (l[k] ^^^ by_)
  have hx3 : Ext w (w2.setCell ⟨g, k, none⟩ (bv (l[k] ^^^ by_))) := HX2.out.set (p := ⟨g, k, none⟩) (by have := HX1.out.size; show w.heap.size ≤ g; omega) _
  rw [hm] at hf
  generalize w2.setCell ⟨g, k, none⟩ (bv (l[k] ^^^ by_)) = w3 at *
  have HX3 := Lib.hid hx3
  have HS := Lib.hid (show Sl w3 (some ⟨g, 0, none⟩) l.length c2 (m.map bv) from ⟨(fun h => by cases h), hc1, hc2, hf.cells⟩)
  have HB1 := Lib.hid (slotBook_any A l l.length c w3 rfl (HA.out.ext hx3))
  have HB2 := Lib.hid (slotBook_any (some ⟨g, 0, none⟩) m l.length c2 w3 hml.symm HS.out)
  have HM := Lib.hid hml
  have HB3 := Lib.hid (fun (A : Option Addr) (q : Nat) w' (h : Sl w' A (l.length + 1) q ((l ++ [more]).map bv)) => slotBook_any A (l ++ [more]) (l.length + 1) q w' (by simp) h)
  clear hf hx3 hml hm HF
  generalize crc m = y at *
  generalize crc l = x at *
  generalize crc (l ++ [more]) = z at *
  have hby : (by_ = 0 ∧ y = x) ∨ ((((x : Nat) : Int) == ((y : Nat) : Int)) = false ∧ ((by_.toNat : Int) == 0) = false) := by
    by_cases h : by_ = 0
    · exact .inl ⟨h, hcs.2 h⟩
    · refine .inr ⟨?_, ?_⟩
      · have : ¬ ((x : Int) = (y : Int)) := fun e => h (hcs.1 (by omega))
        simpa using this
      · have : ¬ ((by_.toNat : Int) = 0) := fun e => h (UInt8.toNat_inj.1 (by simpa using e))
        simpa using this
  clear hcs
  refine HB1.out.mono ?_
  rintro e w' ⟨rfl, rfl⟩
  go_wp2_with (first | (at_builtin; refine stop_here ?_) | (go_at_call 15; with_reducible refine HB2.out.mono ?_; rintro e w' ⟨rfl, rfl⟩))
  refine stop_on ?_
  refine app_bytes _ rfl _ _ rfl w3.heap.size _ 0 [] rfl (own_empty_b w3) A l.length c l rfl rfl HA.out.1 (HA.out.ext (HX3.out.alloc _)).cells (by omega) (by simp) ?_
  intro A4 c4 w4 hown hg
  rw [List.nil_append, Nat.zero_add] at hown
  rw [Nat.zero_add]
  have HX4 := Lib.hid (HX3.out.trans (show Ext w3 w4 from Below.grown ((Ext.refl w3).alloc _) hg (by simp) (by intro q hq; cases hq; exact Nat.le_refl _)))
  have HX34 := Lib.hid (show w3.heap.size ≤ w4.heap.size from (Below.grown ((Ext.refl w3).alloc _) hg (by simp) (by intro q hq; cases hq; exact Nat.le_refl _)).size)
  have HO := Lib.hid hown
  clear hown hg
  go_wp2_with (at_builtin; refine stop_here ?_)
  refine stop_on ?_
  refine app_bytes _ rfl _ _ rfl w3.heap.size _ l.length l rfl (HO.out.alloc _) (some ⟨w4.heap.size, 0, none⟩) 1 1 [more] rfl rfl (by intro h; cases h) (Bx.new w4 #[bv more] 5).cells1 (by omega) (by have := HX34.out; simp; omega) ?_
  intro A5 c5 w5 hown hg
  have HX5 := Lib.hid (show Ext w w5 from Below.grown (HX4.out.alloc _) hg (by have := HX4.out.size; simp; omega) (fun q hq => by have h1 := (HO.out.lt q hq).1; have h2 := HX3.out.size; omega))
  have HK := Lib.hid (HB3.out A5 c5 w5 (own_sl hown))
  clear hown hg HB3
  rcases hby with ⟨rfl, rfl⟩ | ⟨h2, h3⟩
  · go_wp2_with (go_at_call 15; with_reducible refine HK.out.mono ?_; rintro e w' ⟨rfl, rfl⟩)
    go_ret
    exact ⟨rfl, HX5.out⟩
  · go_wp2_with (go_at_call 15; with_reducible refine HK.out.mono ?_; rintro e w' ⟨rfl, rfl⟩)
    go_ret
    exact ⟨rfl, HX5.out⟩
end Go.Proofs.Ythaebcljehmhmaa
