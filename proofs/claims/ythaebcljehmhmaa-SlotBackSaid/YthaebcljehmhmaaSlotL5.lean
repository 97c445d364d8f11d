/- The walk of SlotBack. -/
import Derived.Test.YthaebcljehmhmaaSlotM
namespace Go.Proofs.Ythaebcljehmhmaa
open Go.RowKit
attribute [local go_sem ↓] Go.wp_at_zero Go.wp_at_succ

theorem bytes_self (x : ByteArray) (k : Nat) (hk : k < x.data.toList.length) : (⟨(x.data.toList.set k (x.data.toList[k] ^^^ 0)).toArray⟩ : ByteArray) = x := by
  have e : x.data.toList.set k (x.data.toList[k] ^^^ 0) = x.data.toList := by rw [UInt8.xor_zero, List.set_getElem_self]
  rw [e]

set_option maxRecDepth 100000 in
set_option maxHeartbeats 8000000 in
theorem back_any (g z s : Int) (b : ByteArray) (at_ : Int) (by_ : UInt8) (w : World) (hb : b.size ≤ maxLen) (h0 : 0 ≤ at_) (h1 : at_ < 256) :
    Calls Try.prog 4 #[.agg #[.int .i64 g, .int .i64 z, .int .i64 s, .string b, .int .u8 at_, .int .u8 by_.toNat]] w fun e w' => e = .returned (.bool true) ∧ Ext w w' := by
  have X0 := Lib.hid (fun o p => ((Ext.refl w).alloc o).alloc p)
  rcases Decidable.em ((b.size : Int) ≤ 200) with hl | hl
  rotate_left
  · go_enter Try.func4, Try.ntmps4
    go_wp2_with (go_at_call 8; refine (shown_any _).mono ?_; rintro e w1 ⟨rfl, hb1⟩; have HB1 := Lib.hid ((X0.out _ _).trans hb1); clear hb1)
    go_ret
    exact ⟨rfl, HB1.out⟩
  have Hb := Lib.hid hb
  clear hb
  have BS := Lib.hid ((Bx.new (w.alloc (.cells #[.int .i64 g, .int .i64 z, .int .i64 s, .string b, .int .u8 at_, .int .u8 by_.toNat] 46)) #[.int .i64 g, .int .i64 z, .int .i64 s] 23))
  have e0 : (w.alloc (.cells #[.int .i64 g, .int .i64 z, .int .i64 s, .string b, .int .u8 at_, .int .u8 by_.toNat] 46)).heap.size = w.heap.size + 1 := by simp
  rw [e0] at BS
  clear e0
  cases hr : supR ⟨g, z, s⟩
  · have HP := Lib.hid (fun w' => slotPrint_is g z s w' (x := ⟨#[]⟩) (e := 1) (by unfold supB; rw [hr]; rfl) (by unfold supE; rw [hr]; rfl))
    have HR := Lib.hid (fun w' => ref03Right_is g z s w' hr)
    clear hr
    cases hn : parS b with
    | none =>
      have PN := Lib.hid (fun w' => slotParse_n b w' Hb.out hn)
      clear hn
      go_enter Try.func4, Try.ntmps4
      go_wp2_with (first
        | (go_at_call 8; refine (shown_any _).mono ?_; rintro e w1 ⟨rfl, hx⟩; have X1 := Lib.hid ((X0.out _ _).trans hx); have B1 := Lib.hid (BS.out.ext hx); obtain ⟨r0, r1, r2⟩ := B1.out.read3; have r3 := B1.out.lt; clear hx)
        | (go_at_call 9; refine (HP.out _).mono ?_; rintro e w2 ⟨rfl, hx⟩; have X2 := Lib.hid (X1.out.trans hx); have B2 := Lib.hid (B1.out.ext hx); obtain ⟨r0, r1, r2⟩ := B2.out.read3; have r3 := B2.out.lt; clear hx)
        | (go_at_call 18; refine (HR.out _).mono ?_; rintro e w3 ⟨rfl, hx⟩; have X3 := Lib.hid (X2.out.trans hx); clear hx)
        | (go_at_call 11; refine stop_here ?_))
      refine stop_on ?_
      refine (PN.out _).mono ?_
      rintro e w21 ⟨rfl, hx⟩
      have X21 := Lib.hid (X3.out.trans hx)
      clear hx
      go_wp2_with (go_at_call 9; refine (slotPrint_is 0 0 0 _ (x := ⟨#[]⟩) (e := 1) rfl rfl).mono ?_; rintro e w22 ⟨rfl, hx⟩; have X22 := Lib.hid ((X21.out.alloc _).trans hx); clear hx)
      go_ret
      exact ⟨rfl, X22.out⟩
    | some y =>
      obtain ⟨g3, z3, s3⟩ := y
      have PN := Lib.hid (fun w' => slotParse_y b w' Hb.out hn)
      have PP := Lib.hid (show ∀ w', Calls Try.prog 9 #[.agg #[.int .i64 g3, .int .i64 z3, .int .i64 s3]] w' fun r w2 => r = .returned (.tuple #[.string b, .int .i64 0]) ∧ Ext w' w2 from fun w' => slotPrint_is g3 z3 s3 w' (par_right hn).2 (by unfold supE; rw [(par_right hn).1]; rfl))
      clear hn
      go_enter Try.func4, Try.ntmps4
      go_wp2_with (first
        | (go_at_call 8; refine (shown_any _).mono ?_; rintro e w1 ⟨rfl, hx⟩; have X1 := Lib.hid ((X0.out _ _).trans hx); have B1 := Lib.hid (BS.out.ext hx); obtain ⟨r0, r1, r2⟩ := B1.out.read3; have r3 := B1.out.lt; clear hx)
        | (go_at_call 9; refine (HP.out _).mono ?_; rintro e w2 ⟨rfl, hx⟩; have X2 := Lib.hid (X1.out.trans hx); have B2 := Lib.hid (B1.out.ext hx); obtain ⟨r0, r1, r2⟩ := B2.out.read3; have r3 := B2.out.lt; clear hx)
        | (go_at_call 18; refine (HR.out _).mono ?_; rintro e w3 ⟨rfl, hx⟩; have X3 := Lib.hid (X2.out.trans hx); clear hx)
        | (go_at_call 11; refine stop_here ?_))
      refine stop_on ?_
      refine (PN.out _).mono ?_
      rintro e w21 ⟨rfl, hx⟩
      have X21 := Lib.hid (X3.out.trans hx)
      clear hx
      go_wp2_with (go_at_call 9; with_reducible refine (PP.out _).mono ?_; rintro e w22 ⟨rfl, hx⟩; have X22 := Lib.hid ((X21.out.alloc _).trans hx); clear hx)
      go_ret
      exact ⟨rfl, X22.out⟩
  have HR := Lib.hid (fun w' => ref03Right_is g z s w' hr)
  have hsz := supB_size _ hr
  have HP := Lib.hid (fun w' => slotPrint_is g z s w' rfl (show supE ⟨g, z, s⟩ = 0 from by unfold supE; rw [hr]; rfl))
  have HQ := Lib.hid (fun w' => slotParse_y (supB ⟨g, z, s⟩) w' (by rw [hsz]; unfold maxLen; omega) (par_print _ hr))
  have HSP := Lib.hid (fun k hk u hu => par_spoilt ⟨g, z, s⟩ hr k hk u hu)
  generalize supB ⟨g, z, s⟩ = x at *
  have hl40 : x.data.toList.length = 40 := by simpa using hsz
  have e1 := eq_same g z s
  obtain ⟨k, hk⟩ : ∃ k : Nat, at_ % 40 = (k : Int) := Int.eq_ofNat_of_zero_le (Int.emod_nonneg _ (by decide))
  have hk40 : k < x.data.toList.length := by omega
  have hkn : k < 40 := by omega
  have Hk := Lib.hid hk
  have hm0 : 0 ≤ at_ % 40 := by omega
  have hm1 : at_ % 40 < 40 := by omega
  have HS := Lib.hid hsz
  have HL := Lib.hid hl40
  clear hr hk hsz hl40
  by_cases hy : by_ = 0
  · have HZ := Lib.hid (show ∀ w', Calls Try.prog 11 #[.string ⟨(x.data.toList.set k (x.data.toList[k] ^^^ by_)).toArray⟩] w' fun e w2 => e = .returned (.tuple #[.agg #[.int .i64 g, .int .i64 z, .int .i64 s], .int .i64 0]) ∧ Ext w' w2 from by subst hy; rw [bytes_self x k hk40]; exact HQ.out)
    have hby : ((by_.toNat : Int) == 0) = true := by subst hy; rfl
    clear hy HSP
    cases hn : parS b with
    | none =>
      have PN := Lib.hid (fun w' => slotParse_n b w' Hb.out hn)
      clear hn
      go_enter Try.func4, Try.ntmps4
      go_wp2_with (first
        | (go_at_call 8; refine (shown_any _).mono ?_; rintro e w1 ⟨rfl, hx⟩; have X1 := Lib.hid ((X0.out _ _).trans hx); have B1 := Lib.hid (BS.out.ext hx); obtain ⟨r0, r1, r2⟩ := B1.out.read3; have r3 := B1.out.lt; clear hx)
        | (go_at_call 9; refine (HP.out _).mono ?_; rintro e w2 ⟨rfl, hx⟩; have X2 := Lib.hid (X1.out.trans hx); have B2 := Lib.hid (B1.out.ext hx); obtain ⟨r0, r1, r2⟩ := B2.out.read3; have r3 := B2.out.lt; clear hx)
        | (go_at_call 18; refine (HR.out _).mono ?_; rintro e w3 ⟨rfl, hx⟩; have X3 := Lib.hid (X2.out.trans hx); have B3 := Lib.hid (B2.out.ext hx); clear hx)
        | (go_at_call 11; refine stop_here ?_))
      refine stop_on ?_
      clear r0 r1 r2 r3
      refine (HQ.out _).mono ?_
      rintro e w5 ⟨rfl, hx⟩
      have X5 := Lib.hid (X3.out.trans hx)
      have B5 := Lib.hid (B3.out.ext hx)
      clear hx
      obtain ⟨cap, w6, e6, x6, m6⟩ := conv_mine x (w5.alloc (.cells #[.int .i64 g, .int .i64 z, .int .i64 s] 23))
      have e5 : (w5.alloc (.cells #[.int .i64 g, .int .i64 z, .int .i64 s] 23)).heap.size = w5.heap.size + 1 := by simp
      rw [e5, HS.out] at e6
      rw [e5] at m6
      have B6 := Lib.hid (B5.out.ext (((Ext.refl w5).alloc _).trans x6))
      have P6 := Lib.hid ((Bx.new w5 #[.int .i64 g, .int .i64 z, .int .i64 s] 23).ext x6)
      have X6 := Lib.hid (X5.out.trans (((Ext.refl w5).alloc _).trans x6))
      obtain ⟨r0, r1, r2⟩ := B6.out.read3
      obtain ⟨p0, p1, p2⟩ := P6.out.read3
      have r3 := B6.out.lt
      have p3 := P6.out.lt
      have hc : w6.cell? ⟨w5.heap.size + 1, (at_ % 40).toNat, none⟩ = some (.int .u8 (x.data.toList[k].toNat : Int)) := by rw [Hk.out]; exact m6.cell k hk40
      have hf : w6.frozen? ⟨w5.heap.size + 1, (at_ % 40).toNat, none⟩ = false := by rw [Hk.out]; exact m6.free k hk40
      have hlt := m6.lt
      have hcv : (convert 24 9 (.slice (some ⟨w5.heap.size + 1, 0, none⟩) 40 cap)).run Try.prog (w6.setCell ⟨w5.heap.size + 1, (at_ % 40).toNat, none⟩ (.int .u8 (bits BinOp.xor IntKind.u8 (x.data.toList[k].toNat : Int) (by_.toNat : Int)))) =
          .ok (.string ⟨(x.data.toList.set k (x.data.toList[k] ^^^ by_)).toArray⟩) (w6.setCell ⟨w5.heap.size + 1, (at_ % 40).toNat, none⟩ (.int .u8 (bits BinOp.xor IntKind.u8 (x.data.toList[k].toNat : Int) (by_.toNat : Int)))) := by
        rw [Hk.out, Int.toNat_natCast, bits_u8]
        have h := conv_str (c := cap) (m6.set k (x.data.toList[k] ^^^ by_)).cells (by rw [List.length_set, HL.out]; omega)
        rw [List.length_set, HL.out] at h
        exact h
      have X7 := Lib.hid (X6.out.set (p := ⟨w5.heap.size + 1, (at_ % 40).toNat, none⟩) (by have := X5.out.size; show w.heap.size ≤ w5.heap.size + 1; omega) (.int .u8 (bits BinOp.xor IntKind.u8 (x.data.toList[k].toNat : Int) (by_.toNat : Int))))
      clear e5 x6 m6
      generalize x.data.toList[k] = u at *
      generalize (⟨(x.data.toList.set k (u ^^^ by_)).toArray⟩ : ByteArray) = xs at *
      go_wp2_with (go_at_call 11; refine stop_here ?_)
      refine stop_on ?_
      refine (HZ.out _).mono ?_
      rintro e w8 ⟨rfl, hx⟩
      have X8 := Lib.hid ((X7.out.trans hx))
      clear hx
      go_wp2_with (first
        | (go_at_call 11; with_reducible refine (PN.out _).mono ?_; rintro e w21 ⟨rfl, hx⟩; have X21 := Lib.hid ((X8.out.alloc _).trans hx); clear hx)
        | (go_at_call 9; refine (slotPrint_is 0 0 0 _ (x := ⟨#[]⟩) (e := 1) rfl rfl).mono ?_; rintro e w22 ⟨rfl, hx⟩; have X22 := Lib.hid ((X21.out.alloc _).trans hx); clear hx))
      go_ret
      exact ⟨rfl, X22.out⟩
    | some y =>
      obtain ⟨g3, z3, s3⟩ := y
      have PN := Lib.hid (fun w' => slotParse_y b w' Hb.out hn)
      have PP := Lib.hid (show ∀ w', Calls Try.prog 9 #[.agg #[.int .i64 g3, .int .i64 z3, .int .i64 s3]] w' fun r w2 => r = .returned (.tuple #[.string b, .int .i64 0]) ∧ Ext w' w2 from fun w' => slotPrint_is g3 z3 s3 w' (par_right hn).2 (by unfold supE; rw [(par_right hn).1]; rfl))
      clear hn
      go_enter Try.func4, Try.ntmps4
      go_wp2_with (first
        | (go_at_call 8; refine (shown_any _).mono ?_; rintro e w1 ⟨rfl, hx⟩; have X1 := Lib.hid ((X0.out _ _).trans hx); have B1 := Lib.hid (BS.out.ext hx); obtain ⟨r0, r1, r2⟩ := B1.out.read3; have r3 := B1.out.lt; clear hx)
        | (go_at_call 9; refine (HP.out _).mono ?_; rintro e w2 ⟨rfl, hx⟩; have X2 := Lib.hid (X1.out.trans hx); have B2 := Lib.hid (B1.out.ext hx); obtain ⟨r0, r1, r2⟩ := B2.out.read3; have r3 := B2.out.lt; clear hx)
        | (go_at_call 18; refine (HR.out _).mono ?_; rintro e w3 ⟨rfl, hx⟩; have X3 := Lib.hid (X2.out.trans hx); have B3 := Lib.hid (B2.out.ext hx); clear hx)
        | (go_at_call 11; refine stop_here ?_))
      refine stop_on ?_
      clear r0 r1 r2 r3
      refine (HQ.out _).mono ?_
      rintro e w5 ⟨rfl, hx⟩
      have X5 := Lib.hid (X3.out.trans hx)
      have B5 := Lib.hid (B3.out.ext hx)
      clear hx
      obtain ⟨cap, w6, e6, x6, m6⟩ := conv_mine x (w5.alloc (.cells #[.int .i64 g, .int .i64 z, .int .i64 s] 23))
      have e5 : (w5.alloc (.cells #[.int .i64 g, .int .i64 z, .int .i64 s] 23)).heap.size = w5.heap.size + 1 := by simp
      rw [e5, HS.out] at e6
      rw [e5] at m6
      have B6 := Lib.hid (B5.out.ext (((Ext.refl w5).alloc _).trans x6))
      have P6 := Lib.hid ((Bx.new w5 #[.int .i64 g, .int .i64 z, .int .i64 s] 23).ext x6)
      have X6 := Lib.hid (X5.out.trans (((Ext.refl w5).alloc _).trans x6))
      obtain ⟨r0, r1, r2⟩ := B6.out.read3
      obtain ⟨p0, p1, p2⟩ := P6.out.read3
      have r3 := B6.out.lt
      have p3 := P6.out.lt
      have hc : w6.cell? ⟨w5.heap.size + 1, (at_ % 40).toNat, none⟩ = some (.int .u8 (x.data.toList[k].toNat : Int)) := by rw [Hk.out]; exact m6.cell k hk40
      have hf : w6.frozen? ⟨w5.heap.size + 1, (at_ % 40).toNat, none⟩ = false := by rw [Hk.out]; exact m6.free k hk40
      have hlt := m6.lt
      have hcv : (convert 24 9 (.slice (some ⟨w5.heap.size + 1, 0, none⟩) 40 cap)).run Try.prog (w6.setCell ⟨w5.heap.size + 1, (at_ % 40).toNat, none⟩ (.int .u8 (bits BinOp.xor IntKind.u8 (x.data.toList[k].toNat : Int) (by_.toNat : Int)))) =
          .ok (.string ⟨(x.data.toList.set k (x.data.toList[k] ^^^ by_)).toArray⟩) (w6.setCell ⟨w5.heap.size + 1, (at_ % 40).toNat, none⟩ (.int .u8 (bits BinOp.xor IntKind.u8 (x.data.toList[k].toNat : Int) (by_.toNat : Int)))) := by
        rw [Hk.out, Int.toNat_natCast, bits_u8]
        have h := conv_str (c := cap) (m6.set k (x.data.toList[k] ^^^ by_)).cells (by rw [List.length_set, HL.out]; omega)
        rw [List.length_set, HL.out] at h
        exact h
      have X7 := Lib.hid (X6.out.set (p := ⟨w5.heap.size + 1, (at_ % 40).toNat, none⟩) (by have := X5.out.size; show w.heap.size ≤ w5.heap.size + 1; omega) (.int .u8 (bits BinOp.xor IntKind.u8 (x.data.toList[k].toNat : Int) (by_.toNat : Int))))
      clear e5 x6 m6
      generalize x.data.toList[k] = u at *
      generalize (⟨(x.data.toList.set k (u ^^^ by_)).toArray⟩ : ByteArray) = xs at *
      go_wp2_with (go_at_call 11; refine stop_here ?_)
      refine stop_on ?_
      refine (HZ.out _).mono ?_
      rintro e w8 ⟨rfl, hx⟩
      have X8 := Lib.hid ((X7.out.trans hx))
      clear hx
      go_wp2_with (first
        | (go_at_call 11; with_reducible refine (PN.out _).mono ?_; rintro e w21 ⟨rfl, hx⟩; have X21 := Lib.hid ((X8.out.alloc _).trans hx); clear hx)
        | (go_at_call 9; with_reducible refine (PP.out _).mono ?_; rintro e w22 ⟨rfl, hx⟩; have X22 := Lib.hid ((X21.out.alloc _).trans hx); clear hx))
      go_ret
      exact ⟨rfl, X22.out⟩
  · have HZ := Lib.hid (fun w' => slotParse_n ⟨(x.data.toList.set k (x.data.toList[k] ^^^ by_)).toArray⟩ w' (by rw [show (⟨(x.data.toList.set k (x.data.toList[k] ^^^ by_)).toArray⟩ : ByteArray).size = (x.data.toList.set k (x.data.toList[k] ^^^ by_)).length from rfl, List.length_set, HL.out]; unfold maxLen; omega) (HSP.out k hk40 by_ hy))
    have hby : ((by_.toNat : Int) == 0) = false := by
      have : ¬ ((by_.toNat : Int) = 0) := fun e => hy (UInt8.toNat_inj.1 (by simpa using e))
      simpa using this
    clear hy HSP
    cases hn : parS b with
    | none =>
      have PN := Lib.hid (fun w' => slotParse_n b w' Hb.out hn)
      clear hn
      go_enter Try.func4, Try.ntmps4
      go_wp2_with (first
        | (go_at_call 8; refine (shown_any _).mono ?_; rintro e w1 ⟨rfl, hx⟩; have X1 := Lib.hid ((X0.out _ _).trans hx); have B1 := Lib.hid (BS.out.ext hx); obtain ⟨r0, r1, r2⟩ := B1.out.read3; have r3 := B1.out.lt; clear hx)
        | (go_at_call 9; refine (HP.out _).mono ?_; rintro e w2 ⟨rfl, hx⟩; have X2 := Lib.hid (X1.out.trans hx); have B2 := Lib.hid (B1.out.ext hx); obtain ⟨r0, r1, r2⟩ := B2.out.read3; have r3 := B2.out.lt; clear hx)
        | (go_at_call 18; refine (HR.out _).mono ?_; rintro e w3 ⟨rfl, hx⟩; have X3 := Lib.hid (X2.out.trans hx); have B3 := Lib.hid (B2.out.ext hx); clear hx)
        | (go_at_call 11; refine stop_here ?_))
      refine stop_on ?_
      clear r0 r1 r2 r3
      refine (HQ.out _).mono ?_
      rintro e w5 ⟨rfl, hx⟩
      have X5 := Lib.hid (X3.out.trans hx)
      have B5 := Lib.hid (B3.out.ext hx)
      clear hx
      obtain ⟨cap, w6, e6, x6, m6⟩ := conv_mine x (w5.alloc (.cells #[.int .i64 g, .int .i64 z, .int .i64 s] 23))
      have e5 : (w5.alloc (.cells #[.int .i64 g, .int .i64 z, .int .i64 s] 23)).heap.size = w5.heap.size + 1 := by simp
      rw [e5, HS.out] at e6
      rw [e5] at m6
      have B6 := Lib.hid (B5.out.ext (((Ext.refl w5).alloc _).trans x6))
      have P6 := Lib.hid ((Bx.new w5 #[.int .i64 g, .int .i64 z, .int .i64 s] 23).ext x6)
      have X6 := Lib.hid (X5.out.trans (((Ext.refl w5).alloc _).trans x6))
      obtain ⟨r0, r1, r2⟩ := B6.out.read3
      obtain ⟨p0, p1, p2⟩ := P6.out.read3
      have r3 := B6.out.lt
      have p3 := P6.out.lt
      have hc : w6.cell? ⟨w5.heap.size + 1, (at_ % 40).toNat, none⟩ = some (.int .u8 (x.data.toList[k].toNat : Int)) := by rw [Hk.out]; exact m6.cell k hk40
      have hf : w6.frozen? ⟨w5.heap.size + 1, (at_ % 40).toNat, none⟩ = false := by rw [Hk.out]; exact m6.free k hk40
      have hlt := m6.lt
      have hcv : (convert 24 9 (.slice (some ⟨w5.heap.size + 1, 0, none⟩) 40 cap)).run Try.prog (w6.setCell ⟨w5.heap.size + 1, (at_ % 40).toNat, none⟩ (.int .u8 (bits BinOp.xor IntKind.u8 (x.data.toList[k].toNat : Int) (by_.toNat : Int)))) =
          .ok (.string ⟨(x.data.toList.set k (x.data.toList[k] ^^^ by_)).toArray⟩) (w6.setCell ⟨w5.heap.size + 1, (at_ % 40).toNat, none⟩ (.int .u8 (bits BinOp.xor IntKind.u8 (x.data.toList[k].toNat : Int) (by_.toNat : Int)))) := by
        rw [Hk.out, Int.toNat_natCast, bits_u8]
        have h := conv_str (c := cap) (m6.set k (x.data.toList[k] ^^^ by_)).cells (by rw [List.length_set, HL.out]; omega)
        rw [List.length_set, HL.out] at h
        exact h
      have X7 := Lib.hid (X6.out.set (p := ⟨w5.heap.size + 1, (at_ % 40).toNat, none⟩) (by have := X5.out.size; show w.heap.size ≤ w5.heap.size + 1; omega) (.int .u8 (bits BinOp.xor IntKind.u8 (x.data.toList[k].toNat : Int) (by_.toNat : Int))))
      clear e5 x6 m6
      generalize x.data.toList[k] = u at *
      generalize (⟨(x.data.toList.set k (u ^^^ by_)).toArray⟩ : ByteArray) = xs at *
      go_wp2_with (go_at_call 11; refine stop_here ?_)
      refine stop_on ?_
      refine (HZ.out _).mono ?_
      rintro e w8 ⟨rfl, hx⟩
      have X8 := Lib.hid ((X7.out.trans hx))
      clear hx
      go_wp2_with (first
        | (go_at_call 11; with_reducible refine (PN.out _).mono ?_; rintro e w21 ⟨rfl, hx⟩; have X21 := Lib.hid ((X8.out.alloc _).trans hx); clear hx)
        | (go_at_call 9; refine (slotPrint_is 0 0 0 _ (x := ⟨#[]⟩) (e := 1) rfl rfl).mono ?_; rintro e w22 ⟨rfl, hx⟩; have X22 := Lib.hid ((X21.out.alloc _).trans hx); clear hx))
      go_ret
      exact ⟨rfl, X22.out⟩
    | some y =>
      obtain ⟨g3, z3, s3⟩ := y
      have PN := Lib.hid (fun w' => slotParse_y b w' Hb.out hn)
      have PP := Lib.hid (show ∀ w', Calls Try.prog 9 #[.agg #[.int .i64 g3, .int .i64 z3, .int .i64 s3]] w' fun r w2 => r = .returned (.tuple #[.string b, .int .i64 0]) ∧ Ext w' w2 from fun w' => slotPrint_is g3 z3 s3 w' (par_right hn).2 (by unfold supE; rw [(par_right hn).1]; rfl))
      clear hn
      go_enter Try.func4, Try.ntmps4
      go_wp2_with (first
        | (go_at_call 8; refine (shown_any _).mono ?_; rintro e w1 ⟨rfl, hx⟩; have X1 := Lib.hid ((X0.out _ _).trans hx); have B1 := Lib.hid (BS.out.ext hx); obtain ⟨r0, r1, r2⟩ := B1.out.read3; have r3 := B1.out.lt; clear hx)
        | (go_at_call 9; refine (HP.out _).mono ?_; rintro e w2 ⟨rfl, hx⟩; have X2 := Lib.hid (X1.out.trans hx); have B2 := Lib.hid (B1.out.ext hx); obtain ⟨r0, r1, r2⟩ := B2.out.read3; have r3 := B2.out.lt; clear hx)
        | (go_at_call 18; refine (HR.out _).mono ?_; rintro e w3 ⟨rfl, hx⟩; have X3 := Lib.hid (X2.out.trans hx); have B3 := Lib.hid (B2.out.ext hx); clear hx)
        | (go_at_call 11; refine stop_here ?_))
      refine stop_on ?_
      clear r0 r1 r2 r3
      refine (HQ.out _).mono ?_
      rintro e w5 ⟨rfl, hx⟩
      have X5 := Lib.hid (X3.out.trans hx)
      have B5 := Lib.hid (B3.out.ext hx)
      clear hx
      obtain ⟨cap, w6, e6, x6, m6⟩ := conv_mine x (w5.alloc (.cells #[.int .i64 g, .int .i64 z, .int .i64 s] 23))
      have e5 : (w5.alloc (.cells #[.int .i64 g, .int .i64 z, .int .i64 s] 23)).heap.size = w5.heap.size + 1 := by simp
      rw [e5, HS.out] at e6
      rw [e5] at m6
      have B6 := Lib.hid (B5.out.ext (((Ext.refl w5).alloc _).trans x6))
      have P6 := Lib.hid ((Bx.new w5 #[.int .i64 g, .int .i64 z, .int .i64 s] 23).ext x6)
      have X6 := Lib.hid (X5.out.trans (((Ext.refl w5).alloc _).trans x6))
      obtain ⟨r0, r1, r2⟩ := B6.out.read3
      obtain ⟨p0, p1, p2⟩ := P6.out.read3
      have r3 := B6.out.lt
      have p3 := P6.out.lt
      have hc : w6.cell? ⟨w5.heap.size + 1, (at_ % 40).toNat, none⟩ = some (.int .u8 (x.data.toList[k].toNat : Int)) := by rw [Hk.out]; exact m6.cell k hk40
      have hf : w6.frozen? ⟨w5.heap.size + 1, (at_ % 40).toNat, none⟩ = false := by rw [Hk.out]; exact m6.free k hk40
      have hlt := m6.lt
      have hcv : (convert 24 9 (.slice (some ⟨w5.heap.size + 1, 0, none⟩) 40 cap)).run Try.prog (w6.setCell ⟨w5.heap.size + 1, (at_ % 40).toNat, none⟩ (.int .u8 (bits BinOp.xor IntKind.u8 (x.data.toList[k].toNat : Int) (by_.toNat : Int)))) =
          .ok (.string ⟨(x.data.toList.set k (x.data.toList[k] ^^^ by_)).toArray⟩) (w6.setCell ⟨w5.heap.size + 1, (at_ % 40).toNat, none⟩ (.int .u8 (bits BinOp.xor IntKind.u8 (x.data.toList[k].toNat : Int) (by_.toNat : Int)))) := by
        rw [Hk.out, Int.toNat_natCast, bits_u8]
        have h := conv_str (c := cap) (m6.set k (x.data.toList[k] ^^^ by_)).cells (by rw [List.length_set, HL.out]; omega)
        rw [List.length_set, HL.out] at h
        exact h
      have X7 := Lib.hid (X6.out.set (p := ⟨w5.heap.size + 1, (at_ % 40).toNat, none⟩) (by have := X5.out.size; show w.heap.size ≤ w5.heap.size + 1; omega) (.int .u8 (bits BinOp.xor IntKind.u8 (x.data.toList[k].toNat : Int) (by_.toNat : Int))))
      clear e5 x6 m6
      generalize x.data.toList[k] = u at *
      generalize (⟨(x.data.toList.set k (u ^^^ by_)).toArray⟩ : ByteArray) = xs at *
      go_wp2_with (go_at_call 11; refine stop_here ?_)
      refine stop_on ?_
      refine (HZ.out _).mono ?_
      rintro e w8 ⟨rfl, hx⟩
      have X8 := Lib.hid ((X7.out.trans hx))
      clear hx
      go_wp2_with (first
        | (go_at_call 11; with_reducible refine (PN.out _).mono ?_; rintro e w21 ⟨rfl, hx⟩; have X21 := Lib.hid ((X8.out.alloc _).trans hx); clear hx)
        | (go_at_call 9; with_reducible refine (PP.out _).mono ?_; rintro e w22 ⟨rfl, hx⟩; have X22 := Lib.hid ((X21.out.alloc _).trans hx); clear hx))
      go_ret
      exact ⟨rfl, X22.out⟩
end Go.Proofs.Ythaebcljehmhmaa
