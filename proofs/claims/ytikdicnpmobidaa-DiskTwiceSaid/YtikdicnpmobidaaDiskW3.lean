/- Walks of what compares disks: slices.Equal at both kinds, and both Same. -/
import Derived.Test.YtikdicnpmobidaaDiskW2
namespace Go.Proofs.Ytikdicnpmobidaa
open Go.RowKit

theorem bytes_inj (a b : ByteArray) (h : a.toList = b.toList) : a = b := by
  rw [ByteArray.toList_eq, ByteArray.toList_eq] at h
  obtain ⟨⟨l⟩⟩ := a
  obtain ⟨⟨m⟩⟩ := b
  simp only at h
  rw [h]
theorem bytes_same (a b : ByteArray) : (a.toList == b.toList) = decide (a = b) := by
  by_cases h : a = b
  · subst h; simp
  · rw [decide_eq_false h]
    simp only [beq_eq_false_iff_ne, ne_eq]
    exact fun e => h (bytes_inj a b e)

theorem ne_at {α : Type} {a b : List α} (k : Nat) (h : k < a.length) (h' : k < b.length) (hne : a[k] ≠ b[k]) : a ≠ b := by
  intro e; subst e; exact hne rfl
theorem eq_step {α : Type} {a b : List α} (k : Nat) (h : k < a.length) (h' : k < b.length) (h0 : a.take k = b.take k) (he : a[k] = b[k]) : a.take (k + 1) = b.take (k + 1) := by
  rw [List.take_succ_eq_append_getElem h, List.take_succ_eq_append_getElem h', h0, he]
theorem eq_end {α : Type} {a b : List α} (hl : a.length = b.length) (h0 : a.take a.length = b.take a.length) : a = b := by
  rw [List.take_length, hl, List.take_length] at h0; exact h0

/-- How two writes are compared. -/
theorem eq_wr (a c : Int) (s t : ByteArray) (w : World) : (Op.equalIn 10000 43 (.agg #[.int .i64 a, .string s]) (.agg #[.int .i64 c, .string t])).run Try.prog w = .ok (decide ((a, s) = (c, t))) w := by
  have u3 := Try.underlying3
  have a3 := Try.isAgg3
  have z3 := Try.sizeOf3
  have u9 := Try.underlying9
  have a9 := Try.isAgg9
  have z9 := Try.sizeOf9
  have hS : Try.prog.underlying 43 = some (.struct (Try.prog.fieldsOf 43)) := by kernel_rfl
  have hp : Try.prog.stoodInHeld 43 = false := by kernel_rfl
  rw [show (10000 : Nat) = 9999 + 1 from rfl, run_equalIn_agg w 9999 43 _ _ hS hp]
  simp only [Program.fieldsOf, Try.underlying43]
  go_simp
  by_cases h1 : a = c <;> by_cases h2 : s = t
  · subst h2; simp [h1]
  · have h3 : ¬ s.toList = t.toList := fun e => h2 (bytes_inj s t e)
    simp [h1, h2, h3]
  · simp [h1]
  · simp [h1]

def sameB (a b : List ByteArray) : Bool := decide (a = b)
def sameW (a b : List Wr) : Bool := decide (a = b)

set_option maxHeartbeats 2000000 in
theorem equalB_any (A B : Option Addr) (a b : List ByteArray) (c c' : Nat) (w : World) (ha : a.length ≤ maxLen) (_hb : b.length ≤ maxLen) (hA : Cells w A (a.map sv)) (hB : Cells w B (b.map sv)) :
    Calls Try.prog 33 #[.slice A a.length c, .slice B b.length c'] w fun e w' => e = .returned (.bool (sameB a b)) ∧ Ext w w' := by
  unfold maxLen at ha
  unfold sameB
  have HA := Lib.hid hA
  have HB := Lib.hid hB
  clear hA hB
  by_cases hl : a.length = b.length
  · have HL := Lib.hid hl
    have hl1 : ((a.length : Int) != (b.length : Int)) = false := by simp [hl]
    have hl2 : a.length ≤ b.length := by omega
    have hl3 : b.length ≤ a.length := by omega
    clear hl
    go_enter Try.func33, Try.ntmps33
    go_wp2
    go_loopw [13] (fun i wr => ∃ k : Nat, k ≤ a.length ∧ i = .int .i64 k ∧ a.take k = b.take k ∧ Ext w wr) (fun i _ => a.length - (intOf i).toNat)
    case atStart => exact ⟨0, Nat.zero_le _, rfl, rfl, Ext.refl _⟩
    case round =>
      obtain ⟨k, hk, rfl, hal, hX⟩ := hrel
      have HT := Lib.hid hal
      have HX := Lib.hid hX
      clear hal
      by_cases hlt : k < a.length
      · have hlt2 : k < b.length := by omega
        obtain ⟨ba, offa, rfl, _, hca⟩ := (HA.out.ext hX).str hlt
        obtain ⟨bb, offb, rfl, _, hcb⟩ := (HB.out.ext hX).str hlt2
        have hcka := hca k hlt
        have hckb := hcb k hlt2
        have hki : (k : Int) < (a.length : Int) := by omega
        have hki2 : (k : Int) < (b.length : Int) := by omega
        have HF := Lib.hid (ne_at (a := a) (b := b) k hlt hlt2)
        have HS := Lib.hid (eq_step (a := a) (b := b) k hlt hlt2 HT.out)
        clear hca hcb HT hX
        generalize hq : a[k] = qa at *
        generalize hq2 : b[k] = qb at *
        clear hq hq2
        have HQ := bytes_same qa qb
        rcases Decidable.em (qa = qb) with he | he
        rotate_left
        · have HZ := Lib.hid he
          have hz : (qa.toList == qb.toList) = false := by rw [HQ, decide_eq_false he]
          have hz' : (qa.toList != qb.toList) = true := by simp only [bne, hz]; rfl
          clear HQ he
          go_wp2_with fail
          go_quiet (fail)
          go_wp2
          go_ret
          exact ⟨ret_bool (by rw [decide_eq_false (HF.out HZ.out)]), HX.out.drewN _⟩
        · have HZ := Lib.hid he
          have hz : (qa.toList == qb.toList) = true := by rw [HQ, decide_eq_true he]
          have hz' : (qa.toList != qb.toList) = false := by simp only [bne, hz]; rfl
          clear HQ he
          go_wp2_with fail
          go_quiet (fail)
          go_wp2
          go_roundw
          case rel => exact ⟨k + 1, by omega, by go_num, HS.out HZ.out, HX.out.drewN _⟩
          case measure => simp [intOf]; omega
      · obtain rfl : k = a.length := by omega
        have HE := Lib.hid (eq_end HL.out HT.out)
        clear HT hX
        go_wp2
        go_ret
        exact ⟨ret_bool (by rw [decide_eq_true HE.out]), HX.out⟩
  · have HL := Lib.hid (show ¬ a = b from fun e => hl (by rw [e]))
    have hl1 : ((a.length : Int) != (b.length : Int)) = true := by simp; omega
    clear hl
    go_enter Try.func33, Try.ntmps33
    go_wp2
    go_ret
    exact ⟨ret_bool (by rw [decide_eq_false HL.out]), Ext.refl _⟩

set_option maxHeartbeats 2000000 in
theorem equalW_any (A B : Option Addr) (a b : List Wr) (c c' : Nat) (w : World) (ha : a.length ≤ maxLen) (_hb : b.length ≤ maxLen) (hA : Cells w A (wvs a)) (hB : Cells w B (wvs b)) :
    Calls Try.prog 34 #[.slice A a.length c, .slice B b.length c'] w fun e w' => e = .returned (.bool (sameW a b)) ∧ Ext w w' := by
  unfold maxLen at ha
  unfold sameW
  have HA := Lib.hid hA
  have HB := Lib.hid hB
  clear hA hB
  by_cases hl : a.length = b.length
  · have HL := Lib.hid hl
    have hl1 : ((a.length : Int) != (b.length : Int)) = false := by simp [hl]
    have hl2 : a.length ≤ b.length := by omega
    have hl3 : b.length ≤ a.length := by omega
    clear hl
    go_enter Try.func34, Try.ntmps34
    go_wp2
    go_loopw [13] (fun i wr => ∃ k : Nat, k ≤ a.length ∧ i = .int .i64 k ∧ a.take k = b.take k ∧ Ext w wr) (fun i _ => a.length - (intOf i).toNat)
    case atStart => exact ⟨0, Nat.zero_le _, rfl, rfl, Ext.refl _⟩
    case round =>
      obtain ⟨k, hk, rfl, hal, hX⟩ := hrel
      have HT := Lib.hid hal
      have HX := Lib.hid hX
      clear hal
      by_cases hlt : k < a.length
      · have hlt2 : k < b.length := by omega
        obtain ⟨ba, offa, rfl, _, hca⟩ := (HA.out.ext hX).wr hlt
        obtain ⟨bb, offb, rfl, _, hcb⟩ := (HB.out.ext hX).wr hlt2
        obtain ⟨hcka, hckas⟩ := hca k hlt
        obtain ⟨hckb, hckbs⟩ := hcb k hlt2
        have hki : (k : Int) < (a.length : Int) := by omega
        have hki2 : (k : Int) < (b.length : Int) := by omega
        have HF := Lib.hid (ne_at (a := a) (b := b) k hlt hlt2)
        have HS := Lib.hid (eq_step (a := a) (b := b) k hlt hlt2 HT.out)
        clear hca hcb HT hX
        generalize hq : a[k] = qa at *
        generalize hq2 : b[k] = qb at *
        clear hq hq2
        obtain ⟨qaa, qas⟩ := qa
        obtain ⟨qba, qbs⟩ := qb
        simp only at hcka hckas hckb hckbs
        have HQ := eq_wr qaa qba qas qbs
        rcases Decidable.em ((qaa, qas) = (qba, qbs)) with he | he
        rotate_left
        · have HZ := Lib.hid he
          rw [decide_eq_false he] at HQ
          clear he
          go_wp2_with fail
          go_quiet (fail)
          go_wp2
          go_ret
          exact ⟨ret_bool (by rw [decide_eq_false (HF.out HZ.out)]), HX.out.drewN _⟩
        · have HZ := Lib.hid he
          rw [decide_eq_true he] at HQ
          clear he
          go_wp2_with fail
          go_quiet (fail)
          go_wp2
          go_roundw
          case rel => exact ⟨k + 1, by omega, by go_num, HS.out HZ.out, HX.out.drewN _⟩
          case measure => simp [intOf]; omega
      · obtain rfl : k = a.length := by omega
        have HE := Lib.hid (eq_end HL.out HT.out)
        clear HT hX
        go_wp2
        go_ret
        exact ⟨ret_bool (by rw [decide_eq_true HE.out]), HX.out⟩
  · have HL := Lib.hid (show ¬ a = b from fun e => hl (by rw [e]))
    have hl1 : ((a.length : Int) != (b.length : Int)) = true := by simp; omega
    clear hl
    go_enter Try.func34, Try.ntmps34
    go_wp2
    go_ret
    exact ⟨ret_bool (by rw [decide_eq_false HL.out]), Ext.refl _⟩

end Go.Proofs.Ytikdicnpmobidaa
