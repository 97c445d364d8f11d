/- Walks of the functions that look through a disk: Short, Small, and both Right. -/
import Derived.Test.YtikdicnpmobidaaDiskW1
import Derived.Test.YtikdicnpmobidaaDiskP2
import Derived.Deep.QuietTactic
import Derived.BigQuiet
import Derived.StillTailTactics
namespace Go.Proofs.Ytikdicnpmobidaa
open Go.RowKit

theorem all_false {α : Type} {p : α → Bool} {l : List α} (k : Nat) (h : k < l.length) (hp : p l[k] = false) : l.all p = false := by
  rw [List.all_eq_false]
  exact ⟨l[k], List.getElem_mem h, by simp [hp]⟩
theorem all_step {α : Type} {p : α → Bool} {l : List α} (k : Nat) (h : k < l.length) (h0 : (l.take k).all p = true) (hp : p l[k] = true) : (l.take (k + 1)).all p = true := by
  rw [List.take_succ_eq_append_getElem h, List.all_append, h0]; simp [hp]
theorem all_end {α : Type} {p : α → Bool} {l : List α} (h0 : (l.take l.length).all p = true) : l.all p = true := by
  rw [List.take_length] at h0; exact h0


def fewB (s : ByteArray) : Bool := decide ((s.size : Int) ≤ 100)
def fewW (x : Wr) : Bool := decide ((x.2.size : Int) ≤ 100)
def shortS (l : List Wr) (most : Int) : Bool := decide ((l.length : Int) ≤ most) && l.all fewW
def smallS (b : List ByteArray) (l : List Wr) (most : Int) : Bool := decide ((b.length : Int) ≤ most) && (b.all fewB && shortS l most)

set_option maxHeartbeats 1000000 in
theorem short_any (A : Option Addr) (l : List Wr) (c : Nat) (most : Int) (w : World) (hl : l.length ≤ maxLen) (hA : Cells w A (wvs l)) :
    Calls Try.prog 19 #[.slice A l.length c, .int .i64 most] w fun e w' => e = .returned (.bool (shortS l most)) ∧ w = w' := by
  unfold maxLen at hl
  unfold shortS
  have HA := Lib.hid hA
  clear hA
  by_cases h0 : (l.length : Int) ≤ most
  · go_enter Try.func19, Try.ntmps19
    go_wp2
    go_loop [5] (fun i => ∃ k : Nat, k ≤ l.length ∧ i = .int .i64 k ∧ (l.take k).all fewW = true) (fun i => l.length - (intOf i).toNat)
    case atStart => exact ⟨0, Nat.zero_le _, rfl, rfl⟩
    case round =>
      obtain ⟨k, hk, rfl, hal⟩ := hrel
      have HL := Lib.hid hal
      clear hal
      by_cases hlt : k < l.length
      · obtain ⟨b, off, rfl, _, hc⟩ := HA.out.wr hlt
        have hck := (hc k hlt).2
        have HF := Lib.hid (all_false (p := fewW) k hlt)
        have HS := Lib.hid (all_step (p := fewW) k hlt HL.out)
        have HW := Lib.hid (show fewW l[k] = decide ((l[k].2.size : Int) ≤ 100) from rfl)
        clear hc HL
        generalize hq : l[k] = q at *
        clear hq
        obtain ⟨qa, qs⟩ := q
        by_cases hz : (qs.size : Int) ≤ 100
        · go_wp2
          go_round
          case rel => exact ⟨k + 1, by omega, by go_num, HS.out (by rw [HW.out]; simpa using hz)⟩
          case measure => simp [intOf]; omega
        · go_wp2
          go_ret
          exact ⟨ret_bool (by simp only [HF.out (by rw [HW.out]; simpa using hz)]), rfl⟩
      · obtain rfl : k = l.length := by omega
        have HE := Lib.hid (all_end HL.out)
        clear HL
        go_wp2
        go_ret
        exact ⟨ret_bool (by simp only [HE.out]), rfl⟩
  · go_enter Try.func19, Try.ntmps19
    go_wp2
    go_ret
    exact ⟨ret_bool (by rw [decide_eq_false (by omega)]; rfl), rfl⟩

set_option maxHeartbeats 1000000 in
theorem small_any (A A' : Option Addr) (b : List ByteArray) (l : List Wr) (c c' : Nat) (most : Int) (w : World) (hb : b.length ≤ maxLen) (hl : l.length ≤ maxLen) (hA : Cells w A (b.map sv)) (hA' : Cells w A' (wvs l)) :
    Calls Try.prog 10 #[.agg #[.slice A b.length c, .slice A' l.length c'], .int .i64 most] w fun e w' => e = .returned (.bool (smallS b l most)) ∧ Ext w w' := by
  have hl0 := hl
  unfold maxLen at hl hb
  unfold smallS
  have HX := Lib.hid ((Ext.refl w).alloc (.cells #[.slice A b.length c, .slice A' l.length c'] 25))
  have HA := Lib.hid (hA.ext HX.out)
  have HS := Lib.hid (short_any A' l c' most _ hl0 (hA'.ext HX.out))
  clear hA hA' hl0
  by_cases h0 : (b.length : Int) ≤ most
  · by_cases h1 : (l.length : Int) ≤ most
    · go_enter Try.func10, Try.ntmps10
      go_wp2
      go_loop [5] (fun i => ∃ k : Nat, k ≤ b.length ∧ i = .int .i64 k ∧ (b.take k).all fewB = true) (fun i => b.length - (intOf i).toNat)
      case atStart => exact ⟨0, Nat.zero_le _, rfl, rfl⟩
      case round =>
        obtain ⟨k, hk, rfl, hal⟩ := hrel
        have HL := Lib.hid hal
        clear hal
        by_cases hlt : k < b.length
        · obtain ⟨bb, off, rfl, _, hc⟩ := HA.out.str hlt
          have hck := hc k hlt
          have HF := Lib.hid (all_false (p := fewB) k hlt)
          have HS := Lib.hid (all_step (p := fewB) k hlt HL.out)
          have HW := Lib.hid (show fewB b[k] = decide ((b[k].size : Int) ≤ 100) from rfl)
          clear hc HL
          generalize hq : b[k] = qs at *
          clear hq
          by_cases hz : (qs.size : Int) ≤ 100
          · go_wp2
            go_round
            case rel => exact ⟨k + 1, by omega, by go_num, HS.out (by rw [HW.out]; simpa using hz)⟩
            case measure => simp [intOf]; omega
          · go_wp2
            go_ret
            exact ⟨ret_bool (by simp only [HF.out (by rw [HW.out]; simpa using hz), Bool.false_and]), HX.out⟩
        · obtain rfl : k = b.length := by omega
          have HE := Lib.hid (all_end HL.out)
          clear HL
          go_wp2_with (go_at_call 19; refine HS.out.mono ?_; rintro e w' ⟨rfl, rfl⟩)
          go_ret
          exact ⟨ret_bool (by simp only [HE.out, decide_eq_true h0, Bool.true_and]), HX.out⟩
    · have HN := Lib.hid (show shortS l most = false by unfold shortS; rw [decide_eq_false (by omega)]; rfl)
      go_enter Try.func10, Try.ntmps10
      go_wp2
      go_ret
      exact ⟨ret_bool (by simp only [HN.out, Bool.and_false]), HX.out⟩
  · go_enter Try.func10, Try.ntmps10
    go_wp2
    go_ret
    exact ⟨ret_bool (by rw [decide_eq_false (by omega)]; rfl), HX.out⟩

def okB (s : ByteArray) : Bool := (s.size : Int) == 40
def rightS (b : List ByteArray) (l : List Wr) : Bool := decide (1 ≤ (b.length : Int)) && (decide ((b.length : Int) ≤ 4000) && (b.all okB && l.all (takesS b.length)))

set_option maxHeartbeats 2000000 in
set_option maxRecDepth 100000 in
theorem rightR_any (A A' : Option Addr) (b : List ByteArray) (l : List Wr) (c c' : Nat) (w : World) (hb : b.length ≤ maxLen) (hl : l.length ≤ maxLen) (hA : Cells w A (b.map sv)) (hA' : Cells w A' (wvs l)) :
    Calls Try.prog 13 #[.agg #[.slice A b.length c, .slice A' l.length c']] w fun e w' => e = .returned (.bool (rightS b l)) ∧ Ext w w' := by
  unfold maxLen at hl hb
  unfold rightS
  have HX := Lib.hid ((Ext.refl w).alloc (.cells #[.slice A b.length c, .slice A' l.length c'] 25))
  have HA := Lib.hid (hA.ext HX.out)
  have HA' := Lib.hid (hA'.ext HX.out)
  clear hA hA'
  by_cases h0 : (1 : Int) ≤ b.length
  · by_cases h1 : (b.length : Int) ≤ 4000
    · go_enter Try.func13, Try.ntmps13
      go_wp2
      go_loop [3] (fun i => ∃ k : Nat, k ≤ b.length ∧ i = .int .i64 k ∧ (b.take k).all okB = true) (fun i => b.length - (intOf i).toNat)
      case atStart => exact ⟨0, Nat.zero_le _, rfl, rfl⟩
      case round =>
        obtain ⟨k, hk, rfl, hal⟩ := hrel
        have HL := Lib.hid hal
        clear hal
        by_cases hlt : k < b.length
        · obtain ⟨bb, off, rfl, _, hc⟩ := HA.out.str hlt
          have hck := hc k hlt
          have HF := Lib.hid (all_false (p := okB) k hlt)
          have HS := Lib.hid (all_step (p := okB) k hlt HL.out)
          have HW := Lib.hid (show okB b[k] = ((b[k].size : Int) == 40) from rfl)
          clear hc HL
          generalize hq : b[k] = qs at *
          clear hq
          by_cases hz : ((qs.size : Int) != 40) = true
          · go_wp2
            go_ret
            exact ⟨ret_bool (by simp only [HF.out (by rw [HW.out]; simpa using hz), Bool.false_and]), HX.out⟩
          · have hz' : ((qs.size : Int) != 40) = false := by simpa using hz
            go_wp2
            go_round
            case rel => exact ⟨k + 1, by omega, by go_num, HS.out (by rw [HW.out]; simpa using hz')⟩
            case measure => simp [intOf]; omega
        · obtain rfl : k = b.length := by omega
          have HE := Lib.hid (all_end HL.out)
          clear HL
          go_wp2
          go_loopw [4] (fun i wr => ∃ k : Nat, k ≤ l.length ∧ i = .int .i64 k ∧ (l.take k).all (takesS b.length) = true ∧ Ext (w.alloc (.cells #[.slice A b.length c, .slice A' l.length c'] 25)) wr) (fun i _ => l.length - (intOf i).toNat)
          case atStart => exact ⟨0, Nat.zero_le _, rfl, rfl, Ext.refl _⟩
          case round =>
            obtain ⟨k, hk, rfl, hal, hX⟩ := hrel
            have HL := Lib.hid hal
            have HXr := Lib.hid (Ext.trans HX.out hX)
            have hc0 := hX.cell (p := ⟨w.heap.size, 0, none⟩) (by simp)
            have hc1 := hX.cell (p := ⟨w.heap.size, 1, none⟩) (by simp)
            simp only [cell_new0, cell_new1] at hc0 hc1
            clear hal
            by_cases hlt : k < l.length
            · obtain ⟨bb, off, rfl, _, hc⟩ := (HA'.out.ext hX).wr hlt
              obtain ⟨hck, hcs⟩ := hc k hlt
              have HF := Lib.hid (all_false (p := takesS b.length) k hlt)
              have HS := Lib.hid (all_step (p := takesS b.length) k hlt HL.out)
              have HXr0 := Lib.hid hX
              clear hc HL hX
              generalize hq : l[k] = q at *
              clear hq
              obtain ⟨qa, qs⟩ := q
              have HM := Lib.hid (may_any A (some ⟨bb, off, none⟩) b.length c l.length c' qa qs)
              cases ht : takesS b.length (qa, qs)
              · have HZ := Lib.hid ht
                go_wp2_with fail
                go_still_tail 13, (by kernel_rfl)
                change wpList _ _ _ _ _ wr.drew
                go_wp2_with (go_at_call 29; refine (HM.out wr.drew).mono ?_; rintro e w2 ⟨rfl, hX2⟩; rw [HZ.out]; have HX2 := Lib.hid hX2; clear hX2)
                go_ret
                exact ⟨ret_bool (by simp only [HF.out HZ.out, Bool.and_false]), HXr.out.drew.trans HX2.out⟩
              · have HZ := Lib.hid ht
                go_wp2_with fail
                go_still_tail 13, (by kernel_rfl)
                change wpList _ _ _ _ _ wr.drew
                go_wp2_with (go_at_call 29; refine (HM.out wr.drew).mono ?_; rintro e w2 ⟨rfl, hX2⟩; rw [HZ.out]; have HX2 := Lib.hid hX2; clear hX2)
                go_roundw
                case rel => exact ⟨k + 1, by omega, by go_num, HS.out HZ.out, HXr0.out.drew.trans HX2.out⟩
                case measure => simp [intOf]; omega
            · obtain rfl : k = l.length := by omega
              have HE2 := Lib.hid (all_end HL.out)
              clear HL hX
              go_wp2
              go_ret
              exact ⟨ret_bool (by simp only [HE.out, HE2.out, decide_eq_true h0, decide_eq_true h1, Bool.and_true]), HXr.out⟩
    · go_enter Try.func13, Try.ntmps13
      go_wp2
      go_ret
      exact ⟨ret_bool (by rw [decide_eq_false (p := (b.length : Int) ≤ 4000) (by omega)]; simp), HX.out⟩
  · go_enter Try.func13, Try.ntmps13
    go_wp2
    go_ret
    exact ⟨ret_bool (by rw [decide_eq_false (by omega)]; rfl), HX.out⟩

set_option maxHeartbeats 2000000 in
theorem rightD_any (A A' : Option Addr) (b : List ByteArray) (l : List Wr) (c c' : Nat) (w : World) (hb : b.length ≤ maxLen) (hl : l.length ≤ maxLen) (hA : Cells w A (b.map sv)) (hA' : Cells w A' (wvs l)) :
    Calls Try.prog 15 #[.agg #[.slice A b.length c, .slice A' l.length c']] w fun e w' => e = .returned (.bool (rightS b l)) ∧ Ext w w' := by
  unfold maxLen at hl hb
  unfold rightS
  have HX := Lib.hid ((Ext.refl w).alloc (.cells #[.slice A b.length c, .slice A' l.length c'] 25))
  have HA := Lib.hid (hA.ext HX.out)
  have HA' := Lib.hid (hA'.ext HX.out)
  clear hA hA'
  by_cases h0 : (1 : Int) ≤ b.length
  · by_cases h1 : (b.length : Int) ≤ 4000
    · go_enter Try.func15, Try.ntmps15
      go_wp2
      go_loop [20] (fun i => ∃ k : Nat, k ≤ b.length ∧ i = .int .i64 k ∧ (b.take k).all okB = true) (fun i => b.length - (intOf i).toNat)
      case atStart => exact ⟨0, Nat.zero_le _, rfl, rfl⟩
      case round =>
        obtain ⟨k, hk, rfl, hal⟩ := hrel
        have HL := Lib.hid hal
        clear hal
        by_cases hlt : k < b.length
        · obtain ⟨bb, off, rfl, _, hc⟩ := HA.out.str hlt
          have hck := hc k hlt
          have HF := Lib.hid (all_false (p := okB) k hlt)
          have HS := Lib.hid (all_step (p := okB) k hlt HL.out)
          have HW := Lib.hid (show okB b[k] = ((b[k].size : Int) == 40) from rfl)
          clear hc HL
          generalize hq : b[k] = qs at *
          clear hq
          by_cases hz : ((qs.size : Int) != 40) = true
          · go_wp2
            go_ret
            exact ⟨ret_bool (by simp only [HF.out (by rw [HW.out]; simpa using hz), Bool.false_and]), HX.out⟩
          · have hz' : ((qs.size : Int) != 40) = false := by simpa using hz
            go_wp2
            go_round
            case rel => exact ⟨k + 1, by omega, by go_num, HS.out (by rw [HW.out]; simpa using hz')⟩
            case measure => simp [intOf]; omega
        · obtain rfl : k = b.length := by omega
          have HE := Lib.hid (all_end HL.out)
          clear HL
          go_wp2
          go_loopw [31] (fun i wr => ∃ k : Nat, k ≤ l.length ∧ i = .int .i64 k ∧ (l.take k).all (takesS b.length) = true ∧ Ext (w.alloc (.cells #[.slice A b.length c, .slice A' l.length c'] 25)) wr) (fun i _ => l.length - (intOf i).toNat)
          case atStart => exact ⟨0, Nat.zero_le _, rfl, rfl, Ext.refl _⟩
          case round =>
            obtain ⟨k, hk, rfl, hal, hX⟩ := hrel
            have HL := Lib.hid hal
            have HXr := Lib.hid (Ext.trans HX.out hX)
            have hc0 := hX.cell (p := ⟨w.heap.size, 0, none⟩) (by simp)
            simp only [cell_new0] at hc0
            have hsz := hX.size
            simp only [World.size_alloc] at hsz
            have hsz0 : w.heap.size < wr.heap.size := by omega
            clear hal
            by_cases hlt : k < l.length
            · obtain ⟨bb, off, rfl, _, hc⟩ := (HA'.out.ext hX).wr hlt
              obtain ⟨hck, hcs⟩ := hc k hlt
              have HF := Lib.hid (all_false (p := takesS b.length) k hlt)
              have HS := Lib.hid (all_step (p := takesS b.length) k hlt HL.out)
              have HXr0 := Lib.hid hX
              clear hc HL hX
              generalize hq : l[k] = q at *
              clear hq
              obtain ⟨qa, qs⟩ := q
              have HM := Lib.hid (takes_any A b.length c qa qs (wr.alloc (.cells #[.int .i64 qa, .string qs] 43)))
              cases ht : takesS b.length (qa, qs)
              · have HZ := Lib.hid ht
                go_wp2_with (go_at_call 30; refine stop_here ?_)
                refine stop_on ?_
                refine HM.out.mono ?_
                rintro e w2 ⟨rfl, hX2⟩
                rw [HZ.out]
                have HX2 := Lib.hid hX2
                clear hX2
                go_wp2
                go_ret
                exact ⟨ret_bool (by simp only [HF.out HZ.out, Bool.and_false]), (HXr.out.alloc _).trans HX2.out⟩
              · have HZ := Lib.hid ht
                go_wp2_with (go_at_call 30; refine stop_here ?_)
                refine stop_on ?_
                refine HM.out.mono ?_
                rintro e w2 ⟨rfl, hX2⟩
                rw [HZ.out]
                have HX2 := Lib.hid hX2
                clear hX2
                go_wp2
                go_roundw
                case rel => exact ⟨k + 1, by omega, by go_num, HS.out HZ.out, (HXr0.out.alloc _).trans HX2.out⟩
                case measure => simp [intOf]; omega
            · obtain rfl : k = l.length := by omega
              have HE2 := Lib.hid (all_end HL.out)
              clear HL hX
              go_wp2
              go_ret
              exact ⟨ret_bool (by simp only [HE.out, HE2.out, decide_eq_true h0, decide_eq_true h1, Bool.and_true]), HXr.out⟩
    · go_enter Try.func15, Try.ntmps15
      go_wp2
      go_ret
      exact ⟨ret_bool (by rw [decide_eq_false (p := (b.length : Int) ≤ 4000) (by omega)]; simp), HX.out⟩
  · go_enter Try.func15, Try.ntmps15
    go_wp2
    go_ret
    exact ⟨ret_bool (by rw [decide_eq_false (by omega)]; rfl), HX.out⟩
end Go.Proofs.Ytikdicnpmobidaa
