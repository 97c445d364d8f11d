/- Walk of the reference's Right. -/
import Derived.Test.YtpcchbcibcfldaaNodeW1
namespace Go.Proofs.Ytpcchbcibcfldaa
open Go.RowKit

set_option maxRecDepth 100000 in
set_option maxHeartbeats 400000 in
theorem ref04Right_any (leaf : Bool) (A : Option Addr) (l : List It) (n c : Nat) (w : World) (hn : n = l.length) (hA : Sl w A n c (ivs l)) :
    Calls Try.prog 15 #[.agg #[.bool leaf, .slice A n c]] w fun e w' => e = .returned (.bool (ndR l)) ∧ Ext w w' := by
  subst hn
  have hl := hA.len
  unfold maxLen at hl
  have HX := Lib.hid ((Ext.refl w).alloc (.cells #[.bool leaf, .slice A l.length c] 24))
  have HB := Lib.hid (Bx.new w #[.bool leaf, .slice A l.length c] 24)
  have HA := Lib.hid (hA.cells.ext HX.out)
  clear hA
  by_cases h1 : l.length < 1
  · go_enter Try.func15, Try.ntmps15
    go_wp2
    go_ret
    exact ⟨ret_bool (ndR_no (fun h => by have := h.1; omega)).symm, HX.out⟩
  by_cases h4 : 4 < l.length
  · go_enter Try.func15, Try.ntmps15
    go_wp2
    go_ret
    exact ⟨ret_bool (ndR_no (fun h => by have := h.1; omega)).symm, HX.out⟩
  go_enter Try.func15, Try.ntmps15
  go_wp2
  generalize hW : World.alloc w _ = W at *
  clear hW
  go_loopw [3] (fun i wr => ∃ k : Nat, k ≤ l.length ∧ i = .int .i64 k ∧ NdK l k ∧ Ext W wr) (fun i _ => l.length - (intOf i).toNat)
  case atStart => exact ⟨0, Nat.zero_le _, rfl, NdK.zero l, Ext.refl _⟩
  case round =>
    obtain ⟨k, hk, rfl, hnk, hx⟩ := hrel
    have HK := Lib.hid hnk
    have HXR := Lib.hid hx
    obtain ⟨b0, b1, b2⟩ := (HB.out.ext hx).read2
    have HXE := Lib.hid (fun o q => ((HX.out.trans (hx.alloc o)).drewN q))
    clear hnk
    by_cases hlt : k < l.length
    · obtain ⟨bb, off, rfl, _, hc⟩ := (HA.out.ext hx).it hlt
      obtain ⟨hck, hcv⟩ := hc k hlt
      have HNO := Lib.hid (fun (h : ¬ okIt l[k]) => ndR_no (l := l) (fun e => h (e.2 k hlt).1))
      have hki : (k : Int) < (l.length : Int) := by omega
      rcases Nat.eq_zero_or_pos k with h0 | h0
      · subst h0
        have HS := Lib.hid (fun h => HK.out.succ hlt h (fun h0 => absurd h0 (by omega)))
        simp only [Nat.zero_mul, Nat.add_zero] at hck hcv
        clear hc hx HK
        generalize hq : l[0] = q at *
        clear hq
        obtain ⟨K, V⟩ := q
        simp only at hck hcv
        by_cases hb0 : K < 0
        · have d0 : decide (K < 0) = true := decide_eq_true hb0
          go_wp2_with fail
          go_quiet (fail)
          go_wp2
          go_ret
          exact ⟨ret_bool (HNO.out (by unfold okIt; simp only; omega)).symm, HXE.out _ _⟩
        have d0 : decide (K < 0) = false := decide_eq_false hb0
        by_cases hb1 : 2147483647 < K
        · have d1 : decide (2147483647 < K) = true := decide_eq_true hb1
          go_wp2_with fail
          go_quiet (fail)
          go_wp2
          go_ret
          exact ⟨ret_bool (HNO.out (by unfold okIt; simp only; omega)).symm, HXE.out _ _⟩
        have d1 : decide (2147483647 < K) = false := decide_eq_false hb1
        by_cases hb2 : V < 0
        · have d2 : decide (V < 0) = true := decide_eq_true hb2
          go_wp2_with fail
          go_quiet (fail)
          go_wp2
          go_ret
          exact ⟨ret_bool (HNO.out (by unfold okIt; simp only; omega)).symm, HXE.out _ _⟩
        have d2 : decide (V < 0) = false := decide_eq_false hb2
        by_cases hb3 : 2147483647 < V
        · have d3 : decide (2147483647 < V) = true := decide_eq_true hb3
          go_wp2_with fail
          go_quiet (fail)
          go_wp2
          go_ret
          exact ⟨ret_bool (HNO.out (by unfold okIt; simp only; omega)).symm, HXE.out _ _⟩
        have d3 : decide (2147483647 < V) = false := decide_eq_false hb3
        · have HOK := Lib.hid (show okIt (K, V) from by unfold okIt; simp only; omega)
          clear hb0 hb1 hb2 hb3
          go_wp2_with fail
          go_quiet (fail)
          go_wp2
          go_roundw
          case rel => exact ⟨1, by omega, by go_num, HS.out HOK.out, (HXR.out.alloc _).drewN _⟩
          case measure => simp [intOf]; omega
      · obtain ⟨j, rfl⟩ : ∃ j, k = j + 1 := ⟨k - 1, by omega⟩
        have hj := (hc j (by omega)).1
        have HS := Lib.hid (fun (h : okIt l[j + 1]) (hp : l[j].1 < l[j + 1].1) => HK.out.succ hlt h (fun _ => by simpa using hp))
        have HNR := Lib.hid (fun (h : ¬ l[j + 1 - 1].1 < l[j + 1].1) => ndR_no (l := l) (fun e => h ((e.2 (j + 1) hlt).2 (by omega))))
        simp only [Nat.add_sub_cancel] at HNR
        clear hc hx HK h0
        generalize hq : l[j + 1] = q at *
        generalize hq2 : l[j] = pr at *
        clear hq hq2
        obtain ⟨K, V⟩ := q
        obtain ⟨PK, PV⟩ := pr
        simp only at hck hcv hj HNR HS
        by_cases hb0 : K < 0
        · have d0 : decide (K < 0) = true := decide_eq_true hb0
          go_wp2_with fail
          go_quiet (fail)
          go_wp2
          go_ret
          exact ⟨ret_bool (HNO.out (by unfold okIt; simp only; omega)).symm, HXE.out _ _⟩
        have d0 : decide (K < 0) = false := decide_eq_false hb0
        by_cases hb1 : 2147483647 < K
        · have d1 : decide (2147483647 < K) = true := decide_eq_true hb1
          go_wp2_with fail
          go_quiet (fail)
          go_wp2
          go_ret
          exact ⟨ret_bool (HNO.out (by unfold okIt; simp only; omega)).symm, HXE.out _ _⟩
        have d1 : decide (2147483647 < K) = false := decide_eq_false hb1
        by_cases hb2 : V < 0
        · have d2 : decide (V < 0) = true := decide_eq_true hb2
          go_wp2_with fail
          go_quiet (fail)
          go_wp2
          go_ret
          exact ⟨ret_bool (HNO.out (by unfold okIt; simp only; omega)).symm, HXE.out _ _⟩
        have d2 : decide (V < 0) = false := decide_eq_false hb2
        by_cases hb3 : 2147483647 < V
        · have d3 : decide (2147483647 < V) = true := decide_eq_true hb3
          go_wp2_with fail
          go_quiet (fail)
          go_wp2
          go_ret
          exact ⟨ret_bool (HNO.out (by unfold okIt; simp only; omega)).symm, HXE.out _ _⟩
        have d3 : decide (2147483647 < V) = false := decide_eq_false hb3
        · have HOK := Lib.hid (show okIt (K, V) from by unfold okIt; simp only; omega)
          clear hb0 hb1 hb2 hb3
          have hk0 : decide ((0 : Int) < ((j + 1 : Nat) : Int)) = true := decide_eq_true (by omega)
          rcases Decidable.em (K ≤ PK) with hp | hp
          · go_wp2_with fail
            go_quiet (fail)
            go_wp2
            go_ret
            exact ⟨ret_bool (HNR.out (by omega)).symm, HXE.out _ _⟩
          · have hp' : decide (K ≤ PK) = false := decide_eq_false hp
            have HP := Lib.hid (show PK < K by omega)
            go_wp2_with fail
            go_quiet (fail)
            go_wp2
            go_roundw
            case rel => exact ⟨j + 1 + 1, by omega, by go_num, HS.out HOK.out HP.out, (HXR.out.alloc _).drewN _⟩
            case measure => simp [intOf]; omega
    · obtain rfl : k = l.length := by omega
      have HE := Lib.hid ((ndR_iff l).2 (HK.out.all (by omega)))
      clear hx
      go_wp2
      go_ret
      exact ⟨ret_bool HE.out.symm, HX.out.trans HXR.out⟩
end Go.Proofs.Ytpcchbcibcfldaa
