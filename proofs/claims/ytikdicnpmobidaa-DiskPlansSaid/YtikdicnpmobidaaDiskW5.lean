/- The walk of the reference's Read. -/
import Derived.Test.YtikdicnpmobidaaDiskW4
namespace Go.Proofs.Ytikdicnpmobidaa
open Go.RowKit

/-- What the last write to a block says, or s. -/
def lastW (l : List Wr) (at_ : Int) (s : ByteArray) : ByteArray := l.foldl (fun s x => if x.1 = at_ then x.2 else s) s
theorem lastW_step (l : List Wr) (at_ : Int) (s : ByteArray) (k : Nat) (h : k < l.length) : lastW (l.take (k + 1)) at_ s = if l[k].1 = at_ then l[k].2 else lastW (l.take k) at_ s := by
  unfold lastW; rw [List.take_succ_eq_append_getElem h, List.foldl_append]; rfl
/-- P2.2: what stands in a block. -/
def readS (b : List ByteArray) (l : List Wr) (at_ : Int) : ByteArray := if hasS b.length at_ then lastW l at_ (b[at_.toNat]?.getD (ByteArray.mk #[])) else ByteArray.mk #[]
def readE (b : List ByteArray) (at_ : Int) : Int := if hasS b.length at_ then 0 else 1

theorem ret_pair {a a' : ByteArray} {k : IntKind} {b b' : Int} (h : a = a') (h' : b = b') : Ending.returned (.tuple #[.string a, .int k b]) = .returned (.tuple #[.string a', .int k b']) := by rw [h, h']

set_option maxHeartbeats 2000000 in
theorem readR_any (A A' : Option Addr) (b : List ByteArray) (l : List Wr) (c c' : Nat) (at_ : Int) (w : World) (_hb : b.length ≤ maxLen) (hl : l.length ≤ maxLen) (hA : Cells w A (b.map sv)) (hA' : Cells w A' (wvs l)) :
    Calls Try.prog 17 #[.agg #[.slice A b.length c, .slice A' l.length c'], .int .i64 at_] w fun e w' => e = .returned (.tuple #[.string (readS b l at_), .int .i64 (readE b at_)]) ∧ Ext w w' := by
  unfold maxLen at hl
  have HX := Lib.hid ((Ext.refl w).alloc (.cells #[.slice A b.length c, .slice A' l.length c'] 25))
  have HA := Lib.hid (hA.ext HX.out)
  have HA' := Lib.hid (hA'.ext HX.out)
  clear hA hA'
  by_cases h0 : 0 ≤ at_
  · obtain ⟨n, rfl⟩ := Int.eq_ofNat_of_zero_le h0
    by_cases h1 : n < b.length
    · have HR := Lib.hid (show hasS b.length n = true by unfold hasS; simp; omega)
      have h2 : (n : Int) < (b.length : Int) := by omega
      obtain ⟨bb, off, rfl, _, hc⟩ := HA.out.str h1
      have hcb := hc n h1
      have HQ := Lib.hid (show b[n]?.getD (ByteArray.mk #[]) = b[n] by simp [h1])
      clear hc
      generalize hq : b[n] = q at *
      clear hq
      have fin : ∀ s, s = lastW l n q → Ending.returned (.tuple #[.string s, .int .i64 0]) = .returned (.tuple #[.string (readS b l n), .int .i64 (readE b n)]) := by
        intro s hs
        refine ret_pair ?_ ?_
        · unfold readS; rw [HR.out, Int.toNat_natCast, HQ.out, hs]; rfl
        · unfold readE; rw [HR.out]; rfl
      have FIN := Lib.hid fin
      clear fin
      generalize readS b l n = rS at *
      generalize readE b n = rE at *
      go_enter Try.func17, Try.ntmps17
      go_wp2
      go_loop [6, 7] (fun s i => ∃ k : Nat, k ≤ l.length ∧ i = .int .i64 k ∧ s = .string (lastW (l.take k) n q)) (fun _ i => l.length - (intOf i).toNat)
      case atStart => exact ⟨0, Nat.zero_le _, rfl, rfl⟩
      case round =>
        obtain ⟨k, hk, rfl, rfl⟩ := hrel
        by_cases hlt : k < l.length
        · obtain ⟨b2, off2, rfl, _, hc⟩ := HA'.out.wr hlt
          obtain ⟨hck, hcs⟩ := hc k hlt
          have HS := Lib.hid (lastW_step l n q k hlt)
          clear hc
          generalize hq : l[k] = x at *
          clear hq
          obtain ⟨xa, xs⟩ := x
          simp only at hck hcs
          generalize lastW (l.take k) n q = s0 at *
          rcases Decidable.em (xa = (n : Int)) with he | he
          · have hz : (xa == (n : Int)) = true := by simpa using he
            have HZ := Lib.hid he
            clear he
            go_wp2
            go_round
            case rel => exact ⟨k + 1, by omega, by go_num, by rw [HS.out, if_pos HZ.out]⟩
            case measure => simp [intOf]; omega
          · have hz : (xa == (n : Int)) = false := by simpa using he
            have HZ := Lib.hid he
            clear he
            go_wp2
            go_round
            case rel => exact ⟨k + 1, by omega, by go_num, by rw [HS.out, if_neg HZ.out]⟩
            case measure => simp [intOf]; omega
        · obtain rfl : k = l.length := by omega
          rw [List.take_length]
          go_wp2
          go_ret2
          exact ⟨FIN.out _ rfl, HX.out⟩
    · have HR := Lib.hid (show hasS b.length n = false by unfold hasS; simp; omega)
      have h2 : (b.length : Int) ≤ (n : Int) := by omega
      go_enter Try.func17, Try.ntmps17
      go_wp2
      go_ret2
      exact ⟨ret_pair (by unfold readS; rw [HR.out]; rfl) (by unfold readE; rw [HR.out]; rfl), HX.out⟩
  · have HR := Lib.hid (show hasS b.length at_ = false by unfold hasS; simp; omega)
    go_enter Try.func17, Try.ntmps17
    go_wp2
    go_ret2
    exact ⟨ret_pair (by unfold readS; rw [HR.out]; rfl) (by unfold readE; rw [HR.out]; rfl), HX.out⟩
end Go.Proofs.Ytikdicnpmobidaa
