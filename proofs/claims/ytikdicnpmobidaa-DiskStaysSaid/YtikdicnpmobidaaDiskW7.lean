/- The walk of write. -/
import Derived.Test.YtikdicnpmobidaaDiskW6
namespace Go.Proofs.Ytikdicnpmobidaa
open Go.RowKit

/-- One write done; all of them, in order. -/
def write1 (b : List ByteArray) (x : Wr) : List ByteArray := if hasS b.length x.1 then b.set x.1.toNat x.2 else b
def writeL (b : List ByteArray) (l : List Wr) : List ByteArray := l.foldl write1 b
theorem write1_length (b : List ByteArray) (x : Wr) : (write1 b x).length = b.length := by
  unfold write1; split <;> simp
theorem writeL_length (l : List Wr) : ∀ b, (writeL b l).length = b.length := by
  induction l with
  | nil => intro b; rfl
  | cons x l ih => intro b; exact (ih (write1 b x)).trans (write1_length b x)
theorem writeL_step (b : List ByteArray) (l : List Wr) (k : Nat) (h : k < l.length) : writeL b (l.take (k + 1)) = write1 (writeL b (l.take k)) l[k] := by
  unfold writeL; rw [List.take_succ_eq_append_getElem h, List.foldl_append]; rfl

set_option maxHeartbeats 2000000 in
theorem write_any (B0 g n cap : Nat) (bl : List ByteArray) (A : Option Addr) (l : List Wr) (c : Nat) (w : World) (hn : n ≤ 1000000) (hl : l.length ≤ maxLen)
    (hown : w.ownsRow B0 9 1 (.slice (some ⟨g, 0, none⟩) n cap) n (bl.map sv)) (hA : Cells w A (wvs l)) (hne : wvs l ≠ [] → ∀ p, A = some p → some g ≠ some p.block) :
    Calls Try.prog 39 #[.slice (some ⟨g, 0, none⟩) n cap, .slice A l.length c] w fun e w' => e = .returned (.tuple #[]) ∧
      w'.ownsRow B0 9 1 (.slice (some ⟨g, 0, none⟩) n cap) n ((writeL bl l).map sv) ∧ w.grownBy w' (some g) := by
  unfold maxLen at hl
  have hbn : bl.length = n := by have := hown.1; simpa using this
  have HO := Lib.hid hown
  have HA := Lib.hid hA
  have HNE := Lib.hid hne
  have HBN := Lib.hid hbn
  clear hown hA hne hbn
  go_enter Try.func39, Try.ntmps39
  go_wp2
  go_loopw [8] (fun i wr => ∃ k : Nat, k ≤ l.length ∧ i = .int .i64 k ∧ wr.ownsRow B0 9 1 (.slice (some ⟨g, 0, none⟩) n cap) n ((writeL bl (l.take k)).map sv) ∧ w.grownBy wr (some g)) (fun i _ => l.length - (intOf i).toNat)
  case atStart => exact ⟨0, Nat.zero_le _, rfl, HO.out, World.grownBy.refl _ _⟩
  case round =>
    obtain ⟨k, hk, rfl, ho, hg⟩ := hrel
    by_cases hlt : k < l.length
    · obtain ⟨ba, off, rfl, _, hc⟩ := (HA.out.grown hg HNE.out).wr hlt
      obtain ⟨hck, hcs⟩ := hc k hlt
      have HS := Lib.hid (writeL_step bl l k hlt)
      have hlen := (writeL_length (l.take k) bl).trans HBN.out
      clear hc
      generalize hq : l[k] = x at *
      clear hq
      obtain ⟨xa, xs⟩ := x
      simp only at hck hcs
      generalize hB : writeL bl (l.take k) = bk at *
      clear hB
      subst hlen
      have hgl := (ho.lt g rfl).2
      have HO2 := Lib.hid (ho.alloc (.cells #[.int .i64 xa, .string xs] 43))
      have HG := Lib.hid (grown_trans hg (World.grownBy_alloc wr (.cells #[.int .i64 xa, .string xs] 43) (some g)))
      have HH := Lib.hid (has_any (some ⟨g, 0, none⟩) bk.length cap xa (wr.alloc (.cells #[.int .i64 xa, .string xs] 43)))
      cases hh : hasS bk.length xa
      · have HZ := Lib.hid hh
        clear hh ho hg
        go_wp2_with (go_at_call 31; refine HH.out.mono ?_; rintro e w2 ⟨rfl, rfl⟩; rw [HZ.out])
        go_roundw
        case rel => exact ⟨k + 1, by omega, by go_num, by rw [HS.out]; unfold write1; rw [if_neg (by simp [HZ.out])]; exact HO2.out, HG.out⟩
        case measure => simp [intOf]; omega
      · have HZ := Lib.hid hh
        obtain ⟨m, rfl⟩ : ∃ m : Nat, xa = m := by
          unfold hasS at hh
          simp at hh
          exact ⟨xa.toNat, by omega⟩
        have hmlt : m < bk.length := by
          unfold hasS at hh
          simp at hh
          omega
        have hmi : (m : Int) < (bk.length : Int) := by omega
        have HST := Lib.hid (show ((wr.setCell ⟨g, m, none⟩ (.string xs)).alloc (.cells #[.int .i64 m, .string xs] 43)).ownsRow B0 9 1 (.slice (some ⟨g, 0, none⟩) bk.length cap) bk.length ((bk.set m xs).map sv) ∧ w.grownBy ((wr.setCell ⟨g, m, none⟩ (.string xs)).alloc (.cells #[.int .i64 m, .string xs] 43)) (some g) from ⟨by rw [List.map_set]; exact (ho.stored m (.string xs)).1.alloc _, grown_trans (grown_trans hg (ho.stored m (.string xs)).2) (World.grownBy_alloc _ _ _)⟩)
        have hf := HO2.out.frozenAt m
        obtain ⟨u, hu⟩ : ∃ u, (wr.alloc (.cells #[.int .i64 m, .string xs] 43)).cell? ⟨g, m, none⟩ = some u := by
          rw [HO2.out.cellAt m (by omega)]
          exact ⟨_, List.getElem?_eq_getElem (by simpa using hmlt)⟩
        clear hh ho hg
        go_wp2_with (go_at_call 31; refine HH.out.mono ?_; rintro e w2 ⟨rfl, rfl⟩; rw [HZ.out])
        go_roundw
        case rel => exact ⟨k + 1, by omega, by go_num, by rw [HS.out]; unfold write1; rw [if_pos HZ.out, Int.toNat_natCast]; exact HST.out.1, HST.out.2⟩
        case measure => simp [intOf]; omega
    · obtain rfl : k = l.length := by omega
      rw [List.take_length] at ho
      have HO := Lib.hid ho
      have HG := Lib.hid hg
      clear ho hg
      go_wp2
      go_end0
      exact ⟨rfl, HO.out, HG.out⟩
end Go.Proofs.Ytikdicnpmobidaa
