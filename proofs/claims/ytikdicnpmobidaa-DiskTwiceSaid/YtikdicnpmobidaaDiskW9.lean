/- The walk of Crash. -/
import Derived.Test.YtikdicnpmobidaaDiskW8
namespace Go.Proofs.Ytikdicnpmobidaa
open Go.RowKit

theorem writeL_append (b : List ByteArray) (l m : List Wr) : writeL b (l ++ m) = writeL (writeL b l) m := by
  unfold writeL; rw [List.foldl_append]

set_option maxHeartbeats 4000000 in
theorem crashD_any (A A' K : Option Addr) (b : List ByteArray) (l : List Wr) (ks : List Bool) (c c' ck : Nat) (w : World) (hb : b.length ≤ 1000000) (hl : l.length ≤ 1000000) (hk0 : ks.length ≤ 1000000)
    (hA0 : Sl w A b.length c (b.map sv)) (hA0' : Sl w A' l.length c' (wvs l)) (hK0 : Sl w K ks.length ck (ks.map Value.bool)) :
    Calls Try.prog 26 #[.agg #[.slice A b.length c, .slice A' l.length c'], .slice K ks.length ck] w fun e w' => ∃ v, e = .returned v ∧ IsDisk w' v (writeL b (kept l ks)) [] ∧ Ext w w' := by
  have HA := Lib.hid hA0.cells
  have HA' := Lib.hid hA0'
  have HK := Lib.hid hK0
  have HN := Lib.hid hA0.1
  have hck := hK0.2.1
  have hck2 := hK0.2.2.1
  have hcl := hA0'.2.1
  have hcl2 := hA0'.2.2.1
  unfold maxLen at hck2 hcl2
  clear hA0 hA0' hK0
  have HX := Lib.hid (((Ext.refl w).alloc (.cells #[.slice A b.length c, .slice A' l.length c'] 25)).alloc (.cells #[.slice none 0 0, .slice none 0 0] 25))
  have hb1 := (Box2.new w (.slice A b.length c) (.slice A' l.length c') 25).ext (by simp) ((Ext.refl _).alloc (.cells #[.slice none 0 0, .slice none 0 0] 25))
  have hb2 := Box2.new (w.alloc (.cells #[.slice A b.length c, .slice A' l.length c'] 25)) (.slice none 0 0) (.slice none 0 0) 25
  have HC := Lib.hid (copiedB0 A b c _ hb HN.out (HA.out.ext HX.out))
  have HB1 := Lib.hid hb1
  have HB2 := Lib.hid hb2
  clear hb1 hb2
  obtain ⟨m, hm⟩ : ∃ m, m = min ks.length l.length := ⟨_, rfl⟩
  have hm1 : m ≤ ks.length := by omega
  have hm2 : m ≤ l.length := by omega
  have hm3 : ks.length ≤ m ∨ l.length ≤ m := by omega
  have HM3 := Lib.hid hm3
  clear hm hm3
  go_enter Try.func26, Try.ntmps26
  go_wp2_with (go_at_call 35; refine stop_here ?_)
  refine stop_on ?_
  refine HC.out.mono ?_
  clear HC
  rintro e w1 ⟨rfl, ho, hx⟩
  have HX1 := Lib.hid (Ext.trans HX.out hx)
  have hs := hx.size
  simp only [World.size_alloc] at hs ho HB2 ⊢
  have HB1 := Lib.hid (HB1.out.ext (by simp; omega) hx)
  have HB2 := Lib.hid (HB2.out.ext (by simp) hx)
  obtain ⟨c0, c1, _, _⟩ := HB1.out.read
  have HO := Lib.hid ho
  clear hx ho
  go_wp2_with fail
  all_goals
    have h3 := HM3.out
    first
      | (have h4 : ks.length ≤ m := by omega)
      | (have h4 : l.length ≤ m := by omega)
    clear h3
    go_loopw [20] (fun i wr => ∃ k : Nat, k ≤ m ∧ i = .int .i64 k ∧
      wr.ownsRow (w.heap.size + 1 + 1) 9 1 (.slice (some ⟨w.heap.size + 1 + 1, 0, none⟩) b.length b.length) b.length ((writeL b (kept (l.take k) (ks.take k))).map sv) ∧ w1.grownBy wr (some (w.heap.size + 1 + 1))) (fun i _ => m - (intOf i).toNat)
    case atStart => exact ⟨0, Nat.zero_le _, rfl, by rw [List.take_zero, List.take_zero]; exact HO.out, World.grownBy.refl _ _⟩
    case round =>
      obtain ⟨k, hk, rfl, ho, hg⟩ := hrel
      clear c0 c1
      by_cases hlt : k < m
      · have hlk : k < ks.length := by omega
        have hll : k < l.length := by omega
        have hkc : k < c' := by omega
        have hA1 := HA'.out.ext HX1.out
        have hK1 := HK.out.ext HX1.out
        obtain ⟨bk, offk, rfl, _, hcK⟩ := (hK1.cells.grown hg (HK.out.cells.apart (by omega))).flag hlk
        have hck0 := hcK k hlk
        have HC1 := Lib.hid (hA1.cells.grown hg (HA'.out.cells.apart (by omega)))
        obtain ⟨ba, off, rfl, hba, hcA⟩ := HC1.out.wr hll
        have hne : ba ≠ w.heap.size + 1 + 1 := by
          intro e
          have := HA'.out.cells.apart (g := w.heap.size + 1 + 1) (by omega) (by intro e; have := wvs_length l; rw [e] at this; simp at this; omega) _ rfl
          simp [e] at this
        obtain ⟨hck1, hck2'⟩ := hcA k hll
        obtain ⟨q0, q1, _, _⟩ := (HB1.out.grown (by omega) hg (by omega)).read
        have HS := Lib.hid (kept_step k l ks hll hlk)
        have hbl := writeL_length (kept (l.take k) (ks.take k)) b
        have hone : Cells wr (some ⟨ba, off + k * 2, none⟩) (wvs [l[k]]) := fun _ => ⟨ba, off + k * 2, rfl, hba, fun j u hu => by
          match j, hu with
          | 0, hu => cases hu; exact hck1
          | 1, hu => cases hu; exact hck2'
          | j + 2, hu => simp [wvs] at hu⟩
        have HW := Lib.hid (fun cc => write_any (w.heap.size + 1 + 1) (w.heap.size + 1 + 1) b.length b.length (writeL b (kept (l.take k) (ks.take k))) (some ⟨ba, off + k * 2, none⟩) [l[k]] cc wr hb (by unfold maxLen; simp) ho hone (by intro _ p hp hh; cases hp; cases hh; exact hne rfl))
        have HG := Lib.hid hg
        have HOK := Lib.hid ho
        clear hcK hcA hone hck1 hck2' hA1 hK1 ho hg hne
        generalize hq2 : l[k] = x at *
        clear hq2
        cases hq : ks[k]
        · rw [hq] at hck0 HS
          clear hq
          go_wp2
          go_roundw
          case rel => exact ⟨k + 1, by omega, by go_num, by rw [HS.out]; simpa using HOK.out, HG.out⟩
          case measure => simp [intOf]; omega
        · rw [hq] at hck0 HS
          clear hq
          go_wp2_with (go_at_call 39; refine stop_here ?_)
          refine stop_on ?_
          refine (HW.out _).mono ?_
          rintro e w2 ⟨rfl, ho2, hg2⟩
          have HO2 := Lib.hid ho2
          have HG2 := Lib.hid (grown_trans HG.out hg2)
          clear ho2 hg2
          go_wp2
          go_roundw
          case rel => exact ⟨k + 1, by omega, by go_num, by rw [HS.out, writeL_append]; exact HO2.out, HG2.out⟩
          case measure => simp [intOf]; omega
      · obtain rfl : k = m := by omega
        rw [kept_end k l ks (by have := HM3.out; omega)] at ho
        have hb2 := HB2.out.grown (by omega) hg (by omega)
        have HB3 := Lib.hid (hb2.store (.slice (some ⟨w.heap.size + 1 + 1, 0, none⟩) b.length b.length) (.slice none 0 0))
        obtain ⟨r0, r1, f0, f1⟩ := hb2.read
        have HXr := Lib.hid (show Ext w wr from Below.grown HX1.out hg (by omega) (by intro k hk; cases hk; omega))
        have HXE := Lib.hid (HXr.out.store2 (k := w.heap.size + 1) (by omega) (.slice (some ⟨w.heap.size + 1 + 1, 0, none⟩) b.length b.length) (.slice none 0 0))
        have HOE := Lib.hid (own_store2 ho (k := w.heap.size + 1) (by omega) (.slice (some ⟨w.heap.size + 1 + 1, 0, none⟩) b.length b.length) (.slice none 0 0))
        clear ho hg
        go_wp2
        clear r0 r1 f0 f1
        obtain ⟨r0, r1, _, _⟩ := HB3.out.read
        refine bodyPost_ret (v := .agg #[.slice (some ⟨w.heap.size + 1 + 1, 0, none⟩) b.length b.length, .slice none 0 0]) (by simp [results, Try.results26, go_sem, r0, r1]) rfl ?_
        refine ⟨_, rfl, ⟨_, _, _, _, by rw [writeL_length]; rfl, by rw [writeL_length]; exact own_sl1 HOE.out, Sl.nil _⟩, HXE.out⟩
end Go.Proofs.Ytikdicnpmobidaa
