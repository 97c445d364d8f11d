/- The walks of Flush and Crash. -/
import Derived.Test.YtikdicnpmobidaaDiskW7
namespace Go.Proofs.Ytikdicnpmobidaa
open Go.RowKit

set_option maxHeartbeats 2000000 in
theorem flushD_any (A A' : Option Addr) (b : List ByteArray) (l : List Wr) (c c' : Nat) (w : World) (hb : b.length ≤ 1000000) (hl : l.length ≤ 1000000) (hA0 : Sl w A b.length c (b.map sv)) (hA0' : Sl w A' l.length c' (wvs l)) :
    Calls Try.prog 24 #[.agg #[.slice A b.length c, .slice A' l.length c']] w fun e w' => ∃ v, e = .returned v ∧ IsDisk w' v (writeL b l) [] ∧ Ext w w' := by
  have HA := Lib.hid hA0.cells
  have HA' := Lib.hid hA0'.cells
  have HN := Lib.hid hA0.1
  clear hA0 hA0'
  have HX := Lib.hid (((Ext.refl w).alloc (.cells #[.slice A b.length c, .slice A' l.length c'] 25)).alloc (.cells #[.slice none 0 0, .slice none 0 0] 25))
  have hb1 := (Box2.new w (.slice A b.length c) (.slice A' l.length c') 25).ext (by simp) ((Ext.refl _).alloc (.cells #[.slice none 0 0, .slice none 0 0] 25))
  have hb2 := Box2.new (w.alloc (.cells #[.slice A b.length c, .slice A' l.length c'] 25)) (.slice none 0 0) (.slice none 0 0) 25
  have HC := Lib.hid (copiedB0 A b c _ hb HN.out (HA.out.ext HX.out))
  have HB1 := Lib.hid hb1
  have HB2 := Lib.hid hb2
  clear hb1 hb2
  go_enter Try.func24, Try.ntmps24
  go_wp2_with (go_at_call 35; refine stop_here ?_)
  refine stop_on ?_
  refine HC.out.mono ?_
  clear HC
  rintro e w1 ⟨rfl, ho, hx⟩
  have HX1 := Lib.hid (Ext.trans HX.out hx)
  have hs := hx.size
  simp only [World.size_alloc] at hs ho HB2 ⊢
  have HB1 := Lib.hid (HB1.out.ext (by simp; omega) hx)
  have HB2 := Lib.hid (HB2.out.ext (by simp) hx)
  obtain ⟨c0, c1, _, _⟩ := HB1.out.read
  have HW := Lib.hid (write_any _ _ _ _ b A' l c' w1 hb (by unfold maxLen; omega) ho (HA'.out.ext HX1.out) (HA'.out.apart (by omega)))
  clear hx ho
  go_wp2_with (go_at_call 39; refine stop_here ?_)
  refine stop_on ?_
  refine HW.out.mono ?_
  clear HW
  rintro e w2 ⟨rfl, ho, hg⟩
  have hb2 := HB2.out.grown (by omega) hg (by omega)
  have HB3 := Lib.hid (hb2.store (.slice (some ⟨w.heap.size + 1 + 1, 0, none⟩) b.length b.length) (.slice none 0 0))
  obtain ⟨r0, r1, f0, f1⟩ := hb2.read
  have HO := Lib.hid ho
  have HX2 := Lib.hid (show Ext w w2 from Below.grown HX1.out hg (by omega) (by intro k hk; cases hk; omega))
  clear ho hg c0 c1
  go_wp2
  have HXE := Lib.hid (HX2.out.store2 (k := w.heap.size + 1) (by omega) (.slice (some ⟨w.heap.size + 1 + 1, 0, none⟩) b.length b.length) (.slice none 0 0))
  have HOE := Lib.hid (own_store2 HO.out (k := w.heap.size + 1) (by omega) (.slice (some ⟨w.heap.size + 1 + 1, 0, none⟩) b.length b.length) (.slice none 0 0))
  clear r0 r1 f0 f1
  obtain ⟨r0, r1, _, _⟩ := HB3.out.read
  refine bodyPost_ret (v := .agg #[.slice (some ⟨w.heap.size + 1 + 1, 0, none⟩) b.length b.length, .slice none 0 0]) (by simp [results, Try.results24, go_sem, r0, r1]) rfl ?_
  refine ⟨_, rfl, ⟨_, _, _, _, by rw [writeL_length]; rfl, by rw [writeL_length]; exact own_sl1 HOE.out, Sl.nil _⟩, HXE.out⟩
end Go.Proofs.Ytikdicnpmobidaa
