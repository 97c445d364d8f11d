/- The walks of Flush and Crash. New of the reference alone (for seats without strings.Repeat: no text of both may be joined). -/
import Derived.Test.YtpcimjccngidgaaK05
import Derived.Test.YtpcimjccngidgaaK01
namespace Go.Proofs.Ytpcimjccngidgaa
set_option maxRecDepth 20000
open Go.RowKit

set_option maxHeartbeats 2000000 in
theorem flushD_any (A A' : Option Addr) (b : List ByteArray) (l : List Wr) (c c' : Nat) (w : World) (hb : b.length ≤ 1000000) (hl : l.length ≤ 1000000) (hA0 : Sl w A b.length c (b.map sv)) (hA0' : Sl w A' l.length c' (wvs l)) :
    Calls Try.prog 25 #[.agg #[.slice A b.length c, .slice A' l.length c']] w fun e w' => ∃ v, e = .returned v ∧ IsDisk w' v (writeL b l) [] ∧ Ext w w' := by
  have HA := Lib.hid hA0.cells
  have HA' := Lib.hid hA0'.cells
  have HN := Lib.hid hA0.1
  clear hA0 hA0'
  have HX := Lib.hid (((Ext.refl w).alloc (.cells #[.slice A b.length c, .slice A' l.length c'] 33)).alloc (.cells #[.slice none 0 0, .slice none 0 0] 33))
  have hb1 := (Box2.new w (.slice A b.length c) (.slice A' l.length c') 33).ext (by simp) ((Ext.refl _).alloc (.cells #[.slice none 0 0, .slice none 0 0] 33))
  have hb2 := Box2.new (w.alloc (.cells #[.slice A b.length c, .slice A' l.length c'] 33)) (.slice none 0 0) (.slice none 0 0) 33
  have HC := Lib.hid (copiedB0 A b c _ hb HN.out (HA.out.ext HX.out))
  have HB1 := Lib.hid hb1
  have HB2 := Lib.hid hb2
  clear hb1 hb2
  go_enter Try.func25, Try.ntmps25
  go_wp2_with (go_at_call 42; refine stop_here ?_)
  refine stop_on ?_
  refine HC.out.mono ?_
  clear HC
  rintro e w1 ⟨rfl, ho, hx⟩
  have HX1 := Lib.hid (Ext.trans HX.out hx)
  have hs := hx.size
  simp only [World.size_alloc] at hs ho HB2 ⊢
  have HB1 := Lib.hid (HB1.out.ext (by simp; omega) hx)
  have HB2 := Lib.hid (HB2.out.ext (by simp) hx)
  obtain ⟨c0, c1, _, _⟩ := HB1.out.read
  have HW := Lib.hid (write_any _ _ _ _ b A' l c' w1 hb (by unfold maxLen; omega) ho (HA'.out.ext HX1.out) (HA'.out.apart (by omega)))
  clear hx ho
  go_wp2_with (go_at_call 43; refine stop_here ?_)
  refine stop_on ?_
  refine HW.out.mono ?_
  clear HW
  rintro e w2 ⟨rfl, ho, hg⟩
  have hb2 := HB2.out.grown (by omega) hg (by omega)
  have HB3 := Lib.hid (hb2.store (.slice (some ⟨w.heap.size + 1 + 1, 0, none⟩) b.length b.length) (.slice none 0 0))
  obtain ⟨r0, r1, f0, f1⟩ := hb2.read
  have HO := Lib.hid ho
  have HX2 := Lib.hid (show Ext w w2 from Below.grown HX1.out hg (by omega) (by intro k hk; cases hk; omega))
  clear ho hg c0 c1
  go_wp2
  have HXE := Lib.hid (HX2.out.store2 (k := w.heap.size + 1) (by omega) (.slice (some ⟨w.heap.size + 1 + 1, 0, none⟩) b.length b.length) (.slice none 0 0))
  have HOE := Lib.hid (own_store2 HO.out (k := w.heap.size + 1) (by omega) (.slice (some ⟨w.heap.size + 1 + 1, 0, none⟩) b.length b.length) (.slice none 0 0))
  clear r0 r1 f0 f1
  obtain ⟨r0, r1, _, _⟩ := HB3.out.read
  refine bodyPost_ret (v := .agg #[.slice (some ⟨w.heap.size + 1 + 1, 0, none⟩) b.length b.length, .slice none 0 0]) (by simp [results, Try.results25, go_sem, r0, r1]) rfl ?_
  refine ⟨_, rfl, ⟨_, _, _, _, by rw [writeL_length]; rfl, by rw [writeL_length]; exact own_sl1 HOE.out, Sl.nil _⟩, HXE.out⟩
end Go.Proofs.Ytpcimjccngidgaa
namespace Go.Proofs.Ytpcimjccngidgaa
set_option maxRecDepth 20000
open Go.RowKit

/-- A block of bytes 0. -/
def zb : ByteArray := ByteArray.mk (List.replicate 40 (0 : UInt8)).toArray
/-- P2.1: new blocks. -/
def newB (n : Int) : List ByteArray := if 1 ≤ n ∧ n ≤ 4000 then List.replicate n.toNat zb else []
def newE (n : Int) : Int := if 1 ≤ n ∧ n ≤ 4000 then 0 else 1
theorem make_none (w : World) : (Instr.makeSlice 23 (.int .i64 40) (.int .i64 40)).run Try.prog w = .ok (.slice (some ⟨w.heap.size, 0, none⟩) 40 40) (w.alloc (.cells (Array.replicate 40 (.int .u8 0)) 5)) := by kernel_rfl
theorem conv_none (w : World) (g : Nat) (hc : ∀ j, j < 40 → w.cell? ⟨g, j, none⟩ = some (.int .u8 0)) : (convert 23 9 (.slice (some ⟨g, 0, none⟩) 40 40)).run Try.prog w = .ok (.string zb) w := by
  have h := run_convert_bytes_back (P := Try.prog) w 23 9 5 ⟨g, 0, none⟩ 40 (List.replicate 40 (0 : UInt8)) Try.underlying23 Try.underlying5 Try.underlying9 (fun j hj => by
    have hj' : j < 40 := by simpa using hj
    have e : (⟨g, 0, none⟩ : Addr).add j = ⟨g, j, none⟩ := by unfold Addr.add; split <;> simp_all
    rw [e, hc j hj']
    simp only [List.getElem_replicate]
    rfl)
  rw [List.length_replicate] at h
  exact h
theorem zeros_at (w : World) (j : Nat) (hj : j < 40) : (w.alloc (.cells (Array.replicate 40 (.int .u8 0)) 5)).cell? ⟨w.heap.size, j, none⟩ = some (.int .u8 0) := by
  have := heap_alloc_new w (.cells (Array.replicate 40 (.int .u8 0)) 5)
  unfold World.cell?; rw [this]; simp [hj]
theorem svs_snoc (k : Nat) : (List.replicate k zb).map sv ++ [Value.string zb] = (List.replicate (k + 1) zb).map sv := by
  rw [List.replicate_succ']; simp [sv]

set_option maxHeartbeats 4000000 in
set_option maxRecDepth 20000 in
theorem newR_any (n : Int) (w : World) :
    Calls Try.prog 15 #[.int .i64 n] w fun e w' => ∃ v, e = .returned (.tuple #[v, .int .i64 (newE n)]) ∧ IsDisk w' v (newB n) [] ∧ Ext w w' := by
  have hb0 := Box2.new w (.slice none 0 0) (.slice none 0 0) 33
  have hmk := make_none
  by_cases h1 : 1 ≤ n
  · by_cases h2 : n ≤ 4000
    · have HNB := Lib.hid (show newB n = List.replicate n.toNat zb by unfold newB; rw [if_pos ⟨h1, h2⟩])
      have HNE := Lib.hid (show newE n = 0 by unfold newE; rw [if_pos ⟨h1, h2⟩])
      obtain ⟨n, rfl⟩ := Int.eq_ofNat_of_zero_le (show 0 ≤ n by omega)
      rw [Int.toNat_natCast] at HNB
      have HX := Lib.hid ((((Ext.refl w).alloc (.cells #[.slice none 0 0, .slice none 0 0] 33)).alloc (.cells #[.slice none 0 0, .slice none 0 0] 33)).alloc (.cells (Array.replicate 40 (.int .u8 0)) 5))
      have b1 := Box2.new (w.alloc (.cells #[.slice none 0 0, .slice none 0 0] 33)) (.slice none 0 0) (.slice none 0 0) 33
      rw [World.size_alloc] at b1
      have x1 := (Ext.refl (w.alloc (.cells #[.slice none 0 0, .slice none 0 0] 33))).alloc (.cells #[.slice none 0 0, .slice none 0 0] 33)
      have x2 := (Ext.refl ((w.alloc (.cells #[.slice none 0 0, .slice none 0 0] 33)).alloc (.cells #[.slice none 0 0, .slice none 0 0] 33))).alloc (.cells (Array.replicate 40 (.int .u8 0)) 5)
      have HB0 := Lib.hid ((hb0.ext (by simp) x1).ext (by simp; omega) x2)
      have HB1 := Lib.hid (b1.ext (by simp) x2)
      have hcv := conv_none _ _ (zeros_at ((w.alloc (.cells #[.slice none 0 0, .slice none 0 0] 33)).alloc (.cells #[.slice none 0 0, .slice none 0 0] 33)))
      simp only [World.size_alloc] at hcv
      clear hb0 b1 x1 x2
      go_enter Try.func15, Try.ntmps15
      go_wp2
      clear hcv hmk
      generalize hw1 : ((w.alloc (.cells #[.slice none 0 0, .slice none 0 0] 33)).alloc (.cells #[.slice none 0 0, .slice none 0 0] 33)).alloc (.cells (Array.replicate 40 (.int .u8 0)) 5) = w1 at *
      have hs1 : w1.heap.size = w.heap.size + 1 + 1 + 1 := by rw [← hw1]; simp
      clear hw1
      go_loopw [6] (fun i wr => ∃ (k cap : Nat) (A : Option Addr), k ≤ n ∧ i = .int .i64 k ∧ wr.ownsRow (w.heap.size + 1 + 1 + 1) 9 1 (.slice A k cap) k ((List.replicate k zb).map sv) ∧ Box2 wr w.heap.size (.slice none 0 0) (.slice none 0 0) ∧ Box2 wr (w.heap.size + 1) (.slice A k cap) (.slice none 0 0) ∧ Ext w wr ∧ w.heap.size + 1 + 1 + 1 ≤ wr.heap.size) (fun i _ => n - (intOf i).toNat)
      case atStart => exact ⟨0, 0, none, Nat.zero_le _, rfl, World.ownsRow_nil _ _ _ _, HB0.out, HB1.out, HX.out, by omega⟩
      case round =>
        obtain ⟨k, cap, A, hk, rfl, ho, hb0, hb1, hx, hsz⟩ := hrel
        obtain ⟨c0, c1, f0, f1⟩ := hb1.read
        by_cases hlt : k < n
        · have HO := Lib.hid ho
          have HXr := Lib.hid hx
          have HB0 := Lib.hid hb0
          have HB1 := Lib.hid hb1
          clear ho hx hb0 hb1
          go_wp2_with (at_builtin; refine stop_here ?_)
          refine stop_on ?_
          refine wpList_app_sl _ rfl _ _ 25 rfl (w.heap.size + 1 + 1 + 1) 9 _ 1 16 Try.underlying25 infoS rfl (by omega) _ k _ rfl (HO.out.alloc _) (some ⟨wr.heap.size, 0, none⟩) 1 1 [.string zb] rfl rfl (sl_lit wr _ 1 [.string zb] (by unfold maxLen; omega)) (by intro u hu; simp at hu; subst hu; rfl) (by unfold maxLen; omega) (by omega) (by simp; omega) ?_
          intro A2 c2 w2 hown hg
          rw [svs_snoc] at hown
          obtain ⟨g, rfl, hgB⟩ := own_some hown (by omega)
          have hbl : ∀ q, (Value.slice A k cap).ownBlock = some q → w.heap.size + 1 + 1 + 1 ≤ q := fun q hq => (HO.out.lt q hq).1
          have keep : ∀ kk, kk < w.heap.size + 1 + 1 + 1 → w2.heap[kk]? = wr.heap[kk]? := fun kk hkk => by
            rw [hg.block kk (by simp; omega) (fun e => by have := hbl kk e.symm; omega)]
            exact Below.heap_alloc _ _ _ (by omega)
          have hb0' : Box2 w2 w.heap.size (.slice none 0 0) (.slice none 0 0) := by
            obtain ⟨t, h⟩ := HB0.out
            exact ⟨t, (keep _ (by omega)).trans h⟩
          have hb1' : Box2 w2 (w.heap.size + 1) (.slice A k cap) (.slice none 0 0) := by
            obtain ⟨t, h⟩ := HB1.out
            exact ⟨t, (keep _ (by omega)).trans h⟩
          have hx2 : Ext w w2 := Below.grown (HXr.out.alloc _) hg (by simp; omega) (fun q hq => by have := hbl q hq; omega)
          have hsz2 := hx2.size
          have hsz3 := hg.size
          simp only [World.size_alloc] at hsz3
          have HOS := Lib.hid (ownsRow_setCell_other hown (a := ⟨w.heap.size + 1, 0, none⟩) (by simp [Value.ownBlock]; omega) (.slice (some ⟨g, 0, none⟩) (k + 1) c2))
          have HXS := Lib.hid (hx2.set (p := ⟨w.heap.size + 1, 0, none⟩) (by simp) (.slice (some ⟨g, 0, none⟩) (k + 1) c2))
          have HB0S := Lib.hid (show Box2 (w2.setCell ⟨w.heap.size + 1, 0, none⟩ (.slice (some ⟨g, 0, none⟩) (k + 1) c2)) w.heap.size (.slice none 0 0) (.slice none 0 0) from by
            obtain ⟨t, h⟩ := hb0'
            exact ⟨t, by rw [Below.heap_setCell _ _ _ _ (by simp)]; exact h⟩)
          have HB1S := Lib.hid (show Box2 (w2.setCell ⟨w.heap.size + 1, 0, none⟩ (.slice (some ⟨g, 0, none⟩) (k + 1) c2)) (w.heap.size + 1) (.slice (some ⟨g, 0, none⟩) (k + 1) c2) (.slice none 0 0) from by
            obtain ⟨t, h⟩ := hb1'
            exact ⟨t, heap_setCell_same _ _ 0 _ t _ h⟩)
          clear c0 c1 f0 f1
          obtain ⟨c0, c1, f0, f1⟩ := hb1'.read
          clear hown hg hbl keep hb0' hb1' hx2
          go_wp2
          go_roundw
          case rel => exact ⟨k + 1, c2, some ⟨g, 0, none⟩, by omega, by go_num, HOS.out, HB0S.out, HB1S.out, HXS.out, by simp [World.setCell]; omega⟩
          case measure => simp [intOf]; omega
        · obtain rfl : k = n := by omega
          have h3 := (own_sl ho).store2 (flat_svs _) hb0 (.slice A k cap) (.slice none 0 0)
          have H3 := Lib.hid h3
          have HBS := Lib.hid (hb0.store (.slice A k cap) (.slice none 0 0))
          have HXE := Lib.hid (hx.store2 (k := w.heap.size) (Nat.le_refl _) (.slice A k cap) (.slice none 0 0))
          obtain ⟨r0, r1, g0, g1⟩ := hb0.read
          clear ho hx hb0 hb1 h3
          go_wp2
          clear r0 r1 g0 g1 c0 c1 f0 f1
          obtain ⟨r0, r1, _, _⟩ := HBS.out.read
          refine bodyPost_ret (v := .tuple #[.agg #[.slice A k cap, .slice none 0 0], .int .i64 0]) (by simp [results, Try.results15, go_sem, r0, r1]) rfl ?_
          rw [HNB.out, HNE.out]
          exact ⟨_, rfl, ⟨_, _, _, _, by rw [List.length_replicate]; rfl, by rw [List.length_replicate]; exact H3.out, Sl.nil _⟩, HXE.out⟩
    · have HNB := Lib.hid (show newB n = [] by unfold newB; rw [if_neg (by omega)])
      have HNE := Lib.hid (show newE n = 1 by unfold newE; rw [if_neg (by omega)])
      have HB0 := Lib.hid hb0
      have HX := Lib.hid ((Ext.refl w).alloc (.cells #[.slice none 0 0, .slice none 0 0] 33))
      clear hb0 hmk
      go_enter Try.func15, Try.ntmps15
      go_wp2
      obtain ⟨r0, r1, _, _⟩ := HB0.out.read
      refine bodyPost_ret (v := .tuple #[.agg #[.slice none 0 0, .slice none 0 0], .int .i64 1]) (by simp [results, Try.results15, go_sem, r0, r1]) rfl ?_
      rw [HNB.out, HNE.out]
      exact ⟨_, rfl, ⟨_, _, _, _, rfl, Sl.nil _, Sl.nil _⟩, HX.out⟩
  · have HNB := Lib.hid (show newB n = [] by unfold newB; rw [if_neg (by omega)])
    have HNE := Lib.hid (show newE n = 1 by unfold newE; rw [if_neg (by omega)])
    have HB0 := Lib.hid hb0
    have HX := Lib.hid ((Ext.refl w).alloc (.cells #[.slice none 0 0, .slice none 0 0] 33))
    clear hb0 hmk
    go_enter Try.func15, Try.ntmps15
    go_wp2
    obtain ⟨r0, r1, _, _⟩ := HB0.out.read
    refine bodyPost_ret (v := .tuple #[.agg #[.slice none 0 0, .slice none 0 0], .int .i64 1]) (by simp [results, Try.results15, go_sem, r0, r1]) rfl ?_
    rw [HNB.out, HNE.out]
    exact ⟨_, rfl, ⟨_, _, _, _, rfl, Sl.nil _, Sl.nil _⟩, HX.out⟩
end Go.Proofs.Ytpcimjccngidgaa
