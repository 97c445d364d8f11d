/- The walks of both New. -/
import Derived.Test.YtikdicnpmobidaaDiskW8
import Derived.Test.YtikdicnpmobidaaDiskP3
import Derived.Test.YtikdicnpmobidaaRepeat
namespace Go.Proofs.Ytikdicnpmobidaa
open Go.RowKit

/-- A block of bytes 0. -/
def zb : ByteArray := ByteArray.mk (List.replicate 40 (0 : UInt8)).toArray
theorem rep_any (w : World) : Calls Try.prog 28 #[.string (ByteArray.mk #[0]), .int .i64 40] w fun e w' => e = .returned (.string zb) ∧ Ext w w' := by
  have h := Try.strings_Repeat (ByteArray.mk #[0]) 40 w (by omega) (by decide)
  refine h.mono ?_
  rintro e w' ⟨rfl, hx⟩
  exact ⟨rfl, hx⟩

/-- P2.1: new blocks. -/
def newB (n : Int) : List ByteArray := if 1 ≤ n ∧ n ≤ 4000 then List.replicate n.toNat zb else []
def newE (n : Int) : Int := if 1 ≤ n ∧ n ≤ 4000 then 0 else 1
def newCells (n k : Nat) : List Value := (List.replicate k zb).map sv ++ List.replicate (n - k) (.string (ByteArray.mk #[]))
theorem newCells_set (n k : Nat) (h : k < n) : (newCells n k).set k (sv zb) = newCells n (k + 1) := by
  unfold newCells
  rw [List.set_append_right _ _ (by simp)]
  simp only [List.length_map, List.length_replicate, Nat.sub_self]
  rw [show n - k = (n - (k + 1)) + 1 by omega, List.replicate_succ, List.set_cons_zero, List.replicate_succ']
  simp

set_option maxHeartbeats 2000000 in
set_option maxRecDepth 20000 in
theorem newD_any (n : Int) (w : World) :
    Calls Try.prog 11 #[.int .i64 n] w fun e w' => ∃ v, e = .returned (.tuple #[v, .int .i64 (newE n)]) ∧ IsDisk w' v (newB n) [] ∧ Ext w w' := by
  have hb0 := Box2.new w (.slice none 0 0) (.slice none 0 0) 25
  have HB0 := Lib.hid hb0
  have HX := Lib.hid ((Ext.refl w).alloc (.cells #[.slice none 0 0, .slice none 0 0] 25))
  obtain ⟨w1, hw1⟩ : ∃ w1, w1 = w.alloc (.cells #[.slice none 0 0, .slice none 0 0] 25) := ⟨_, rfl⟩
  have hs1 : w1.heap.size = w.heap.size + 1 := by rw [hw1]; simp
  rw [← hw1] at HB0 HX
  by_cases h1 : 1 ≤ n
  · by_cases h2 : n ≤ 4000
    · have HNB := Lib.hid (show newB n = List.replicate n.toNat zb by unfold newB; rw [if_pos ⟨h1, h2⟩])
      have HNE := Lib.hid (show newE n = 0 by unfold newE; rw [if_pos ⟨h1, h2⟩])
      obtain ⟨n, rfl⟩ := Int.eq_ofNat_of_zero_le (show 0 ≤ n by omega)
      rw [Int.toNat_natCast] at HNB
      obtain ⟨i0, hi, hz0, hz1, hz2⟩ := info_parts infoS
      have HI := Lib.hid hi
      have HZ0 := Lib.hid hz0
      have HZ1 := Lib.hid hz1
      have HZ2 := Lib.hid hz2
      clear hi hz0 hz1 hz2 hb0
      have HW1 := Lib.hid hw1
      clear hw1
      go_enter Try.func11, Try.ntmps11
      go_wp2_with (at_make; refine stop_here ?_)
      refine stop_on ?_
      rw [← HW1.out]
      refine wpList_make_full _ rfl _ _ 22 rfl w1.heap.size 9 i0 (.string (ByteArray.mk #[])) 1 Try.underlying22 HI.out HZ0.out HZ1.out _ _ _ _ n rfl rfl rfl rfl (by rw [HZ2.out]; omega) (by unfold maxLen; omega) (Nat.le_refl _) ?_
      intro w2 hown hgrow
      have ec : (madeCells (Value.string (ByteArray.mk #[])).cells (n * 1)).toList = newCells n 0 := by
        rw [Nat.mul_one]; exact toList_madeCells_one _ _
      rw [ec] at hown
      have HX12 := Lib.hid (show Ext w1 w2 from Below.grown (Ext.refl _) hgrow (Nat.le_refl _) (by intro k h; cases h))
      rw [hs1] at hown ⊢
      have HO := Lib.hid hown
      clear hown hgrow ec
      go_wp2
      go_loopw [17] (fun i wr => ∃ k : Nat, k ≤ n ∧ i = .int .i64 k ∧ wr.ownsRow (w.heap.size + 1) 9 1 (.slice (some ⟨w.heap.size + 1, 0, none⟩) n n) n (newCells n k) ∧ Ext w1 wr) (fun i _ => n - (intOf i).toNat)
      case atStart => exact ⟨0, Nat.zero_le _, rfl, HO.out, HX12.out⟩
      case round =>
        obtain ⟨k, hk, rfl, ho, hx⟩ := hrel
        have hsz := hx.size
        by_cases hlt : k < n
        · have HO := Lib.hid ho
          have HXr := Lib.hid hx
          have hki : (k : Int) < (n : Int) := by omega
          clear ho hx
          go_wp2_with (go_at_call 28; refine stop_here ?_)
          refine stop_on ?_
          refine (rep_any _).mono ?_
          rintro e w3 ⟨rfl, hx3⟩
          have ho3 := own_ext HO.out hx3
          have hf := ho3.frozenAt k
          obtain ⟨u, hu⟩ : ∃ u, w3.cell? ⟨w.heap.size + 1, k, none⟩ = some u := by
            rw [ho3.cellAt k (by omega)]
            have hl := ho3.1
            exact ⟨_, List.getElem?_eq_getElem (by omega)⟩
          have hst := ho3.stored k (sv zb)
          rw [newCells_set n k hlt] at hst
          have HST := Lib.hid hst
          have HX3 := Lib.hid ((HXr.out.trans hx3).row' hst.2 (by omega))
          clear ho3 hst hx3
          go_wp2
          go_roundw
          case rel => exact ⟨k + 1, by omega, by go_num, HST.out.1, HX3.out⟩
          case measure => simp [intOf]; omega
        · obtain rfl : k = n := by omega
          have hb2 := HB0.out.ext (by omega) hx
          have hown : wr.ownsRow (w.heap.size + 1) 9 1 (.slice (some ⟨w.heap.size + 1, 0, none⟩) k k) k ((List.replicate k zb).map sv) := by
            unfold newCells at ho
            rw [Nat.sub_self, List.replicate_zero, List.append_nil] at ho
            exact ho
          have HBS := Lib.hid (hb2.store (.slice (some ⟨w.heap.size + 1, 0, none⟩) k k) (.slice none 0 0))
          have HOE := Lib.hid (own_store2 hown (k := w.heap.size) (by omega) (.slice (some ⟨w.heap.size + 1, 0, none⟩) k k) (.slice none 0 0))
          have HXE := Lib.hid ((HX.out.trans hx).store2 (k := w.heap.size) (Nat.le_refl _) (.slice (some ⟨w.heap.size + 1, 0, none⟩) k k) (.slice none 0 0))
          obtain ⟨r0, r1, f0, f1⟩ := hb2.read
          clear hb2 ho hx hown
          go_wp2
          clear r0 r1 f0 f1
          obtain ⟨r0, r1, _, _⟩ := HBS.out.read
          refine bodyPost_ret (v := .tuple #[.agg #[.slice (some ⟨w.heap.size + 1, 0, none⟩) k k, .slice none 0 0], .int .i64 0]) (by simp [results, Try.results11, go_sem, r0, r1]) rfl ?_
          rw [HNB.out, HNE.out]
          exact ⟨_, rfl, ⟨_, _, _, _, by rw [List.length_replicate]; rfl, by rw [List.length_replicate]; exact own_sl1 HOE.out, Sl.nil _⟩, HXE.out⟩
    · have HNB := Lib.hid (show newB n = [] by unfold newB; rw [if_neg (by omega)])
      have HNE := Lib.hid (show newE n = 1 by unfold newE; rw [if_neg (by omega)])
      have HW1 := Lib.hid hw1
      clear hw1 hb0
      have HBS := Lib.hid (HB0.out.store (.slice none 0 0) (.slice none 0 0))
      have HXE := Lib.hid (HX.out.store2 (k := w.heap.size) (Nat.le_refl _) (.slice none 0 0) (.slice none 0 0))
      go_enter Try.func11, Try.ntmps11
      go_wp2
      rw [← HW1.out]
      obtain ⟨r0, r1, _, _⟩ := HB0.out.read
      refine bodyPost_ret (v := .tuple #[.agg #[.slice none 0 0, .slice none 0 0], .int .i64 1]) (by simp [results, Try.results11, go_sem, r0, r1]) rfl ?_
      rw [HNB.out, HNE.out]
      exact ⟨_, rfl, ⟨_, _, _, _, rfl, Sl.nil _, Sl.nil _⟩, HX.out⟩
  · have HNB := Lib.hid (show newB n = [] by unfold newB; rw [if_neg (by omega)])
    have HNE := Lib.hid (show newE n = 1 by unfold newE; rw [if_neg (by omega)])
    have HW1 := Lib.hid hw1
    clear hw1 hb0
    go_enter Try.func11, Try.ntmps11
    go_wp2
    rw [← HW1.out]
    obtain ⟨r0, r1, _, _⟩ := HB0.out.read
    refine bodyPost_ret (v := .tuple #[.agg #[.slice none 0 0, .slice none 0 0], .int .i64 1]) (by simp [results, Try.results11, go_sem, r0, r1]) rfl ?_
    rw [HNB.out, HNE.out]
    exact ⟨_, rfl, ⟨_, _, _, _, rfl, Sl.nil _, Sl.nil _⟩, HX.out⟩

theorem make_none (w : World) : (Instr.makeSlice 61 (.int .i64 40) (.int .i64 40)).run Try.prog w = .ok (.slice (some ⟨w.heap.size, 0, none⟩) 40 40) (w.alloc (.cells (Array.replicate 40 (.int .u8 0)) 5)) := by kernel_rfl
theorem conv_none (w : World) (g : Nat) (hc : ∀ j, j < 40 → w.cell? ⟨g, j, none⟩ = some (.int .u8 0)) : (convert 61 9 (.slice (some ⟨g, 0, none⟩) 40 40)).run Try.prog w = .ok (.string zb) w := by
  have h := run_convert_bytes_back (P := Try.prog) w 61 9 5 ⟨g, 0, none⟩ 40 (List.replicate 40 (0 : UInt8)) Try.underlying61 Try.underlying5 Try.underlying9 (fun j hj => by
    have hj' : j < 40 := by simpa using hj
    have e : (⟨g, 0, none⟩ : Addr).add j = ⟨g, j, none⟩ := by unfold Addr.add; split <;> simp_all
    rw [e, hc j hj']
    simp only [List.getElem_replicate]
    rfl)
  rw [List.length_replicate] at h
  exact h
theorem zeros_at (w : World) (j : Nat) (hj : j < 40) : (w.alloc (.cells (Array.replicate 40 (.int .u8 0)) 5)).cell? ⟨w.heap.size, j, none⟩ = some (.int .u8 0) := by
  have := heap_alloc_new w (.cells (Array.replicate 40 (.int .u8 0)) 5)
  unfold World.cell?; rw [this]; simp [hj]
theorem svs_snoc (k : Nat) : (List.replicate k zb).map sv ++ [Value.string zb] = (List.replicate (k + 1) zb).map sv := by
  rw [List.replicate_succ']; simp [sv]

set_option maxHeartbeats 4000000 in
set_option maxRecDepth 20000 in
theorem newR_any (n : Int) (w : World) :
    Calls Try.prog 12 #[.int .i64 n] w fun e w' => ∃ v, e = .returned (.tuple #[v, .int .i64 (newE n)]) ∧ IsDisk w' v (newB n) [] ∧ Ext w w' := by
  have hb0 := Box2.new w (.slice none 0 0) (.slice none 0 0) 25
  have hmk := make_none
  by_cases h1 : 1 ≤ n
  · by_cases h2 : n ≤ 4000
    · have HNB := Lib.hid (show newB n = List.replicate n.toNat zb by unfold newB; rw [if_pos ⟨h1, h2⟩])
      have HNE := Lib.hid (show newE n = 0 by unfold newE; rw [if_pos ⟨h1, h2⟩])
      obtain ⟨n, rfl⟩ := Int.eq_ofNat_of_zero_le (show 0 ≤ n by omega)
      rw [Int.toNat_natCast] at HNB
      have HX := Lib.hid ((((Ext.refl w).alloc (.cells #[.slice none 0 0, .slice none 0 0] 25)).alloc (.cells #[.slice none 0 0, .slice none 0 0] 25)).alloc (.cells (Array.replicate 40 (.int .u8 0)) 5))
      have b1 := Box2.new (w.alloc (.cells #[.slice none 0 0, .slice none 0 0] 25)) (.slice none 0 0) (.slice none 0 0) 25
      rw [World.size_alloc] at b1
      have x1 := (Ext.refl (w.alloc (.cells #[.slice none 0 0, .slice none 0 0] 25))).alloc (.cells #[.slice none 0 0, .slice none 0 0] 25)
      have x2 := (Ext.refl ((w.alloc (.cells #[.slice none 0 0, .slice none 0 0] 25)).alloc (.cells #[.slice none 0 0, .slice none 0 0] 25))).alloc (.cells (Array.replicate 40 (.int .u8 0)) 5)
      have HB0 := Lib.hid ((hb0.ext (by simp) x1).ext (by simp; omega) x2)
      have HB1 := Lib.hid (b1.ext (by simp) x2)
      have hcv := conv_none _ _ (zeros_at ((w.alloc (.cells #[.slice none 0 0, .slice none 0 0] 25)).alloc (.cells #[.slice none 0 0, .slice none 0 0] 25)))
      simp only [World.size_alloc] at hcv
      clear hb0 b1 x1 x2
      go_enter Try.func12, Try.ntmps12
      go_wp2
      clear hcv hmk
      generalize hw1 : ((w.alloc (.cells #[.slice none 0 0, .slice none 0 0] 25)).alloc (.cells #[.slice none 0 0, .slice none 0 0] 25)).alloc (.cells (Array.replicate 40 (.int .u8 0)) 5) = w1 at *
      have hs1 : w1.heap.size = w.heap.size + 1 + 1 + 1 := by rw [← hw1]; simp
      clear hw1
      go_loopw [6] (fun i wr => ∃ (k cap : Nat) (A : Option Addr), k ≤ n ∧ i = .int .i64 k ∧ wr.ownsRow (w.heap.size + 1 + 1 + 1) 9 1 (.slice A k cap) k ((List.replicate k zb).map sv) ∧ Box2 wr w.heap.size (.slice none 0 0) (.slice none 0 0) ∧ Box2 wr (w.heap.size + 1) (.slice A k cap) (.slice none 0 0) ∧ Ext w wr ∧ w.heap.size + 1 + 1 + 1 ≤ wr.heap.size) (fun i _ => n - (intOf i).toNat)
      case atStart => exact ⟨0, 0, none, Nat.zero_le _, rfl, World.ownsRow_nil _ _ _ _, HB0.out, HB1.out, HX.out, by omega⟩
      case round =>
        obtain ⟨k, cap, A, hk, rfl, ho, hb0, hb1, hx, hsz⟩ := hrel
        obtain ⟨c0, c1, f0, f1⟩ := hb1.read
        by_cases hlt : k < n
        · have HO := Lib.hid ho
          have HXr := Lib.hid hx
          have HB0 := Lib.hid hb0
          have HB1 := Lib.hid hb1
          clear ho hx hb0 hb1
          go_wp2_with (at_builtin; refine stop_here ?_)
          refine stop_on ?_
          refine wpList_app_sl _ rfl _ _ 22 rfl (w.heap.size + 1 + 1 + 1) 9 _ 1 16 Try.underlying22 infoS rfl (by omega) _ k _ rfl (HO.out.alloc _) (some ⟨wr.heap.size, 0, none⟩) 1 1 [.string zb] rfl rfl (sl_lit wr _ 1 [.string zb] (by unfold maxLen; omega)) (by intro u hu; simp at hu; subst hu; rfl) (by unfold maxLen; omega) (by omega) (by simp; omega) ?_
          intro A2 c2 w2 hown hg
          rw [svs_snoc] at hown
          obtain ⟨g, rfl, hgB⟩ := own_some hown (by omega)
          have hbl : ∀ q, (Value.slice A k cap).ownBlock = some q → w.heap.size + 1 + 1 + 1 ≤ q := fun q hq => (HO.out.lt q hq).1
          have keep : ∀ kk, kk < w.heap.size + 1 + 1 + 1 → w2.heap[kk]? = wr.heap[kk]? := fun kk hkk => by
            rw [hg.block kk (by simp; omega) (fun e => by have := hbl kk e.symm; omega)]
            exact Below.heap_alloc _ _ _ (by omega)
          have hb0' : Box2 w2 w.heap.size (.slice none 0 0) (.slice none 0 0) := by
            obtain ⟨t, h⟩ := HB0.out
            exact ⟨t, (keep _ (by omega)).trans h⟩
          have hb1' : Box2 w2 (w.heap.size + 1) (.slice A k cap) (.slice none 0 0) := by
            obtain ⟨t, h⟩ := HB1.out
            exact ⟨t, (keep _ (by omega)).trans h⟩
          have hx2 : Ext w w2 := Below.grown (HXr.out.alloc _) hg (by simp; omega) (fun q hq => by have := hbl q hq; omega)
          have hsz2 := hx2.size
          have hsz3 := hg.size
          simp only [World.size_alloc] at hsz3
          have HOS := Lib.hid (ownsRow_setCell_other hown (a := ⟨w.heap.size + 1, 0, none⟩) (by simp [Value.ownBlock]; omega) (.slice (some ⟨g, 0, none⟩) (k + 1) c2))
          have HXS := Lib.hid (hx2.set (p := ⟨w.heap.size + 1, 0, none⟩) (by simp) (.slice (some ⟨g, 0, none⟩) (k + 1) c2))
          have HB0S := Lib.hid (show Box2 (w2.setCell ⟨w.heap.size + 1, 0, none⟩ (.slice (some ⟨g, 0, none⟩) (k + 1) c2)) w.heap.size (.slice none 0 0) (.slice none 0 0) from by
            obtain ⟨t, h⟩ := hb0'
            exact ⟨t, by rw [Below.heap_setCell _ _ _ _ (by simp)]; exact h⟩)
          have HB1S := Lib.hid (show Box2 (w2.setCell ⟨w.heap.size + 1, 0, none⟩ (.slice (some ⟨g, 0, none⟩) (k + 1) c2)) (w.heap.size + 1) (.slice (some ⟨g, 0, none⟩) (k + 1) c2) (.slice none 0 0) from by
            obtain ⟨t, h⟩ := hb1'
            exact ⟨t, heap_setCell_same _ _ 0 _ t _ h⟩)
          clear c0 c1 f0 f1
          obtain ⟨c0, c1, f0, f1⟩ := hb1'.read
          clear hown hg hbl keep hb0' hb1' hx2
          go_wp2
          go_roundw
          case rel => exact ⟨k + 1, c2, some ⟨g, 0, none⟩, by omega, by go_num, HOS.out, HB0S.out, HB1S.out, HXS.out, by simp [World.setCell]; omega⟩
          case measure => simp [intOf]; omega
        · obtain rfl : k = n := by omega
          have h3 := (own_sl ho).store2 (flat_svs _) hb0 (.slice A k cap) (.slice none 0 0)
          have H3 := Lib.hid h3
          have HBS := Lib.hid (hb0.store (.slice A k cap) (.slice none 0 0))
          have HXE := Lib.hid (hx.store2 (k := w.heap.size) (Nat.le_refl _) (.slice A k cap) (.slice none 0 0))
          obtain ⟨r0, r1, g0, g1⟩ := hb0.read
          clear ho hx hb0 hb1 h3
          go_wp2
          clear r0 r1 g0 g1 c0 c1 f0 f1
          obtain ⟨r0, r1, _, _⟩ := HBS.out.read
          refine bodyPost_ret (v := .tuple #[.agg #[.slice A k cap, .slice none 0 0], .int .i64 0]) (by simp [results, Try.results12, go_sem, r0, r1]) rfl ?_
          rw [HNB.out, HNE.out]
          exact ⟨_, rfl, ⟨_, _, _, _, by rw [List.length_replicate]; rfl, by rw [List.length_replicate]; exact H3.out, Sl.nil _⟩, HXE.out⟩
    · have HNB := Lib.hid (show newB n = [] by unfold newB; rw [if_neg (by omega)])
      have HNE := Lib.hid (show newE n = 1 by unfold newE; rw [if_neg (by omega)])
      have HB0 := Lib.hid hb0
      have HX := Lib.hid ((Ext.refl w).alloc (.cells #[.slice none 0 0, .slice none 0 0] 25))
      clear hb0 hmk
      go_enter Try.func12, Try.ntmps12
      go_wp2
      obtain ⟨r0, r1, _, _⟩ := HB0.out.read
      refine bodyPost_ret (v := .tuple #[.agg #[.slice none 0 0, .slice none 0 0], .int .i64 1]) (by simp [results, Try.results12, go_sem, r0, r1]) rfl ?_
      rw [HNB.out, HNE.out]
      exact ⟨_, rfl, ⟨_, _, _, _, rfl, Sl.nil _, Sl.nil _⟩, HX.out⟩
  · have HNB := Lib.hid (show newB n = [] by unfold newB; rw [if_neg (by omega)])
    have HNE := Lib.hid (show newE n = 1 by unfold newE; rw [if_neg (by omega)])
    have HB0 := Lib.hid hb0
    have HX := Lib.hid ((Ext.refl w).alloc (.cells #[.slice none 0 0, .slice none 0 0] 25))
    clear hb0 hmk
    go_enter Try.func12, Try.ntmps12
    go_wp2
    obtain ⟨r0, r1, _, _⟩ := HB0.out.read
    refine bodyPost_ret (v := .tuple #[.agg #[.slice none 0 0, .slice none 0 0], .int .i64 1]) (by simp [results, Try.results12, go_sem, r0, r1]) rfl ?_
    rw [HNB.out, HNE.out]
    exact ⟨_, rfl, ⟨_, _, _, _, rfl, Sl.nil _, Sl.nil _⟩, HX.out⟩
end Go.Proofs.Ytikdicnpmobidaa
