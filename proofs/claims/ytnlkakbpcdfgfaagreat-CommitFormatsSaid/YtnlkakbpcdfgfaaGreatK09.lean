/- The walks of Flush and Crash. The walk of Crash. The walks of the reference's Crash and Flush. The walk of the reference's Do. -/
import Derived.Test.YtnlkakbpcdfgfaaGreatK05
import Derived.Test.YtnlkakbpcdfgfaaGreatK02
import Derived.Test.YtnlkakbpcdfgfaaGreatK06
import Derived.Test.YtnlkakbpcdfgfaaGreatK08
namespace Go.Proofs.YtnlkakbpcdfgfaaGreat
set_option maxRecDepth 20000
open Go.RowKit

set_option maxHeartbeats 2000000 in
theorem flushD_any (A A' : Option Addr) (b : List ByteArray) (l : List Wr) (c c' : Nat) (w : World) (hb : b.length ≤ 1000000) (hl : l.length ≤ 1000000) (hA0 : Sl w A b.length c (b.map sv)) (hA0' : Sl w A' l.length c' (wvs l)) :
    Calls Tryz.prog 64 #[.agg #[.slice A b.length c, .slice A' l.length c']] w fun e w' => ∃ v, e = .returned v ∧ IsDisk w' v (writeL b l) [] ∧ Ext w w' := by
  have HA := Lib.hid hA0.cells
  have HA' := Lib.hid hA0'.cells
  have HN := Lib.hid hA0.1
  clear hA0 hA0'
  have HX := Lib.hid (((Ext.refl w).alloc (.cells #[.slice A b.length c, .slice A' l.length c'] 26)).alloc (.cells #[.slice none 0 0, .slice none 0 0] 26))
  have hb1 := (Box2.new w (.slice A b.length c) (.slice A' l.length c') 26).ext (by simp) ((Ext.refl _).alloc (.cells #[.slice none 0 0, .slice none 0 0] 26))
  have hb2 := Box2.new (w.alloc (.cells #[.slice A b.length c, .slice A' l.length c'] 26)) (.slice none 0 0) (.slice none 0 0) 26
  have HC := Lib.hid (copiedB0 A b c _ hb HN.out (HA.out.ext HX.out))
  have HB1 := Lib.hid hb1
  have HB2 := Lib.hid hb2
  clear hb1 hb2
  go_enter Tryz.func64, Tryz.ntmps64
  go_wp2_with (go_at_call 69; refine stop_here ?_)
  refine stop_on ?_
  refine HC.out.mono ?_
  clear HC
  rintro e w1 ⟨rfl, ho, hx⟩
  have HX1 := Lib.hid (Ext.trans HX.out hx)
  have hs := hx.size
  simp only [World.size_alloc] at hs ho HB2 ⊢
  have HB1 := Lib.hid (HB1.out.ext (by simp; omega) hx)
  have HB2 := Lib.hid (HB2.out.ext (by simp) hx)
  obtain ⟨c0, c1, _, _⟩ := HB1.out.read
  have HW := Lib.hid (write_any _ _ _ _ b A' l c' w1 hb (by unfold maxLen; omega) ho (HA'.out.ext HX1.out) (HA'.out.apart (by omega)))
  clear hx ho
  go_wp2_with (go_at_call 97; refine stop_here ?_)
  refine stop_on ?_
  refine HW.out.mono ?_
  clear HW
  rintro e w2 ⟨rfl, ho, hg⟩
  have hb2 := HB2.out.grown (by omega) hg (by omega)
  have HB3 := Lib.hid (hb2.store (.slice (some ⟨w.heap.size + 1 + 1, 0, none⟩) b.length b.length) (.slice none 0 0))
  obtain ⟨r0, r1, f0, f1⟩ := hb2.read
  have HO := Lib.hid ho
  have HX2 := Lib.hid (show Ext w w2 from Below.grown HX1.out hg (by omega) (by intro k hk; cases hk; omega))
  clear ho hg c0 c1
  go_wp2
  have HXE := Lib.hid (HX2.out.store2 (k := w.heap.size + 1) (by omega) (.slice (some ⟨w.heap.size + 1 + 1, 0, none⟩) b.length b.length) (.slice none 0 0))
  have HOE := Lib.hid (own_store2 HO.out (k := w.heap.size + 1) (by omega) (.slice (some ⟨w.heap.size + 1 + 1, 0, none⟩) b.length b.length) (.slice none 0 0))
  clear r0 r1 f0 f1
  obtain ⟨r0, r1, _, _⟩ := HB3.out.read
  refine bodyPost_ret (v := .agg #[.slice (some ⟨w.heap.size + 1 + 1, 0, none⟩) b.length b.length, .slice none 0 0]) (by simp [results, Tryz.results64, go_sem, r0, r1]) rfl ?_
  refine ⟨_, rfl, ⟨_, _, _, _, by rw [writeL_length]; rfl, by rw [writeL_length]; exact own_sl1 HOE.out, Sl.nil _⟩, HXE.out⟩
end Go.Proofs.YtnlkakbpcdfgfaaGreat
namespace Go.Proofs.YtnlkakbpcdfgfaaGreat
set_option maxRecDepth 20000
open Go.RowKit

theorem writeL_append (b : List ByteArray) (l m : List Wr) : writeL b (l ++ m) = writeL (writeL b l) m := by
  unfold writeL; rw [List.foldl_append]

end Go.Proofs.YtnlkakbpcdfgfaaGreat
namespace Go.Proofs.YtnlkakbpcdfgfaaGreat
set_option maxRecDepth 20000
open Go.RowKit

set_option maxHeartbeats 4000000 in
set_option maxRecDepth 100000 in
theorem crashR_any (A A' K : Option Addr) (b : List ByteArray) (l : List Wr) (ks : List Bool) (c c' ck : Nat) (w : World) (hb : b.length ≤ 1000000) (hb0 : 1 ≤ b.length) (hl : l.length ≤ 1000000) (_hk0 : ks.length ≤ 1000000) (hin : l.all (takesS b.length) = true)
    (hA0 : Sl w A b.length c (b.map sv)) (hA0' : Sl w A' l.length c' (wvs l)) (hK0 : Sl w K ks.length ck (ks.map Value.bool)) :
    Calls Tryz.prog 90 #[.agg #[.slice A b.length c, .slice A' l.length c'], .slice K ks.length ck] w fun e w' => ∃ v, e = .returned v ∧ IsDisk w' v (writeL b (kept l ks)) [] ∧ Ext w w' := by
  have HA := Lib.hid hA0
  have HA' := Lib.hid hA0'
  have HK := Lib.hid hK0
  have HIN := Lib.hid hin
  clear hA0 hA0' hK0 hin
  have HX := Lib.hid (((Ext.refl w).alloc (.cells #[.slice A b.length c, .slice A' l.length c'] 26)).alloc (.cells #[.slice none 0 0, .slice none 0 0] 26))
  have hb1 := (Box2.new w (.slice A b.length c) (.slice A' l.length c') 26).ext (by simp) ((Ext.refl _).alloc (.cells #[.slice none 0 0, .slice none 0 0] 26))
  have hb2 := Box2.new (w.alloc (.cells #[.slice A b.length c, .slice A' l.length c'] 26)) (.slice none 0 0) (.slice none 0 0) 26
  have HB1 := Lib.hid hb1
  have HB2 := Lib.hid hb2
  clear hb1 hb2
  obtain ⟨w1, hw1⟩ : ∃ w1, w1 = ((w.alloc (.cells #[.slice A b.length c, .slice A' l.length c'] 26)).alloc (.cells #[.slice none 0 0, .slice none 0 0] 26)) := ⟨_, rfl⟩
  have hs1 : w1.heap.size = w.heap.size + 1 + 1 := by rw [hw1]; simp
  rw [← hw1] at HX HB1 HB2
  rw [World.size_alloc] at HB2
  have HW1 := Lib.hid hw1
  have hoe := own_empty w1 9 1
  rw [hs1] at hoe
  have HOE := Lib.hid hoe
  have HS1 := Lib.hid hs1
  clear hw1 hoe hs1
  go_enter Tryz.func90, Tryz.ntmps90
  go_wp2_with (at_builtin; refine stop_here ?_)
  refine stop_on ?_
  rw [← HW1.out]
  have hs1 := HS1.out
  refine wpList_app_sl _ rfl _ _ 23 rfl (w.heap.size + 1 + 1) 9 _ 1 16 Tryz.underlying23 infoS rfl (by omega) _ 0 [] rfl HOE.out A b.length c (b.map sv) rfl (by simp) ((HA.out.ext HX.out).ext ((Ext.refl _).alloc _)) (svs_oneCell b) (by unfold maxLen; omega) (by omega) (by simp; omega) ?_
  intro A2 c2 w2 hown hg
  rw [List.nil_append, Nat.zero_add] at hown
  rw [Nat.zero_add]
  obtain ⟨g, rfl, hgB⟩ := own_some hown hb0
  have hx12 : Ext w1 w2 := ((Ext.refl w1).alloc _).row hg (by omega)
  have HX2 := Lib.hid (HX.out.trans hx12)
  have hs2 := hx12.size
  have hgs := (hown.lt g rfl).2
  have HB1' := Lib.hid (HB1.out.ext (by omega) hx12)
  have HB2' := Lib.hid (HB2.out.ext (by omega) hx12)
  have HO := Lib.hid hown
  clear hown hg hx12 HB1 HB2 HOE HX
  obtain ⟨c0, c1, _, _⟩ := HB1'.out.read
  go_wp2_with fail
  go_loopw [6] (fun i wr => ∃ k : Nat, k ≤ l.length ∧ k ≤ ks.length ∧ i = .int .i64 k ∧
      wr.ownsRow (w.heap.size + 1 + 1) 9 1 (.slice (some ⟨g, 0, none⟩) b.length c2) b.length ((writeL b (kept (l.take k) (ks.take k))).map sv) ∧ w2.grownBy wr (some g)) (fun i _ => l.length - (intOf i).toNat)
  case atStart => exact ⟨0, Nat.zero_le _, Nat.zero_le _, rfl, by rw [List.take_zero, List.take_zero]; exact HO.out, World.grownBy.refl _ _⟩
  case round =>
    obtain ⟨k, hk, hkk, rfl, ho, hg⟩ := hrel
    have hgr := (ho.lt g rfl).2
    clear c0 c1
    have hq01 := HB1'.out.grown (by omega) hg (by omega)
    by_cases hll : k < l.length
    · by_cases hlk : k < ks.length
      · have hA1 := HA'.out.ext HX2.out
        have hK1 := HK.out.ext HX2.out
        obtain ⟨bk, offk, rfl, _, hcK⟩ := (hK1.cells.grown hg (HK.out.cells.apart (by omega))).flag hlk
        have hck0 := hcK k hlk
        obtain ⟨ba, off, rfl, hba, hcA⟩ := (hA1.cells.grown hg (HA'.out.cells.apart (by omega))).wr hll
        obtain ⟨hck1, hck2'⟩ := hcA k hll
        obtain ⟨q0, q1, _, _⟩ := hq01.read
        have HS := Lib.hid (kept_step k l ks hll hlk)
        have hbl := writeL_length (kept (l.take k) (ks.take k)) b
        have hin := List.all_eq_true.1 HIN.out _ (List.getElem_mem hll)
        have HG := Lib.hid hg
        have HOK := Lib.hid ho
        clear hcK hcA hA1 hK1
        generalize hq2 : l[k] = x at *
        clear hq2
        obtain ⟨xa, xs⟩ := x
        simp only at hck1 hck2'
        obtain ⟨m, rfl⟩ : ∃ m : Nat, xa = m := by
          unfold takesS hasS at hin
          simp at hin
          exact ⟨xa.toNat, by omega⟩
        have hh : hasS b.length (m : Int) = true := by
          unfold takesS at hin
          simp only [Bool.and_eq_true] at hin
          exact hin.1
        have hmlt : m < b.length := by
          unfold hasS at hh
          simp at hh
          omega
        have hmi : (m : Int) < (b.length : Int) := by omega
        have HH := Lib.hid hh
        have HST := Lib.hid (show ((wr.setCell ⟨g, m, none⟩ (.string xs)).drew).ownsRow (w.heap.size + 1 + 1) 9 1 (.slice (some ⟨g, 0, none⟩) b.length c2) b.length (((writeL b (kept (l.take k) (ks.take k))).set m xs).map sv) ∧ w2.grownBy (wr.setCell ⟨g, m, none⟩ (.string xs)).drew (some g) from ⟨by rw [List.map_set]; exact (ho.stored m (.string xs)).1.drew, grown_trans (grown_trans hg (ho.stored m (.string xs)).2) (grown_drew _ _)⟩)
        have hf := ho.frozenAt m
        obtain ⟨u, hu⟩ : ∃ u, wr.cell? ⟨g, m, none⟩ = some u := by
          rw [ho.cellAt m (by omega)]
          exact ⟨_, List.getElem?_eq_getElem (by simp; omega)⟩
        clear hin hh ho hg
        cases hq : ks[k]
        · rw [hq] at hck0 HS
          clear hq
          go_wp2
          go_roundw
          case rel => exact ⟨k + 1, by omega, by omega, by go_num, by rw [HS.out]; simpa using HOK.out, HG.out⟩
          case measure => simp [intOf]; omega
        · rw [hq] at hck0 HS
          clear hq
          go_wp2_with fail
          go_still_tail 14, (by kernel_rfl)
          change wpList _ _ _ _ _ wr.drew
          go_wp2
          go_roundw
          case rel => exact ⟨k + 1, by omega, by omega, by go_num, by rw [HS.out, if_pos trivial, writeL_append]; rw [show ∀ z : List ByteArray, z.length = b.length → writeL z [((m : Int), xs)] = z.set m xs from fun z hz => by show write1 z _ = _; unfold write1; rw [if_pos (by rw [hz]; exact HH.out), Int.toNat_natCast]] <;> first | exact hbl | exact HST.out.1, HST.out.2⟩
          case measure => simp [intOf]; omega
      · have hkend : l.length ≤ k ∨ ks.length ≤ k := by omega
        have hkq : k = l.length ∨ k = ks.length := by omega
        have HKE := Lib.hid (kept_end k l ks hkend)
        have hb2 := HB2'.out.grown (by omega) hg (by omega)
        have HB3 := Lib.hid (hb2.store (.slice (some ⟨g, 0, none⟩) b.length c2) (.slice none 0 0))
        obtain ⟨r0, r1, f0, f1⟩ := hb2.read
        obtain ⟨q0, q1, _, _⟩ := hq01.read
        have HXr := Lib.hid (HX2.out.row' hg (by omega))
        have HXE := Lib.hid (HXr.out.store2 (k := w.heap.size + 1) (by omega) (.slice (some ⟨g, 0, none⟩) b.length c2) (.slice none 0 0))
        have HOE := Lib.hid (own_store2 ho (k := w.heap.size + 1) (by omega) (.slice (some ⟨g, 0, none⟩) b.length c2) (.slice none 0 0))
        clear ho hg hkend hkq
        go_wp2
        clear r0 r1 f0 f1
        obtain ⟨r0, r1, _, _⟩ := HB3.out.read
        refine bodyPost_ret (v := .agg #[.slice (some ⟨g, 0, none⟩) b.length c2, .slice none 0 0]) (by simp [results, Tryz.results90, go_sem, r0, r1]) rfl ?_
        refine ⟨_, rfl, ⟨_, _, _, _, by rw [writeL_length]; rfl, by rw [writeL_length, ← HKE.out]; exact own_sl1 HOE.out, Sl.nil _⟩, HXE.out⟩
    · have hkend : l.length ≤ k ∨ ks.length ≤ k := by omega
      have hkq : k = l.length ∨ k = ks.length := by omega
      have HKE := Lib.hid (kept_end k l ks hkend)
      have hb2 := HB2'.out.grown (by omega) hg (by omega)
      have HB3 := Lib.hid (hb2.store (.slice (some ⟨g, 0, none⟩) b.length c2) (.slice none 0 0))
      obtain ⟨r0, r1, f0, f1⟩ := hb2.read
      obtain ⟨q0, q1, _, _⟩ := hq01.read
      have HXr := Lib.hid (HX2.out.row' hg (by omega))
      have HXE := Lib.hid (HXr.out.store2 (k := w.heap.size + 1) (by omega) (.slice (some ⟨g, 0, none⟩) b.length c2) (.slice none 0 0))
      have HOE := Lib.hid (own_store2 ho (k := w.heap.size + 1) (by omega) (.slice (some ⟨g, 0, none⟩) b.length c2) (.slice none 0 0))
      clear ho hg hkend hkq
      go_wp2
      clear r0 r1 f0 f1
      obtain ⟨r0, r1, _, _⟩ := HB3.out.read
      refine bodyPost_ret (v := .agg #[.slice (some ⟨g, 0, none⟩) b.length c2, .slice none 0 0]) (by simp [results, Tryz.results90, go_sem, r0, r1]) rfl ?_
      refine ⟨_, rfl, ⟨_, _, _, _, by rw [writeL_length]; rfl, by rw [writeL_length, ← HKE.out]; exact own_sl1 HOE.out, Sl.nil _⟩, HXE.out⟩

theorem infoT : (Tryz.prog.info? 4).map (fun i => (i.zero, i.size, i.bytes)) = some (some (.bool false), 1, 1) := by kernel_rfl

theorem kept_all : ∀ (l : List Wr), kept l (List.replicate l.length true) = l
  | [] => rfl
  | x :: l => by simp [List.replicate_succ, kept, kept_all l]
theorem bools_rep (n : Nat) : (List.replicate n true).map Value.bool = List.replicate n (Value.bool true) := by simp
theorem bools_snoc (n : Nat) : (List.replicate n true).map Value.bool ++ [Value.bool true] = (List.replicate (n + 1) true).map Value.bool := by
  rw [List.replicate_succ']; simp

set_option maxHeartbeats 4000000 in
set_option maxRecDepth 100000 in
theorem flushR_any (A A' : Option Addr) (b : List ByteArray) (l : List Wr) (c c' : Nat) (w : World) (hb : b.length ≤ 1000000) (hb0 : 1 ≤ b.length) (hl : l.length ≤ 1000000) (hin : l.all (takesS b.length) = true)
    (hA0 : Sl w A b.length c (b.map sv)) (hA0' : Sl w A' l.length c' (wvs l)) :
    Calls Tryz.prog 59 #[.agg #[.slice A b.length c, .slice A' l.length c']] w fun e w' => ∃ v, e = .returned v ∧ IsDisk w' v (writeL b l) [] ∧ Ext w w' := by
  have HA := Lib.hid hA0
  have HA' := Lib.hid hA0'
  have HIN := Lib.hid hin
  clear hA0 hA0' hin
  have HX := Lib.hid (((Ext.refl w).alloc (.cells #[.slice A b.length c, .slice A' l.length c'] 26)).alloc (.cells #[.slice none 0 0, .slice none 0 0] 26))
  have hb1 := (Box2.new w (.slice A b.length c) (.slice A' l.length c') 26).ext (by simp) ((Ext.refl _).alloc (.cells #[.slice none 0 0, .slice none 0 0] 26))
  have hb2 := Box2.new (w.alloc (.cells #[.slice A b.length c, .slice A' l.length c'] 26)) (.slice none 0 0) (.slice none 0 0) 26
  rw [World.size_alloc] at hb2
  have HB1 := Lib.hid hb1
  have HB2 := Lib.hid hb2
  clear hb1 hb2
  go_enter Tryz.func59, Tryz.ntmps59
  go_wp2
  generalize hw1 : ((w.alloc (.cells #[.slice A b.length c, .slice A' l.length c'] 26)).alloc (.cells #[.slice none 0 0, .slice none 0 0] 26)) = w1 at *
  have hs1 : w1.heap.size = w.heap.size + 1 + 1 := by rw [← hw1]; simp
  clear hw1
  go_loopw [3, 4] (fun v i wr => ∃ (k cap : Nat) (B : Option Addr), k ≤ l.length ∧ i = .int .i64 k ∧ v = .slice B k cap ∧ wr.ownsRow w1.heap.size 4 1 (.slice B k cap) k ((List.replicate k true).map Value.bool) ∧ Ext w1 wr) (fun _ i _ => l.length - (intOf i).toNat)
  case atStart => exact ⟨0, 0, none, Nat.zero_le _, rfl, rfl, World.ownsRow_nil _ _ _ _, Ext.refl _⟩
  case round =>
    obtain ⟨k, cap, B, hk, rfl, rfl, ho, hx⟩ := hrel
    have hsz := hx.size
    have HO := Lib.hid ho
    have HXr := Lib.hid hx
    obtain ⟨c0, c1, _, _⟩ := (HB1.out.ext (by omega) hx).read
    have hb2 := HB2.out.ext (by omega) hx
    clear ho hx
    by_cases hlt : k < l.length
    · clear hb2
      go_wp2_with (at_builtin; refine stop_here ?_)
      refine stop_on ?_
      refine wpList_app_sl _ rfl _ _ 161 rfl w1.heap.size 4 _ 1 1 Tryz.underlying161 infoT rfl (by omega) _ k _ rfl (HO.out.alloc _) (some ⟨wr.heap.size, 0, none⟩) 1 1 [.bool true] rfl rfl (sl_lit wr _ 1 [.bool true] (by unfold maxLen; omega)) (by intro u hu; simp at hu; subst hu; rfl) (by unfold maxLen; omega) (by omega) (by simp; omega) ?_
      intro B2 c2 w2 hown hg
      rw [bools_snoc] at hown
      have HX2 := Lib.hid (show Ext w1 w2 from Below.grown (HXr.out.alloc _) hg (by simp; omega) (fun q hq => ((HO.out.alloc (.cells #[.bool true] 4)).lt q hq).1))
      have HO2 := Lib.hid hown
      clear hown hg
      go_wp2
      go_roundw
      case rel => exact ⟨k + 1, c2, B2, by omega, by go_num, rfl, HO2.out, HX2.out⟩
      case measure => simp [intOf]; omega
    · obtain rfl : k = l.length := by omega
      have HX2 := Lib.hid (HX.out.trans HXr.out)
      have HC := Lib.hid (crashR_any A A' B b l (List.replicate l.length true) c c' cap wr hb hb0 hl (by simpa using hl) HIN.out (HA.out.ext HX2.out) (HA'.out.ext HX2.out) (by rw [List.length_replicate]; exact own_sl HO.out))
      rw [List.length_replicate, kept_all] at HC
      have HB2 := Lib.hid hb2
      clear hb2
      go_wp2_with (go_at_call 90; refine stop_here ?_)
      refine stop_on ?_
      refine HC.out.mono ?_
      rintro e w3 ⟨v, rfl, ⟨A3, c3, A4, c4, rfl, h3, h4⟩, hx3⟩
      have hb2 := HB2.out.ext (by omega) hx3
      have hb2X := hb2
      have HB3 := Lib.hid (hb2.store (.slice A3 (writeL b l).length c3) (.slice A4 0 c4))
      obtain ⟨r0, r1, f0, f1⟩ := hb2.read
      have HXE := Lib.hid ((HX2.out.trans hx3).store2 (k := w.heap.size + 1) (by omega) (.slice A3 (writeL b l).length c3) (.slice A4 0 c4))
      have h3' := h3.store2 (flat_svs _) hb2X (.slice A3 (writeL b l).length c3) (.slice A4 0 c4)
      have h4' := h4.store2 (flat_wvs _) hb2X (.slice A3 (writeL b l).length c3) (.slice A4 0 c4)
      clear hb2X
      have H3 := Lib.hid h3'
      have H4 := Lib.hid h4'
      clear h3 h4 h3' h4' hx3 HC
      generalize hBL : writeL b l = bl at *
      have HBL := Lib.hid hBL
      clear hBL
      go_wp2
      clear r0 r1 f0 f1
      obtain ⟨r0, r1, _, _⟩ := HB3.out.read
      refine bodyPost_ret (v := .agg #[.slice A3 bl.length c3, .slice A4 0 c4]) (by simp [results, Tryz.results59, go_sem, r0, r1]) rfl ?_
      refine ⟨_, rfl, ?_, HXE.out⟩
      rw [HBL.out]
      exact ⟨_, _, _, _, rfl, H3.out, H4.out⟩
end Go.Proofs.YtnlkakbpcdfgfaaGreat
namespace Go.Proofs.YtnlkakbpcdfgfaaGreat
set_option maxRecDepth 20000
open Go.RowKit
attribute [local go_sem ↓] Go.wp_at_zero Go.wp_at_succ

theorem stepsS_all (p : List Wr) : ∀ b l s, l.all (takesS b.length) = true → stepsS b l p = some s → s.2.all (takesS s.1.length) = true := by
  induction p with
  | nil => intro b l s hl h; simp [stepsS] at h; subst h; exact hl
  | cons y p ih =>
    intro b l s hl h
    simp only [stepsS] at h
    cases hq : step1 b l y with
    | none => rw [hq] at h; cases h
    | some t =>
      rw [hq] at h
      exact ih t.1 t.2 s (step1_all hl hq) h
theorem doS_at (p : List Wr) (k : Nat) (hk : k < p.length) (b : List ByteArray) (l : List Wr) (s : List ByteArray × List Wr) (h : stepsS b l (p.take k) = some s) (h2 : step1 s.1 s.2 p[k] = none) : doS b l p = (s, k) := by
  have e : p = p.take k ++ p[k] :: p.drop (k + 1) := by
    rw [← List.drop_eq_getElem_cons hk, List.take_append_drop]
  have := doS_cut (p.take k) p[k] (p.drop (k + 1)) b l s h h2
  rw [← e] at this
  rw [this]
  simp
  omega
theorem stepsS_at (p : List Wr) (k : Nat) (hk : k < p.length) (b : List ByteArray) (l : List Wr) (s t : List ByteArray × List Wr) (h : stepsS b l (p.take k) = some s) (h2 : step1 s.1 s.2 p[k] = some t) : stepsS b l (p.take (k + 1)) = some t := by
  rw [List.take_succ_eq_append_getElem hk, stepsS_snoc, h]; exact h2

/-- The reference's plan under way. -/
def RDo (w : World) (b : List ByteArray) (l q : List Wr) (k : Nat) (W : World) : Prop :=
  ∃ s A1 k1 A2 k2, stepsS b l (q.take k) = some s ∧ Box2 W w.heap.size (.slice A1 s.1.length k1) (.slice A2 s.2.length k2) ∧ Box2 W (w.heap.size + 1) (.slice none 0 0) (.slice none 0 0) ∧
    Sl W A1 s.1.length k1 (s.1.map sv) ∧ Sl W A2 s.2.length k2 (wvs s.2) ∧ Ext w W ∧ w.heap.size + 1 + 1 ≤ W.heap.size

theorem RDo.ext {w : World} {b : List ByteArray} {l q : List Wr} {k : Nat} {W W' : World} (h : RDo w b l q k W) (hx : Ext W W') : RDo w b l q k W' := by
  obtain ⟨s, A1, k1, A2, k2, h1, h2, h3, h4, h5, h6, h7⟩ := h
  have hz := hx.size
  exact ⟨s, A1, k1, A2, k2, h1, h2.ext (by omega) hx, h3.ext (by omega) hx, h4.ext hx, h5.ext hx, h6.trans hx, by omega⟩

set_option maxRecDepth 100000 in
set_option maxHeartbeats 4000000 in
theorem doR_any (A A' P : Option Addr) (b : List ByteArray) (l p : List Wr) (c c' cp : Nat) (stop : Int) (w : World) (hb : b.length ≤ 1000000) (hb0 : 1 ≤ b.length) (hl : l.length ≤ 400000) (hp : p.length ≤ 400000) (hin : l.all (takesS b.length) = true)
    (hA : Sl w A b.length c (b.map sv)) (hA' : Sl w A' l.length c' (wvs l)) (hP : Sl w P p.length cp (wvs p)) :
    Calls Tryz.prog 36 #[.agg #[.slice A b.length c, .slice A' l.length c'], .slice P p.length cp, .int .i64 stop] w fun e w' => ∃ v, e = .returned (.tuple #[v, .int .i64 (doS b l (p.take (planLen p.length stop))).2]) ∧
      IsDisk w' v (doS b l (p.take (planLen p.length stop))).1.1 (doS b l (p.take (planLen p.length stop))).1.2 ∧ Ext w w' := by
  obtain ⟨q, hq⟩ : ∃ q, q = p.take (planLen p.length stop) := ⟨_, rfl⟩
  rw [← hq]
  have hql : q.length = planLen p.length stop := by rw [hq, List.length_take]; have := planLen_le p.length stop; omega
  have hqp : q.length ≤ p.length := by rw [hql]; exact planLen_le _ _
  have hqa : ∀ k (h : k < q.length) (h' : k < p.length), q[k] = p[k] := by
    intro k h h'
    subst hq
    exact List.getElem_take
  have HQA := Lib.hid hqa
  have HQL := Lib.hid (show (∀ k : Nat, k ≤ q.length → k < p.length → 0 ≤ stop → stop ≤ k → k = q.length) ∧ (∀ k : Nat, k ≤ q.length → k < p.length → (stop < 0 ∨ (k : Int) < stop) → k < q.length) from by
    rw [hql]
    unfold planLen
    constructor
    · intro k h1 h2 h3 h4
      split at h1 <;> rename_i hh
      · rw [if_pos hh]; omega
      · omega
    · intro k h1 h2 h3
      split <;> omega)
  have HIN := Lib.hid hin
  have HP := Lib.hid hP
  have hb1 := (Box2.new w (.slice A b.length c) (.slice A' l.length c') 26).ext (by simp) ((Ext.refl _).alloc (.cells #[.slice none 0 0, .slice none 0 0] 26))
  have hb2 := Box2.new (w.alloc (.cells #[.slice A b.length c, .slice A' l.length c'] 26)) (.slice none 0 0) (.slice none 0 0) 26
  rw [World.size_alloc] at hb2
  have hx0 := ((Ext.refl w).alloc (.cells #[.slice A b.length c, .slice A' l.length c'] 26)).alloc (.cells #[.slice none 0 0, .slice none 0 0] 26)
  have HR0 := Lib.hid (show RDo w b l q 0 ((w.alloc (.cells #[.slice A b.length c, .slice A' l.length c'] 26)).alloc (.cells #[.slice none 0 0, .slice none 0 0] 26)) from ⟨(b, l), A, c, A', c', rfl, hb1, hb2, hA.ext hx0, hA'.ext hx0, hx0, by simp⟩)
  clear hq hql hqa hin hP hb1 hb2 hx0 hA hA'
  go_enter Tryz.func36, Tryz.ntmps36
  go_wp2
  go_loopw [8] (fun i wr => ∃ k : Nat, k ≤ q.length ∧ i = .int .i64 k ∧ RDo w b l q k wr) (fun i _ => p.length - (intOf i).toNat)
  case atStart => exact ⟨0, Nat.zero_le _, rfl, HR0.out⟩
  case round =>
    obtain ⟨k, hk, rfl, s, A1, k1, A2, k2, hs, hb1, hb2, h1, h2, hx, hsz⟩ := hrel
    obtain ⟨e1, e2⟩ := stepsS_lengths _ b l s hs
    have hsl : s.2.length ≤ 800000 := by simp at e2; omega
    have hall := stepsS_all _ b l s HIN.out hs
    have HALL := Lib.hid hall
    have HE1 := Lib.hid e1
    have HS := Lib.hid hs
    have HB1 := Lib.hid hb1
    have HB2 := Lib.hid hb2
    have H1 := Lib.hid h1
    have H2 := Lib.hid h2
    have HX := Lib.hid hx
    obtain ⟨c0, c1, f0, f1⟩ := hb1.read
    obtain ⟨r0, r1, g0, g1⟩ := hb2.read
    have hsb : s.1.length ≤ 1000000 := by omega
    have hsb0 : 1 ≤ s.1.length := by omega
    clear hall e1 e2 hs hb1 hb2 h1 h2 hx
    -- what is left behind when the call ends here
    have fin : ∀ m : Nat, doS b l q = (s, m) → ∃ v, Ending.returned (.tuple #[.agg #[.slice A1 s.1.length k1, .slice A2 s.2.length k2], .int .i64 (m : Int)]) = .returned (.tuple #[v, .int .i64 ((doS b l q).2 : Nat)]) ∧
        IsDisk ((wr.setCell ⟨w.heap.size + 1, 0, none⟩ (.slice A1 s.1.length k1)).setCell ⟨w.heap.size + 1, 1, none⟩ (.slice A2 s.2.length k2)) v (doS b l q).1.1 (doS b l q).1.2 ∧ Ext w ((wr.setCell ⟨w.heap.size + 1, 0, none⟩ (.slice A1 s.1.length k1)).setCell ⟨w.heap.size + 1, 1, none⟩ (.slice A2 s.2.length k2)) := fun m h => by
      rw [h]
      exact ⟨_, rfl, ⟨_, _, _, _, rfl, H1.out.store2 (flat_svs _) HB2.out _ _, H2.out.store2 (flat_wvs _) HB2.out _ _⟩, HX.out.store2 (by omega) _ _⟩
    have FIN := Lib.hid fin
    have HBS := Lib.hid (HB2.out.store (.slice A1 s.1.length k1) (.slice A2 s.2.length k2))
    clear fin
    by_cases hlt : k < p.length
    · by_cases hst : 0 ≤ stop ∧ stop ≤ k
      · have HD := Lib.hid (show doS b l q = (s, k) by
          obtain rfl := HQL.out.1 k hk hlt hst.1 hst.2
          have := HS.out
          rw [List.take_length] at this
          exact doS_all q b l s this)
        obtain ⟨hs1, hs2⟩ := hst
        go_wp2
        clear r0 r1 g0 g1
        obtain ⟨r0, r1, _, _⟩ := HBS.out.read
        refine bodyPost_ret (v := .tuple #[.agg #[.slice A1 s.1.length k1, .slice A2 s.2.length k2], .int .i64 (k : Int)]) (by simp [results, Tryz.results36, go_sem, r0, r1]) rfl ?_
        exact FIN.out k HD.out
      · have hkq := HQL.out.2 k hk hlt (by omega)
        have hkk : q[k] = p[k] := HQA.out k hkq hlt
        have HKK := Lib.hid hkk
        obtain ⟨bp, offp, rfl, _, hcp⟩ := (HP.out.ext HX.out).cells.wr hlt
        obtain ⟨d0, d1⟩ := hcp k hlt
        have hki : (k : Int) < (p.length : Int) := by omega
        have HCUT := Lib.hid (doS_at q k hkq b l s HS.out)
        have HGO := Lib.hid (fun t => stepsS_at q k hkq b l s t HS.out)
        rw [hkk] at HCUT HGO
        clear hcp hkk HKK
        generalize hx : p[k] = x at *
        clear hx
        obtain ⟨xa, xs⟩ := x
        simp only at d0 d1
        have hdisj : stop < 0 ∨ (0 ≤ stop ∧ (k : Int) < stop) := by omega
        clear hst
        rcases Decidable.em (xa = -1 ∧ xs.toList.isEmpty = true) with hfl | hfl
        · have HT := Lib.hid (HGO.out _ (show step1 s.1 s.2 (xa, xs) = some (writeL s.1 s.2, []) by unfold step1 isFl; rw [hfl.1, hfl.2]; rfl))
          have HF := Lib.hid (flushR_any A1 A2 s.1 s.2 k1 k2 wr hsb hsb0 (by omega) HALL.out H1.out H2.out)
          obtain ⟨rfl, hem⟩ := hfl
          rcases hdisj with hd | ⟨hd1, hd2⟩
          all_goals
            go_wp2_with (go_at_call 59; refine stop_here ?_)
            refine stop_on ?_
            refine HF.out.mono ?_
            rintro e w3 ⟨v, rfl, ⟨A3, k3, A4, k4, rfl, h3, h4⟩, hx3⟩
            have hz3 := hx3.size
            have hb13 := HB1.out.ext (by omega) hx3
            have hb23 := HB2.out.ext (by omega) hx3
            have HRD := Lib.hid (show RDo w b l q (k + 1) ((w3.setCell ⟨w.heap.size, 0, none⟩ (.slice A3 (writeL s.1 s.2).length k3)).setCell ⟨w.heap.size, 1, none⟩ (.slice A4 0 k4)) from
              ⟨_, A3, k3, A4, k4, HT.out, hb13.store _ _, hb23.grown (by omega) (grown_store2 _ w.heap.size _ _) (by omega), h3.store2 (flat_svs _) hb13 _ _, h4.store2 (flat_wvs _) hb13 _ _, (HX.out.trans hx3).store2 (Nat.le_refl _) _ _, by simp [World.setCell]; omega⟩)
            clear c0 c1 f0 f1 r0 r1 g0 g1
            obtain ⟨c0, c1, f0, f1⟩ := hb13.read
            clear hb13 hb23 h3 h4 hx3
            generalize (writeL s.1 s.2).length = n3 at *
            go_wp2
            go_roundw
            case rel => exact ⟨k + 1, by omega, by go_num, HRD.out⟩
            case measure => simp [intOf]; omega
        · have hff : isFl (xa, xs) = false := by
            unfold isFl
            cases hxe : xs.toList.isEmpty
            · simp
            · simp
              exact fun e => hfl ⟨e, hxe⟩
          have HFF := Lib.hid hff
          have hbp := World.block_lt_of_cell? wr _ d0
          have HKS := Lib.hid (fun w' (hx : Ext wr w') => (show w'.cell? ⟨w.heap.size, 0, none⟩ = some (.slice A1 s.1.length k1) ∧ w'.cell? ⟨w.heap.size, 1, none⟩ = some (.slice A2 s.2.length k2) ∧ w'.cell? ⟨bp, offp + k * 2, none⟩ = some (.int .i64 xa) ∧ w'.cell? ⟨bp, offp + k * 2 + 1, none⟩ = some (.string xs) from
            ⟨(HB1.out.ext (by omega) hx).read.1, (HB1.out.ext (by omega) hx).read.2.1, (hx.cell (p := ⟨bp, offp + k * 2, none⟩) hbp).trans d0, (hx.cell (p := ⟨bp, offp + k * 2 + 1, none⟩) hbp).trans d1⟩))
          have htst : ((xa == -1) = false ∧ (xa == -1) = false) ∨ ((xa == -1) = true ∧ xs.toList.isEmpty = false) := by
            rcases Decidable.em (xa = -1) with e | e
            · right
              refine ⟨by simpa using e, ?_⟩
              cases hxe : xs.toList.isEmpty
              · rfl
              · exact absurd ⟨e, hxe⟩ hfl
            · left
              simpa using e
          clear hff hbp hfl
          have HF2 := Lib.hid (fun (W' : World) (hx : Ext wr W') => (show IsDisk ((W'.setCell ⟨w.heap.size + 1, 0, none⟩ (.slice A1 s.1.length k1)).setCell ⟨w.heap.size + 1, 1, none⟩ (.slice A2 s.2.length k2)) (.agg #[.slice A1 s.1.length k1, .slice A2 s.2.length k2]) s.1 s.2 ∧
              Ext w ((W'.setCell ⟨w.heap.size + 1, 0, none⟩ (.slice A1 s.1.length k1)).setCell ⟨w.heap.size + 1, 1, none⟩ (.slice A2 s.2.length k2)) ∧
              Box2 ((W'.setCell ⟨w.heap.size + 1, 0, none⟩ (.slice A1 s.1.length k1)).setCell ⟨w.heap.size + 1, 1, none⟩ (.slice A2 s.2.length k2)) (w.heap.size + 1) (.slice A1 s.1.length k1) (.slice A2 s.2.length k2) from by
            have hb := HB2.out.ext (by omega) hx
            exact ⟨⟨_, _, _, _, rfl, (H1.out.ext hx).store2 (flat_svs _) hb _ _, (H2.out.ext hx).store2 (flat_wvs _) hb _ _⟩, (HX.out.trans hx).store2 (by omega) _ _, hb.store _ _⟩))
          cases ht : takesS s.1.length (xa, xs)
          · have HD := Lib.hid (HCUT.out (by unfold step1; rw [HFF.out, ht]; rfl))
            have HPUT := Lib.hid (fun W h1 h2 => (show Calls Tryz.prog 60 #[.agg #[.slice A1 s.1.length k1, .slice A2 s.2.length k2], .int .i64 xa, .string xs] W fun e w' => ∃ v, e = .returned (.tuple #[v, .int .i64 1]) ∧ IsDisk w' v s.1 s.2 ∧ Ext W w' from by
              have := putR_any A1 A2 s.1 s.2 k1 k2 xa xs W hsb (by omega) h1 h2
              rw [show putE s.1 (xa, xs) = 1 by unfold putE; rw [ht]; rfl, show putW s.1 s.2 (xa, xs) = s.2 by unfold putW; rw [ht]; rfl] at this
              exact this))
            clear ht
            rcases hdisj with hd | ⟨hd1, hd2⟩
            all_goals
              rcases htst with ⟨hxa, hxa'⟩ | ⟨hxa, hem⟩
              all_goals
                go_wp2_with fail
                go_region_held3 (fun w' => w'.cell? ⟨w.heap.size, 0, none⟩ = some (.slice A1 s.1.length k1) ∧ w'.cell? ⟨w.heap.size, 1, none⟩ = some (.slice A2 s.2.length k2) ∧ w'.cell? ⟨bp, offp + k * 2, none⟩ = some (.int .i64 xa) ∧ w'.cell? ⟨bp, offp + k * 2 + 1, none⟩ = some (.string xs))
                  (first | exact HKS.out _ hE3.out | exact HKS.out _ (hE3.out.alloc _) | exact HKS.out _ (hE3.out.store2 hE6.out _ _) | exact HKS.out _ (Ext.refl wr).drew | exact HKS.out _ ((Ext.refl wr).alloc _).drew)
                  (first
                    | ((go_at_call 60
                        refine (HPUT.out _ ?_ ?_).mono ?_
                        (first | exact H1.out.ext (Ext.refl wr).drew | exact H1.out.ext ((Ext.refl wr).alloc _).drew)
                        (first | exact H2.out.ext (Ext.refl wr).drew | exact H2.out.ext ((Ext.refl wr).alloc _).drew)
                        rintro e w3 ⟨v, rfl, ⟨A3, k3, A4, k4, rfl, h3, h4⟩, hx3⟩
                        have hE3 := Lib.hid (show Ext wr w3 from by first | exact (Ext.refl wr).drew.trans hx3 | exact ((Ext.refl wr).alloc _).drew.trans hx3)
                        have hz3 := hE3.out.size
                        have hz4 : w.heap.size < w3.heap.size := by omega
                        have hz5 : w.heap.size + 1 < w3.heap.size := by omega
                        clear c0 c1 f0 f1 r0 r1 g0 g1 d0 d1
                        obtain ⟨c0, c1, f0, f1⟩ := (HB1.out.ext (by omega) hE3.out).read
                        obtain ⟨r0, r1, g0, g1⟩ := (HB2.out.ext (by omega) hE3.out).read
                        (first
                          | (have hNX := (show w3.heap[wr.heap.size]? = some (.cells #[.slice none 0 0, .slice none 0 0] 26 (0, 0)) from (hx3.block _ (by simp)).trans (heap_alloc_new wr _))
                             have hE6 := Lib.hid (show wr.heap.size ≤ wr.heap.size from Nat.le_refl _)
                             obtain ⟨n0, n1, m0, m1⟩ := box_read hNX
                             have HNX := Lib.hid hNX
                             clear hNX)
                          | skip)
                        have HX3 := Lib.hid hx3
                        clear hx3)))
                all_goals
                  go_wp2
                  clear r0 r1 g0 g1
                  first
                    | (have hz6 := hE6.out
                       obtain ⟨F1, F2, F3⟩ := HF2.out _ (hE3.out.store2 hE6.out (.slice A3 s.1.length k3) (.slice A4 s.2.length k4))
                       obtain ⟨r0, r1, _, _⟩ := F3.read
                       refine bodyPost_ret (v := .tuple #[.agg #[.slice A1 s.1.length k1, .slice A2 s.2.length k2], .int .i64 (k : Int)]) (by simp [results, Tryz.results36, go_sem, r0, r1]) rfl ?_
                       rw [HD.out]
                       exact ⟨_, rfl, F1, F2⟩)
                    | (obtain ⟨F1, F2, F3⟩ := HF2.out _ hE3.out
                       obtain ⟨r0, r1, _, _⟩ := F3.read
                       obtain ⟨q0, q1, _, _⟩ := (F3.ext (by simp [World.setCell]; omega) ((Ext.refl _).alloc (.cells #[.slice A3 s.1.length k3, .slice A4 s.2.length k4] 26))).read
                       refine bodyPost_ret (v := .tuple #[.agg #[.slice A1 s.1.length k1, .slice A2 s.2.length k2], .int .i64 (k : Int)]) (by simp [results, Tryz.results36, go_sem, q0, q1]) rfl ?_
                       rw [HD.out]
                       exact ⟨_, rfl, F1.ext ((Ext.refl _).alloc _), F2.alloc _⟩)
          · have HT := Lib.hid (HGO.out _ (show step1 s.1 s.2 (xa, xs) = some (s.1, s.2 ++ [(xa, xs)]) by unfold step1; rw [HFF.out, ht]; rfl))
            have HPUT := Lib.hid (fun W h1 h2 => (show Calls Tryz.prog 60 #[.agg #[.slice A1 s.1.length k1, .slice A2 s.2.length k2], .int .i64 xa, .string xs] W fun e w' => ∃ v, e = .returned (.tuple #[v, .int .i64 0]) ∧ IsDisk w' v s.1 (s.2 ++ [(xa, xs)]) ∧ Ext W w' from by
              have := putR_any A1 A2 s.1 s.2 k1 k2 xa xs W hsb (by omega) h1 h2
              rw [show putE s.1 (xa, xs) = 0 by unfold putE; rw [ht]; rfl, show putW s.1 s.2 (xa, xs) = s.2 ++ [(xa, xs)] by unfold putW; rw [ht]; rfl] at this
              exact this))
            obtain ⟨m, hm⟩ : ∃ m, m = s.2 ++ [(xa, xs)] := ⟨_, rfl⟩
            rw [← hm] at HT HPUT
            clear hm
            clear ht
            rcases hdisj with hd | ⟨hd1, hd2⟩
            all_goals
              rcases htst with ⟨hxa, hxa'⟩ | ⟨hxa, hem⟩
              all_goals
                go_wp2_with fail
                go_region_held3 (fun w' => w'.cell? ⟨w.heap.size, 0, none⟩ = some (.slice A1 s.1.length k1) ∧ w'.cell? ⟨w.heap.size, 1, none⟩ = some (.slice A2 s.2.length k2) ∧ w'.cell? ⟨bp, offp + k * 2, none⟩ = some (.int .i64 xa) ∧ w'.cell? ⟨bp, offp + k * 2 + 1, none⟩ = some (.string xs))
                  (first | exact HKS.out _ hE3.out | exact HKS.out _ (hE3.out.alloc _) | exact HKS.out _ (hE3.out.store2 hE6.out _ _) | exact HKS.out _ (Ext.refl wr).drew | exact HKS.out _ ((Ext.refl wr).alloc _).drew)
                  (first
                    | ((go_at_call 60
                        refine (HPUT.out _ ?_ ?_).mono ?_
                        (first | exact H1.out.ext (Ext.refl wr).drew | exact H1.out.ext ((Ext.refl wr).alloc _).drew)
                        (first | exact H2.out.ext (Ext.refl wr).drew | exact H2.out.ext ((Ext.refl wr).alloc _).drew)
                        rintro e w3 ⟨v, rfl, ⟨A3, k3, A4, k4, rfl, h3, h4⟩, hx3⟩
                        have hE3 := Lib.hid (show Ext wr w3 from by first | exact (Ext.refl wr).drew.trans hx3 | exact ((Ext.refl wr).alloc _).drew.trans hx3)
                        have hz3 := hE3.out.size
                        have hz4 : w.heap.size < w3.heap.size := by omega
                        have hz5 : w.heap.size + 1 < w3.heap.size := by omega
                        clear c0 c1 f0 f1 r0 r1 g0 g1 d0 d1
                        obtain ⟨c0, c1, f0, f1⟩ := (HB1.out.ext (by omega) hE3.out).read
                        obtain ⟨r0, r1, g0, g1⟩ := (HB2.out.ext (by omega) hE3.out).read
                        (first
                          | (have hNX := (show w3.heap[wr.heap.size]? = some (.cells #[.slice none 0 0, .slice none 0 0] 26 (0, 0)) from (hx3.block _ (by simp)).trans (heap_alloc_new wr _))
                             have hE6 := Lib.hid (show wr.heap.size ≤ wr.heap.size from Nat.le_refl _)
                             obtain ⟨n0, n1, m0, m1⟩ := box_read hNX
                             have HNX := Lib.hid hNX
                             clear hNX)
                          | skip)
                        have HX3 := Lib.hid hx3
                        have H3 := Lib.hid h3
                        have H4 := Lib.hid h4
                        clear hx3 h3 h4)))
                all_goals
                  first
                    | (have hz6 := hE6.out
                       have hb7 : Box2 w3 wr.heap.size (.slice none 0 0) (.slice none 0 0) := ⟨_, HNX.out⟩
                       have hxa := hE3.out.store2 hE6.out (.slice A3 s.1.length k3) (.slice A4 m.length k4)
                       have hb1 := HB1.out.ext (by omega) hxa
                       have hb2 := HB2.out.ext (by omega) hxa
                       have HRD := Lib.hid (show RDo w b l q (k + 1) ((((w3.setCell ⟨wr.heap.size, 0, none⟩ (.slice A3 s.1.length k3)).setCell ⟨wr.heap.size, 1, none⟩ (.slice A4 m.length k4)).setCell ⟨w.heap.size, 0, none⟩ (.slice A3 s.1.length k3)).setCell ⟨w.heap.size, 1, none⟩ (.slice A4 m.length k4)) from
                         ⟨_, A3, k3, A4, k4, HT.out, hb1.store _ _, hb2.grown (by simp [World.setCell]; omega) (grown_store2 _ w.heap.size _ _) (by omega), (H3.out.store2 (flat_svs _) hb7 _ _).store2 (flat_svs _) hb1 _ _, (H4.out.store2 (flat_wvs _) hb7 _ _).store2 (flat_wvs _) hb1 _ _, (HX.out.trans hxa).store2 (Nat.le_refl _) _ _, by simp [World.setCell]; omega⟩)
                       have hn7 := box_store HNX.out (.slice A3 s.1.length k3) (.slice A4 m.length k4)
                       clear n0 n1 m0 m1 c0 c1 f0 f1
                       obtain ⟨n0, n1, m0, m1⟩ := box_read hn7
                       obtain ⟨c0, c1, f0, f1⟩ := hb1.read
                       clear hb1 hb2 hb7 hxa hn7)
                    | (have hb1 := HB1.out.ext (by omega) hE3.out
                       have hb2 := HB2.out.ext (by omega) hE3.out
                       have HRD := Lib.hid (show RDo w b l q (k + 1) (((w3.setCell ⟨w.heap.size, 0, none⟩ (.slice A3 s.1.length k3)).setCell ⟨w.heap.size, 1, none⟩ (.slice A4 m.length k4)).alloc (.cells #[.slice A3 s.1.length k3, .slice A4 m.length k4] 26)) from
                         RDo.ext ⟨_, A3, k3, A4, k4, HT.out, hb1.store _ _, hb2.grown (by omega) (grown_store2 _ w.heap.size _ _) (by omega), H3.out.store2 (flat_svs _) hb1 _ _, H4.out.store2 (flat_wvs _) hb1 _ _, (HX.out.trans hE3.out).store2 (Nat.le_refl _) _ _, by simp [World.setCell]; omega⟩ ((Ext.refl _).alloc _))
                       clear hb1 hb2)
                  go_wp2
                  go_roundw
                  case rel => exact ⟨k + 1, by omega, by go_num, HRD.out⟩
                  case measure => simp [intOf]; omega
    · have HD := Lib.hid (show doS b l q = (s, p.length) by
        have hkl : k = p.length := by omega
        have hql : q.length = p.length := by omega
        have := HS.out
        rw [hkl, ← hql, List.take_length] at this
        rw [← hql]
        exact doS_all q b l s this)
      go_wp2
      clear r0 r1 g0 g1
      obtain ⟨r0, r1, _, _⟩ := HBS.out.read
      refine bodyPost_ret (v := .tuple #[.agg #[.slice A1 s.1.length k1, .slice A2 s.2.length k2], .int .i64 (p.length : Int)]) (by simp [results, Tryz.results36, go_sem, r0, r1]) rfl ?_
      exact FIN.out p.length HD.out
end Go.Proofs.YtnlkakbpcdfgfaaGreat
