/- The walks of both New. Format and Many of package commit. Follows of package commit, and all four calls. Same of the reference of layers 6 and 12, of states without volumes and tasks. CommitFormats, over what package commit answers. -/
import Derived.Test.YtnlkakbpcdfgfaaGreatK14
import Derived.Test.YtnlkakbpcdfgfaaGreatK09
import Derived.Test.YtnlkakbpcdfgfaaGreatK02
import Derived.Test.YtnlkakbpcdfgfaaGreatK26
import Derived.Test.YtnlkakbpcdfgfaaGreatK25
import Derived.BigQuiet
namespace Go.Proofs.YtnlkakbpcdfgfaaGreat
set_option maxRecDepth 20000
open Go.RowKit

theorem rep_any (w : World) : Calls Tryz.prog 29 #[.string (ByteArray.mk #[0]), .int .i64 40] w fun e w' => e = .returned (.string zb) ∧ Ext w w' := by
  have h := Tryz.strings_Repeat (ByteArray.mk #[0]) 40 w (by omega) (by decide)
  refine h.mono ?_
  rintro e w' ⟨rfl, hx⟩
  exact ⟨rfl, hx⟩

def newCells (n k : Nat) : List Value := (List.replicate k zb).map sv ++ List.replicate (n - k) (.string (ByteArray.mk #[]))
theorem newCells_set (n k : Nat) (h : k < n) : (newCells n k).set k (sv zb) = newCells n (k + 1) := by
  unfold newCells
  rw [List.set_append_right _ _ (by simp)]
  simp only [List.length_map, List.length_replicate, Nat.sub_self]
  rw [show n - k = (n - (k + 1)) + 1 by omega, List.replicate_succ, List.set_cons_zero, List.replicate_succ']
  simp

set_option maxHeartbeats 2000000 in
set_option maxRecDepth 20000 in
theorem newD_any (n : Int) (w : World) :
    Calls Tryz.prog 14 #[.int .i64 n] w fun e w' => ∃ v, e = .returned (.tuple #[v, .int .i64 (newE n)]) ∧ IsDisk w' v (newB n) [] ∧ Ext w w' := by
  have hb0 := Box2.new w (.slice none 0 0) (.slice none 0 0) 26
  have HB0 := Lib.hid hb0
  have HX := Lib.hid ((Ext.refl w).alloc (.cells #[.slice none 0 0, .slice none 0 0] 26))
  obtain ⟨w1, hw1⟩ : ∃ w1, w1 = w.alloc (.cells #[.slice none 0 0, .slice none 0 0] 26) := ⟨_, rfl⟩
  have hs1 : w1.heap.size = w.heap.size + 1 := by rw [hw1]; simp
  rw [← hw1] at HB0 HX
  by_cases h1 : 1 ≤ n
  · by_cases h2 : n ≤ 4000
    · have HNB := Lib.hid (show newB n = List.replicate n.toNat zb by unfold newB; rw [if_pos ⟨h1, h2⟩])
      have HNE := Lib.hid (show newE n = 0 by unfold newE; rw [if_pos ⟨h1, h2⟩])
      obtain ⟨n, rfl⟩ := Int.eq_ofNat_of_zero_le (show 0 ≤ n by omega)
      rw [Int.toNat_natCast] at HNB
      obtain ⟨i0, hi, hz0, hz1, hz2⟩ := info_parts infoS
      have HI := Lib.hid hi
      have HZ0 := Lib.hid hz0
      have HZ1 := Lib.hid hz1
      have HZ2 := Lib.hid hz2
      clear hi hz0 hz1 hz2 hb0
      have HW1 := Lib.hid hw1
      clear hw1
      go_enter Tryz.func14, Tryz.ntmps14
      go_wp2_with (at_make; refine stop_here ?_)
      refine stop_on ?_
      rw [← HW1.out]
      refine wpList_make_full _ rfl _ _ 23 rfl w1.heap.size 9 i0 (.string (ByteArray.mk #[])) 1 Tryz.underlying23 HI.out HZ0.out HZ1.out _ _ _ _ n rfl rfl rfl rfl (by rw [HZ2.out]; omega) (by unfold maxLen; omega) (Nat.le_refl _) ?_
      intro w2 hown hgrow
      have ec : (madeCells (Value.string (ByteArray.mk #[])).cells (n * 1)).toList = newCells n 0 := by
        rw [Nat.mul_one]; exact toList_madeCells_one _ _
      rw [ec] at hown
      have HX12 := Lib.hid (show Ext w1 w2 from Below.grown (Ext.refl _) hgrow (Nat.le_refl _) (by intro k h; cases h))
      rw [hs1] at hown ⊢
      have HO := Lib.hid hown
      clear hown hgrow ec
      go_wp2
      go_loopw [17] (fun i wr => ∃ k : Nat, k ≤ n ∧ i = .int .i64 k ∧ wr.ownsRow (w.heap.size + 1) 9 1 (.slice (some ⟨w.heap.size + 1, 0, none⟩) n n) n (newCells n k) ∧ Ext w1 wr) (fun i _ => n - (intOf i).toNat)
      case atStart => exact ⟨0, Nat.zero_le _, rfl, HO.out, HX12.out⟩
      case round =>
        obtain ⟨k, hk, rfl, ho, hx⟩ := hrel
        have hsz := hx.size
        by_cases hlt : k < n
        · have HO := Lib.hid ho
          have HXr := Lib.hid hx
          have hki : (k : Int) < (n : Int) := by omega
          clear ho hx
          go_wp2_with (go_at_call 29; refine stop_here ?_)
          refine stop_on ?_
          refine (rep_any _).mono ?_
          rintro e w3 ⟨rfl, hx3⟩
          have ho3 := own_ext HO.out hx3
          have hf := ho3.frozenAt k
          obtain ⟨u, hu⟩ : ∃ u, w3.cell? ⟨w.heap.size + 1, k, none⟩ = some u := by
            rw [ho3.cellAt k (by omega)]
            have hl := ho3.1
            exact ⟨_, List.getElem?_eq_getElem (by omega)⟩
          have hst := ho3.stored k (sv zb)
          rw [newCells_set n k hlt] at hst
          have HST := Lib.hid hst
          have HX3 := Lib.hid ((HXr.out.trans hx3).row' hst.2 (by omega))
          clear ho3 hst hx3
          go_wp2
          go_roundw
          case rel => exact ⟨k + 1, by omega, by go_num, HST.out.1, HX3.out⟩
          case measure => simp [intOf]; omega
        · obtain rfl : k = n := by omega
          have hb2 := HB0.out.ext (by omega) hx
          have hown : wr.ownsRow (w.heap.size + 1) 9 1 (.slice (some ⟨w.heap.size + 1, 0, none⟩) k k) k ((List.replicate k zb).map sv) := by
            unfold newCells at ho
            rw [Nat.sub_self, List.replicate_zero, List.append_nil] at ho
            exact ho
          have HBS := Lib.hid (hb2.store (.slice (some ⟨w.heap.size + 1, 0, none⟩) k k) (.slice none 0 0))
          have HOE := Lib.hid (own_store2 hown (k := w.heap.size) (by omega) (.slice (some ⟨w.heap.size + 1, 0, none⟩) k k) (.slice none 0 0))
          have HXE := Lib.hid ((HX.out.trans hx).store2 (k := w.heap.size) (Nat.le_refl _) (.slice (some ⟨w.heap.size + 1, 0, none⟩) k k) (.slice none 0 0))
          obtain ⟨r0, r1, f0, f1⟩ := hb2.read
          clear hb2 ho hx hown
          go_wp2
          clear r0 r1 f0 f1
          obtain ⟨r0, r1, _, _⟩ := HBS.out.read
          refine bodyPost_ret (v := .tuple #[.agg #[.slice (some ⟨w.heap.size + 1, 0, none⟩) k k, .slice none 0 0], .int .i64 0]) (by simp [results, Tryz.results14, go_sem, r0, r1]) rfl ?_
          rw [HNB.out, HNE.out]
          exact ⟨_, rfl, ⟨_, _, _, _, by rw [List.length_replicate]; rfl, by rw [List.length_replicate]; exact own_sl1 HOE.out, Sl.nil _⟩, HXE.out⟩
    · have HNB := Lib.hid (show newB n = [] by unfold newB; rw [if_neg (by omega)])
      have HNE := Lib.hid (show newE n = 1 by unfold newE; rw [if_neg (by omega)])
      have HW1 := Lib.hid hw1
      clear hw1 hb0
      have HBS := Lib.hid (HB0.out.store (.slice none 0 0) (.slice none 0 0))
      have HXE := Lib.hid (HX.out.store2 (k := w.heap.size) (Nat.le_refl _) (.slice none 0 0) (.slice none 0 0))
      go_enter Tryz.func14, Tryz.ntmps14
      go_wp2
      rw [← HW1.out]
      obtain ⟨r0, r1, _, _⟩ := HB0.out.read
      refine bodyPost_ret (v := .tuple #[.agg #[.slice none 0 0, .slice none 0 0], .int .i64 1]) (by simp [results, Tryz.results14, go_sem, r0, r1]) rfl ?_
      rw [HNB.out, HNE.out]
      exact ⟨_, rfl, ⟨_, _, _, _, rfl, Sl.nil _, Sl.nil _⟩, HX.out⟩
  · have HNB := Lib.hid (show newB n = [] by unfold newB; rw [if_neg (by omega)])
    have HNE := Lib.hid (show newE n = 1 by unfold newE; rw [if_neg (by omega)])
    have HW1 := Lib.hid hw1
    clear hw1 hb0
    go_enter Tryz.func14, Tryz.ntmps14
    go_wp2
    rw [← HW1.out]
    obtain ⟨r0, r1, _, _⟩ := HB0.out.read
    refine bodyPost_ret (v := .tuple #[.agg #[.slice none 0 0, .slice none 0 0], .int .i64 1]) (by simp [results, Tryz.results14, go_sem, r0, r1]) rfl ?_
    rw [HNB.out, HNE.out]
    exact ⟨_, rfl, ⟨_, _, _, _, rfl, Sl.nil _, Sl.nil _⟩, HX.out⟩

end Go.Proofs.YtnlkakbpcdfgfaaGreat
namespace Go.Proofs.YtnlkakbpcdfgfaaGreat
set_option maxRecDepth 20000
open Go.RowKit
attribute [local go_sem ↓] Go.wp_at_zero Go.wp_at_succ
attribute [local go_sem] run_store_func

theorem cmFirst_two (g : Nat) (e f : Int) (w : World) (h : w.cell? ⟨g, 0, none⟩ = some (.int .i64 e)) (h' : w.cell? ⟨g, 1, none⟩ = some (.int .i64 f)) :
    Calls Tryz.prog 17 #[.slice (some ⟨g, 0, none⟩) 2 2] w fun r w' => r = .returned (.int .i64 (if e = 0 then f else e)) ∧ w = w' := by
  by_cases he : e = 0
  · subst he
    rw [if_pos rfl]
    by_cases hf : f = 0
    · subst hf
      go_enter Tryz.func17, Tryz.ntmps17
      go_wp2
      go_loop [7] (fun v => ∃ k : Nat, k ≤ 2 ∧ v = .int .i64 k) (fun v => 2 - (intOf v).toNat)
      case atStart => exact ⟨0, by omega, rfl⟩
      case round =>
        obtain ⟨k, hk, rfl⟩ := hrel
        rcases (show k = 0 ∨ k = 1 ∨ k = 2 by omega) with rfl | rfl | rfl
        · go_wp2
          go_round
          case rel => exact ⟨1, by omega, rfl⟩
          case measure => simp [intOf]
        · go_wp2
          go_round
          case rel => exact ⟨2, by omega, rfl⟩
          case measure => simp [intOf]
        · go_wp2
          go_ret
          exact ⟨rfl, rfl⟩
    · have d0 : (f != 0) = true := by simpa using hf
      go_enter Tryz.func17, Tryz.ntmps17
      go_wp2
      go_loop [7] (fun v => ∃ k : Nat, k ≤ 1 ∧ v = .int .i64 k) (fun v => 2 - (intOf v).toNat)
      case atStart => exact ⟨0, by omega, rfl⟩
      case round =>
        obtain ⟨k, hk, rfl⟩ := hrel
        rcases (show k = 0 ∨ k = 1 by omega) with rfl | rfl
        · go_wp2
          go_round
          case rel => exact ⟨1, by omega, rfl⟩
          case measure => simp [intOf]
        · go_wp2
          go_ret
          exact ⟨rfl, rfl⟩
  · rw [if_neg he]
    have d0 : (e != 0) = true := by simpa using he
    go_enter Tryz.func17, Tryz.ntmps17
    go_wp2
    go_loop [7] (fun v => v = .int .i64 0) (fun _ => 0)
    case atStart => rfl
    case round =>
      obtain rfl := hrel
      go_wp2
      go_ret
      exact ⟨rfl, rfl⟩
set_option maxRecDepth 100000 in
set_option maxHeartbeats 3200000 in
theorem cmMany_new (A A' R : Option Addr) (b : List ByteArray) (PW : List Wr) (n q c c' next keep gen : Nat) (w : World) (hb : b.length ≤ 4000) (hn : cellsP b.length = n) (h1 : 1 ≤ n) (hk : keep ≤ n) (hx1 : 1 ≤ next) (hx : next ≤ 2147483647) (hg : gen < 2147483647) (hPW : planW b [] n keep next gen = PW)
    (hA : Sl w A b.length c (b.map sv)) (hA' : Sl w A' 0 c' []) (hR : HcSl w R n q (List.replicate n HC.none)) :
    Calls Tryz.prog 11 #[.agg #[.slice A b.length c, .slice A' 0 c'], .agg #[.slice R n q, .int .i64 keep, .slice none 0 0, .slice none 0 0, .int .i64 next, .int .i64 gen]] w fun e w' => e = .returned (.tuple #[.int .i64 PW.length, .int .i64 0]) ∧ Ext w w' := by
  have RP := Lib.hid (fun w' (hy : Ext w w') => cmPlanned_new A A' R b PW PW.length n q c c' next keep gen w' hb hn h1 hk hx1 hx hg hPW rfl (hA.ext hy) (hA'.ext hy) (hR.ext hy))
  obtain ⟨W1, hW1⟩ : ∃ W, (w.alloc (.cells #[.slice A b.length c, .slice A' 0 c'] 26)).alloc (.cells #[.slice R n q, .int .i64 keep, .slice none 0 0, .slice none 0 0, .int .i64 next, .int .i64 gen] 33) = W := ⟨_, rfl⟩
  obtain ⟨hxw, hr⟩ := disk_state hW1
  obtain ⟨p0, p1, s0, s1, s2, s3, s4, s5⟩ := hr _ (Ext.refl _)
  have HX := Lib.hid hxw
  have HW1 := Lib.hid hW1
  generalize PW.length = pn at *
  clear hW1 hxw hr hR hA hA' hPW hn hx1 hx hb h1 hk
  go_enter Tryz.func11, Tryz.ntmps11
  go_wp2_with (go_at_call 26; refine stop_here ?_)
  refine stop_on ?_
  rw [HW1.out]
  refine (RP.out _ HX.out).mono ?_
  rintro e w2 ⟨kd, kl, P, cp, rfl, _, _, _, _, hx2⟩
  have hyb := Bx.new w2 #[.int .i64 0, .nilFunc] 64
  obtain ⟨y0, y1, y2⟩ := hyb.read2
  obtain ⟨g0, g1⟩ := hyb.free2
  have q0 := (Bx.new w2 #[.int .i64 pn, .func (.func 41) #[] #[.pointer (some ⟨kd, 0, none⟩), .pointer (some ⟨kl, 0, none⟩)]] 64).at 0 _ rfl
  have X2 := Lib.hid ((HX.out.trans hx2).alloc (.cells #[.int .i64 pn, .func (.func 41) #[] #[.pointer (some ⟨kd, 0, none⟩), .pointer (some ⟨kl, 0, none⟩)]] 64))
  clear hx2 hyb
  go_wp2_with fail
  go_ret2
  exact ⟨rfl, X2.out⟩
set_option maxRecDepth 100000 in
set_option maxHeartbeats 1600000 in
theorem cmFormat_any (blocks keep : Int) (w : World) (hb : blocks ≤ 200) : Calls Tryz.prog 5 #[.int .i64 blocks, .int .i64 keep] w (FmtAns (fmtS blocks keep) w) := by
  obtain ⟨W1, hW1⟩ : ∃ W, (w.alloc (.cells #[.slice none 0 0, .slice none 0 0] 26)).alloc (.cells #[.slice none 0 0, .int .i64 0, .slice none 0 0, .slice none 0 0, .int .i64 0, .int .i64 0] 33) = W := ⟨_, rfl⟩
  obtain ⟨hxw, _, hb0, hb1⟩ := bts2 hW1
  have HB1 := Lib.hid hb0.bx
  have HB2 := Lib.hid hb1.bx
  have HX := Lib.hid hxw
  have HW1 := Lib.hid hW1
  have RN := Lib.hid (fun w' => newD_any blocks w')
  have RC := Lib.hid (fun w' => planCells_int blocks w')
  have RS := Lib.hid (fun w' => stateNew_any (cellsP blocks.toNat : Nat) keep w')
  clear hW1 hxw hb0 hb1
  by_cases hok : fmtOk blocks keep
  · obtain ⟨hbk, hno⟩ := hok
    obtain ⟨m, rfl⟩ := Int.eq_ofNat_of_zero_le (show 0 ≤ blocks by omega)
    obtain ⟨kp, rfl⟩ := Int.eq_ofNat_of_zero_le (show 0 ≤ keep from hno.2.1)
    rw [Int.toNat_natCast] at hno RC RS
    have hbl : (newB (m : Int)).length = m := by unfold newB; rw [if_pos hbk]; simp
    rw [show newE (m : Int) = 0 by unfold newE; rw [if_pos hbk]] at RN
    rw [show newHE (cellsP m : Nat) kp = 0 by unfold newHE; rw [if_pos hno], show newH (cellsP m : Nat) kp = ⟨List.replicate (cellsP m) HC.none, kp⟩ by unfold newH; rw [if_pos hno, Int.toNat_natCast]] at RS
    simp only [List.length_replicate] at RS
    have hF : fmtS (m : Int) (kp : Int) = ⟨(doS (newB (m : Int)) [] (planW (newB (m : Int)) [] (cellsP m) kp 1 0)).1.1, (doS (newB (m : Int)) [] (planW (newB (m : Int)) [] (cellsP m) kp 1 0)).1.2, cellsP m, kp, 1, if (doS (newB (m : Int)) [] (planW (newB (m : Int)) [] (cellsP m) kp 1 0)).2 < (planW (newB (m : Int)) [] (cellsP m) kp 1 0).length then 0 else 1, if (doS (newB (m : Int)) [] (planW (newB (m : Int)) [] (cellsP m) kp 1 0)).2 < (planW (newB (m : Int)) [] (cellsP m) kp 1 0).length then 8 else 0⟩ := by
      unfold fmtS; rw [if_pos ⟨hbk, by rw [Int.toNat_natCast]; exact hno⟩]; unfold fmtR fmtP; simp only [Int.toNat_natCast]
    obtain ⟨PW, hPW⟩ : ∃ PW, planW (newB (m : Int)) [] (cellsP m) kp 1 0 = PW := ⟨_, rfl⟩
    have hpl : PW.length ≤ 300000 := by
      have h1 := planW_le (newB (m : Int)) [] (cellsP m) kp 1 0
      have h2 := (cells_facts m).1
      rw [hPW] at h1; omega
    rw [hPW] at hF
    have RD := Lib.hid (fun A A' R q c c' w' h1 h2 h3 => cmDo_new A A' R (newB (m : Int)) PW (cellsP m) q c c' 1 kp 0 1 (-1) w' (by rw [hbl]; omega) (by rw [hbl]) (by have := hno.1.1; omega) (by have := hno.2.2; omega) (by omega) (by omega) (by omega) rfl hPW hpl h1 h2 h3)
    rw [planLen_all, List.take_length] at RD
    obtain ⟨GE, hGE⟩ : ∃ x : Int, (if (doS (newB (m : Int)) [] PW).2 < PW.length then ((0 : Nat) : Int) else ((1 : Nat) : Int)) = x := ⟨_, rfl⟩
    obtain ⟨EE, hEE⟩ : ∃ x : Int, (if (doS (newB (m : Int)) [] PW).2 < PW.length then (8 : Int) else 0) = x := ⟨_, rfl⟩
    rw [hGE, hEE] at RD
    have HF := Lib.hid (show fmtS (m : Int) (kp : Int) = ⟨(doS (newB (m : Int)) [] PW).1.1, (doS (newB (m : Int)) [] PW).1.2, cellsP m, kp, 1, GE, EE⟩ from by rw [← hGE, ← hEE]; exact hF)
    generalize fmtS (m : Int) (kp : Int) = F at *
    generalize doS (newB (m : Int)) [] PW = rr at *
    clear hGE hEE
    have hn45 : cellsP m ≤ 2000 := (cells_facts m).1
    clear hF hPW hpl hbl hno hbk hb
    generalize newB (m : Int) = B at *
    generalize cellsP m = n at *
    go_enter Tryz.func5, Tryz.ntmps5
    go_wp2_with (go_at_call 14; refine stop_here ?_)
    refine stop_on ?_
    rw [HW1.out]
    refine (RN.out _).mono ?_
    rintro e w2 ⟨v, rfl, ⟨D1, d1, D2, d2, rfl, hd1, hd2⟩, hx2⟩
    simp only [List.length_nil] at hd2 ⊢
    have X2 := Lib.hid hx2
    obtain ⟨w3, hw3⟩ : ∃ W, w2.alloc (.cells #[.slice D1 B.length d1, .slice D2 0 d2] 26) = W := ⟨_, rfl⟩
    obtain ⟨hx3, hz3, b7⟩ := bts1 hw3
    have HB7 := Lib.hid b7.bx
    have HD1 := Lib.hid (hd1.ext hx3)
    have HD2 := Lib.hid (hd2.ext hx3)
    have X3 := Lib.hid (hx2.trans hx3)
    have HZ3 := Lib.hid (show w2.heap.size < w3.heap.size from by omega)
    clear hd1 hd2 hx2 hx3 hz3 b7
    go_wp2_with (first
      | (go_at_call 16; refine stop_here ?_))
    refine stop_on ?_
    try rw [hw3]
    clear hw3
    refine (RC.out _).mono ?_
    rintro e w4 ⟨rfl, hx4⟩
    have X4 := Lib.hid hx4
    clear hx4
    go_wp2_with (go_at_call 15; refine stop_here ?_)
    refine stop_on ?_
    refine (RS.out _).mono ?_
    rintro e w5 ⟨S, d, rfl, hs, hx5⟩
    have X5 := Lib.hid (X4.out.trans hx5)
    obtain ⟨w6, hw6⟩ : ∃ W, w5.alloc (.cells #[.slice S n d, .int .i64 kp, .slice none 0 0, .slice none 0 0, .int .i64 1, .int .i64 0] 33) = W := ⟨_, rfl⟩
    obtain ⟨hx6, hz6, b9⟩ := bts1 hw6
    have HB9 := Lib.hid b9.bx
    have HS6 := Lib.hid (hs.ext hx6)
    have X6 := Lib.hid (X5.out.trans hx6)
    have y0 := (Bx.new w6 #[.int .i64 0, .int .i64 0] 34).at 0 _ rfl
    have y1 := (Bx.new w6 #[.int .i64 0, .int .i64 0] 34).at 1 _ rfl
    have HF2 := Lib.hid (cmFirst_two w6.heap.size 0 0 _ y0 y1)
    rw [if_pos rfl, hz6] at HF2
    have HW6 := Lib.hid hw6
    clear hs hx5 hx6 hz6 b9 y0 y1 hw6
    simp only [Int.sub_zero]
    have hyb := Bx.new w5 #[.slice none 0 0, .int .i64 0, .slice none 0 0, .slice none 0 0, .int .i64 0, .int .i64 0] 33
    obtain ⟨z0, z1, z2, z3, z4, z5⟩ := st_at6 hyb
    obtain ⟨f0, f1, f2, f3, f4, f5⟩ := st_free6 hyb
    have zl := hyb.lt
    clear hyb
    go_wp2_with (go_at_call 17; refine stop_here ?_)
    refine stop_on ?_
    rw [HW6.out]
    refine HF2.out.mono ?_
    rintro e w7 ⟨rfl, rfl⟩
    have X7 := Lib.hid (show Ext w6 (w6.alloc (.cells #[.int .i64 0, .int .i64 0] 34)) from (Ext.refl w6).alloc _)
    obtain ⟨w7, hw7⟩ : ∃ W, w6.alloc (.cells #[.int .i64 0, .int .i64 0] 34) = W := ⟨_, rfl⟩
    rw [hw7] at X7 ⊢
    have b7 := HB7.out.ext (X6.out.trans X7.out)
    obtain ⟨p0, p1, pl⟩ := b7.read2
    obtain ⟨s0, s1, s2, s3, s4, s5⟩ := st_at6 (HB9.out.ext X7.out)
    clear z0 z1 z2 z3 z4 z5 f0 f1 f2 f3 f4 f5 zl b7 hw7
    go_wp2_with (go_at_call 12; refine stop_here ?_)
    refine stop_on ?_
    refine (RD.out D1 D2 S d d1 d2 w7 (HD1.out.ext (X6.out.trans X7.out)) (HD2.out.ext (X6.out.trans X7.out)) (HS6.out.ext X7.out)).mono ?_
    rintro e w8 ⟨Dv, S8, d8, rfl, ⟨E1, e1, E2, e2, rfl, ha, hb⟩, hs8, hx8⟩
    have X8 := Lib.hid (X3.out.trans ((X6.out.trans X7.out).trans hx8))
    have HA := Lib.hid ha
    have HB := Lib.hid hb
    have HS8 := Lib.hid hs8
    have C1 := Lib.hid (HB1.out.ext X8.out)
    have C2 := Lib.hid (HB2.out.ext X8.out)
    clear p0 p1 pl s0 s1 s2 s3 s4 s5 ha hb hs8 hx8
    obtain ⟨y0, y1, z2⟩ := C1.out.read2
    obtain ⟨g0, g1⟩ := C1.out.free2
    obtain ⟨f0, f1, f2, f3, f4, f5⟩ := st_free6 C2.out
    obtain ⟨q0, q1, q2, q3, q4, q5⟩ := st_at6 C2.out
    have z3 := C2.out.lt
    go_wp2_with fail
    obtain ⟨_, rfl, F1, F2, F3, F4, F5⟩ := fmt_fin (w := w) (k := w.heap.size) (n := n) (d := d8) (Nat.le_refl _) C1.out C2.out HA.out HB.out HS8.out (HX.out.trans X8.out) (.slice S8 n d8) (.int .i64 kp) (.slice none 0 0) (.slice none 0 0) (.int .i64 1) (.int .i64 GE)
    refine ret26_cell (k := w.heap.size) (j := w.heap.size + 1) F1 F2 (v := .tuple #[.agg #[.slice E1 rr.1.1.length e1, .slice E2 rr.1.2.length e2], .agg #[.slice S8 n d8, .int .i64 kp, .slice none 0 0, .slice none 0 0, .int .i64 1, .int .i64 GE], .int .i64 EE]) (fun r0 r1 r2 r3 r4 r5 r6 r7 => by simp [results, Tryz.results5, go_sem, r0, r1, r2, r3, r4, r5, r6, r7]) rfl ?_
    rw [HF.out]
    unfold FmtAns
    exact ⟨_, S8, d8, rfl, F3, F4, F5⟩
  · have HF := Lib.hid (show fmtS blocks keep = ⟨[], [], 0, 0, 0, 0, 1⟩ from by unfold fmtS; exact if_neg hok)
    have hEE : (if newE blocks = 0 then newHE (cellsP blocks.toNat : Nat) keep else newE blocks) = 1 := by
      unfold newE newHE
      by_cases h1 : 1 ≤ blocks ∧ blocks ≤ 4000
      · rw [if_pos h1, if_pos rfl, if_neg (fun h => hok ⟨h1, h⟩)]
      · rw [if_neg h1, if_neg (by omega)]
    generalize fmtS blocks keep = F at *
    generalize newE blocks = e1 at *
    generalize newHE (cellsP blocks.toNat : Nat) keep = e2 at *
    generalize newH (cellsP blocks.toNat : Nat) keep = H at *
    generalize newB blocks = B at *
    generalize cellsP blocks.toNat = n at *
    obtain ⟨hcs, hkp⟩ := H
    simp only at RS
    clear hok hb
    go_enter Tryz.func5, Tryz.ntmps5
    go_wp2_with (go_at_call 14; refine stop_here ?_)
    refine stop_on ?_
    rw [HW1.out]
    refine (RN.out _).mono ?_
    rintro e w2 ⟨v, rfl, ⟨D1, d1, D2, d2, rfl, hd1, hd2⟩, hx2⟩
    simp only [List.length_nil] at hd2 ⊢
    obtain ⟨w3, hw3⟩ : ∃ W, w2.alloc (.cells #[.slice D1 B.length d1, .slice D2 0 d2] 26) = W := ⟨_, rfl⟩
    obtain ⟨hx3, hz3, b7⟩ := bts1 hw3
    have X3 := Lib.hid (hx2.trans hx3)
    clear hd1 hd2 hx2 hx3 hz3 b7
    go_wp2_with (first
      | (go_at_call 16; refine stop_here ?_))
    refine stop_on ?_
    try rw [hw3]
    clear hw3
    refine (RC.out _).mono ?_
    rintro e w4 ⟨rfl, hx4⟩
    have X4 := Lib.hid (X3.out.trans hx4)
    clear hx4
    go_wp2_with (go_at_call 15; refine stop_here ?_)
    refine stop_on ?_
    refine (RS.out _).mono ?_
    rintro e w5 ⟨S, d, rfl, hs, hx5⟩
    have X5 := Lib.hid (X4.out.trans hx5)
    obtain ⟨n5, hn5⟩ : ∃ x : Int, 1 - e2 = x := ⟨_, rfl⟩
    rw [hn5]
    obtain ⟨hl5, hhl⟩ : ∃ x, hcs.length = x := ⟨_, rfl⟩
    rw [hhl]
    clear hn5 hhl
    obtain ⟨w6, hw6⟩ : ∃ W, w5.alloc (.cells #[.slice S hl5 d, .int .i64 hkp, .slice none 0 0, .slice none 0 0, .int .i64 n5, .int .i64 0] 33) = W := ⟨_, rfl⟩
    obtain ⟨hx6, hz6, b9⟩ := bts1 hw6
    have y0 := (Bx.new w6 #[.int .i64 e1, .int .i64 e2] 34).at 0 _ rfl
    have y1 := (Bx.new w6 #[.int .i64 e1, .int .i64 e2] 34).at 1 _ rfl
    have HF2 := Lib.hid (cmFirst_two w6.heap.size e1 e2 _ y0 y1)
    rw [hEE, hz6] at HF2
    have HW6 := Lib.hid hw6
    have X7 := Lib.hid (show Ext W1 (w6.alloc (.cells #[.int .i64 e1, .int .i64 e2] 34)) from (X5.out.trans hx6).alloc _)
    clear hs hx5 hx6 hz6 b9 y0 y1 hw6 hEE
    have hyb := Bx.new w5 #[.slice none 0 0, .int .i64 0, .slice none 0 0, .slice none 0 0, .int .i64 0, .int .i64 0] 33
    obtain ⟨z0, z1, z2, z3, z4, z5⟩ := st_at6 hyb
    obtain ⟨f0, f1, f2, f3, f4, f5⟩ := st_free6 hyb
    have zl := hyb.lt
    clear hyb
    go_wp2_with (go_at_call 17; refine stop_here ?_)
    refine stop_on ?_
    rw [HW6.out]
    refine HF2.out.mono ?_
    rintro e w7 ⟨rfl, rfl⟩
    obtain ⟨w7, hw7⟩ : ∃ W, w6.alloc (.cells #[.int .i64 e1, .int .i64 e2] 34) = W := ⟨_, rfl⟩
    rw [hw7] at X7 ⊢
    have C1 := Lib.hid (HB1.out.ext X7.out)
    have C2 := Lib.hid (HB2.out.ext X7.out)
    clear z0 z1 z2 z3 z4 z5 f0 f1 f2 f3 f4 f5 zl hw7
    obtain ⟨y0, y1, z2⟩ := C1.out.read2
    obtain ⟨g0, g1⟩ := C1.out.free2
    obtain ⟨f0, f1, f2, f3, f4, f5⟩ := st_free6 C2.out
    obtain ⟨q0, q1, q2, q3, q4, q5⟩ := st_at6 C2.out
    have z3 := C2.out.lt
    go_wp2_with fail
    obtain ⟨_, rfl, F1, F2, F3, F4, F5⟩ := fmt_fin (w := w) (k := w.heap.size) (n := 0) (d := 0) (b := []) (l := []) (D1 := none) (D2 := none) (S := none) (d1 := 0) (d2 := 0) (Nat.le_refl _) C1.out C2.out (Sl.nil _) (Sl.nil _) ⟨rfl, [], Sl.nil _, HcAt.nil _⟩ (HX.out.trans X7.out) (.slice none 0 0) (.int .i64 0) (.slice none 0 0) (.slice none 0 0) (.int .i64 0) (.int .i64 0)
    refine ret26_cell (k := w.heap.size) (j := w.heap.size + 1) F1 F2 (v := .tuple #[.agg #[.slice none 0 0, .slice none 0 0], .agg #[.slice none 0 0, .int .i64 0, .slice none 0 0, .slice none 0 0, .int .i64 0, .int .i64 0], .int .i64 1]) (fun r0 r1 r2 r3 r4 r5 r6 r7 => by simp [results, Tryz.results5, go_sem, r0, r1, r2, r3, r4, r5, r6, r7]) rfl ?_
    rw [HF.out]
    unfold FmtAns
    exact ⟨_, none, 0, rfl, F3, F4, F5⟩
end Go.Proofs.YtnlkakbpcdfgfaaGreat
namespace Go.Proofs.YtnlkakbpcdfgfaaGreat
set_option maxRecDepth 20000
open Go.RowKit
attribute [local go_sem ↓] Go.wp_at_zero Go.wp_at_succ

theorem cmFollows_cell (A A' : Option Addr) (c c' : Nat) (w : World) :
    Calls Tryz.prog 28 #[.agg #[.int .i64 0, .bool false, .bool false, .slice A 0 c], .agg #[.int .i64 0, .bool false, .bool false, .slice A' 0 c']] w fun e w' => e = .returned (.bool true) ∧ Ext w w' := by
  obtain ⟨W, hW⟩ : ∃ W, (w.alloc (.cells #[.int .i64 0, .bool false, .bool false, .slice A 0 c] 72)).alloc (.cells #[.int .i64 0, .bool false, .bool false, .slice A' 0 c'] 72) = W := ⟨_, rfl⟩
  obtain ⟨hx, _, b0, b1⟩ := bts2 hW
  have HX := Lib.hid hx
  have HW := Lib.hid hW
  have p0 := b0.bx.at 0 _ rfl
  have p1 := b0.bx.at 1 _ rfl
  have q0 := b1.bx.at 0 _ rfl
  have q1 := b1.bx.at 1 _ rfl
  clear b0 b1 hx
  go_enter Tryz.func28, Tryz.ntmps28
  go_wp2
  go_ret
  exact ⟨rfl, HX.out⟩
set_option maxRecDepth 100000 in
set_option maxHeartbeats 3200000 in
theorem cmFollows_new (R S : Option Addr) (n q d : Nat) (keep next gen keep' next' gen' : Int) (w : World) (hn : n ≤ 2000) (hR : HcSl w R n q (List.replicate n HC.none)) (hS : HcSl w S n d (List.replicate n HC.none)) :
    Calls Tryz.prog 13 #[.agg #[.slice R n q, .int .i64 keep, .slice none 0 0, .slice none 0 0, .int .i64 next, .int .i64 gen], .agg #[.slice S n d, .int .i64 keep', .slice none 0 0, .slice none 0 0, .int .i64 next', .int .i64 gen']] w fun e w' => e = .returned (.bool true) ∧ Ext w w' := by
  obtain ⟨W, hW⟩ : ∃ W, (w.alloc (.cells #[.slice R n q, .int .i64 keep, .slice none 0 0, .slice none 0 0, .int .i64 next, .int .i64 gen] 33)).alloc (.cells #[.slice S n d, .int .i64 keep', .slice none 0 0, .slice none 0 0, .int .i64 next', .int .i64 gen'] 33) = W := ⟨_, rfl⟩
  obtain ⟨hx, _, b0, b1⟩ := bts2 hW
  have HX := Lib.hid hx
  have HB1 := Lib.hid b1.bx
  have HR := Lib.hid (hR.ext hx)
  have HS := Lib.hid (hS.ext hx)
  have HF := Lib.hid (fun A A' c c' w' => cmFollows_cell A A' c c' w')
  have p0 := b0.bx.at 0 _ rfl
  have q0 := b1.bx.at 0 _ rfl
  have d0 : ((n : Int) != (n : Int)) = false := by simp
  clear b0 b1 hx hR hS
  go_enter Tryz.func13, Tryz.ntmps13
  go_wp2
  clear p0 q0
  go_loopw [20] (fun v wr => ∃ k : Nat, k ≤ n ∧ v = .int .i64 k ∧ Ext W wr) (fun v _ => n - (intOf v).toNat)
  case atStart => exact ⟨0, Nat.zero_le _, rfl, Ext.refl _⟩
  case round =>
    obtain ⟨k, hk, rfl, hy⟩ := hrel
    have HY := Lib.hid hy
    rcases Nat.lt_or_ge k n with hlt | hge
    · have hkl : k < (List.replicate n HC.none).length := by rw [List.length_replicate]; exact hlt
      obtain ⟨b5, o5, rfl, _, A5, c5, r0, r1, r2, r3, _⟩ := (HR.out.ext hy).cell hkl
      rw [List.getElem_replicate] at r0 r1 r2 r3
      replace r0 : wr.cell? ⟨b5, o5 + k * 4, none⟩ = some (.int .i64 0) := r0
      replace r1 : wr.cell? ⟨b5, o5 + k * 4 + 1, none⟩ = some (.bool false) := r1
      replace r2 : wr.cell? ⟨b5, o5 + k * 4 + 2, none⟩ = some (.bool false) := r2
      replace r3 : wr.cell? ⟨b5, o5 + k * 4 + 3, none⟩ = some (.slice A5 0 c5) := r3
      have hki : (k : Int) < (n : Int) := by omega
      have b6 := Bx.new wr #[.int .i64 0, .bool false, .bool false, .slice A5 0 c5] 72
      obtain ⟨w2, hw2⟩ : ∃ X, wr.alloc (.cells #[.int .i64 0, .bool false, .bool false, .slice A5 0 c5] 72) = X := ⟨_, rfl⟩
      have E2 := Lib.hid (show Ext wr w2 from by rw [← hw2]; exact (Ext.refl _).alloc _)
      rw [hw2] at b6
      have HW2 := Lib.hid hw2
      have b7 := b6.ext (Ext.refl w2).drew
      have y0 := b7.at 0 _ rfl
      have y1 := b7.at 1 _ rfl
      have y2 := b7.at 2 _ rfl
      have y3 := b7.at 3 _ rfl
      have z0 := (HB1.out.ext ((hy.trans E2.out).trans (Ext.refl w2).drew)).at 0 _ rfl
      obtain ⟨b8, o8, rfl, _, A8, c8, u0, u1, u2, u3, _⟩ := (HS.out.ext ((hy.trans E2.out).trans (Ext.refl w2).drew)).cell hkl
      rw [List.getElem_replicate] at u0 u1 u2 u3
      replace u0 : w2.drew.cell? ⟨b8, o8 + k * 4, none⟩ = some (.int .i64 0) := u0
      replace u1 : w2.drew.cell? ⟨b8, o8 + k * 4 + 1, none⟩ = some (.bool false) := u1
      replace u2 : w2.drew.cell? ⟨b8, o8 + k * 4 + 2, none⟩ = some (.bool false) := u2
      replace u3 : w2.drew.cell? ⟨b8, o8 + k * 4 + 3, none⟩ = some (.slice A8 0 c8) := u3
      have HE := Lib.hid ((hy.trans E2.out).trans (Ext.refl w2).drew)
      clear hy b6 b7 hw2
      go_wp2_with fail
      rw [HW2.out]
      go_region_with (go_at_call 28; refine (HF.out _ _ _ _ _).mono ?_; rintro e w5 ⟨rfl, hx5⟩; have X5 := Lib.hid (Below.trans HE.out (hx5.mono HE.out.size)); clear hx5)
      all_goals
        go_wp2_with fail
        go_roundw
        case rel => exact ⟨k + 1, by omega, by go_num, X5.out⟩
        case measure => simp [intOf]; omega
    · obtain rfl : n = k := by omega
      clear hge
      go_wp2_with fail
      go_ret
      exact ⟨rfl, HX.out.trans HY.out⟩
/-- Package commit's four calls, on new states. -/
theorem cmC : CmC := { fmt := cmFormat_any, many := cmMany_new, does := cmDo_new, follows := cmFollows_new }
theorem cmOk : CmOk := cmOk_of cmC
end Go.Proofs.YtnlkakbpcdfgfaaGreat
namespace Go.Proofs.YtnlkakbpcdfgfaaGreat
set_option maxRecDepth 20000
open Go.RowKit
attribute [local go_sem ↓] Go.wp_at_zero Go.wp_at_succ

set_option maxHeartbeats 800000 in
theorem ref12Vols_nil (w : World) : Calls Tryz.prog 22 #[.slice none 0 0, .slice none 0 0] w fun e w' => e = .returned (.bool true) ∧ Ext w w' := by
  go_enter Tryz.func22, Tryz.ntmps22
  go_wp2
  go_loopw [5] (fun i wr => i = .int .i64 0 ∧ Ext w wr) (fun _ _ => 0)
  case atStart => exact ⟨rfl, Ext.refl _⟩
  case round =>
    obtain ⟨rfl, hx⟩ := hrel
    have HX := Lib.hid hx
    clear hx
    go_wp2
    go_ret
    exact ⟨rfl, HX.out⟩
set_option maxHeartbeats 800000 in
theorem ref06Same_nil (w : World) : Calls Tryz.prog 23 #[.slice none 0 0, .slice none 0 0] w fun e w' => e = .returned (.bool true) ∧ Ext w w' := by
  go_enter Tryz.func23, Tryz.ntmps23
  go_wp2
  go_loopw [5] (fun i wr => i = .int .i64 0 ∧ Ext w wr) (fun _ _ => 0)
  case atStart => exact ⟨rfl, Ext.refl _⟩
  case round =>
    obtain ⟨rfl, hx⟩ := hrel
    have HX := Lib.hid hx
    clear hx
    go_wp2
    go_ret
    exact ⟨rfl, HX.out⟩
theorem sameH_self (h : Hp) : sameH h h = true := by unfold sameH; simp
set_option maxRecDepth 100000 in
set_option maxHeartbeats 1600000 in
theorem ref12Same_new (R S : Option Addr) (n q q' : Nat) (keep next gen : Int) (w : World) (hR : HcSl w R n q (List.replicate n HC.none)) (hS : HcSl w S n q' (List.replicate n HC.none)) :
    Calls Tryz.prog 8 #[.agg #[.slice R n q, .int .i64 keep, .slice none 0 0, .slice none 0 0, .int .i64 next, .int .i64 gen], .agg #[.slice S n q', .int .i64 keep, .slice none 0 0, .slice none 0 0, .int .i64 next, .int .i64 gen]] w fun e w' => e = .returned (.bool true) ∧ Ext w w' := by
  have hb1 := (Bx.new w #[.slice R n q, .int .i64 keep, .slice none 0 0, .slice none 0 0, .int .i64 next, .int .i64 gen] 33).ext ((Ext.refl _).alloc (.cells #[.slice S n q', .int .i64 keep, .slice none 0 0, .slice none 0 0, .int .i64 next, .int .i64 gen] 33))
  have hb2 := Bx.new (w.alloc (.cells #[.slice R n q, .int .i64 keep, .slice none 0 0, .slice none 0 0, .int .i64 next, .int .i64 gen] 33)) #[.slice S n q', .int .i64 keep, .slice none 0 0, .slice none 0 0, .int .i64 next, .int .i64 gen] 33
  rw [World.size_alloc] at hb2
  have hx := ((Ext.refl w).alloc (.cells #[.slice R n q, .int .i64 keep, .slice none 0 0, .slice none 0 0, .int .i64 next, .int .i64 gen] 33)).alloc (.cells #[.slice S n q', .int .i64 keep, .slice none 0 0, .slice none 0 0, .int .i64 next, .int .i64 gen] 33)
  generalize hW : ((w.alloc _).alloc _) = W1 at hb1 hb2 hx
  have HB1 := Lib.hid hb1
  have HB2 := Lib.hid hb2
  have HX := Lib.hid hx
  have RH := Lib.hid (fun w' (hy : Ext W1 w') => ref05Same_any R S (List.replicate n HC.none) (List.replicate n HC.none) n n q q' keep keep w' ((hR.ext hx).ext hy) ((hS.ext hx).ext hy))
  rw [sameH_self] at RH
  have RV := Lib.hid (fun w' => ref12Vols_nil w')
  have RL := Lib.hid (fun w' => ref06Same_nil w')
  obtain ⟨s0, s1, s2, s3, s4, s5⟩ := st_at6 hb1
  obtain ⟨t0, t1, t2, t3, t4, t5⟩ := st_at6 hb2
  clear hb1 hb2 hx hR hS
  have HX1 := Lib.hid (Ext.refl W1)
  go_enter Tryz.func8, Tryz.ntmps8
  go_wp2_with (first
    | (go_at_call 21
       with_reducible refine (RH.out _ HX1.out).mono ?_
       rintro e w2 ⟨rfl, hx⟩
       have Y2 := Lib.hid (HX1.out.trans hx)
       clear hx s0 s1 s2 s3 s4 s5 t0 t1 t2 t3 t4 t5
       obtain ⟨s0, s1, s2, s3, s4, s5⟩ := st_at6 (HB1.out.ext Y2.out)
       obtain ⟨t0, t1, t2, t3, t4, t5⟩ := st_at6 (HB2.out.ext Y2.out))
    | (go_at_call 22
       with_reducible refine (RV.out _).mono ?_
       rintro e w3 ⟨rfl, hx⟩
       have Y3 := Lib.hid (Y2.out.trans hx)
       clear hx s0 s1 s2 s3 s4 s5 t0 t1 t2 t3 t4 t5
       obtain ⟨s0, s1, s2, s3, s4, s5⟩ := st_at6 (HB1.out.ext Y3.out)
       obtain ⟨t0, t1, t2, t3, t4, t5⟩ := st_at6 (HB2.out.ext Y3.out))
    | (go_at_call 23
       with_reducible refine (RL.out _).mono ?_
       rintro e w4 ⟨rfl, hx⟩
       have Y4 := Lib.hid (Y3.out.trans hx)
       clear hx s0 s1 s2 s3 s4 s5 t0 t1 t2 t3 t4 t5
       obtain ⟨s0, s1, s2, s3, s4, s5⟩ := st_at6 (HB1.out.ext Y4.out)
       obtain ⟨t0, t1, t2, t3, t4, t5⟩ := st_at6 (HB2.out.ext Y4.out)))
  go_ret
  exact ⟨rfl, HX.out.trans Y4.out⟩
end Go.Proofs.YtnlkakbpcdfgfaaGreat
namespace Go.Proofs.YtnlkakbpcdfgfaaGreat
set_option maxRecDepth 20000
open Go.RowKit
attribute [local go_sem ↓] Go.wp_at_zero Go.wp_at_succ

theorem cm_sameD (b : List ByteArray) (l : List Wr) : sameD b l b l = true := by
  unfold sameD sameB sameW; simp
set_option maxRecDepth 100000 in
set_option maxHeartbeats 1600000 in
theorem cformats_any (G : CmOk) (blocks keep : Int) (w : World) :
    Calls Tryz.prog 3 #[.int .i64 blocks, .int .i64 keep] w fun e w' => e = .returned (.bool true) ∧ Ext w w' := by
  by_cases h1 : 200 < blocks
  · have d1 : decide ((200 : Int) < blocks) = true := decide_eq_true h1
    go_enter Tryz.func3, Tryz.ntmps3
    go_wp2_with (go_at_call 4; refine (G.shown _).mono ?_; rintro e w2 ⟨rfl, hx⟩; have HX := Lib.hid hx; clear hx)
    go_ret
    exact ⟨rfl, HX.out⟩
  have d1 : decide ((200 : Int) < blocks) = false := decide_eq_false h1
  have HFR := Lib.hid (fun h => fmt_right (blocks := blocks) (keep := keep) h)
  have GF := Lib.hid (fun w' => G.fmt blocks keep w' (by omega))
  have RF := Lib.hid (fun w' => ref15Format_any blocks keep w')
  have HN := Lib.hid (show (fmtS blocks keep).n ≤ 2000 from by
    unfold fmtS; split
    · exact (cells_facts _).1
    · exact Nat.zero_le _)
  have hbl : blocks ≤ 200 := by omega
  clear h1
  generalize fmtS blocks keep = F at *
  obtain ⟨fb, fl, fn, fk, fx, fg, fe⟩ := F
  simp only at HFR HN
  have RR := Lib.hid (fun (A A' : Option Addr) (c c' : Nat) (w' : World) (h1 : Sl w' A fb.length c (fb.map sv)) (h2 : Sl w' A' fl.length c' (wvs fl)) => rightR_any A A' fb fl c c' w' h1.len h2.len h1.cells h2.cells)
  have RS := Lib.hid (fun (A A' B B' : Option Addr) (c c' d d' : Nat) (w' : World) (h1 : Sl w' A fb.length c (fb.map sv)) (h2 : Sl w' A' fl.length c' (wvs fl)) (h3 : Sl w' B fb.length d (fb.map sv)) (h4 : Sl w' B' fl.length d' (wvs fl)) => sameR_any A A' B B' fb fb fl fl c c' d d' w' h1.len h3.len h2.len h4.len h1.cells h3.cells h2.cells h4.cells)
  rw [cm_sameD] at RS
  have RT := Lib.hid (fun (R S : Option Addr) (q q' : Nat) (w' : World) (h1 : HcSl w' R fn q (List.replicate fn HC.none)) (h2 : HcSl w' S fn q' (List.replicate fn HC.none)) => ref12Same_new R S fn q q' fk fx fg w' h1 h2)
  have hfe : fe = 0 ∨ ((fe != 0) = true ∧ fe ≠ 0) := by
    rcases Decidable.em (fe = 0) with h | h
    · exact .inl h
    · exact .inr ⟨by simpa using h, h⟩
  go_enter Tryz.func3, Tryz.ntmps3
  go_wp2_with (first
    | (go_at_call 4; refine (G.shown _).mono ?_; rintro e w2 ⟨rfl, hx⟩; have HX := Lib.hid hx; clear hx)
    | (go_at_call 5
       with_reducible refine (GF.out _).mono ?_
       rintro e w3 ⟨D, S, d, rfl, ⟨A, c, A', c', rfl, ha, ha'⟩, hs, hx⟩
       simp only at ha ha' hs
       have X3 := Lib.hid (HX.out.trans hx)
       have HA := Lib.hid ha
       have HA' := Lib.hid ha'
       have HS := Lib.hid hs
       have B0 := Lib.hid ((Bx.new w3 #[.slice A fb.length c, .slice A' fl.length c'] 26).ext ((Ext.refl _).alloc (.cells #[.slice S fn d, .int .i64 fk, .slice none 0 0, .slice none 0 0, .int .i64 fx, .int .i64 fg] 33)))
       have B1 := Lib.hid (World.size_alloc w3 (.cells #[.slice A fb.length c, .slice A' fl.length c'] 26) ▸ Bx.new (w3.alloc (.cells #[.slice A fb.length c, .slice A' fl.length c'] 26)) #[.slice S fn d, .int .i64 fk, .slice none 0 0, .slice none 0 0, .int .i64 fx, .int .i64 fg] 33)
       have Y3 := Lib.hid (((Ext.refl w3).alloc (.cells #[.slice A fb.length c, .slice A' fl.length c'] 26)).alloc (.cells #[.slice S fn d, .int .i64 fk, .slice none 0 0, .slice none 0 0, .int .i64 fx, .int .i64 fg] 33))
       clear ha ha' hs hx)
    | (go_at_call 6
       with_reducible refine (RF.out _).mono ?_
       rintro e w5 ⟨D, T, t, rfl, ⟨B, q, B', q', rfl, hb, hb'⟩, ht, hx⟩
       simp only at hb hb' ht
       have X5 := Lib.hid (Y3.out.trans hx)
       have HB := Lib.hid hb
       have HB' := Lib.hid hb'
       have HT := Lib.hid ht
       have B2 := Lib.hid (B0.out.ext hx)
       have B3 := Lib.hid (B1.out.ext hx)
       have Y5 := Lib.hid (((Ext.refl w5).alloc (.cells #[.slice B fb.length q, .slice B' fl.length q'] 26)).alloc (.cells #[.slice T fn t, .int .i64 fk, .slice none 0 0, .slice none 0 0, .int .i64 fx, .int .i64 fg] 33))
       have B4 := Lib.hid ((Bx.new w5 #[.slice B fb.length q, .slice B' fl.length q'] 26).ext ((Ext.refl _).alloc (.cells #[.slice T fn t, .int .i64 fk, .slice none 0 0, .slice none 0 0, .int .i64 fx, .int .i64 fg] 33)))
       have B5 := Lib.hid (Bx.new (w5.alloc (.cells #[.slice B fb.length q, .slice B' fl.length q'] 26)) #[.slice T fn t, .int .i64 fk, .slice none 0 0, .slice none 0 0, .int .i64 fx, .int .i64 fg] 33)
       obtain ⟨p0, p1, z2⟩ := B2.out.read2
       obtain ⟨s0, s1, s2, s3, s4, s5⟩ := st_at6 B3.out
       have z3 := B3.out.lt
       clear hb hb' ht hx)
    | (go_at_call 7
       with_reducible refine (RS.out _ _ _ _ _ _ _ _ _ ?_ ?_ ?_ ?_).mono ?_
       exact HA.out.ext (X5.out.trans Y5.out)
       exact HA'.out.ext (X5.out.trans Y5.out)
       exact HB.out.ext Y5.out
       exact HB'.out.ext Y5.out
       rintro e w6 ⟨rfl, hx⟩
       have X6 := Lib.hid (Y5.out.trans hx)
       clear p0 p1 z2 s0 s1 s2 s3 s4 s5 z3
       obtain ⟨s0, s1, s2, s3, s4, s5⟩ := st_at6 (B3.out.ext X6.out)
       have b5 := B5.out.ext hx
       rw [World.size_alloc] at b5
       have B6 := Lib.hid b5
       obtain ⟨t0, t1, t2, t3, t4, t5⟩ := st_at6 B6.out
       clear hx b5)
    | (go_at_call 8
       with_reducible refine (RT.out _ _ _ _ _ ?_ ?_).mono ?_
       exact HS.out.ext (X5.out.trans X6.out)
       exact HT.out.ext X6.out
       rintro e w7 ⟨rfl, hx⟩
       have X7 := Lib.hid (X6.out.trans hx)
       clear s0 s1 s2 s3 s4 s5 t0 t1 t2 t3 t4 t5
       obtain ⟨p0, p1, z2⟩ := (B2.out.ext X7.out).read2
       obtain ⟨s0, s1, s2, s3, s4, s5⟩ := st_at6 (B3.out.ext X7.out)
       clear hx))
  rcases hfe with rfl | ⟨hne, hne2⟩
  · obtain ⟨hr, rfl, hfn, rfl, rfl, hb1⟩ := HFR.out rfl
    obtain ⟨m, rfl⟩ := Int.eq_ofNat_of_zero_le (show 0 ≤ blocks by omega)
    rw [Int.toNat_natCast] at hfn
    have RR := Lib.hid (fun A A' c c' w' h1 h2 => (show Calls Tryz.prog 9 #[.agg #[.slice A fb.length c, .slice A' 0 c']] w' fun e w'_1 => e = .returned (.bool true) ∧ Ext w' w'_1 from by have := RR.out A A' c c' w' h1 h2; rw [hr] at this; exact this))
    have RC := Lib.hid (fun w' => ref14Cells_any m w' (by omega))
    rw [← hfn] at RC
    clear hr hfn HFR GF RF RS RT
    have d2 : ((fn : Int) == (fn : Int)) = true := by simp
    have HK := Lib.hid (fun w' (hy : Ext w7 w') => (show w'.cell? ⟨w3.heap.size + 1, 0, none⟩ = some (.slice S fn d) ∧ w'.cell? ⟨w3.heap.size + 1, 1, none⟩ = some (.int .i64 fk) ∧ w'.cell? ⟨w3.heap.size + 1, 2, none⟩ = some (.slice none 0 0) ∧ w'.cell? ⟨w3.heap.size + 1, 3, none⟩ = some (.slice none 0 0) ∧ w'.cell? ⟨w3.heap.size + 1, 4, none⟩ = some (.int .i64 1) ∧ w'.cell? ⟨w3.heap.size + 1, 5, none⟩ = some (.int .i64 1) ∧ w'.cell? ⟨w3.heap.size, 0, none⟩ = some (.slice A fb.length c) ∧ w'.cell? ⟨w3.heap.size, 1, none⟩ = some (.slice A' 0 c') from bx2_held (B3.out.ext (X7.out.trans hy)) (B2.out.ext (X7.out.trans hy))))
    have HD := Lib.hid (HA.out.ext (X5.out.trans X7.out))
    have HD' := Lib.hid (HA'.out.ext (X5.out.trans X7.out))
    have HXX := Lib.hid (X3.out.trans (X5.out.trans X7.out))
    go_region_held3 (fun w' => w'.cell? ⟨w3.heap.size + 1, 0, none⟩ = some (.slice S fn d) ∧ w'.cell? ⟨w3.heap.size + 1, 1, none⟩ = some (.int .i64 fk) ∧ w'.cell? ⟨w3.heap.size + 1, 2, none⟩ = some (.slice none 0 0) ∧ w'.cell? ⟨w3.heap.size + 1, 3, none⟩ = some (.slice none 0 0) ∧ w'.cell? ⟨w3.heap.size + 1, 4, none⟩ = some (.int .i64 1) ∧ w'.cell? ⟨w3.heap.size + 1, 5, none⟩ = some (.int .i64 1) ∧ w'.cell? ⟨w3.heap.size, 0, none⟩ = some (.slice A fb.length c) ∧ w'.cell? ⟨w3.heap.size, 1, none⟩ = some (.slice A' 0 c'))
      (first | (with_reducible exact HK.out _ X8.out) | (with_reducible exact HK.out _ (Ext.refl w7).drew) | (with_reducible exact HK.out _ (Ext.refl w7)))
      (first
        | ((go_at_call 9
            with_reducible refine (RR.out _ _ _ _ _ ?_ ?_).mono ?_
            exact HD.out.ext (Ext.refl _).drew
            exact HD'.out.ext (Ext.refl _).drew
            rintro e w8 ⟨rfl, hx⟩
            have X8 := Lib.hid ((Ext.refl w7).drew.trans hx)
            clear hx))
        | ((go_at_call 10
            with_reducible refine (RC.out _).mono ?_
            rintro e w9 ⟨rfl, rfl⟩)))
    all_goals
      go_wp2_with fail
      go_ret
      exact ⟨rfl, HXX.out.trans X8.out⟩
  · have d3 : (fe == 0) = false := by simpa using hne2
    have HXX := Lib.hid (X3.out.trans (X5.out.trans X7.out))
    clear hne2 HFR GF RF RS RT
    go_quiet (fail)
    go_wp2
    go_ret
    exact ⟨rfl, HXX.out.trans (by first | exact (Ext.refl _).drewN _ | exact (Ext.refl _).drew)⟩
end Go.Proofs.YtnlkakbpcdfgfaaGreat
