/- The walk of DiskTwice. -/
import Derived.Test.YtikdicnpmobidaaDiskN
namespace Go.Proofs.Ytikdicnpmobidaa
open Go.RowKit
attribute [local go_sem ↓] Go.wp_at_zero Go.wp_at_succ

theorem dropN {b : List ByteArray} {k : Nat} {x y : ByteArray} {kb0 kb1 : Bool} (hk : k < b.length) :
    writeL b (kept [((k : Int), x), ((k : Int), y)] [kb0, kb1]) = (if kb1 then b.set k y else if kb0 then b.set k x else b) := by
  cases kb0 <;> cases kb1 <;> simp only [kept, writeL, List.foldl_cons, List.foldl_nil, if_true, if_false, Bool.false_eq_true]
  · rw [write1_at hk rfl]
  · rw [write1_at hk rfl]
  · rw [write1_at hk rfl, write1_at (by simpa using hk) rfl]; simp
theorem str_beq {a b : ByteArray} (h : a = b) : (a.toList == b.toList) = true := by subst h; simp
set_option maxRecDepth 100000 in
set_option maxHeartbeats 8000000 in
theorem twice_any (A A' : Option Addr) (b : List ByteArray) (l : List Wr) (c c' : Nat) (at_ : Int) (xs ys : ByteArray) (kb0 kb1 : Bool) (w : World) (h0 : 0 ≤ at_) (h1 : at_ < 256)
    (hA : Sl w A b.length c (b.map sv)) (hA' : Sl w A' l.length c' (wvs l)) :
    Calls Try.prog 8 #[.agg #[.slice A b.length c, .slice A' l.length c', .int .u8 at_, .string xs, .string ys, .bool kb0, .bool kb1]] w fun e w' => e = .returned (.bool true) ∧ Ext w w' := by
  have A_1 := Lib.hid (hA)
  have B_2 := Lib.hid (hA')
  have X_3 := Lib.hid (Ext.refl w)
  clear hA hA'
  go_enter Try.func8, Try.ntmps8
  go_wp2_with (go_at_call 9; refine stop_here ?_)
  refine stop_on ?_
  generalize hW : (World.alloc (World.alloc (World.alloc w _) _) _) = W4
  obtain ⟨hx, hb0, hb1, hb2⟩ := allocs3 hW
  clear hW
  have A_5 := Lib.hid (A_1.out.ext hx)
  have B_5 := Lib.hid (B_2.out.ext hx)
  have X_5 := Lib.hid (X_3.out.ext hx)
  clear A_1 B_2 X_3
  have wi_6 := Lib.hid hb0
  have d_7 := Lib.hid hb1
  have ke_8 := Lib.hid hb2
  clear hx hb0 hb1 hb2
  refine (shown_any _).mono ?_
  rintro e w9 ⟨rfl, hx⟩
  have A_10 := Lib.hid (A_5.out.ext hx)
  have B_10 := Lib.hid (B_5.out.ext hx)
  have X_10 := Lib.hid (X_5.out.ext hx)
  have wi_10 := Lib.hid (wi_6.out.ext hx)
  have d_10 := Lib.hid (d_7.out.ext hx)
  have ke_10 := Lib.hid (ke_8.out.ext hx)
  clear A_5 B_5 X_5 wi_6 d_7 ke_8
  clear hx
  have qwi0 := wi_10.out.at 0 _ rfl
  have qwi1 := wi_10.out.at 1 _ rfl
  have qwi2 := wi_10.out.at 2 _ rfl
  have qwi3 := wi_10.out.at 3 _ rfl
  have qwi4 := wi_10.out.at 4 _ rfl
  have qwi5 := wi_10.out.at 5 _ rfl
  have qwi6 := wi_10.out.at 6 _ rfl
  have zwi := wi_10.out.lt
  have qd0 : w9.cell? ⟨w.heap.size + 1, 0, none⟩ = some (.slice A b.length c) := d_10.out.at 0 _ rfl
  have qd1 : w9.cell? ⟨w.heap.size + 1, 1, none⟩ = some (.slice A' l.length c') := d_10.out.at 1 _ rfl
  have zd := d_10.out.lt
  have qke0 : w9.cell? ⟨w.heap.size + 1 + 1, 0, none⟩ = some (.bool kb0) := ke_10.out.at 0 _ rfl
  have qke1 : w9.cell? ⟨w.heap.size + 1 + 1, 1, none⟩ = some (.bool kb1) := ke_10.out.at 1 _ rfl
  have zke := ke_10.out.lt
  have hza := A_10.out.len
  have hzb := B_10.out.len
  cases hs : smallS b l 60
  · have Hs := Lib.hid hs
    clear hs
    go_wp2_with (go_at_call 10; refine stop_here ?_)
    refine stop_on ?_
    clear qwi0 qwi1 qwi2 qwi3 qwi4 qwi5 qwi6 zwi qd0 qd1 zd qke0 qke1 zke
    have hc := small_any A A' b l c c' 60 _ hza hzb A_10.out.cells B_10.out.cells
    rw [Hs.out] at hc
    refine hc.mono ?_
    clear hc
    rintro e w11 ⟨rfl, hx⟩
    have A_12 := Lib.hid (A_10.out.ext hx)
    have B_12 := Lib.hid (B_10.out.ext hx)
    have X_12 := Lib.hid (X_10.out.ext hx)
    have wi_12 := Lib.hid (wi_10.out.ext hx)
    have d_12 := Lib.hid (d_10.out.ext hx)
    have ke_12 := Lib.hid (ke_10.out.ext hx)
    clear A_10 B_10 X_10 wi_10 d_10 ke_10
    clear hx
    have qd0 : w11.cell? ⟨w.heap.size + 1, 0, none⟩ = some (.slice A b.length c) := d_12.out.at 0 _ rfl
    have qd1 : w11.cell? ⟨w.heap.size + 1, 1, none⟩ = some (.slice A' l.length c') := d_12.out.at 1 _ rfl
    have zd := d_12.out.lt
    have qke0 : w11.cell? ⟨w.heap.size + 1 + 1, 0, none⟩ = some (.bool kb0) := ke_12.out.at 0 _ rfl
    have qke1 : w11.cell? ⟨w.heap.size + 1 + 1, 1, none⟩ = some (.bool kb1) := ke_12.out.at 1 _ rfl
    have zke := ke_12.out.lt
    go_wp2
    go_ret
    exact ⟨rfl, X_12.out⟩
  have ⟨lb, ll⟩ := small_len' hs
  have Hs := Lib.hid hs
  clear hs
  go_wp2_with (go_at_call 10; refine stop_here ?_)
  refine stop_on ?_
  clear qwi0 qwi1 qwi2 qwi3 qwi4 qwi5 qwi6 zwi qd0 qd1 zd qke0 qke1 zke
  have hc := small_any A A' b l c c' 60 _ hza hzb A_10.out.cells B_10.out.cells
  rw [Hs.out] at hc
  refine hc.mono ?_
  clear hc
  rintro e w13 ⟨rfl, hx⟩
  have A_14 := Lib.hid (A_10.out.ext hx)
  have B_14 := Lib.hid (B_10.out.ext hx)
  have X_14 := Lib.hid (X_10.out.ext hx)
  have wi_14 := Lib.hid (wi_10.out.ext hx)
  have d_14 := Lib.hid (d_10.out.ext hx)
  have ke_14 := Lib.hid (ke_10.out.ext hx)
  clear A_10 B_10 X_10 wi_10 d_10 ke_10
  clear hx
  have qd0 : w13.cell? ⟨w.heap.size + 1, 0, none⟩ = some (.slice A b.length c) := d_14.out.at 0 _ rfl
  have qd1 : w13.cell? ⟨w.heap.size + 1, 1, none⟩ = some (.slice A' l.length c') := d_14.out.at 1 _ rfl
  have zd := d_14.out.lt
  have qke0 : w13.cell? ⟨w.heap.size + 1 + 1, 0, none⟩ = some (.bool kb0) := ke_14.out.at 0 _ rfl
  have qke1 : w13.cell? ⟨w.heap.size + 1 + 1, 1, none⟩ = some (.bool kb1) := ke_14.out.at 1 _ rfl
  have zke := ke_14.out.lt
  cases hr : rightS b l
  · have Hr := Lib.hid hr
    clear hr
    go_wp2_with (go_at_call 13; refine stop_here ?_)
    refine stop_on ?_
    clear qd0 qd1 zd qke0 qke1 zke
    have hc := rightR_any A A' b l c c' _ hza hzb A_14.out.cells B_14.out.cells
    rw [Hr.out] at hc
    refine hc.mono ?_
    clear hc
    rintro e w15 ⟨rfl, hx⟩
    have A_16 := Lib.hid (A_14.out.ext hx)
    have B_16 := Lib.hid (B_14.out.ext hx)
    have X_16 := Lib.hid (X_14.out.ext hx)
    have wi_16 := Lib.hid (wi_14.out.ext hx)
    have d_16 := Lib.hid (d_14.out.ext hx)
    have ke_16 := Lib.hid (ke_14.out.ext hx)
    clear A_14 B_14 X_14 wi_14 d_14 ke_14
    clear hx
    have qd0 : w15.cell? ⟨w.heap.size + 1, 0, none⟩ = some (.slice A b.length c) := d_16.out.at 0 _ rfl
    have qd1 : w15.cell? ⟨w.heap.size + 1, 1, none⟩ = some (.slice A' l.length c') := d_16.out.at 1 _ rfl
    have zd := d_16.out.lt
    have qke0 : w15.cell? ⟨w.heap.size + 1 + 1, 0, none⟩ = some (.bool kb0) := ke_16.out.at 0 _ rfl
    have qke1 : w15.cell? ⟨w.heap.size + 1 + 1, 1, none⟩ = some (.bool kb1) := ke_16.out.at 1 _ rfl
    have zke := ke_16.out.lt
    go_wp2
    go_ret
    exact ⟨rfl, X_16.out⟩
  have ⟨lb1, hin⟩ := right_facts hr
  have Hr := Lib.hid hr
  have HIN := Lib.hid hin
  clear hr hin
  go_wp2_with (go_at_call 13; refine stop_here ?_)
  refine stop_on ?_
  clear qd0 qd1 zd qke0 qke1 zke
  have hc := rightR_any A A' b l c c' _ hza hzb A_14.out.cells B_14.out.cells
  rw [Hr.out] at hc
  refine hc.mono ?_
  clear hc
  rintro e w17 ⟨rfl, hx⟩
  have A_18 := Lib.hid (A_14.out.ext hx)
  have B_18 := Lib.hid (B_14.out.ext hx)
  have X_18 := Lib.hid (X_14.out.ext hx)
  have wi_18 := Lib.hid (wi_14.out.ext hx)
  have d_18 := Lib.hid (d_14.out.ext hx)
  have ke_18 := Lib.hid (ke_14.out.ext hx)
  clear A_14 B_14 X_14 wi_14 d_14 ke_14
  clear hx
  have qd0 : w17.cell? ⟨w.heap.size + 1, 0, none⟩ = some (.slice A b.length c) := d_18.out.at 0 _ rfl
  have qd1 : w17.cell? ⟨w.heap.size + 1, 1, none⟩ = some (.slice A' l.length c') := d_18.out.at 1 _ rfl
  have zd := d_18.out.lt
  have qke0 : w17.cell? ⟨w.heap.size + 1 + 1, 0, none⟩ = some (.bool kb0) := ke_18.out.at 0 _ rfl
  have qke1 : w17.cell? ⟨w.heap.size + 1 + 1, 1, none⟩ = some (.bool kb1) := ke_18.out.at 1 _ rfl
  have zke := ke_18.out.lt
  rcases Decidable.em ((xs.size : Int) = 40) with hxs | hxs
  rotate_left
  · have exs : ((xs.size : Int) != 40) = true := by simpa using hxs
    go_wp2
    go_ret
    exact ⟨rfl, X_18.out⟩
  have exs : ((xs.size : Int) != 40) = false := by simpa using hxs
  have Hxs := Lib.hid hxs
  clear hxs
  rcases Decidable.em ((ys.size : Int) = 40) with hys | hys
  rotate_left
  · have eys : ((ys.size : Int) != 40) = true := by simpa using hys
    go_wp2
    go_ret
    exact ⟨rfl, X_18.out⟩
  have eys : ((ys.size : Int) != 40) = false := by simpa using hys
  have Hys := Lib.hid hys
  clear hys
  obtain ⟨fb, hfb⟩ : ∃ fb, writeL b l = fb := ⟨_, rfl⟩
  have hn : b.length = fb.length := by rw [← hfb, writeL_length]
  obtain ⟨k, hk⟩ : ∃ k : Nat, at_ % (b.length : Int) = (k : Int) := Int.eq_ofNat_of_zero_le (Int.emod_nonneg _ (by omega))
  have hkn : k < b.length := by have := Int.emod_lt_of_pos at_ (show (0 : Int) < b.length by omega); omega
  have hk0 : (0 : Int) ≤ (k : Int) := by omega
  have hkn' : (k : Int) ≤ (b.length : Int) - 1 := by omega
  have Hx := Lib.hid (show takesS b.length ((k : Int), xs) = true from by unfold takesS; rw [hasS_nat hkn]; simpa using Hxs.out)
  have Hy := Lib.hid (show takesS b.length ((k : Int), ys) = true from by unfold takesS; rw [hasS_nat hkn]; simpa using Hys.out)
  have Hh := Lib.hid (show hasS b.length (k : Int) = true from hasS_nat hkn)
  have HrS := Lib.hid (show readS fb ([] ++ [((k : Int), xs)] ++ [((k : Int), ys)]) (k : Int) = ys from by rw [readS_put _ _ _ _ (by rw [← hn]; exact hasS_nat hkn), if_pos rfl])
  obtain ⟨g1, hg1⟩ : ∃ g1, writeL fb (kept ([] ++ [((k : Int), xs)] ++ [((k : Int), ys)]) [true]) = g1 := ⟨_, rfl⟩
  have Hg1 := Lib.hid hg1
  have Hg2 := Lib.hid (show writeL fb ([] ++ [((k : Int), xs)]) = g1 from hg1)
  obtain ⟨cb, hcb⟩ : ∃ cb, writeL fb (kept ([] ++ [((k : Int), xs)] ++ [((k : Int), ys)]) [kb0, kb1]) = cb := ⟨_, rfl⟩
  have hcn : b.length = cb.length := by rw [← hcb, writeL_length, hn]
  have hgn : b.length = g1.length := by rw [← hg1, writeL_length, hn]
  have hcv : cb = (if kb1 then fb.set k ys else if kb0 then fb.set k xs else fb) := by rw [← hcb]; exact dropN (by omega)
  have hfk : k < fb.length := by omega
  have hck : k < cb.length := by omega
  have hcval : cb[k] = if kb1 then ys else if kb0 then xs else fb[k] := by
    subst hcv
    cases kb1 <;> cases kb0 <;> simp
  have Hcb := Lib.hid hcb
  have Hfb := Lib.hid hfb
  have Hn := Lib.hid hn
  have Hcn := Lib.hid hcn
  have Hgn := Lib.hid hgn
  have Hk := Lib.hid hk
  have Hcval := Lib.hid hcval
  have Hb0 := Lib.hid (show ¬ (b.length : Int) = 0 by omega)
  clear hcb hfb hn hcn hgn hk hcval hg1 hcv
  go_wp2_with (go_at_call 24; refine stop_here ?_)
  refine stop_on ?_
  clear qd0 qd1 zd qke0 qke1 zke
  refine (flushD_n A A' b l b.length l.length c c' fb _ rfl rfl (by omega) (by omega) Hfb.out A_18.out B_18.out).mono ?_
  rintro e w19 ⟨v, rfl, ⟨F, kf, Z, kz, rfl, h1, h2⟩, hx⟩
  have A_20 := Lib.hid (A_18.out.ext hx)
  have B_20 := Lib.hid (B_18.out.ext hx)
  have X_20 := Lib.hid (X_18.out.ext hx)
  have wi_20 := Lib.hid (wi_18.out.ext hx)
  have d_20 := Lib.hid (d_18.out.ext hx)
  have ke_20 := Lib.hid (ke_18.out.ext hx)
  clear A_18 B_18 X_18 wi_18 d_18 ke_18
  have F_21 := Lib.hid h1
  have Z_22 := Lib.hid h2
  clear hx h1 h2
  have qd0 : w19.cell? ⟨w.heap.size + 1, 0, none⟩ = some (.slice A b.length c) := d_20.out.at 0 _ rfl
  have qd1 : w19.cell? ⟨w.heap.size + 1, 1, none⟩ = some (.slice A' l.length c') := d_20.out.at 1 _ rfl
  have zd := d_20.out.lt
  have qke0 : w19.cell? ⟨w.heap.size + 1 + 1, 0, none⟩ = some (.bool kb0) := ke_20.out.at 0 _ rfl
  have qke1 : w19.cell? ⟨w.heap.size + 1 + 1, 1, none⟩ = some (.bool kb1) := ke_20.out.at 1 _ rfl
  have zke := ke_20.out.lt
  obtain ⟨bF, oF, rfl, hF⟩ := F_21.out.strAt hfk
  have HFc := Lib.hid hF
  clear hF
  have Y_23 := Lib.hid (Ext.refl w19)
  go_wp2_with (go_at_call 20; refine stop_here ?_)
  refine stop_on ?_
  clear qd0 qd1 zd qke0 qke1 zke
  generalize hW : (World.alloc w19 _) = W24
  obtain ⟨hx, hb0⟩ := allocs1 hW
  clear hW
  have A_25 := Lib.hid (A_20.out.ext hx)
  have B_25 := Lib.hid (B_20.out.ext hx)
  have X_25 := Lib.hid (X_20.out.ext hx)
  have wi_25 := Lib.hid (wi_20.out.ext hx)
  have d_25 := Lib.hid (d_20.out.ext hx)
  have ke_25 := Lib.hid (ke_20.out.ext hx)
  have F_25 := Lib.hid (F_21.out.ext hx)
  have Z_25 := Lib.hid (Z_22.out.ext hx)
  have Y_25 := Lib.hid (Y_23.out.ext hx)
  clear A_20 B_20 X_20 wi_20 d_20 ke_20 F_21 Z_22 Y_23
  have f_26 := Lib.hid hb0
  clear hx hb0
  simp only [Hk.out]
  refine (putD_n _ Z fb [] b.length 0 kf kz (k : Int) xs _ Hn.out rfl (by omega) (by omega) Hx.out F_25.out Z_25.out).mono ?_
  rintro e w27 ⟨v, rfl, ⟨P, kp, Q, kq, rfl, h1, h2⟩, hx⟩
  have A_28 := Lib.hid (A_25.out.ext hx)
  have B_28 := Lib.hid (B_25.out.ext hx)
  have X_28 := Lib.hid (X_25.out.ext hx)
  have wi_28 := Lib.hid (wi_25.out.ext hx)
  have d_28 := Lib.hid (d_25.out.ext hx)
  have ke_28 := Lib.hid (ke_25.out.ext hx)
  have F_28 := Lib.hid (F_25.out.ext hx)
  have Z_28 := Lib.hid (Z_25.out.ext hx)
  have Y_28 := Lib.hid (Y_25.out.ext hx)
  have f_28 := Lib.hid (f_26.out.ext hx)
  clear A_25 B_25 X_25 wi_25 d_25 ke_25 F_25 Z_25 Y_25 f_26
  have P_29 := Lib.hid h1
  have Q_30 := Lib.hid h2
  clear hx h1 h2
  have qd0 : w27.cell? ⟨w.heap.size + 1, 0, none⟩ = some (.slice A b.length c) := d_28.out.at 0 _ rfl
  have qd1 : w27.cell? ⟨w.heap.size + 1, 1, none⟩ = some (.slice A' l.length c') := d_28.out.at 1 _ rfl
  have zd := d_28.out.lt
  have qke0 : w27.cell? ⟨w.heap.size + 1 + 1, 0, none⟩ = some (.bool kb0) := ke_28.out.at 0 _ rfl
  have qke1 : w27.cell? ⟨w.heap.size + 1 + 1, 1, none⟩ = some (.bool kb1) := ke_28.out.at 1 _ rfl
  have zke := ke_28.out.lt
  have qf0 : w27.cell? ⟨w19.heap.size, 0, none⟩ = some (.slice (some ⟨bF, oF, none⟩) b.length kf) := f_28.out.at 0 _ rfl
  have qf1 : w27.cell? ⟨w19.heap.size, 1, none⟩ = some (.slice Z 0 kz) := f_28.out.at 1 _ rfl
  have zf := f_28.out.lt
  go_wp2_with (go_at_call 20; refine stop_here ?_)
  refine stop_on ?_
  clear qd0 qd1 zd qke0 qke1 zke qf0 qf1 zf
  generalize hW : (World.alloc w27 _) = W31
  obtain ⟨hx, hb0⟩ := allocs1 hW
  clear hW
  have A_32 := Lib.hid (A_28.out.ext hx)
  have B_32 := Lib.hid (B_28.out.ext hx)
  have X_32 := Lib.hid (X_28.out.ext hx)
  have wi_32 := Lib.hid (wi_28.out.ext hx)
  have d_32 := Lib.hid (d_28.out.ext hx)
  have ke_32 := Lib.hid (ke_28.out.ext hx)
  have F_32 := Lib.hid (F_28.out.ext hx)
  have Z_32 := Lib.hid (Z_28.out.ext hx)
  have Y_32 := Lib.hid (Y_28.out.ext hx)
  have f_32 := Lib.hid (f_28.out.ext hx)
  have P_32 := Lib.hid (P_29.out.ext hx)
  have Q_32 := Lib.hid (Q_30.out.ext hx)
  clear A_28 B_28 X_28 wi_28 d_28 ke_28 F_28 Z_28 Y_28 f_28 P_29 Q_30
  have a_33 := Lib.hid hb0
  clear hx hb0
  refine (putD_n P Q fb ([] ++ [((k : Int), xs)]) b.length 1 kp kq (k : Int) ys _ Hn.out rfl (by omega) (by omega) Hy.out P_32.out Q_32.out).mono ?_
  rintro e w34 ⟨v, rfl, ⟨I, ki, J, kj, rfl, h1, h2⟩, hx⟩
  have A_35 := Lib.hid (A_32.out.ext hx)
  have B_35 := Lib.hid (B_32.out.ext hx)
  have X_35 := Lib.hid (X_32.out.ext hx)
  have wi_35 := Lib.hid (wi_32.out.ext hx)
  have d_35 := Lib.hid (d_32.out.ext hx)
  have ke_35 := Lib.hid (ke_32.out.ext hx)
  have F_35 := Lib.hid (F_32.out.ext hx)
  have Z_35 := Lib.hid (Z_32.out.ext hx)
  have Y_35 := Lib.hid (Y_32.out.ext hx)
  have f_35 := Lib.hid (f_32.out.ext hx)
  have P_35 := Lib.hid (P_32.out.ext hx)
  have Q_35 := Lib.hid (Q_32.out.ext hx)
  have a_35 := Lib.hid (a_33.out.ext hx)
  clear A_32 B_32 X_32 wi_32 d_32 ke_32 F_32 Z_32 Y_32 f_32 P_32 Q_32 a_33
  have I_36 := Lib.hid h1
  have J_37 := Lib.hid h2
  clear hx h1 h2
  have qd0 : w34.cell? ⟨w.heap.size + 1, 0, none⟩ = some (.slice A b.length c) := d_35.out.at 0 _ rfl
  have qd1 : w34.cell? ⟨w.heap.size + 1, 1, none⟩ = some (.slice A' l.length c') := d_35.out.at 1 _ rfl
  have zd := d_35.out.lt
  have qke0 : w34.cell? ⟨w.heap.size + 1 + 1, 0, none⟩ = some (.bool kb0) := ke_35.out.at 0 _ rfl
  have qke1 : w34.cell? ⟨w.heap.size + 1 + 1, 1, none⟩ = some (.bool kb1) := ke_35.out.at 1 _ rfl
  have zke := ke_35.out.lt
  have qf0 : w34.cell? ⟨w19.heap.size, 0, none⟩ = some (.slice (some ⟨bF, oF, none⟩) b.length kf) := f_35.out.at 0 _ rfl
  have qf1 : w34.cell? ⟨w19.heap.size, 1, none⟩ = some (.slice Z 0 kz) := f_35.out.at 1 _ rfl
  have zf := f_35.out.lt
  have qa0 : w34.cell? ⟨w27.heap.size, 0, none⟩ = some (.slice P b.length kp) := a_35.out.at 0 _ rfl
  have qa1 : w34.cell? ⟨w27.heap.size, 1, none⟩ = some (.slice Q 1 kq) := a_35.out.at 1 _ rfl
  have za := a_35.out.lt
  go_wp2_with fail
  clear qd0 qd1 zd qke0 qke1 zke qf0 qf1 zf qa0 qa1 za
  generalize hW : (World.alloc w34 _) = W38
  obtain ⟨hx, hb0⟩ := allocs1 hW
  clear hW
  have A_39 := Lib.hid (A_35.out.ext hx)
  have B_39 := Lib.hid (B_35.out.ext hx)
  have X_39 := Lib.hid (X_35.out.ext hx)
  have wi_39 := Lib.hid (wi_35.out.ext hx)
  have d_39 := Lib.hid (d_35.out.ext hx)
  have ke_39 := Lib.hid (ke_35.out.ext hx)
  have F_39 := Lib.hid (F_35.out.ext hx)
  have Z_39 := Lib.hid (Z_35.out.ext hx)
  have Y_39 := Lib.hid (Y_35.out.ext hx)
  have f_39 := Lib.hid (f_35.out.ext hx)
  have P_39 := Lib.hid (P_35.out.ext hx)
  have Q_39 := Lib.hid (Q_35.out.ext hx)
  have a_39 := Lib.hid (a_35.out.ext hx)
  have I_39 := Lib.hid (I_36.out.ext hx)
  have J_39 := Lib.hid (J_37.out.ext hx)
  clear A_35 B_35 X_35 wi_35 d_35 ke_35 F_35 Z_35 Y_35 f_35 P_35 Q_35 a_35 I_36 J_37
  have b_40 := Lib.hid hb0
  clear hx hb0
  have hkeS := ke_39.out.sl 2 (by unfold maxLen; omega)
  have KE_41 := Lib.hid (hkeS)
  clear hkeS
  have qke0 : W38.cell? ⟨w.heap.size + 1 + 1, 0, none⟩ = some (.bool kb0) := ke_39.out.at 0 _ rfl
  have qke1 : W38.cell? ⟨w.heap.size + 1 + 1, 1, none⟩ = some (.bool kb1) := ke_39.out.at 1 _ rfl
  have zke := ke_39.out.lt
  have qb0 : W38.cell? ⟨w34.heap.size, 0, none⟩ = some (.slice I b.length ki) := b_40.out.at 0 _ rfl
  have qb1 : W38.cell? ⟨w34.heap.size, 1, none⟩ = some (.slice J 2 kj) := b_40.out.at 1 _ rfl
  have zb := b_40.out.lt
  have HK42 := Lib.hid (fun w' (hx : Ext W38 w') => (show w'.cell? ⟨w34.heap.size, 0, none⟩ = some (.slice I b.length ki) ∧ w'.cell? ⟨w34.heap.size, 1, none⟩ = some (.slice J 2 kj) ∧ w'.cell? ⟨w.heap.size + 1 + 1, 0, none⟩ = some (.bool kb0) ∧ w'.cell? ⟨w.heap.size + 1 + 1, 1, none⟩ = some (.bool kb1) from ⟨(b_40.out.ext hx).at 0 _ rfl, (b_40.out.ext hx).at 1 _ rfl, (ke_39.out.ext hx).at 0 _ rfl, (ke_39.out.ext hx).at 1 _ rfl⟩))
  have G42 := Lib.hid (fun w' (hx : Ext W38 w') => crashD_n I J _ fb ([] ++ [((k : Int), xs)] ++ [((k : Int), ys)]) [kb0, kb1] b.length 2 2 ki kj 2 cb w' Hn.out rfl rfl (by omega) (by omega) (by omega) Hcb.out (I_39.out.ext hx) (J_39.out.ext hx) (KE_41.out.ext hx))
  go_cut [15] from 78 to 80 (fun c0 wx => ∃ X R kr T kt, c0 = .pointer (some ⟨X, 0, none⟩) ∧ Bx wx X #[.slice R b.length kr, .slice T 0 kt] ∧ Sl wx R b.length kr (cb.map sv) ∧ Sl wx T 0 kt (wvs []) ∧ Ext W38 wx)
  case first =>
    go_region_held3 (fun w' => w'.cell? ⟨w34.heap.size, 0, none⟩ = some (.slice I b.length ki) ∧ w'.cell? ⟨w34.heap.size, 1, none⟩ = some (.slice J 2 kj) ∧ w'.cell? ⟨w.heap.size + 1 + 1, 0, none⟩ = some (.bool kb0) ∧ w'.cell? ⟨w.heap.size + 1 + 1, 1, none⟩ = some (.bool kb1))
      (first | exact HK42.out _ E1.out | exact HK42.out _ (E1.out.alloc _) | exact HK42.out _ (E1.out.store2 (Nat.le_refl _) _ _) | exact HK42.out _ (Ext.refl W38).drew | exact HK42.out _ ((Ext.refl W38).alloc _).drew | exact HK42.out _ (Ext.refl W38))
      ((go_at_call 26
        refine (G42.out _ ?_).mono ?_
        (first | exact (Ext.refl _).drew | exact ((Ext.refl _).alloc _).drew)
        rintro e v1 ⟨v, rfl, ⟨R, kr, T, kt, rfl, h1, h2⟩, hx⟩
        have E1 := Lib.hid (show Ext W38 v1 from by first | exact (Ext.refl W38).drew.trans hx | exact ((Ext.refl W38).alloc _).drew.trans hx)
        have N0 := Lib.hid h1
        have N1 := Lib.hid h2
        (try (have B1 := Lib.hid (show Bx v1 W38.heap.size #[.slice none 0 0, .slice none 0 0] from (Bx.new W38 _ _).ext ((Ext.refl _).drew.trans hx)); have f0 := B1.out.free 0; have f1 := B1.out.free 1; have z1 := B1.out.lt; have c0 : v1.cell? ⟨W38.heap.size, 0, none⟩ = some (.slice none 0 0) := B1.out.at 0 _ rfl; have c1 : v1.cell? ⟨W38.heap.size, 1, none⟩ = some (.slice none 0 0) := B1.out.at 1 _ rfl))
        clear hx h1 h2))
    all_goals
      go_wp2_with fail
      go_meet
      first
        | exact ⟨_, R, kr, T, kt, rfl, Bx.new _ _ _, N0.out.ext ((Ext.refl _).alloc _), N1.out.ext ((Ext.refl _).alloc _), E1.out.alloc _⟩
        | exact ⟨_, R, kr, T, kt, rfl, B1.out.store2 _ _, N0.out.store2 (flat_svs _) B1.out _ _, N1.out.store2 (flat_wvs _) B1.out _ _, E1.out.store2 (Nat.le_refl _) _ _⟩
  case rest =>
    obtain ⟨X42, R, kr, T, kt, rfl, hB, n0, n1, hx⟩ := hcut
    clear qke0 qke1 zke qb0 qb1 zb
    have A_43 := Lib.hid (A_39.out.ext hx)
    have B_43 := Lib.hid (B_39.out.ext hx)
    have X_43 := Lib.hid (X_39.out.ext hx)
    have wi_43 := Lib.hid (wi_39.out.ext hx)
    have d_43 := Lib.hid (d_39.out.ext hx)
    have ke_43 := Lib.hid (ke_39.out.ext hx)
    have F_43 := Lib.hid (F_39.out.ext hx)
    have Z_43 := Lib.hid (Z_39.out.ext hx)
    have Y_43 := Lib.hid (Y_39.out.ext hx)
    have f_43 := Lib.hid (f_39.out.ext hx)
    have P_43 := Lib.hid (P_39.out.ext hx)
    have Q_43 := Lib.hid (Q_39.out.ext hx)
    have a_43 := Lib.hid (a_39.out.ext hx)
    have I_43 := Lib.hid (I_39.out.ext hx)
    have J_43 := Lib.hid (J_39.out.ext hx)
    have b_43 := Lib.hid (b_40.out.ext hx)
    have KE_43 := Lib.hid (KE_41.out.ext hx)
    clear A_39 B_39 X_39 wi_39 d_39 ke_39 F_39 Z_39 Y_39 f_39 P_39 Q_39 a_39 I_39 J_39 b_40 KE_41
    have c_44 := Lib.hid (hB)
    have R_45 := Lib.hid (n0)
    have T_46 := Lib.hid (n1)
    clear hx hB HK42 G42 n0 n1
    have qd0 : wc.cell? ⟨w.heap.size + 1, 0, none⟩ = some (.slice A b.length c) := d_43.out.at 0 _ rfl
    have qd1 : wc.cell? ⟨w.heap.size + 1, 1, none⟩ = some (.slice A' l.length c') := d_43.out.at 1 _ rfl
    have zd := d_43.out.lt
    have qke0 : wc.cell? ⟨w.heap.size + 1 + 1, 0, none⟩ = some (.bool kb0) := ke_43.out.at 0 _ rfl
    have qke1 : wc.cell? ⟨w.heap.size + 1 + 1, 1, none⟩ = some (.bool kb1) := ke_43.out.at 1 _ rfl
    have zke := ke_43.out.lt
    have qf0 : wc.cell? ⟨w19.heap.size, 0, none⟩ = some (.slice (some ⟨bF, oF, none⟩) b.length kf) := f_43.out.at 0 _ rfl
    have qf1 : wc.cell? ⟨w19.heap.size, 1, none⟩ = some (.slice Z 0 kz) := f_43.out.at 1 _ rfl
    have zf := f_43.out.lt
    have qa0 : wc.cell? ⟨w27.heap.size, 0, none⟩ = some (.slice P b.length kp) := a_43.out.at 0 _ rfl
    have qa1 : wc.cell? ⟨w27.heap.size, 1, none⟩ = some (.slice Q 1 kq) := a_43.out.at 1 _ rfl
    have za := a_43.out.lt
    have qb0 : wc.cell? ⟨w34.heap.size, 0, none⟩ = some (.slice I b.length ki) := b_43.out.at 0 _ rfl
    have qb1 : wc.cell? ⟨w34.heap.size, 1, none⟩ = some (.slice J 2 kj) := b_43.out.at 1 _ rfl
    have zb := b_43.out.lt
    have qc0 : wc.cell? ⟨X42, 0, none⟩ = some (.slice R b.length kr) := c_44.out.at 0 _ rfl
    have qc1 : wc.cell? ⟨X42, 1, none⟩ = some (.slice T 0 kt) := c_44.out.at 1 _ rfl
    have zc := c_44.out.lt
    obtain ⟨bR, oR, rfl, hR⟩ := R_45.out.strAt hck
    have HRc := Lib.hid hR
    clear hR
    have V_47 := Lib.hid (Ext.refl wc)
    have qF : wc.cell? ⟨bF, oF + k, none⟩ = some (.string fb[k]) := HFc.out _ Y_43.out
    have hvk := Hcval.out
    generalize fb[k] = fv at *
    generalize cb[k] = cv at *
    rcases Bool.eq_false_or_eq_true kb0 with e0 | e0 <;> rcases Bool.eq_false_or_eq_true kb1 with e1 | e1
    all_goals
      simp only [e0, e1, if_true, if_false, Bool.false_eq_true] at hvk
      have e3 := str_beq hvk
      have Hvk := Lib.hid hvk
      clear hvk
      go_wp2_with (go_at_call 16; refine stop_here ?_)
      refine stop_on ?_
      clear qd0 qd1 zd qke0 qke1 zke qf0 qf1 zf qa0 qa1 za qb0 qb1 zb qc0 qc1 zc
      refine (readD_n I J fb ([] ++ [((k : Int), xs)] ++ [((k : Int), ys)]) b.length 2 ki kj (k : Int) ys _ Hn.out rfl (by omega) (by omega) Hh.out HrS.out I_43.out J_43.out).mono ?_
      rintro e w48 ⟨rfl, hx⟩
      have A_49 := Lib.hid (A_43.out.ext hx)
      have B_49 := Lib.hid (B_43.out.ext hx)
      have X_49 := Lib.hid (X_43.out.ext hx)
      have wi_49 := Lib.hid (wi_43.out.ext hx)
      have d_49 := Lib.hid (d_43.out.ext hx)
      have ke_49 := Lib.hid (ke_43.out.ext hx)
      have F_49 := Lib.hid (F_43.out.ext hx)
      have Z_49 := Lib.hid (Z_43.out.ext hx)
      have Y_49 := Lib.hid (Y_43.out.ext hx)
      have f_49 := Lib.hid (f_43.out.ext hx)
      have P_49 := Lib.hid (P_43.out.ext hx)
      have Q_49 := Lib.hid (Q_43.out.ext hx)
      have a_49 := Lib.hid (a_43.out.ext hx)
      have I_49 := Lib.hid (I_43.out.ext hx)
      have J_49 := Lib.hid (J_43.out.ext hx)
      have b_49 := Lib.hid (b_43.out.ext hx)
      have KE_49 := Lib.hid (KE_43.out.ext hx)
      have c_49 := Lib.hid (c_44.out.ext hx)
      have R_49 := Lib.hid (R_45.out.ext hx)
      have T_49 := Lib.hid (T_46.out.ext hx)
      have V_49 := Lib.hid (V_47.out.ext hx)
      clear A_43 B_43 X_43 wi_43 d_43 ke_43 F_43 Z_43 Y_43 f_43 P_43 Q_43 a_43 I_43 J_43 b_43 KE_43 c_44 R_45 T_46 V_47
      clear hx
      have qd0 : w48.cell? ⟨w.heap.size + 1, 0, none⟩ = some (.slice A b.length c) := d_49.out.at 0 _ rfl
      have qd1 : w48.cell? ⟨w.heap.size + 1, 1, none⟩ = some (.slice A' l.length c') := d_49.out.at 1 _ rfl
      have zd := d_49.out.lt
      have qke0 : w48.cell? ⟨w.heap.size + 1 + 1, 0, none⟩ = some (.bool kb0) := ke_49.out.at 0 _ rfl
      have qke1 : w48.cell? ⟨w.heap.size + 1 + 1, 1, none⟩ = some (.bool kb1) := ke_49.out.at 1 _ rfl
      have zke := ke_49.out.lt
      have qf0 : w48.cell? ⟨w19.heap.size, 0, none⟩ = some (.slice (some ⟨bF, oF, none⟩) b.length kf) := f_49.out.at 0 _ rfl
      have qf1 : w48.cell? ⟨w19.heap.size, 1, none⟩ = some (.slice Z 0 kz) := f_49.out.at 1 _ rfl
      have zf := f_49.out.lt
      have qa0 : w48.cell? ⟨w27.heap.size, 0, none⟩ = some (.slice P b.length kp) := a_49.out.at 0 _ rfl
      have qa1 : w48.cell? ⟨w27.heap.size, 1, none⟩ = some (.slice Q 1 kq) := a_49.out.at 1 _ rfl
      have za := a_49.out.lt
      have qb0 : w48.cell? ⟨w34.heap.size, 0, none⟩ = some (.slice I b.length ki) := b_49.out.at 0 _ rfl
      have qb1 : w48.cell? ⟨w34.heap.size, 1, none⟩ = some (.slice J 2 kj) := b_49.out.at 1 _ rfl
      have zb := b_49.out.lt
      have qc0 : w48.cell? ⟨X42, 0, none⟩ = some (.slice (some ⟨bR, oR, none⟩) b.length kr) := c_49.out.at 0 _ rfl
      have qc1 : w48.cell? ⟨X42, 1, none⟩ = some (.slice T 0 kt) := c_49.out.at 1 _ rfl
      have zc := c_49.out.lt
      go_wp2_with fail
      have E0 := Lib.hid e0
      have E1b := Lib.hid e1
      clear e0 e1 qF
      have HK50 := Lib.hid (fun w' (hx : Ext w48 w') => (show w'.cell? ⟨w19.heap.size, 0, none⟩ = some (.slice (some ⟨bF, oF, none⟩) b.length kf) ∧ w'.cell? ⟨w19.heap.size, 1, none⟩ = some (.slice Z 0 kz) ∧ w'.cell? ⟨w27.heap.size, 0, none⟩ = some (.slice P b.length kp) ∧ w'.cell? ⟨w27.heap.size, 1, none⟩ = some (.slice Q 1 kq) ∧ w'.cell? ⟨w34.heap.size, 0, none⟩ = some (.slice I b.length ki) ∧ w'.cell? ⟨w34.heap.size, 1, none⟩ = some (.slice J 2 kj) ∧ w'.cell? ⟨X42, 0, none⟩ = some (.slice (some ⟨bR, oR, none⟩) b.length kr) ∧ w'.cell? ⟨X42, 1, none⟩ = some (.slice T 0 kt) ∧ w'.cell? ⟨bR, oR + k, none⟩ = some (.string cv) from ⟨(f_49.out.ext hx).at 0 _ rfl, (f_49.out.ext hx).at 1 _ rfl, (a_49.out.ext hx).at 0 _ rfl, (a_49.out.ext hx).at 1 _ rfl, (b_49.out.ext hx).at 0 _ rfl, (b_49.out.ext hx).at 1 _ rfl, (c_49.out.ext hx).at 0 _ rfl, (c_49.out.ext hx).at 1 _ rfl, HRc.out _ (V_49.out.ext hx)⟩))
      have G50_0 := Lib.hid (fun w' (hx : Ext w48 w') => crashD_n I J none fb ([] ++ [((k : Int), xs)] ++ [((k : Int), ys)]) [] b.length 2 0 ki kj 0 fb w' Hn.out rfl rfl (by omega) (by omega) (by omega) rfl (I_49.out.ext hx) (J_49.out.ext hx) (Sl.nil _))
      have G50_3 := Lib.hid (fun w' (hx : Ext w48 w') => flushD_n P Q fb ([] ++ [((k : Int), xs)]) b.length 1 kp kq g1 w' Hn.out rfl (by omega) (by omega) Hg2.out (P_49.out.ext hx) (Q_49.out.ext hx))
      clear qd0 qd1 zd qke0 qke1 zke qf0 qf1 zf qa0 qa1 za qb0 qb1 zb qc0 qc1 zc
      have qf0 : w48.cell? ⟨w19.heap.size, 0, none⟩ = some (.slice (some ⟨bF, oF, none⟩) b.length kf) := f_49.out.at 0 _ rfl
      have qf1 : w48.cell? ⟨w19.heap.size, 1, none⟩ = some (.slice Z 0 kz) := f_49.out.at 1 _ rfl
      have zf := f_49.out.lt
      have qa0 : w48.cell? ⟨w27.heap.size, 0, none⟩ = some (.slice P b.length kp) := a_49.out.at 0 _ rfl
      have qa1 : w48.cell? ⟨w27.heap.size, 1, none⟩ = some (.slice Q 1 kq) := a_49.out.at 1 _ rfl
      have za := a_49.out.lt
      have qb0 : w48.cell? ⟨w34.heap.size, 0, none⟩ = some (.slice I b.length ki) := b_49.out.at 0 _ rfl
      have qb1 : w48.cell? ⟨w34.heap.size, 1, none⟩ = some (.slice J 2 kj) := b_49.out.at 1 _ rfl
      have zb := b_49.out.lt
      have qc0 : w48.cell? ⟨X42, 0, none⟩ = some (.slice (some ⟨bR, oR, none⟩) b.length kr) := c_49.out.at 0 _ rfl
      have qc1 : w48.cell? ⟨X42, 1, none⟩ = some (.slice T 0 kt) := c_49.out.at 1 _ rfl
      have zc := c_49.out.lt
      go_region_held3 (fun w' => w'.cell? ⟨w19.heap.size, 0, none⟩ = some (.slice (some ⟨bF, oF, none⟩) b.length kf) ∧ w'.cell? ⟨w19.heap.size, 1, none⟩ = some (.slice Z 0 kz) ∧ w'.cell? ⟨w27.heap.size, 0, none⟩ = some (.slice P b.length kp) ∧ w'.cell? ⟨w27.heap.size, 1, none⟩ = some (.slice Q 1 kq) ∧ w'.cell? ⟨w34.heap.size, 0, none⟩ = some (.slice I b.length ki) ∧ w'.cell? ⟨w34.heap.size, 1, none⟩ = some (.slice J 2 kj) ∧ w'.cell? ⟨X42, 0, none⟩ = some (.slice (some ⟨bR, oR, none⟩) b.length kr) ∧ w'.cell? ⟨X42, 1, none⟩ = some (.slice T 0 kt) ∧ w'.cell? ⟨bR, oR + k, none⟩ = some (.string cv))
        (first | exact HK50.out _ E50_4.out | exact HK50.out _ E50_3.out | exact HK50.out _ E50_2.out | exact HK50.out _ E50_1.out | exact HK50.out _ (E50_1.out.alloc _) | exact HK50.out _ E50_0.out | exact HK50.out _ (Ext.refl w48).drew | exact HK50.out _ (Ext.refl w48))
        (first
          | ((go_at_call 14
              have hc := same_n D1 D2 G1 G2 g1 [] b.length 0 i1 i2 m1 m2 _ Hgn.out rfl (by omega) (by omega) D1_50_3.out D2_50_3.out G1_50_3.out G2_50_3.out
              with_reducible refine hc.mono ?_
              clear hc
              rintro e v50_4 ⟨rfl, hx⟩
              have E50_4 := Lib.hid (E50_3.out.trans hx)
              have C1_50_4 := Lib.hid (C1_50_3.out.ext hx)
              have C2_50_4 := Lib.hid (C2_50_3.out.ext hx)
              have D1_50_4 := Lib.hid (D1_50_3.out.ext hx)
              have D2_50_4 := Lib.hid (D2_50_3.out.ext hx)
              have G1_50_4 := Lib.hid (G1_50_3.out.ext hx)
              have G2_50_4 := Lib.hid (G2_50_3.out.ext hx)
              clear hx))
          | ((go_at_call 24
              with_reducible refine (G50_3.out _ E50_2.out).mono ?_
              rintro e v50_3 ⟨v, rfl, ⟨G1, m1, G2, m2, rfl, h1, h2⟩, hx⟩
              have E50_3 := Lib.hid (E50_2.out.trans hx)
              have C1_50_3 := Lib.hid (C1_50_2.out.ext hx)
              have C2_50_3 := Lib.hid (C2_50_2.out.ext hx)
              have D1_50_3 := Lib.hid (D1_50_2.out.ext hx)
              have D2_50_3 := Lib.hid (D2_50_2.out.ext hx)
              have G1_50_3 := Lib.hid h1
              have G2_50_3 := Lib.hid h2
              clear hx h1 h2))
          | ((go_at_call 26
              have hc := crashD_n I J _ fb ([] ++ [((k : Int), xs)] ++ [((k : Int), ys)]) [true] b.length 2 1 ki kj 1 g1 _ Hn.out rfl rfl (by omega) (by omega) (by omega) Hg1.out (I_49.out.ext (E50_1.out.alloc _)) (J_49.out.ext (E50_1.out.alloc _)) ((Bx.new _ #[.bool true] 4).sl 1 (by unfold maxLen; omega))
              with_reducible refine hc.mono ?_
              clear hc
              rintro e v50_2 ⟨v, rfl, ⟨D1, i1, D2, i2, rfl, h1, h2⟩, hx⟩
              have E50_2 := Lib.hid ((E50_1.out.alloc _).trans hx)
              have C1_50_2 := Lib.hid (C1_50_1.out.ext (((Ext.refl _).alloc _).trans hx))
              have C2_50_2 := Lib.hid (C2_50_1.out.ext (((Ext.refl _).alloc _).trans hx))
              have D1_50_2 := Lib.hid h1
              have D2_50_2 := Lib.hid h2
              clear hx h1 h2))
          | ((go_at_call 14
              have hc := same_n C1 C2 _ Z fb [] b.length 0 j1 j2 kf kz _ Hn.out rfl (by omega) (by omega) C1_50_0.out C2_50_0.out (F_49.out.ext E50_0.out) (Z_49.out.ext E50_0.out)
              with_reducible refine hc.mono ?_
              clear hc
              rintro e v50_1 ⟨rfl, hx⟩
              have E50_1 := Lib.hid (E50_0.out.trans hx)
              have C1_50_1 := Lib.hid (C1_50_0.out.ext hx)
              have C2_50_1 := Lib.hid (C2_50_0.out.ext hx)
              clear hx))
          | ((go_at_call 26
              with_reducible refine (G50_0.out _ ?_).mono ?_
              (first | exact Ext.refl _ | exact (Ext.refl _).drew)
              rintro e v50_0 ⟨v, rfl, ⟨C1, j1, C2, j2, rfl, h1, h2⟩, hx⟩
              have E50_0 := Lib.hid (show Ext w48 v50_0 from by first | exact hx | exact (Ext.refl w48).drew.trans hx)
              have C1_50_0 := Lib.hid h1
              have C2_50_0 := Lib.hid h2
              clear hx h1 h2)))
      clear qf0 qf1 zf qa0 qa1 za qb0 qb1 zb qc0 qc1 zc
      go_wp2
      go_ret
      exact ⟨rfl, X_49.out.trans E50_4.out⟩
end Go.Proofs.Ytikdicnpmobidaa

