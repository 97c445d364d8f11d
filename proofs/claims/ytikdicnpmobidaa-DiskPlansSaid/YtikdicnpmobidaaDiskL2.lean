/- The walk of DiskDoes. -/
import Derived.Test.YtikdicnpmobidaaDiskW18
import Derived.Test.YtikdicnpmobidaaDiskW17
import Derived.Test.YtikdicnpmobidaaDiskW12
import Derived.Test.YtikdicnpmobidaaDiskW10
namespace Go.Proofs.Ytikdicnpmobidaa
open Go.RowKit
attribute [local go_sem ↓] Go.wp_at_zero Go.wp_at_succ

theorem small_len' {b : List ByteArray} {l : List Wr} {k : Int} (h : smallS b l k = true) : (b.length : Int) ≤ k ∧ (l.length : Int) ≤ k := by
  unfold smallS shortS at h
  simp only [Bool.and_eq_true, decide_eq_true_eq] at h
  exact ⟨h.1, h.2.2.1⟩
theorem right_facts {b : List ByteArray} {l : List Wr} (h : rightS b l = true) : 1 ≤ b.length ∧ l.all (takesS b.length) = true := by
  unfold rightS at h
  simp only [Bool.and_eq_true, decide_eq_true_eq] at h
  exact ⟨by omega, h.2.2.2⟩

theorem short_len {l : List Wr} {k : Int} (h : shortS l k = true) : (l.length : Int) ≤ k := by
  unfold shortS at h
  simp only [Bool.and_eq_true, decide_eq_true_eq] at h
  exact h.1
theorem putW_length (b : List ByteArray) (l : List Wr) (x : Wr) : (putW b l x).length ≤ l.length + 1 := by
  unfold putW; split
  · simp
  · omega
theorem doS_lengths (b : List ByteArray) (l p : List Wr) : (doS b l p).1.1.length = b.length ∧ (doS b l p).1.2.length ≤ l.length + p.length := by
  induction p generalizing b l with
  | nil => simp [doS]
  | cons x p ih =>
    simp only [doS]
    cases hq : step1 b l x with
    | none => simp
    | some s =>
      have h1 := step1_lengths hq
      have h2 := ih s.1 s.2
      simp only [List.length_cons]
      exact ⟨by omega, by omega⟩
theorem doS_count (b : List ByteArray) (l p : List Wr) : (doS b l p).2 ≤ p.length := by
  induction p generalizing b l with
  | nil => simp [doS]
  | cons x p ih =>
    simp only [doS]
    cases hq : step1 b l x with
    | none => simp
    | some s => have := ih s.1 s.2; simp only [List.length_cons]; omega

set_option maxRecDepth 100000 in
set_option maxHeartbeats 8000000 in
theorem does_any (A A' K P : Option Addr) (b : List ByteArray) (l p : List Wr) (ks : List Bool) (c c' ck cp : Nat) (xa stop : Int) (xs : ByteArray) (w : World)
    (hA : Sl w A b.length c (b.map sv)) (hA' : Sl w A' l.length c' (wvs l)) (hK : Sl w K ks.length ck (ks.map Value.bool)) (hP : Sl w P p.length cp (wvs p)) :
    Calls Try.prog 4 #[.agg #[.slice A b.length c, .slice A' l.length c', .int .i64 xa, .string xs, .slice K ks.length ck, .slice P p.length cp, .int .i64 stop]] w fun e w' => e = .returned (.bool true) ∧ Ext w w' := by
  have HA := Lib.hid hA
  have HA' := Lib.hid hA'
  have HK := Lib.hid hK
  have HP := Lib.hid hP
  clear hA hA' hK hP
  go_enter Try.func4, Try.ntmps4
  go_wp2_with (go_at_call 9; refine stop_here ?_)
  refine stop_on ?_
  generalize hWa : (World.alloc (World.alloc (World.alloc w _) _) _) = Wa
  have hx : Ext w Wa := by rw [← hWa]; exact (((Ext.refl w).alloc _).alloc _).alloc _
  have ha : Box2 Wa (w.heap.size + 1) (.slice A b.length c) (.slice A' l.length c') := by
    rw [← hWa]
    have h := (Box2.new (w.alloc (.cells #[.slice A b.length c, .slice A' l.length c', .int .i64 xa, .string xs, .slice K ks.length ck, .slice P p.length cp, .int .i64 stop] 46)) (.slice A b.length c) (.slice A' l.length c') 25).ext (by simp) ((Ext.refl _).alloc (.cells #[.int .i64 xa, .string xs] 43))
    rw [World.size_alloc] at h
    exact h
  have hb : Box2 Wa (w.heap.size + 1 + 1) (.int .i64 xa) (.string xs) := by
    rw [← hWa]
    have h := Box2.new ((w.alloc (.cells #[.slice A b.length c, .slice A' l.length c', .int .i64 xa, .string xs, .slice K ks.length ck, .slice P p.length cp, .int .i64 stop] 46)).alloc (.cells #[.slice A b.length c, .slice A' l.length c'] 25)) (.int .i64 xa) (.string xs) 43
    rw [World.size_alloc, World.size_alloc] at h
    exact h
  have hz : w.heap.size + 1 + 1 < Wa.heap.size := by rw [← hWa]; simp
  clear hWa
  refine (shown_any _).mono ?_
  rintro e w1 ⟨rfl, hb1⟩
  have hz1 : w.heap.size + 1 + 1 < w1.heap.size := Nat.lt_of_lt_of_le hz hb1.size
  have ha1 := ha.ext (by omega) hb1
  have hb2 := hb.ext (by omega) hb1
  have X := Lib.hid (hx.trans hb1)
  have HZ1 := Lib.hid hz1
  have HKS := Lib.hid (fun w' (hx : Ext w1 w') => (show w'.cell? ⟨w.heap.size + 1, 0, none⟩ = some (.slice A b.length c) ∧ w'.cell? ⟨w.heap.size + 1, 1, none⟩ = some (.slice A' l.length c') ∧ w'.cell? ⟨w.heap.size + 1 + 1, 0, none⟩ = some (.int .i64 xa) ∧ w'.cell? ⟨w.heap.size + 1 + 1, 1, none⟩ = some (.string xs) from
    have r1 := (ha1.ext (by omega) hx).read
    have r2 := (hb2.ext (by omega) hx).read
    ⟨r1.1, r1.2.1, r2.1, r2.2.1⟩))
  obtain ⟨q0, q1, q2, q3⟩ := HKS.out w1 (Ext.refl _)
  have hza := HA.out.len
  have hza' := HA'.out.len
  have hzp := HP.out.len
  have HKL := Lib.hid HK.out.len
  have HSm := Lib.hid (fun w' (hx : Ext w w') => small_any A A' b l c c' 60 w' hza hza' (HA.out.ext hx).cells (HA'.out.ext hx).cells)
  have HRi := Lib.hid (fun w' (hx : Ext w w') => rightR_any A A' b l c c' w' hza hza' (HA.out.ext hx).cells (HA'.out.ext hx).cells)
  have HSh := Lib.hid (fun w' => short_any P p cp 60 w' hzp)
  clear hx ha hb hz hb1 hz1 ha1 hb2 hza hza' hzp
  cases hs : smallS b l 60
  · rw [hs] at HSm
    go_wp2_with (go_at_call 10; refine stop_here ?_)
    refine stop_on ?_
    clear q0 q1 q2 q3
    refine (HSm.out _ X.out).mono ?_
    rintro e w2 ⟨rfl, hx⟩
    have Ew2 := Lib.hid (hx)
    obtain ⟨q0, q1, q2, q3⟩ := HKS.out w2 Ew2.out
    clear hx
    go_wp2
    go_ret
    exact ⟨rfl, X.out.trans Ew2.out⟩
  · have ⟨lb, ll⟩ := small_len' hs
    rw [hs] at HSm
    clear hs
    go_wp2_with (go_at_call 10; refine stop_here ?_)
    refine stop_on ?_
    clear q0 q1 q2 q3
    refine (HSm.out _ X.out).mono ?_
    rintro e w2 ⟨rfl, hx⟩
    have Ew2 := Lib.hid (hx)
    obtain ⟨q0, q1, q2, q3⟩ := HKS.out w2 Ew2.out
    clear hx
    cases hr : rightS b l
    · rw [hr] at HRi
      go_wp2_with (go_at_call 13; refine stop_here ?_)
      refine stop_on ?_
      clear q0 q1 q2 q3
      refine (HRi.out _ (X.out.trans Ew2.out)).mono ?_
      rintro e w3 ⟨rfl, hx⟩
      have Ew3 := Lib.hid (Ew2.out.trans hx)
      obtain ⟨q0, q1, q2, q3⟩ := HKS.out w3 Ew3.out
      clear hx
      go_wp2
      go_ret
      exact ⟨rfl, X.out.trans Ew3.out⟩
    · have ⟨lb1, hin⟩ := right_facts hr
      have HIN := Lib.hid hin
      rw [hr] at HRi
      clear hr hin
      go_wp2_with (go_at_call 13; refine stop_here ?_)
      refine stop_on ?_
      clear q0 q1 q2 q3
      refine (HRi.out _ (X.out.trans Ew2.out)).mono ?_
      rintro e w3 ⟨rfl, hx⟩
      have Ew3 := Lib.hid (Ew2.out.trans hx)
      obtain ⟨q0, q1, q2, q3⟩ := HKS.out w3 Ew3.out
      clear hx
      by_cases hk : 100 < ks.length
      · have hkl := HKL.out
        unfold maxLen at hkl
        go_wp2
        go_ret
        exact ⟨rfl, X.out.trans Ew3.out⟩
      · have HSS := Lib.hid (HSh.out w3 (HP.out.ext (X.out.trans Ew3.out)).cells)
        clear HSh
        cases hsh : shortS p 60
        · rw [hsh] at HSS
          go_wp2_with (go_at_call 19; refine stop_here ?_)
          refine stop_on ?_
          refine HSS.out.mono ?_
          rintro e w4 ⟨rfl, rfl⟩
          clear HSS
          go_wp2
          go_ret
          exact ⟨rfl, X.out.trans Ew3.out⟩
        · rw [hsh] at HSS
          go_wp2_with (go_at_call 19; refine stop_here ?_)
          refine stop_on ?_
          refine HSS.out.mono ?_
          rintro e w4 ⟨rfl, rfl⟩
          clear HSS
          by_cases hxs : 100 < (xs.size : Int)
          · skip
            go_wp2
            go_ret
            exact ⟨rfl, X.out.trans Ew3.out⟩
          · skip
            have hpl := short_len hsh
            clear hsh
            have hxl : xs.size ≤ 100 := by omega
            clear hxs
            have hb0 : b.length ≤ 1000000 := by omega
            have hl0 : l.length ≤ 400000 := by omega
            have hl1 : l.length ≤ 900000 := by omega
            have hl2 : l.length ≤ 1000000 := by omega
            have hp0 : p.length ≤ 400000 := by omega
            have hk0 : ks.length ≤ 1000000 := by omega
            have XW := Lib.hid (X.out.trans Ew3.out)
            have hp1 := fun w' (hx : Ext w3 w') => putD_any A A' b l c c' xa xs w' hb0 hl1 (HA.out.ext (XW.out.trans hx)) (HA'.out.ext (XW.out.trans hx))
            have hp2 := fun w' (hx : Ext w3 w') => putR_any A A' b l c c' xa xs w' hb0 hl1 (HA.out.ext (XW.out.trans hx)) (HA'.out.ext (XW.out.trans hx))
            have hd1 := fun w' (hx : Ext w3 w') => doD_any A A' P b l p c c' cp stop w' hb0 hl0 hp0 (HA.out.ext (XW.out.trans hx)) (HA'.out.ext (XW.out.trans hx)) (HP.out.ext (XW.out.trans hx))
            have hd2 := fun w' (hx : Ext w3 w') => doR_any A A' P b l p c c' cp stop w' hb0 lb1 hl0 hp0 HIN.out (HA.out.ext (XW.out.trans hx)) (HA'.out.ext (XW.out.trans hx)) (HP.out.ext (XW.out.trans hx))
            have hf1 := fun w' (hx : Ext w3 w') => flushD_any A A' b l c c' w' hb0 hl2 (HA.out.ext (XW.out.trans hx)) (HA'.out.ext (XW.out.trans hx))
            have hf2 := fun w' (hx : Ext w3 w') => flushR_any A A' b l c c' w' hb0 lb1 hl2 HIN.out (HA.out.ext (XW.out.trans hx)) (HA'.out.ext (XW.out.trans hx))
            have hc1 := fun w' (hx : Ext w3 w') => crashD_any A A' K b l ks c c' ck w' hb0 hl2 hk0 (HA.out.ext (XW.out.trans hx)) (HA'.out.ext (XW.out.trans hx)) (HK.out.ext (XW.out.trans hx))
            have hc2 := fun w' (hx : Ext w3 w') => crashR_any A A' K b l ks c c' ck w' hb0 lb1 hl2 hk0 HIN.out (HA.out.ext (XW.out.trans hx)) (HA'.out.ext (XW.out.trans hx)) (HK.out.ext (XW.out.trans hx))
            have hlp : (putW b l (xa, xs)).length ≤ 1000000 := by have := putW_length b l (xa, xs); omega
            have hdl := doS_lengths b l (p.take (planLen p.length stop))
            have hdn := doS_count b l (p.take (planLen p.length stop))
            have htl : (p.take (planLen p.length stop)).length ≤ 60 := by rw [List.length_take]; omega
            generalize putE b (xa, xs) = pe at *
            generalize putW b l (xa, xs) = pw at *
            generalize doS b l (p.take (planLen p.length stop)) = ds at *
            obtain ⟨⟨xb, xl⟩, xn⟩ := ds
            have hfl := writeL_length l b
            have hcl := writeL_length (kept l ks) b
            generalize writeL b l = fb at *
            generalize writeL b (kept l ks) = cb at *
            dsimp only at *
            have hxb : xb.length ≤ 1000000 := by omega
            have hxm : xl.length ≤ 1000000 := by omega
            have hfb : fb.length ≤ 1000000 := by omega
            have hcb : cb.length ≤ 1000000 := by omega
            have hxn : xn ≤ 60 := by omega
            have HP1 := Lib.hid hp1
            have HP2 := Lib.hid hp2
            have HD1 := Lib.hid hd1
            have HD2 := Lib.hid hd2
            have HF1 := Lib.hid hf1
            have HF2 := Lib.hid hf2
            have HC1 := Lib.hid hc1
            have HC2 := Lib.hid hc2
            clear hp1 hp2 hd1 hd2 hf1 hf2 hc1 hc2 hdl hdn htl hfl hcl
            have hs3 : w.heap.size + 1 + 1 < w3.heap.size := Nat.lt_of_lt_of_le HZ1.out Ew3.out.size
            have hs3' : w.heap.size + 1 < w3.heap.size := by omega
            have HKS3 := Lib.hid (fun w' (hx : Ext w3 w') => HKS.out w' (Ew3.out.trans hx))
            go_wp2_with (go_at_call 20; refine stop_here ?_)
            refine stop_on ?_
            clear q0 q1 q2 q3
            refine (HP1.out w3 (Ext.refl _)).mono ?_
            rintro e w5 ⟨v, rfl, ⟨Aw5, cw5, A'w5, c'w5, rfl, h1, h2⟩, hx⟩
            have Dw5 := Lib.hid h1
            have D'w5 := Lib.hid h2
            have Ew5 := Lib.hid hx
            obtain ⟨q0, q1, q2, q3⟩ := HKS3.out w5 Ew5.out
            have Sw5 : w.heap.size + 1 + 1 < w5.heap.size := Nat.lt_of_lt_of_le hs3 Ew5.out.size
            have S'w5 : w.heap.size + 1 < w5.heap.size := by omega
            clear hx h1 h2
            go_wp2_with (go_at_call 21; refine stop_here ?_)
            refine stop_on ?_
            clear q0 q1 q2 q3
            clear Sw5 S'w5
            generalize hW : (World.alloc w5 _) = Ww5
            have hb : Ext w5 Ww5 := by rw [← hW]; exact (Ext.refl w5).alloc _
            have Bw5 := Lib.hid (show Box2 Ww5 w5.heap.size (.slice Aw5 b.length cw5) (.slice A'w5 pw.length c'w5) from by rw [← hW]; exact Box2.new w5 _ _ _)
            have Zw5 := Lib.hid (show w5.heap.size < Ww5.heap.size from by rw [← hW]; simp)
            have HXw5 := Lib.hid hb
            clear hW hb
            refine (HP2.out Ww5 (Ew5.out.trans HXw5.out)).mono ?_
            rintro e w6 ⟨v, rfl, ⟨Aw6, cw6, A'w6, c'w6, rfl, h1, h2⟩, hx⟩
            have Dw6 := Lib.hid h1
            have D'w6 := Lib.hid h2
            have Yw6 := Lib.hid hx
            have Ew6 := Lib.hid ((Ew5.out.trans HXw5.out).trans hx)
            obtain ⟨q0, q1, q2, q3⟩ := HKS3.out w6 Ew6.out
            have Sw6 : w.heap.size + 1 + 1 < w6.heap.size := Nat.lt_of_lt_of_le hs3 Ew6.out.size
            have S'w6 : w.heap.size + 1 < w6.heap.size := by omega
            clear hx h1 h2
            go_wp2_with (go_at_call 22; refine stop_here ?_)
            refine stop_on ?_
            clear q0 q1 q2 q3
            clear Sw6 S'w6
            generalize hW : (World.alloc w6 _) = Ww6
            have hb : Ext w6 Ww6 := by rw [← hW]; exact (Ext.refl w6).alloc _
            have Bw6 := Lib.hid (show Box2 Ww6 w6.heap.size (.slice Aw6 b.length cw6) (.slice A'w6 pw.length c'w6) from by rw [← hW]; exact Box2.new w6 _ _ _)
            have Zw6 := Lib.hid (show w6.heap.size < Ww6.heap.size from by rw [← hW]; simp)
            have HXw6 := Lib.hid hb
            clear hW hb
            refine (HD1.out Ww6 (Ew6.out.trans HXw6.out)).mono ?_
            rintro e w7 ⟨v, rfl, ⟨Aw7, cw7, A'w7, c'w7, rfl, h1, h2⟩, hx⟩
            have Dw7 := Lib.hid h1
            have D'w7 := Lib.hid h2
            have Yw7 := Lib.hid hx
            have Ew7 := Lib.hid ((Ew6.out.trans HXw6.out).trans hx)
            obtain ⟨q0, q1, q2, q3⟩ := HKS3.out w7 Ew7.out
            have Sw7 : w.heap.size + 1 + 1 < w7.heap.size := Nat.lt_of_lt_of_le hs3 Ew7.out.size
            have S'w7 : w.heap.size + 1 < w7.heap.size := by omega
            clear hx h1 h2
            go_wp2_with (go_at_call 23; refine stop_here ?_)
            refine stop_on ?_
            clear q0 q1 q2 q3
            clear Sw7 S'w7
            generalize hW : (World.alloc w7 _) = Ww7
            have hb : Ext w7 Ww7 := by rw [← hW]; exact (Ext.refl w7).alloc _
            have Bw7 := Lib.hid (show Box2 Ww7 w7.heap.size (.slice Aw7 xb.length cw7) (.slice A'w7 xl.length c'w7) from by rw [← hW]; exact Box2.new w7 _ _ _)
            have Zw7 := Lib.hid (show w7.heap.size < Ww7.heap.size from by rw [← hW]; simp)
            have HXw7 := Lib.hid hb
            clear hW hb
            refine (HD2.out Ww7 (Ew7.out.trans HXw7.out)).mono ?_
            rintro e w8 ⟨v, rfl, ⟨Aw8, cw8, A'w8, c'w8, rfl, h1, h2⟩, hx⟩
            have Dw8 := Lib.hid h1
            have D'w8 := Lib.hid h2
            have Yw8 := Lib.hid hx
            have Ew8 := Lib.hid ((Ew7.out.trans HXw7.out).trans hx)
            obtain ⟨q0, q1, q2, q3⟩ := HKS3.out w8 Ew8.out
            have Sw8 : w.heap.size + 1 + 1 < w8.heap.size := Nat.lt_of_lt_of_le hs3 Ew8.out.size
            have S'w8 : w.heap.size + 1 < w8.heap.size := by omega
            clear hx h1 h2
            go_wp2_with fail
            generalize hW : (World.alloc w8 _) = Wd
            have x8 : Ext w8 Wd := by rw [← hW]; exact (Ext.refl w8).alloc _
            have B8 : Box2 Wd w8.heap.size (.slice Aw8 xb.length cw8) (.slice A'w8 xl.length c'w8) := by rw [← hW]; exact Box2.new w8 _ _ _
            have z8 : w8.heap.size < Wd.heap.size := by rw [← hW]; simp
            clear hW q0 q1 q2 q3
            have x7 : Ext Ww7 Wd := Yw8.out.trans x8
            have x7' : Ext w7 Wd := HXw7.out.trans x7
            have x6 : Ext Ww6 Wd := Yw7.out.trans x7'
            have x6' : Ext w6 Wd := HXw6.out.trans x6
            have x5 : Ext Ww5 Wd := Yw6.out.trans x6'
            have x5' : Ext w5 Wd := HXw5.out.trans x5
            have x3 : Ext w3 Wd := Ew8.out.trans x8
            have b5 := Bw5.out.ext Zw5.out x5
            have b6 := Bw6.out.ext Zw6.out x6
            have b7 := Bw7.out.ext Zw7.out x7
            have l5 : w5.heap.size < Wd.heap.size := Nat.lt_of_lt_of_le Zw5.out x5.size
            have l6 : w6.heap.size < Wd.heap.size := Nat.lt_of_lt_of_le Zw6.out x6.size
            have l7 : w7.heap.size < Wd.heap.size := Nat.lt_of_lt_of_le Zw7.out x7.size
            have XD := Lib.hid (XW.out.trans x3)
            have HKD := Lib.hid (fun w' (hx : Ext Wd w') => (show w'.cell? ⟨w.heap.size + 1, 0, none⟩ = some (.slice A b.length c) ∧ w'.cell? ⟨w.heap.size + 1, 1, none⟩ = some (.slice A' l.length c') ∧ w'.cell? ⟨w5.heap.size, 0, none⟩ = some (.slice Aw5 b.length cw5) ∧ w'.cell? ⟨w5.heap.size, 1, none⟩ = some (.slice A'w5 pw.length c'w5) ∧ w'.cell? ⟨w6.heap.size, 0, none⟩ = some (.slice Aw6 b.length cw6) ∧ w'.cell? ⟨w6.heap.size, 1, none⟩ = some (.slice A'w6 pw.length c'w6) ∧ w'.cell? ⟨w7.heap.size, 0, none⟩ = some (.slice Aw7 xb.length cw7) ∧ w'.cell? ⟨w7.heap.size, 1, none⟩ = some (.slice A'w7 xl.length c'w7) ∧ w'.cell? ⟨w8.heap.size, 0, none⟩ = some (.slice Aw8 xb.length cw8) ∧ w'.cell? ⟨w8.heap.size, 1, none⟩ = some (.slice A'w8 xl.length c'w8) from
              have r0 := HKS3.out w' (x3.trans hx)
              have r5 := (b5.ext l5 hx).read
              have r6 := (b6.ext l6 hx).read
              have r7 := (b7.ext l7 hx).read
              have r8 := (B8.ext z8 hx).read
              ⟨r0.1, r0.2.1, r5.1, r5.2.1, r6.1, r6.2.1, r7.1, r7.2.1, r8.1, r8.2.1⟩))
            obtain ⟨q0, q1, q2, q3, q4, q5, q6, q7, q8, q9⟩ := HKD.out Wd (Ext.refl _)
            have mx : ∀ {n : Nat}, n ≤ 1000000 → n ≤ maxLen := fun h => by unfold maxLen; omega
            have HM1 := Lib.hid (fun w' (hx : Ext Wd w') => by
              have h := sameR_any Aw5 A'w5 Aw6 A'w6 b b pw pw cw5 c'w5 cw6 c'w6 w' (mx hb0) (mx hb0) (mx hlp) (mx hlp) (Dw5.out.ext (x5'.trans hx)).cells (Dw6.out.ext (x6'.trans hx)).cells (D'w5.out.ext (x5'.trans hx)).cells (D'w6.out.ext (x6'.trans hx)).cells
              rw [same1] at h
              exact h)
            have HM4 := Lib.hid (fun w' (hx : Ext Wd w') => by
              have h := sameR_any Aw7 A'w7 Aw8 A'w8 xb xb xl xl cw7 c'w7 cw8 c'w8 w' (mx hxb) (mx hxb) (mx hxm) (mx hxm) (Dw7.out.ext (x7'.trans hx)).cells (Dw8.out.ext (x8.trans hx)).cells (D'w7.out.ext (x7'.trans hx)).cells (D'w8.out.ext (x8.trans hx)).cells
              rw [same1] at h
              exact h)
            have HM2 := Lib.hid (fun (B B' C C' : Option Addr) (kb kb' kc kc' : Nat) w' (hB : Sl w' B fb.length kb (fb.map sv)) (hB' : Sl w' B' ([] : List Wr).length kb' (wvs [])) (hC : Sl w' C fb.length kc (fb.map sv)) (hC' : Sl w' C' ([] : List Wr).length kc' (wvs [])) => by
              have h := sameR_any B B' C C' fb fb [] [] kb kb' kc kc' w' (mx hfb) (mx hfb) (by unfold maxLen; simp) (by unfold maxLen; simp) hB.cells hC.cells hB'.cells hC'.cells
              rw [same1] at h
              exact (show Calls Try.prog 14 #[.agg #[.slice B fb.length kb, .slice B' 0 kb'], .agg #[.slice C fb.length kc, .slice C' 0 kc']] w' fun e w'' => e = .returned (.bool true) ∧ Ext w' w'' from h))
            have HM3 := Lib.hid (fun (B B' C C' : Option Addr) (kb kb' kc kc' : Nat) w' (hB : Sl w' B cb.length kb (cb.map sv)) (hB' : Sl w' B' ([] : List Wr).length kb' (wvs [])) (hC : Sl w' C cb.length kc (cb.map sv)) (hC' : Sl w' C' ([] : List Wr).length kc' (wvs [])) => by
              have h := sameR_any B B' C C' cb cb [] [] kb kb' kc kc' w' (mx hcb) (mx hcb) (by unfold maxLen; simp) (by unfold maxLen; simp) hB.cells hC.cells hB'.cells hC'.cells
              rw [same1] at h
              exact (show Calls Try.prog 14 #[.agg #[.slice B cb.length kb, .slice B' 0 kb'], .agg #[.slice C cb.length kc, .slice C' 0 kc']] w' fun e w'' => e = .returned (.bool true) ∧ Ext w' w'' from h))
            have GF1 := Lib.hid (fun w' (hx : Ext Wd w') => HF1.out w' (x3.trans hx))
            have GF2 := Lib.hid (fun w' (hx : Ext Wd w') => HF2.out w' (x3.trans hx))
            have GC1 := Lib.hid (fun w' (hx : Ext Wd w') => HC1.out w' (x3.trans hx))
            have GC2 := Lib.hid (fun w' (hx : Ext Wd w') => HC2.out w' (x3.trans hx))
            clear x8 B8 z8 x7 x7' x6 x6' x5 x5' x3 b5 b6 b7 l5 l6 l7 Sw8 S'w8 hs3 hs3' HF1 HF2 HC1 HC2 HP1 HP2 HD1 HD2 mx hb0 hl0 hl1 hl2 hp0 hk0 hlp hxb hxm hfb hcb HKS HKS3
            go_region_held3 (fun w' => w'.cell? ⟨w.heap.size + 1, 0, none⟩ = some (.slice A b.length c) ∧ w'.cell? ⟨w.heap.size + 1, 1, none⟩ = some (.slice A' l.length c') ∧ w'.cell? ⟨w5.heap.size, 0, none⟩ = some (.slice Aw5 b.length cw5) ∧ w'.cell? ⟨w5.heap.size, 1, none⟩ = some (.slice A'w5 pw.length c'w5) ∧ w'.cell? ⟨w6.heap.size, 0, none⟩ = some (.slice Aw6 b.length cw6) ∧ w'.cell? ⟨w6.heap.size, 1, none⟩ = some (.slice A'w6 pw.length c'w6) ∧ w'.cell? ⟨w7.heap.size, 0, none⟩ = some (.slice Aw7 xb.length cw7) ∧ w'.cell? ⟨w7.heap.size, 1, none⟩ = some (.slice A'w7 xl.length c'w7) ∧ w'.cell? ⟨w8.heap.size, 0, none⟩ = some (.slice Aw8 xb.length cw8) ∧ w'.cell? ⟨w8.heap.size, 1, none⟩ = some (.slice A'w8 xl.length c'w8))
              (first | exact HKD.out _ hE8.out | exact HKD.out _ hE7.out | exact HKD.out _ hE6.out | exact HKD.out _ hE5.out | exact HKD.out _ hE4.out | exact HKD.out _ hE3.out | exact HKD.out _ hE2.out | exact HKD.out _ hE1.out | exact HKD.out _ (Ext.refl Wd).drew | exact HKD.out _ (Ext.refl Wd))
              (first
                | ((go_at_call 24
                    refine (GF1.out _ hE1.out).mono ?_
                    rintro e v2 ⟨v, rfl, ⟨F1, f1, F1', f1', rfl, h1, h2⟩, hx⟩
                    have hE2 := Lib.hid (hE1.out.trans hx)
                    have HF1 := Lib.hid h1
                    have HF1' := Lib.hid h2
                    clear h1 h2 hx))
                | ((go_at_call 25
                    refine (GF2.out _ hE2.out).mono ?_
                    rintro e v3 ⟨v, rfl, ⟨F2, f2, F2', f2', rfl, h1, h2⟩, hx⟩
                    have hE3 := Lib.hid (hE2.out.trans hx)
                    have HF2 := Lib.hid h1
                    have HF2' := Lib.hid h2
                    have HFF := Lib.hid (HF1.out.ext hx)
                    have HFF' := Lib.hid (HF1'.out.ext hx)
                    clear h1 h2 hx))
                | ((go_at_call 26
                    refine (GC1.out _ hE4.out).mono ?_
                    rintro e v5 ⟨v, rfl, ⟨C1, g1, C1', g1', rfl, h1, h2⟩, hx⟩
                    have hE5 := Lib.hid (hE4.out.trans hx)
                    have HC1 := Lib.hid h1
                    have HC1' := Lib.hid h2
                    clear h1 h2 hx))
                | ((go_at_call 27
                    refine (GC2.out _ hE5.out).mono ?_
                    rintro e v6 ⟨v, rfl, ⟨C2, g2, C2', g2', rfl, h1, h2⟩, hx⟩
                    have hE6 := Lib.hid (hE5.out.trans hx)
                    have HC2 := Lib.hid h1
                    have HC2' := Lib.hid h2
                    have HCC := Lib.hid (HC1.out.ext hx)
                    have HCC' := Lib.hid (HC1'.out.ext hx)
                    clear h1 h2 hx))
                | ((go_at_call 14
                    with_reducible refine (HM4.out _ hE7.out).mono ?_
                    rintro e v8 ⟨rfl, hx⟩
                    have hE8 := Lib.hid (hE7.out.trans hx)
                    clear hx))
                | ((go_at_call 14
                    with_reducible refine (HM3.out _ _ _ _ _ _ _ _ _ HCC.out HCC'.out HC2.out HC2'.out).mono ?_
                    rintro e v7 ⟨rfl, hx⟩
                    have hE7 := Lib.hid (hE6.out.trans hx)
                    clear hx))
                | ((go_at_call 14
                    with_reducible refine (HM2.out _ _ _ _ _ _ _ _ _ HFF.out HFF'.out HF2.out HF2'.out).mono ?_
                    rintro e v4 ⟨rfl, hx⟩
                    have hE4 := Lib.hid (hE3.out.trans hx)
                    clear hx))
                | ((go_at_call 14
                    with_reducible refine (HM1.out _ ?_).mono ?_
                    (first | exact Ext.refl _ | exact (Ext.refl _).drew)
                    rintro e v1 ⟨rfl, hx⟩
                    have hE1 := Lib.hid (show Ext Wd v1 from by first | exact hx | exact (Ext.refl Wd).drew.trans hx)
                    clear hx)))
            go_wp2
            go_ret
            exact ⟨rfl, XD.out.trans hE8.out⟩
end Go.Proofs.Ytikdicnpmobidaa
