/- The walk of DiskTells. -/
import Derived.Test.YtikdicnpmobidaaDiskW18
namespace Go.Proofs.Ytikdicnpmobidaa
open Go.RowKit
attribute [local go_sem ↓] Go.wp_at_zero Go.wp_at_succ

theorem small_len {b : List ByteArray} {l : List Wr} {k : Int} (h : smallS b l k = true) : (b.length : Int) ≤ k ∧ (l.length : Int) ≤ k := by
  unfold smallS shortS at h
  simp only [Bool.and_eq_true, decide_eq_true_eq] at h
  exact ⟨h.1, h.2.2.1⟩

set_option maxRecDepth 100000 in
set_option maxHeartbeats 8000000 in
theorem tells_any (A A' B B' : Option Addr) (a b : List ByteArray) (l m : List Wr) (c c' d d' : Nat) (n at_ : Int) (w : World)
    (hA : Sl w A a.length c (a.map sv)) (hA' : Sl w A' l.length c' (wvs l)) (hB : Sl w B b.length d (b.map sv)) (hB' : Sl w B' m.length d' (wvs m)) :
    Calls Try.prog 3 #[.agg #[.slice A a.length c, .slice A' l.length c', .slice B b.length d, .slice B' m.length d', .int .i64 n, .int .i64 at_]] w fun e w' => e = .returned (.bool true) ∧ Ext w w' := by
  have HA := Lib.hid hA
  have HA' := Lib.hid hA'
  have HB := Lib.hid hB
  have HB' := Lib.hid hB'
  clear hA hA' hB hB'
  go_enter Try.func3, Try.ntmps3
  go_wp2_with (go_at_call 9; refine stop_here ?_)
  refine stop_on ?_
  generalize hWa : (World.alloc (World.alloc (World.alloc w _) _) _) = Wa
  have hx : Ext w Wa := by rw [← hWa]; exact (((Ext.refl w).alloc _).alloc _).alloc _
  have ha : Box2 Wa (w.heap.size + 1) (.slice A a.length c) (.slice A' l.length c') := by
    rw [← hWa]
    have h := (Box2.new (w.alloc (.cells #[.slice A a.length c, .slice A' l.length c', .slice B b.length d, .slice B' m.length d', .int .i64 n, .int .i64 at_] 27)) (.slice A a.length c) (.slice A' l.length c') 25).ext (by simp) ((Ext.refl _).alloc (.cells #[.slice B b.length d, .slice B' m.length d'] 25))
    rw [World.size_alloc] at h
    exact h
  have hb : Box2 Wa (w.heap.size + 1 + 1) (.slice B b.length d) (.slice B' m.length d') := by
    rw [← hWa]
    have h := Box2.new ((w.alloc (.cells #[.slice A a.length c, .slice A' l.length c', .slice B b.length d, .slice B' m.length d', .int .i64 n, .int .i64 at_] 27)).alloc (.cells #[.slice A a.length c, .slice A' l.length c'] 25)) (.slice B b.length d) (.slice B' m.length d') 25
    rw [World.size_alloc, World.size_alloc] at h
    exact h
  have hz : w.heap.size + 1 + 1 < Wa.heap.size := by rw [← hWa]; simp
  clear hWa
  refine (shown_any _).mono ?_
  rintro e w1 ⟨rfl, hb1⟩
  have hz1 : w.heap.size + 1 + 1 < w1.heap.size := Nat.lt_of_lt_of_le hz hb1.size
  have ha1 := ha.ext (by omega) hb1
  have hb2 := hb.ext (by omega) hb1
  have X := Lib.hid (hx.trans hb1)
  have HZ1 := Lib.hid hz1
  have HKS := Lib.hid (fun w' (hx : Ext w1 w') => (show w'.cell? ⟨w.heap.size + 1, 0, none⟩ = some (.slice A a.length c) ∧ w'.cell? ⟨w.heap.size + 1, 1, none⟩ = some (.slice A' l.length c') ∧ w'.cell? ⟨w.heap.size + 1 + 1, 0, none⟩ = some (.slice B b.length d) ∧ w'.cell? ⟨w.heap.size + 1 + 1, 1, none⟩ = some (.slice B' m.length d') from
    have r1 := (ha1.ext (by omega) hx).read
    have r2 := (hb2.ext (by omega) hx).read
    ⟨r1.1, r1.2.1, r2.1, r2.2.1⟩))
  obtain ⟨q0, q1, q2, q3⟩ := HKS.out w1 (Ext.refl _)
  have hza := HA.out.len
  have hza' := HA'.out.len
  have hzb := HB.out.len
  have hzb' := HB'.out.len
  have HS1 := Lib.hid (fun w' (hx : Ext w w') => small_any A A' a l c c' 60 w' hza hza' (HA.out.ext hx).cells (HA'.out.ext hx).cells)
  have HS2 := Lib.hid (fun w' (hx : Ext w w') => small_any B B' b m d d' 60 w' hzb hzb' (HB.out.ext hx).cells (HB'.out.ext hx).cells)
  have HR1 := Lib.hid (fun w' (hx : Ext w w') => rightR_any A A' a l c c' w' hza hza' (HA.out.ext hx).cells (HA'.out.ext hx).cells)
  have HR2 := Lib.hid (fun w' (hx : Ext w w') => rightR_any B B' b m d d' w' hzb hzb' (HB.out.ext hx).cells (HB'.out.ext hx).cells)
  have HD1 := Lib.hid (fun w' (hx : Ext w w') => rightD_any A A' a l c c' w' hza hza' (HA.out.ext hx).cells (HA'.out.ext hx).cells)
  have HM := Lib.hid (fun w' (hx : Ext w w') => sameDisk_any A A' B B' a b l m c c' d d' w' hza hzb hza' hzb' (HA.out.ext hx).cells (HB.out.ext hx).cells (HA'.out.ext hx).cells (HB'.out.ext hx).cells)
  have HN := Lib.hid (fun w' (hx : Ext w w') => sameR_any A A' B B' a b l m c c' d d' w' hza hzb hza' hzb' (HA.out.ext hx).cells (HB.out.ext hx).cells (HA'.out.ext hx).cells (HB'.out.ext hx).cells)
  clear hx ha hb hz hb1 hz1 ha1 hb2 hza hza' hzb hzb'
  cases hs1 : smallS a l 60
  · rw [hs1] at HS1
    go_wp2_with (go_at_call 10; refine stop_here ?_)
    refine stop_on ?_
    clear q0 q1 q2 q3
    refine (HS1.out _ X.out).mono ?_
    rintro e w2 ⟨rfl, hx⟩
    have hE1 := Lib.hid hx
    obtain ⟨q0, q1, q2, q3⟩ := HKS.out w2 hx
    clear hx
    go_wp2
    go_ret
    exact ⟨rfl, X.out.trans hE1.out⟩
  · have ⟨la, ll⟩ := small_len hs1
    rw [hs1] at HS1
    clear hs1
    go_wp2_with (go_at_call 10; refine stop_here ?_)
    refine stop_on ?_
    clear q0 q1 q2 q3
    refine (HS1.out _ X.out).mono ?_
    rintro e w2 ⟨rfl, hx⟩
    have hE1 := Lib.hid hx
    obtain ⟨q0, q1, q2, q3⟩ := HKS.out w2 hx
    clear hx
    cases hs2 : smallS b m 60
    · rw [hs2] at HS2
      go_wp2_with (go_at_call 10; refine stop_here ?_)
      refine stop_on ?_
      clear q0 q1 q2 q3
      refine (HS2.out _ (X.out.trans hE1.out)).mono ?_
      rintro e w3 ⟨rfl, hx⟩
      have hE2 := Lib.hid (hE1.out.trans hx)
      obtain ⟨q0, q1, q2, q3⟩ := HKS.out w3 (hE1.out.trans hx)
      clear hx
      go_wp2
      go_ret
      exact ⟨rfl, X.out.trans hE2.out⟩
    · have ⟨lb, lm⟩ := small_len hs2
      rw [hs2] at HS2
      clear hs2
      go_wp2_with (go_at_call 10; refine stop_here ?_)
      refine stop_on ?_
      clear q0 q1 q2 q3
      refine (HS2.out _ (X.out.trans hE1.out)).mono ?_
      rintro e w3 ⟨rfl, hx⟩
      have hE2 := Lib.hid (hE1.out.trans hx)
      obtain ⟨q0, q1, q2, q3⟩ := HKS.out w3 (hE1.out.trans hx)
      clear hx
      have X3 := Lib.hid (X.out.trans hE2.out)
      have hn1 := newD_any n w3
      have hn2 := fun w' => newR_any n w'
      have hnl : (newB n).length ≤ 4000 := by unfold newB; split <;> simp; omega
      generalize newE n = ne at *
      generalize newB n = nb at *
      have HN1 := Lib.hid hn1
      have HN2 := Lib.hid hn2
      clear hn1 hn2
      go_wp2_with (go_at_call 11; refine stop_here ?_)
      refine stop_on ?_
      clear q0 q1 q2 q3
      refine HN1.out.mono ?_
      rintro e w4 ⟨v, rfl, ⟨N1, k1, N2, k2, rfl, h1, h2⟩, hx⟩
      have D1 := Lib.hid h1
      have D2 := Lib.hid h2
      have hE4 := Lib.hid (hE2.out.trans hx)
      obtain ⟨q0, q1, q2, q3⟩ := HKS.out w4 hE4.out
      clear hx h1 h2 HN1
      go_wp2_with (go_at_call 12; refine stop_here ?_)
      refine stop_on ?_
      clear q0 q1 q2 q3
      generalize hWb : (World.alloc w4 _) = Wb
      have hb : Ext w4 Wb := by rw [← hWb]; exact (Ext.refl w4).alloc _
      have hbx : Box2 Wb w4.heap.size (.slice N1 nb.length k1) (.slice N2 0 k2) := by rw [← hWb]; exact Box2.new w4 _ _ _
      have hzb : w4.heap.size < Wb.heap.size := by rw [← hWb]; simp
      clear hWb
      refine (HN2.out Wb).mono ?_
      rintro e w5 ⟨v, rfl, ⟨N3, k3, N4, k4, rfl, h1, h2⟩, hx⟩
      have D3 := Lib.hid h1
      have D4 := Lib.hid h2
      have BX := Lib.hid (hbx.ext hzb hx)
      have x5 := hb.trans hx
      have hE5 := Lib.hid (hE4.out.trans x5)
      have D1' := Lib.hid (D1.out.ext x5)
      have D2' := Lib.hid (D2.out.ext x5)
      have hz5 : w4.heap.size < w5.heap.size := Nat.lt_of_lt_of_le hzb hx.size
      obtain ⟨q0, q1, q2, q3⟩ := HKS.out w5 hE5.out
      obtain ⟨p0, p1, _, _⟩ := BX.out.read
      have hs5 : w.heap.size + 1 + 1 < w5.heap.size := Nat.lt_of_lt_of_le HZ1.out hE5.out.size
      have hs5' : w.heap.size + 1 < w5.heap.size := by omega
      clear hx h1 h2 HN2 hbx hzb hb D1 D2 x5
      go_wp2_with (go_at_call 13; refine stop_here ?_)
      refine stop_on ?_
      clear q0 q1 q2 q3 p0 p1
      generalize hWb : (World.alloc w5 _) = Wc
      have hb : Ext w5 Wc := by rw [← hWb]; exact (Ext.refl w5).alloc _
      have hbx : Box2 Wc w5.heap.size (.slice N3 nb.length k3) (.slice N4 0 k4) := by rw [← hWb]; exact Box2.new w5 _ _ _
      have hzb : w5.heap.size < Wc.heap.size := by rw [← hWb]; simp
      clear hWb
      refine (HR1.out Wc (X.out.trans (hE5.out.trans hb))).mono ?_
      rintro e w6 ⟨rfl, hx⟩
      have BY := Lib.hid (hbx.ext hzb hx)
      have x6 := hb.trans hx
      have BX' := Lib.hid (BX.out.ext hz5 x6)
      have hE6 := Lib.hid (hE5.out.trans x6)
      have d1 := Lib.hid (D1'.out.ext x6)
      have d2 := Lib.hid (D2'.out.ext x6)
      have d3 := Lib.hid (D3.out.ext x6)
      have d4 := Lib.hid (D4.out.ext x6)
      have hz6 : w5.heap.size < w6.heap.size := Nat.lt_of_lt_of_le hzb hx.size
      have hz6' : w4.heap.size < w6.heap.size := by omega
      have HKS6 := Lib.hid (fun w' (hx : Ext w6 w') => (show w'.cell? ⟨w.heap.size + 1, 0, none⟩ = some (.slice A a.length c) ∧ w'.cell? ⟨w.heap.size + 1, 1, none⟩ = some (.slice A' l.length c') ∧ w'.cell? ⟨w.heap.size + 1 + 1, 0, none⟩ = some (.slice B b.length d) ∧ w'.cell? ⟨w.heap.size + 1 + 1, 1, none⟩ = some (.slice B' m.length d') ∧ w'.cell? ⟨w4.heap.size, 0, none⟩ = some (.slice N1 nb.length k1) ∧ w'.cell? ⟨w4.heap.size, 1, none⟩ = some (.slice N2 0 k2) ∧ w'.cell? ⟨w5.heap.size, 0, none⟩ = some (.slice N3 nb.length k3) ∧ w'.cell? ⟨w5.heap.size, 1, none⟩ = some (.slice N4 0 k4) from
        have r1 := HKS.out w' (hE6.out.trans hx)
        have r2 := (BX'.out.ext hz6' hx).read
        have r3 := (BY.out.ext hz6 hx).read
        ⟨r1.1, r1.2.1, r1.2.2.1, r1.2.2.2, r2.1, r2.2.1, r3.1, r3.2.1⟩))
      obtain ⟨q0, q1, q2, q3, q4, q5, q6, q7⟩ := HKS6.out w6 (Ext.refl _)
      have hNM := fun w' (hx : Ext w6 w') => sameR_any N1 N2 N3 N4 nb nb [] [] k1 k2 k3 k4 w' (by unfold maxLen; omega) (by unfold maxLen; omega) (by unfold maxLen; simp) (by unfold maxLen; simp) (d1.out.ext hx).cells (d3.out.ext hx).cells (d2.out.ext hx).cells (d4.out.ext hx).cells
      rw [same1] at hNM
      have HNM := Lib.hid hNM
      clear hx hNM hbx hzb x6 hb D1' D2' D3 D4 BX hs5 hs5' hz5
      have HD1' := Lib.hid (fun w' (hx : Ext w6 w') => HD1.out w' (X.out.trans (hE6.out.trans hx)))
      cases hr : rightS a l
      · rw [hr] at HD1'
        go_wp2_with (go_at_call 14; refine stop_here ?_)
        refine stop_on ?_
        clear q0 q1 q2 q3 q4 q5 q6 q7
        refine (HNM.out w6 (Ext.refl _)).mono ?_
        rintro e w7 ⟨rfl, hx7⟩
        have hE7 := Lib.hid hx7
        obtain ⟨q0, q1, q2, q3, q4, q5, q6, q7⟩ := HKS6.out w7 hx7
        clear hx7
        go_wp2_with (go_at_call 15; refine stop_here ?_)
        refine stop_on ?_
        clear q0 q1 q2 q3 q4 q5 q6 q7
        refine (HD1'.out w7 hE7.out).mono ?_
        rintro e w8 ⟨rfl, hx8⟩
        have hE8 := Lib.hid (hE7.out.trans hx8)
        obtain ⟨q0, q1, q2, q3, q4, q5, q6, q7⟩ := HKS6.out w8 hE8.out
        clear hx8
        go_wp2
        go_ret
        exact ⟨rfl, X.out.trans (hE6.out.trans hE8.out)⟩
      · rw [hr] at HD1'
        go_wp2_with (go_at_call 14; refine stop_here ?_)
        refine stop_on ?_
        clear q0 q1 q2 q3 q4 q5 q6 q7
        refine (HNM.out w6 (Ext.refl _)).mono ?_
        rintro e w7 ⟨rfl, hx7⟩
        have hE7 := Lib.hid hx7
        obtain ⟨q0, q1, q2, q3, q4, q5, q6, q7⟩ := HKS6.out w7 hx7
        clear hx7
        go_wp2_with (go_at_call 15; refine stop_here ?_)
        refine stop_on ?_
        clear q0 q1 q2 q3 q4 q5 q6 q7
        refine (HD1'.out w7 hE7.out).mono ?_
        rintro e w8 ⟨rfl, hx8⟩
        have hE8 := Lib.hid (hE7.out.trans hx8)
        obtain ⟨q0, q1, q2, q3, q4, q5, q6, q7⟩ := HKS6.out w8 hE8.out
        clear hx8
        have HRD := Lib.hid (fun w' (hx : Ext w w') => readD_any A A' a l c c' at_ w' (by omega) (by omega) (HA.out.ext hx).cells (HA'.out.ext hx).cells)
        have HRR := Lib.hid (fun w' (hx : Ext w w') => readR_any A A' a l c c' at_ w' (by unfold maxLen; omega) (by unfold maxLen; omega) (HA.out.ext hx).cells (HA'.out.ext hx).cells)
        generalize readS a l at_ = rs at *
        generalize readE a at_ = re at *
        go_wp2_with (go_at_call 16; refine stop_here ?_)
        refine stop_on ?_
        clear q0 q1 q2 q3 q4 q5 q6 q7
        refine (HRD.out w8 (X.out.trans (hE6.out.trans hE8.out))).mono ?_
        rintro e w9 ⟨rfl, hx9⟩
        have hE9 := Lib.hid (hE8.out.trans hx9)
        obtain ⟨q0, q1, q2, q3, q4, q5, q6, q7⟩ := HKS6.out w9 hE9.out
        clear hx9
        go_wp2_with (go_at_call 17; refine stop_here ?_)
        refine stop_on ?_
        clear q0 q1 q2 q3 q4 q5 q6 q7
        refine (HRR.out w9 (X.out.trans (hE6.out.trans hE9.out))).mono ?_
        rintro e wA ⟨rfl, hxA⟩
        have hEA := Lib.hid (hE9.out.trans hxA)
        obtain ⟨q0, q1, q2, q3, q4, q5, q6, q7⟩ := HKS6.out wA hEA.out
        clear hxA
        have XA := Lib.hid (X.out.trans (hE6.out.trans hEA.out))
        have HR2' := Lib.hid (fun w' (hx : Ext wA w') => HR2.out w' (XA.out.trans hx))
        have HKA := Lib.hid (fun w' (hx : Ext wA w') => HKS6.out w' (hEA.out.trans hx))
        have HMB := Lib.hid (fun w' (hx : Ext wA w') => HM.out w' (XA.out.trans hx))
        have HNB := Lib.hid (fun w' (hx : Ext wA w') => HN.out w' (XA.out.trans hx))
        have HSS := Lib.hid (show (rs.toList == rs.toList) = true by simp)
        clear hr
        cases hrb : rightS b m
        · rw [hrb] at HR2'
          have hss := HSS.out
          go_wp2_with fail
          first
          | go_region_with
              (first
              | ((go_at_call 13
                  refine (HR2'.out _ ?_).mono ?_
                  (first | exact Ext.refl _ | exact (Ext.refl _).drew)
                  rintro e wB ⟨rfl, hx⟩
                  have hEB := Lib.hid (show Ext wA wB from by first | exact hx | exact (Ext.refl wA).drew.trans hx)
                  clear hx)))
          | fail
          all_goals
            go_wp2
            go_ret
            exact ⟨rfl, XA.out.trans hEB.out⟩
        · rw [hrb] at HR2'
          have hss := HSS.out
          go_wp2_with fail
          first
          | go_region_held3 (fun w' => w'.cell? ⟨w.heap.size + 1, 0, none⟩ = some (.slice A a.length c) ∧ w'.cell? ⟨w.heap.size + 1, 1, none⟩ = some (.slice A' l.length c') ∧ w'.cell? ⟨w.heap.size + 1 + 1, 0, none⟩ = some (.slice B b.length d) ∧ w'.cell? ⟨w.heap.size + 1 + 1, 1, none⟩ = some (.slice B' m.length d') ∧ w'.cell? ⟨w4.heap.size, 0, none⟩ = some (.slice N1 nb.length k1) ∧ w'.cell? ⟨w4.heap.size, 1, none⟩ = some (.slice N2 0 k2) ∧ w'.cell? ⟨w5.heap.size, 0, none⟩ = some (.slice N3 nb.length k3) ∧ w'.cell? ⟨w5.heap.size, 1, none⟩ = some (.slice N4 0 k4))
              (first | exact HKA.out _ hED.out | exact HKA.out _ hEC.out | exact HKA.out _ hEB.out | exact HKA.out _ (Ext.refl wA).drew | exact HKA.out _ (Ext.refl wA))
              (first
              | ((go_at_call 13
                  refine (HR2'.out _ ?_).mono ?_
                  (first | exact Ext.refl _ | exact (Ext.refl _).drew)
                  rintro e wB ⟨rfl, hx⟩
                  have hEB := Lib.hid (show Ext wA wB from by first | exact hx | exact (Ext.refl wA).drew.trans hx)
                  clear hx))
              | ((go_at_call 18
                  refine (HMB.out _ hEB.out).mono ?_
                  rintro e wC ⟨rfl, hx⟩
                  have hEC := Lib.hid (hEB.out.trans hx)
                  clear hx))
              | ((go_at_call 14
                  refine (HNB.out _ hEC.out).mono ?_
                  rintro e wD ⟨rfl, hx⟩
                  have hED := Lib.hid (hEC.out.trans hx)
                  clear hx)))
          | fail
          go_wp2
          go_ret
          exact ⟨rfl, XA.out.trans hED.out⟩
end Go.Proofs.Ytikdicnpmobidaa
