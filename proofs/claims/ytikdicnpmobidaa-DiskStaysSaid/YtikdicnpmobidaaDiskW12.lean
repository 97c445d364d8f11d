/- The walk of the reference's Put. -/
import Derived.Test.YtikdicnpmobidaaDiskW11
namespace Go.Proofs.Ytikdicnpmobidaa
open Go.RowKit
attribute [local go_sem ↓] Go.wp_at_zero Go.wp_at_succ

set_option maxHeartbeats 4000000 in
set_option maxRecDepth 100000 in
theorem putR_any (A A' : Option Addr) (b : List ByteArray) (l : List Wr) (c c' : Nat) (xa : Int) (xs : ByteArray) (w : World) (_hb : b.length ≤ 1000000) (hl : l.length ≤ 900000)
    (hA0 : Sl w A b.length c (b.map sv)) (hA0' : Sl w A' l.length c' (wvs l)) :
    Calls Try.prog 21 #[.agg #[.slice A b.length c, .slice A' l.length c'], .int .i64 xa, .string xs] w fun e w' => ∃ v, e = .returned (.tuple #[v, .int .i64 (putE b (xa, xs))]) ∧ IsDisk w' v b (putW b l (xa, xs)) ∧ Ext w w' := by
  have HA := Lib.hid hA0
  have HA' := Lib.hid hA0'
  clear hA0 hA0'
  have HX := Lib.hid (((Ext.refl w).alloc (.cells #[.slice A b.length c, .slice A' l.length c'] 25)).alloc (.cells #[.slice none 0 0, .slice none 0 0] 25))
  have hb1 := (Box2.new w (.slice A b.length c) (.slice A' l.length c') 25).ext (by simp) ((Ext.refl _).alloc (.cells #[.slice none 0 0, .slice none 0 0] 25))
  have hb2 := Box2.new (w.alloc (.cells #[.slice A b.length c, .slice A' l.length c'] 25)) (.slice none 0 0) (.slice none 0 0) 25
  rw [World.size_alloc] at hb2
  have HT := Lib.hid (may_any A A' b.length c l.length c' xa xs ((w.alloc (.cells #[.slice A b.length c, .slice A' l.length c'] 25)).alloc (.cells #[.slice none 0 0, .slice none 0 0] 25)))
  obtain ⟨w1, hw1⟩ : ∃ w1, w1 = ((w.alloc (.cells #[.slice A b.length c, .slice A' l.length c'] 25)).alloc (.cells #[.slice none 0 0, .slice none 0 0] 25)) := ⟨_, rfl⟩
  have hs1 : w1.heap.size = w.heap.size + 1 + 1 := by rw [hw1]; simp
  rw [← hw1] at hb1 hb2 HX HT
  have HB0 := Lib.hid hb1
  have HB1 := Lib.hid hb2
  have HW1 := Lib.hid hw1
  clear hb1 hb2 hw1
  cases ht : takesS b.length (xa, xs)
  · have HZ := Lib.hid ht
    have HP := Lib.hid (show putW b l (xa, xs) = l by unfold putW; rw [ht]; rfl)
    have HE := Lib.hid (show putE b (xa, xs) = 1 by unfold putE; rw [ht]; rfl)
    clear ht
    go_enter Try.func21, Try.ntmps21
    go_wp2_with (go_at_call 29; refine stop_here ?_)
    refine stop_on ?_
    rw [← HW1.out]
    refine HT.out.mono ?_
    clear HT
    rintro e w2 ⟨rfl, hx2⟩
    rw [HZ.out]
    have hs2 := hx2.size
    have b0 := HB0.out.ext (by omega) hx2
    have b1 := HB1.out.ext (by omega) hx2
    obtain ⟨c0, c1, _, _⟩ := b0.read
    obtain ⟨c4, c5, f4, f5⟩ := b1.read
    have hX2 := HX.out.trans hx2
    have H3 := Lib.hid ((HA.out.ext hX2).store2 (flat_svs b) b1 (.slice A b.length c) (.slice A' l.length c'))
    have H4 := Lib.hid ((HA'.out.ext hX2).store2 (flat_wvs l) b1 (.slice A b.length c) (.slice A' l.length c'))
    have HBS := Lib.hid (b1.store (.slice A b.length c) (.slice A' l.length c'))
    have HXE := Lib.hid (hX2.store2 (k := w.heap.size + 1) (by omega) (.slice A b.length c) (.slice A' l.length c'))
    clear b0 b1 hx2 hX2
    go_wp2
    clear c0 c1 c4 c5 f4 f5
    obtain ⟨r0, r1, _, _⟩ := HBS.out.read
    refine bodyPost_ret (v := .tuple #[.agg #[.slice A b.length c, .slice A' l.length c'], .int .i64 1]) (by simp [results, Try.results21, go_sem, r0, r1]) rfl ?_
    rw [HP.out, HE.out]
    exact ⟨_, rfl, ⟨_, _, _, _, rfl, H3.out, H4.out⟩, HXE.out⟩
  · have HZ := Lib.hid ht
    have HP := Lib.hid (show putW b l (xa, xs) = l ++ [(xa, xs)] by unfold putW; rw [if_pos ht])
    have HE := Lib.hid (show putE b (xa, xs) = 0 by unfold putE; rw [if_pos ht])
    clear ht
    go_enter Try.func21, Try.ntmps21
    go_wp2_with (go_at_call 29; refine stop_here ?_)
    refine stop_on ?_
    rw [← HW1.out]
    refine HT.out.mono ?_
    clear HT
    rintro e w2 ⟨rfl, hx2⟩
    rw [HZ.out]
    have hs2 := hx2.size
    have b0 := HB0.out.ext (by omega) hx2
    have b1 := HB1.out.ext (by omega) hx2
    obtain ⟨c0, c1, _, _⟩ := b0.read
    obtain ⟨c4, c5, f4, f5⟩ := b1.read
    have HB0 := Lib.hid b0
    have HB1 := Lib.hid b1
    have HX2 := Lib.hid (HX.out.trans hx2)
    clear b0 b1 hx2
    have KS : ∀ w', Ext w2 w' → (w'.cell? ⟨w.heap.size, 0, none⟩ = some (.slice A b.length c) ∧ w'.cell? ⟨w.heap.size, 1, none⟩ = some (.slice A' l.length c')) := by
      intro w' hx
      obtain ⟨c0, c1, _, _⟩ := (HB0.out.ext (by omega) hx).read
      exact ⟨c0, c1⟩
    have KS2 : ∀ w3 x y, Ext w2 w3 → ∀ w', w' = (w3.setCell ⟨w.heap.size + 1, 0, none⟩ x).setCell ⟨w.heap.size + 1, 1, none⟩ y → (w'.cell? ⟨w.heap.size, 0, none⟩ = some (.slice A b.length c) ∧ w'.cell? ⟨w.heap.size, 1, none⟩ = some (.slice A' l.length c')) := by
      rintro w3 x y hx w' rfl
      have hz := hx.size
      obtain ⟨c0, c1, _, _⟩ := ((HB0.out.ext (by omega) hx).grown (by omega) (grown_store2 _ (w.heap.size + 1) x y) (by omega)).read
      exact ⟨c0, c1⟩
    have HKS := Lib.hid KS
    have HKS2 := Lib.hid KS2
    clear KS KS2
    have HSL := Lib.hid (fun wx : World => sl_lit wx 43 1 [.int .i64 xa, .string xs] (by unfold maxLen; omega))
    have hoe1 := own_empty (w2.alloc (.cells #[.int .i64 xa, .string xs] 43)) 43 2
    rw [World.size_alloc] at hoe1
    have HOE0 := Lib.hid (own_empty w2 43 2)
    have HOE1 := Lib.hid hoe1
    have hsl1 := HSL.out (w2.alloc (.cells #[] 43))
    rw [World.size_alloc] at hsl1
    have HSL1 := Lib.hid hsl1
    clear hoe1 hsl1
    have HML := Lib.hid (show l.length + 1 ≤ maxLen by unfold maxLen; omega)
    have HML0 := Lib.hid (show 0 + l.length ≤ maxLen by unfold maxLen; omega)
    have HWL := Lib.hid (wvs_length l)
    have HFL := Lib.hid (show ∀ u ∈ [Value.int .i64 xa, .string xs], u.oneCell' = true by intro u hu; simp at hu; rcases hu with rfl | rfl <;> rfl)
    go_wp2_with fail
    go_region_held3 (fun w' => w'.cell? ⟨w.heap.size, 0, none⟩ = some (.slice A b.length c) ∧ w'.cell? ⟨w.heap.size, 1, none⟩ = some (.slice A' l.length c'))
      (first | exact HKS.out _ hE5.out | exact HKS.out _ hE4.out | exact HKS.out _ (hE4.out.alloc _) | exact HKS.out _ (Ext.refl w2).drew | exact HKS.out _ ((Ext.refl w2).alloc _).drew | exact HKS.out _ (((Ext.refl w2).alloc _).alloc _).drew | exact HKS2.out _ _ _ hE5.out _ rfl)
      (first
        | ((refine step_app_sl ?_ ?_ ?_ 23 ?_ ?_ 43 (.agg #[.int .i64 0, .string (ByteArray.mk #[])]) 2 24 Try.underlying23 infoW rfl Nat.two_pos ?_ 0 [] ?_ ?_ A' l.length c' (wvs l) ?_ HWL.out ?_ (wvs_oneCell l) HML0.out ?_ ?_ ?_
            rfl
            rotate_left 2
            rfl
            rotate_left 2
            rfl
            (first | exact HOE0.out.drew | exact (HOE0.out.alloc _).drew | exact HOE1.out.drew)
            rfl
            (first | exact HA'.out.ext (HX2.out.alloc _).drew | exact HA'.out.ext ((HX2.out.alloc _).alloc _).drew)
            omega
            (first | exact Nat.le_succ _ | exact Nat.le_trans (Nat.le_succ _) (Nat.le_succ _) | (simp only [World.size_alloc]; omega) | (simp; omega) | simp)
            intro A4 q4 w4 hoA hgA
            rw [Nat.zero_add, List.nil_append] at hoA
            rw [Nat.zero_add]
            have hE4 := Lib.hid (show Ext w2 w4 from by first
              | exact Below.grown ((Ext.refl w2).alloc _).drew hgA ((Ext.refl w2).alloc _).size (fun q hq => (HOE0.out.lt q hq).1)
              | exact Below.grown (((Ext.refl w2).alloc _).alloc _).drew hgA (((Ext.refl w2).alloc _).alloc _).size (fun q hq => (HOE0.out.lt q hq).1)
              | exact Below.grown (((Ext.refl w2).alloc _).alloc _).drew hgA (((Ext.refl w2).alloc _).alloc _).size (fun q hq => Nat.le_of_lt (HOE1.out.lt q hq).1))
            have hz4 : w2.heap.size + 1 ≤ w4.heap.size := by
              have hz := hgA.size
              simp at hz
              omega
            (first
              | have hSX4 := Lib.hid (show Sl w4 (some ⟨w2.heap.size + 1, 0, none⟩) 1 1 [.int .i64 xa, .string xs] from (HSL1.out.ext (Ext.refl _).drew).grown hgA (apart_num (Nat.ne_of_lt (Nat.lt_succ_self _))))
              | have hSX4 := Lib.hid (show Sl w4 (some ⟨w2.heap.size, 0, none⟩) 1 1 [.int .i64 xa, .string xs] from ((HSL.out w2).ext ((Ext.refl _).alloc _).drew).grown hgA (apart_num (Nat.succ_ne_self _)))
              | skip)
            have hOW4 := Lib.hid hoA
            clear hoA hgA))
        | ((refine step_app_sl ?_ ?_ ?_ 23 ?_ ?_ 43 (.agg #[.int .i64 0, .string (ByteArray.mk #[])]) 2 24 Try.underlying23 infoW rfl Nat.two_pos ?_ l.length (wvs l) ?_ ?_ ?_ 1 1 [.int .i64 xa, .string xs] ?_ rfl ?_ ?_ ?_ ?_ ?_ ?_
            rfl
            rotate_left 2
            rfl
            rotate_left 2
            rfl
            (first | exact hOW4.out | exact hOW4.out.alloc _)
            rotate_left 1
            rfl
            (first | exact HSL.out w4 | exact hSX4.out)
            exact HFL.out
            exact HML.out
            omega
            (first | omega | (simp; omega))
            intro A5 q5 w5 hoA hgA
            have hE5 := Lib.hid (show Ext w2 w5 from by first
              | exact Below.grown hE4.out hgA hE4.out.size (fun q hq => (hOW4.out.lt q hq).1)
              | exact Below.grown hE4.out hgA hE4.out.size (fun q hq => Nat.le_of_succ_le (hOW4.out.lt q hq).1)
              | exact Below.grown (hE4.out.alloc _) hgA (hE4.out.alloc _).size (fun q hq => (hOW4.out.lt q hq).1)
              | exact Below.grown (hE4.out.alloc _) hgA (hE4.out.alloc _).size (fun q hq => Nat.le_of_succ_le (hOW4.out.lt q hq).1))
            have hSW5 := Lib.hid (own_sl hoA)
            clear hoA hgA
            obtain ⟨r0, r1, f0, f1⟩ := (HB1.out.ext (by omega) hE5.out).read)))
    all_goals
      go_wp2
      have hbe := HB1.out.ext (by omega) hE5.out
      have H4 := Lib.hid (hSW5.out.store2 (by rw [show wvs l ++ [Value.int .i64 xa, .string xs] = wvs (l ++ [(xa, xs)]) by rw [wvs_append]; rfl]; exact flat_wvs _) hbe)
      have H3 := Lib.hid ((HA.out.ext (HX2.out.trans hE5.out)).store2 (flat_svs b) hbe)
      have HBS := Lib.hid (fun x y => hbe.store x y)
      have HXE := Lib.hid (fun x y => (HX2.out.trans hE5.out).store2 (k := w.heap.size + 1) (by omega) x y)
      clear r0 r1 f0 f1 c0 c1 c4 c5 f4 f5 hbe
      obtain ⟨r0, r1, _, _⟩ := (HBS.out (.slice A b.length c) (.slice A5 (l.length + 1) q5)).read
      refine bodyPost_ret (v := .tuple #[.agg #[.slice A b.length c, .slice A5 (l.length + 1) q5], .int .i64 0]) (by simp [results, Try.results21, go_sem, r0, r1]) rfl ?_
      rw [HP.out, HE.out]
      exact ⟨_, rfl, ⟨_, _, A5, q5, by rw [List.length_append]; rfl, H3.out _ _, by rw [List.length_append, wvs_append]; exact H4.out _ _⟩, HXE.out _ _⟩
end Go.Proofs.Ytikdicnpmobidaa
