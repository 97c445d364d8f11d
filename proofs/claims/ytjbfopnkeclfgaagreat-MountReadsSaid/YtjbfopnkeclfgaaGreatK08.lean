/- The walk of the reference's Put. The walks of Flush and Crash. The walk of Crash. The walks of the reference's Crash and Flush. -/
import Derived.Test.YtjbfopnkeclfgaaGreatK02
import Derived.Test.YtjbfopnkeclfgaaGreatK07
namespace Go.Proofs.YtjbfopnkeclfgaaGreat
set_option maxRecDepth 20000
open Go.RowKit
attribute [local go_sem ↓] Go.wp_at_zero Go.wp_at_succ

set_option maxHeartbeats 4000000 in
set_option maxRecDepth 100000 in
theorem putR_any (A A' : Option Addr) (b : List ByteArray) (l : List Wr) (c c' : Nat) (xa : Int) (xs : ByteArray) (w : World) (_hb : b.length ≤ 1000000) (hl : l.length ≤ 900000)
    (hA0 : Sl w A b.length c (b.map sv)) (hA0' : Sl w A' l.length c' (wvs l)) :
    Calls Tryz.prog 107 #[.agg #[.slice A b.length c, .slice A' l.length c'], .int .i64 xa, .string xs] w fun e w' => ∃ v, e = .returned (.tuple #[v, .int .i64 (putE b (xa, xs))]) ∧ IsDisk w' v b (putW b l (xa, xs)) ∧ Ext w w' := by
  have HA := Lib.hid hA0
  have HA' := Lib.hid hA0'
  clear hA0 hA0'
  have HX := Lib.hid (((Ext.refl w).alloc (.cells #[.slice A b.length c, .slice A' l.length c'] 25)).alloc (.cells #[.slice none 0 0, .slice none 0 0] 25))
  have hb1 := (Box2.new w (.slice A b.length c) (.slice A' l.length c') 25).ext (by simp) ((Ext.refl _).alloc (.cells #[.slice none 0 0, .slice none 0 0] 25))
  have hb2 := Box2.new (w.alloc (.cells #[.slice A b.length c, .slice A' l.length c'] 25)) (.slice none 0 0) (.slice none 0 0) 25
  rw [World.size_alloc] at hb2
  have HT := Lib.hid (may_any A A' b.length c l.length c' xa xs ((w.alloc (.cells #[.slice A b.length c, .slice A' l.length c'] 25)).alloc (.cells #[.slice none 0 0, .slice none 0 0] 25)))
  obtain ⟨w1, hw1⟩ : ∃ w1, w1 = ((w.alloc (.cells #[.slice A b.length c, .slice A' l.length c'] 25)).alloc (.cells #[.slice none 0 0, .slice none 0 0] 25)) := ⟨_, rfl⟩
  have hs1 : w1.heap.size = w.heap.size + 1 + 1 := by rw [hw1]; simp
  rw [← hw1] at hb1 hb2 HX HT
  have HB0 := Lib.hid hb1
  have HB1 := Lib.hid hb2
  have HW1 := Lib.hid hw1
  clear hb1 hb2 hw1
  cases ht : takesS b.length (xa, xs)
  · have HZ := Lib.hid ht
    have HP := Lib.hid (show putW b l (xa, xs) = l by unfold putW; rw [ht]; rfl)
    have HE := Lib.hid (show putE b (xa, xs) = 1 by unfold putE; rw [ht]; rfl)
    clear ht
    go_enter Tryz.func107, Tryz.ntmps107
    go_wp2_with (go_at_call 36; refine stop_here ?_)
    refine stop_on ?_
    rw [← HW1.out]
    refine HT.out.mono ?_
    clear HT
    rintro e w2 ⟨rfl, hx2⟩
    rw [HZ.out]
    have hs2 := hx2.size
    have b0 := HB0.out.ext (by omega) hx2
    have b1 := HB1.out.ext (by omega) hx2
    obtain ⟨c0, c1, _, _⟩ := b0.read
    obtain ⟨c4, c5, f4, f5⟩ := b1.read
    have hX2 := HX.out.trans hx2
    have H3 := Lib.hid ((HA.out.ext hX2).store2 (flat_svs b) b1 (.slice A b.length c) (.slice A' l.length c'))
    have H4 := Lib.hid ((HA'.out.ext hX2).store2 (flat_wvs l) b1 (.slice A b.length c) (.slice A' l.length c'))
    have HBS := Lib.hid (b1.store (.slice A b.length c) (.slice A' l.length c'))
    have HXE := Lib.hid (hX2.store2 (k := w.heap.size + 1) (by omega) (.slice A b.length c) (.slice A' l.length c'))
    clear b0 b1 hx2 hX2
    go_wp2
    clear c0 c1 c4 c5 f4 f5
    obtain ⟨r0, r1, _, _⟩ := HBS.out.read
    refine bodyPost_ret (v := .tuple #[.agg #[.slice A b.length c, .slice A' l.length c'], .int .i64 1]) (by simp [results, Tryz.results107, go_sem, r0, r1]) rfl ?_
    rw [HP.out, HE.out]
    exact ⟨_, rfl, ⟨_, _, _, _, rfl, H3.out, H4.out⟩, HXE.out⟩
  · have HZ := Lib.hid ht
    have HP := Lib.hid (show putW b l (xa, xs) = l ++ [(xa, xs)] by unfold putW; rw [if_pos ht])
    have HE := Lib.hid (show putE b (xa, xs) = 0 by unfold putE; rw [if_pos ht])
    clear ht
    go_enter Tryz.func107, Tryz.ntmps107
    go_wp2_with (go_at_call 36; refine stop_here ?_)
    refine stop_on ?_
    rw [← HW1.out]
    refine HT.out.mono ?_
    clear HT
    rintro e w2 ⟨rfl, hx2⟩
    rw [HZ.out]
    have hs2 := hx2.size
    have b0 := HB0.out.ext (by omega) hx2
    have b1 := HB1.out.ext (by omega) hx2
    obtain ⟨c0, c1, _, _⟩ := b0.read
    obtain ⟨c4, c5, f4, f5⟩ := b1.read
    have HB0 := Lib.hid b0
    have HB1 := Lib.hid b1
    have HX2 := Lib.hid (HX.out.trans hx2)
    clear b0 b1 hx2
    have KS : ∀ w', Ext w2 w' → (w'.cell? ⟨w.heap.size, 0, none⟩ = some (.slice A b.length c) ∧ w'.cell? ⟨w.heap.size, 1, none⟩ = some (.slice A' l.length c')) := by
      intro w' hx
      obtain ⟨c0, c1, _, _⟩ := (HB0.out.ext (by omega) hx).read
      exact ⟨c0, c1⟩
    have KS2 : ∀ w3 x y, Ext w2 w3 → ∀ w', w' = (w3.setCell ⟨w.heap.size + 1, 0, none⟩ x).setCell ⟨w.heap.size + 1, 1, none⟩ y → (w'.cell? ⟨w.heap.size, 0, none⟩ = some (.slice A b.length c) ∧ w'.cell? ⟨w.heap.size, 1, none⟩ = some (.slice A' l.length c')) := by
      rintro w3 x y hx w' rfl
      have hz := hx.size
      obtain ⟨c0, c1, _, _⟩ := ((HB0.out.ext (by omega) hx).grown (by omega) (grown_store2 _ (w.heap.size + 1) x y) (by omega)).read
      exact ⟨c0, c1⟩
    have HKS := Lib.hid KS
    have HKS2 := Lib.hid KS2
    clear KS KS2
    have HSL := Lib.hid (fun wx : World => sl_lit wx 85 1 [.int .i64 xa, .string xs] (by unfold maxLen; omega))
    have hoe1 := own_empty (w2.alloc (.cells #[.int .i64 xa, .string xs] 85)) 85 2
    rw [World.size_alloc] at hoe1
    have HOE0 := Lib.hid (own_empty w2 85 2)
    have HOE1 := Lib.hid hoe1
    have hsl1 := HSL.out (w2.alloc (.cells #[] 85))
    rw [World.size_alloc] at hsl1
    have HSL1 := Lib.hid hsl1
    clear hoe1 hsl1
    have HML := Lib.hid (show l.length + 1 ≤ maxLen by unfold maxLen; omega)
    have HML0 := Lib.hid (show 0 + l.length ≤ maxLen by unfold maxLen; omega)
    have HWL := Lib.hid (wvs_length l)
    have HFL := Lib.hid (show ∀ u ∈ [Value.int .i64 xa, .string xs], u.oneCell' = true by intro u hu; simp at hu; rcases hu with rfl | rfl <;> rfl)
    go_wp2_with fail
    go_region_held3 (fun w' => w'.cell? ⟨w.heap.size, 0, none⟩ = some (.slice A b.length c) ∧ w'.cell? ⟨w.heap.size, 1, none⟩ = some (.slice A' l.length c'))
      (first | exact HKS.out _ hE5.out | exact HKS.out _ hE4.out | exact HKS.out _ (hE4.out.alloc _) | exact HKS.out _ (Ext.refl w2).drew | exact HKS.out _ ((Ext.refl w2).alloc _).drew | exact HKS.out _ (((Ext.refl w2).alloc _).alloc _).drew | exact HKS2.out _ _ _ hE5.out _ rfl)
      (first
        | ((refine step_app_sl ?_ ?_ ?_ 23 ?_ ?_ 85 (.agg #[.int .i64 0, .string (ByteArray.mk #[])]) 2 24 Tryz.underlying23 infoW rfl Nat.two_pos ?_ 0 [] ?_ ?_ A' l.length c' (wvs l) ?_ HWL.out ?_ (wvs_oneCell l) HML0.out ?_ ?_ ?_
            rfl
            rotate_left 2
            rfl
            rotate_left 2
            rfl
            (first | exact HOE0.out.drew | exact (HOE0.out.alloc _).drew | exact HOE1.out.drew)
            rfl
            (first | exact HA'.out.ext (HX2.out.alloc _).drew | exact HA'.out.ext ((HX2.out.alloc _).alloc _).drew)
            omega
            (first | exact Nat.le_succ _ | exact Nat.le_trans (Nat.le_succ _) (Nat.le_succ _) | (simp only [World.size_alloc]; omega) | (simp; omega) | simp)
            intro A4 q4 w4 hoA hgA
            rw [Nat.zero_add, List.nil_append] at hoA
            rw [Nat.zero_add]
            have hE4 := Lib.hid (show Ext w2 w4 from by first
              | exact Below.grown ((Ext.refl w2).alloc _).drew hgA ((Ext.refl w2).alloc _).size (fun q hq => (HOE0.out.lt q hq).1)
              | exact Below.grown (((Ext.refl w2).alloc _).alloc _).drew hgA (((Ext.refl w2).alloc _).alloc _).size (fun q hq => (HOE0.out.lt q hq).1)
              | exact Below.grown (((Ext.refl w2).alloc _).alloc _).drew hgA (((Ext.refl w2).alloc _).alloc _).size (fun q hq => Nat.le_of_lt (HOE1.out.lt q hq).1))
            have hz4 : w2.heap.size + 1 ≤ w4.heap.size := by
              have hz := hgA.size
              simp at hz
              omega
            (first
              | have hSX4 := Lib.hid (show Sl w4 (some ⟨w2.heap.size + 1, 0, none⟩) 1 1 [.int .i64 xa, .string xs] from (HSL1.out.ext (Ext.refl _).drew).grown hgA (apart_num (Nat.ne_of_lt (Nat.lt_succ_self _))))
              | have hSX4 := Lib.hid (show Sl w4 (some ⟨w2.heap.size, 0, none⟩) 1 1 [.int .i64 xa, .string xs] from ((HSL.out w2).ext ((Ext.refl _).alloc _).drew).grown hgA (apart_num (Nat.succ_ne_self _)))
              | skip)
            have hOW4 := Lib.hid hoA
            clear hoA hgA))
        | ((refine step_app_sl ?_ ?_ ?_ 23 ?_ ?_ 85 (.agg #[.int .i64 0, .string (ByteArray.mk #[])]) 2 24 Tryz.underlying23 infoW rfl Nat.two_pos ?_ l.length (wvs l) ?_ ?_ ?_ 1 1 [.int .i64 xa, .string xs] ?_ rfl ?_ ?_ ?_ ?_ ?_ ?_
            rfl
            rotate_left 2
            rfl
            rotate_left 2
            rfl
            (first | exact hOW4.out | exact hOW4.out.alloc _)
            rotate_left 1
            rfl
            (first | exact HSL.out w4 | exact hSX4.out)
            exact HFL.out
            exact HML.out
            omega
            (first | omega | (simp; omega))
            intro A5 q5 w5 hoA hgA
            have hE5 := Lib.hid (show Ext w2 w5 from by first
              | exact Below.grown hE4.out hgA hE4.out.size (fun q hq => (hOW4.out.lt q hq).1)
              | exact Below.grown hE4.out hgA hE4.out.size (fun q hq => Nat.le_of_succ_le (hOW4.out.lt q hq).1)
              | exact Below.grown (hE4.out.alloc _) hgA (hE4.out.alloc _).size (fun q hq => (hOW4.out.lt q hq).1)
              | exact Below.grown (hE4.out.alloc _) hgA (hE4.out.alloc _).size (fun q hq => Nat.le_of_succ_le (hOW4.out.lt q hq).1))
            have hSW5 := Lib.hid (own_sl hoA)
            clear hoA hgA
            obtain ⟨r0, r1, f0, f1⟩ := (HB1.out.ext (by omega) hE5.out).read)))
    all_goals
      go_wp2
      have hbe := HB1.out.ext (by omega) hE5.out
      have H4 := Lib.hid (hSW5.out.store2 (by rw [show wvs l ++ [Value.int .i64 xa, .string xs] = wvs (l ++ [(xa, xs)]) by rw [wvs_append]; rfl]; exact flat_wvs _) hbe)
      have H3 := Lib.hid ((HA.out.ext (HX2.out.trans hE5.out)).store2 (flat_svs b) hbe)
      have HBS := Lib.hid (fun x y => hbe.store x y)
      have HXE := Lib.hid (fun x y => (HX2.out.trans hE5.out).store2 (k := w.heap.size + 1) (by omega) x y)
      clear r0 r1 f0 f1 c0 c1 c4 c5 f4 f5 hbe
      obtain ⟨r0, r1, _, _⟩ := (HBS.out (.slice A b.length c) (.slice A5 (l.length + 1) q5)).read
      refine bodyPost_ret (v := .tuple #[.agg #[.slice A b.length c, .slice A5 (l.length + 1) q5], .int .i64 0]) (by simp [results, Tryz.results107, go_sem, r0, r1]) rfl ?_
      rw [HP.out, HE.out]
      exact ⟨_, rfl, ⟨_, _, A5, q5, by rw [List.length_append]; rfl, H3.out _ _, by rw [List.length_append, wvs_append]; exact H4.out _ _⟩, HXE.out _ _⟩
end Go.Proofs.YtjbfopnkeclfgaaGreat
namespace Go.Proofs.YtjbfopnkeclfgaaGreat
set_option maxRecDepth 20000
open Go.RowKit

set_option maxHeartbeats 2000000 in
theorem flushD_any (A A' : Option Addr) (b : List ByteArray) (l : List Wr) (c c' : Nat) (w : World) (hb : b.length ≤ 1000000) (hl : l.length ≤ 1000000) (hA0 : Sl w A b.length c (b.map sv)) (hA0' : Sl w A' l.length c' (wvs l)) :
    Calls Tryz.prog 16 #[.agg #[.slice A b.length c, .slice A' l.length c']] w fun e w' => ∃ v, e = .returned v ∧ IsDisk w' v (writeL b l) [] ∧ Ext w w' := by
  have HA := Lib.hid hA0.cells
  have HA' := Lib.hid hA0'.cells
  have HN := Lib.hid hA0.1
  clear hA0 hA0'
  have HX := Lib.hid (((Ext.refl w).alloc (.cells #[.slice A b.length c, .slice A' l.length c'] 25)).alloc (.cells #[.slice none 0 0, .slice none 0 0] 25))
  have hb1 := (Box2.new w (.slice A b.length c) (.slice A' l.length c') 25).ext (by simp) ((Ext.refl _).alloc (.cells #[.slice none 0 0, .slice none 0 0] 25))
  have hb2 := Box2.new (w.alloc (.cells #[.slice A b.length c, .slice A' l.length c'] 25)) (.slice none 0 0) (.slice none 0 0) 25
  have HC := Lib.hid (copiedB0 A b c _ hb HN.out (HA.out.ext HX.out))
  have HB1 := Lib.hid hb1
  have HB2 := Lib.hid hb2
  clear hb1 hb2
  go_enter Tryz.func16, Tryz.ntmps16
  go_wp2_with (go_at_call 37; refine stop_here ?_)
  refine stop_on ?_
  refine HC.out.mono ?_
  clear HC
  rintro e w1 ⟨rfl, ho, hx⟩
  have HX1 := Lib.hid (Ext.trans HX.out hx)
  have hs := hx.size
  simp only [World.size_alloc] at hs ho HB2 ⊢
  have HB1 := Lib.hid (HB1.out.ext (by simp; omega) hx)
  have HB2 := Lib.hid (HB2.out.ext (by simp) hx)
  obtain ⟨c0, c1, _, _⟩ := HB1.out.read
  have HW := Lib.hid (write_any _ _ _ _ b A' l c' w1 hb (by unfold maxLen; omega) ho (HA'.out.ext HX1.out) (HA'.out.apart (by omega)))
  clear hx ho
  go_wp2_with (go_at_call 38; refine stop_here ?_)
  refine stop_on ?_
  refine HW.out.mono ?_
  clear HW
  rintro e w2 ⟨rfl, ho, hg⟩
  have hb2 := HB2.out.grown (by omega) hg (by omega)
  have HB3 := Lib.hid (hb2.store (.slice (some ⟨w.heap.size + 1 + 1, 0, none⟩) b.length b.length) (.slice none 0 0))
  obtain ⟨r0, r1, f0, f1⟩ := hb2.read
  have HO := Lib.hid ho
  have HX2 := Lib.hid (show Ext w w2 from Below.grown HX1.out hg (by omega) (by intro k hk; cases hk; omega))
  clear ho hg c0 c1
  go_wp2
  have HXE := Lib.hid (HX2.out.store2 (k := w.heap.size + 1) (by omega) (.slice (some ⟨w.heap.size + 1 + 1, 0, none⟩) b.length b.length) (.slice none 0 0))
  have HOE := Lib.hid (own_store2 HO.out (k := w.heap.size + 1) (by omega) (.slice (some ⟨w.heap.size + 1 + 1, 0, none⟩) b.length b.length) (.slice none 0 0))
  clear r0 r1 f0 f1
  obtain ⟨r0, r1, _, _⟩ := HB3.out.read
  refine bodyPost_ret (v := .agg #[.slice (some ⟨w.heap.size + 1 + 1, 0, none⟩) b.length b.length, .slice none 0 0]) (by simp [results, Tryz.results16, go_sem, r0, r1]) rfl ?_
  refine ⟨_, rfl, ⟨_, _, _, _, by rw [writeL_length]; rfl, by rw [writeL_length]; exact own_sl1 HOE.out, Sl.nil _⟩, HXE.out⟩
end Go.Proofs.YtjbfopnkeclfgaaGreat
namespace Go.Proofs.YtjbfopnkeclfgaaGreat
set_option maxRecDepth 20000
open Go.RowKit

theorem writeL_append (b : List ByteArray) (l m : List Wr) : writeL b (l ++ m) = writeL (writeL b l) m := by
  unfold writeL; rw [List.foldl_append]

end Go.Proofs.YtjbfopnkeclfgaaGreat
namespace Go.Proofs.YtjbfopnkeclfgaaGreat
set_option maxRecDepth 20000
open Go.RowKit

set_option maxHeartbeats 4000000 in
set_option maxRecDepth 100000 in
theorem crashR_any (A A' K : Option Addr) (b : List ByteArray) (l : List Wr) (ks : List Bool) (c c' ck : Nat) (w : World) (hb : b.length ≤ 1000000) (hb0 : 1 ≤ b.length) (hl : l.length ≤ 1000000) (_hk0 : ks.length ≤ 1000000) (hin : l.all (takesS b.length) = true)
    (hA0 : Sl w A b.length c (b.map sv)) (hA0' : Sl w A' l.length c' (wvs l)) (hK0 : Sl w K ks.length ck (ks.map Value.bool)) :
    Calls Tryz.prog 19 #[.agg #[.slice A b.length c, .slice A' l.length c'], .slice K ks.length ck] w fun e w' => ∃ v, e = .returned v ∧ IsDisk w' v (writeL b (kept l ks)) [] ∧ Ext w w' := by
  have HA := Lib.hid hA0
  have HA' := Lib.hid hA0'
  have HK := Lib.hid hK0
  have HIN := Lib.hid hin
  clear hA0 hA0' hK0 hin
  have HX := Lib.hid (((Ext.refl w).alloc (.cells #[.slice A b.length c, .slice A' l.length c'] 25)).alloc (.cells #[.slice none 0 0, .slice none 0 0] 25))
  have hb1 := (Box2.new w (.slice A b.length c) (.slice A' l.length c') 25).ext (by simp) ((Ext.refl _).alloc (.cells #[.slice none 0 0, .slice none 0 0] 25))
  have hb2 := Box2.new (w.alloc (.cells #[.slice A b.length c, .slice A' l.length c'] 25)) (.slice none 0 0) (.slice none 0 0) 25
  have HB1 := Lib.hid hb1
  have HB2 := Lib.hid hb2
  clear hb1 hb2
  obtain ⟨w1, hw1⟩ : ∃ w1, w1 = ((w.alloc (.cells #[.slice A b.length c, .slice A' l.length c'] 25)).alloc (.cells #[.slice none 0 0, .slice none 0 0] 25)) := ⟨_, rfl⟩
  have hs1 : w1.heap.size = w.heap.size + 1 + 1 := by rw [hw1]; simp
  rw [← hw1] at HX HB1 HB2
  rw [World.size_alloc] at HB2
  have HW1 := Lib.hid hw1
  have hoe := own_empty w1 9 1
  rw [hs1] at hoe
  have HOE := Lib.hid hoe
  have HS1 := Lib.hid hs1
  clear hw1 hoe hs1
  go_enter Tryz.func19, Tryz.ntmps19
  go_wp2_with (at_builtin; refine stop_here ?_)
  refine stop_on ?_
  rw [← HW1.out]
  have hs1 := HS1.out
  refine wpList_app_sl _ rfl _ _ 22 rfl (w.heap.size + 1 + 1) 9 _ 1 16 Tryz.underlying22 infoS rfl (by omega) _ 0 [] rfl HOE.out A b.length c (b.map sv) rfl (by simp) ((HA.out.ext HX.out).ext ((Ext.refl _).alloc _)) (svs_oneCell b) (by unfold maxLen; omega) (by omega) (by simp; omega) ?_
  intro A2 c2 w2 hown hg
  rw [List.nil_append, Nat.zero_add] at hown
  rw [Nat.zero_add]
  obtain ⟨g, rfl, hgB⟩ := own_some hown hb0
  have hx12 : Ext w1 w2 := ((Ext.refl w1).alloc _).row hg (by omega)
  have HX2 := Lib.hid (HX.out.trans hx12)
  have hs2 := hx12.size
  have hgs := (hown.lt g rfl).2
  have HB1' := Lib.hid (HB1.out.ext (by omega) hx12)
  have HB2' := Lib.hid (HB2.out.ext (by omega) hx12)
  have HO := Lib.hid hown
  clear hown hg hx12 HB1 HB2 HOE HX
  obtain ⟨c0, c1, _, _⟩ := HB1'.out.read
  go_wp2_with fail
  go_loopw [6] (fun i wr => ∃ k : Nat, k ≤ l.length ∧ k ≤ ks.length ∧ i = .int .i64 k ∧
      wr.ownsRow (w.heap.size + 1 + 1) 9 1 (.slice (some ⟨g, 0, none⟩) b.length c2) b.length ((writeL b (kept (l.take k) (ks.take k))).map sv) ∧ w2.grownBy wr (some g)) (fun i _ => l.length - (intOf i).toNat)
  case atStart => exact ⟨0, Nat.zero_le _, Nat.zero_le _, rfl, by rw [List.take_zero, List.take_zero]; exact HO.out, World.grownBy.refl _ _⟩
  case round =>
    obtain ⟨k, hk, hkk, rfl, ho, hg⟩ := hrel
    have hgr := (ho.lt g rfl).2
    clear c0 c1
    have hq01 := HB1'.out.grown (by omega) hg (by omega)
    by_cases hll : k < l.length
    · by_cases hlk : k < ks.length
      · have hA1 := HA'.out.ext HX2.out
        have hK1 := HK.out.ext HX2.out
        obtain ⟨bk, offk, rfl, _, hcK⟩ := (hK1.cells.grown hg (HK.out.cells.apart (by omega))).flag hlk
        have hck0 := hcK k hlk
        obtain ⟨ba, off, rfl, hba, hcA⟩ := (hA1.cells.grown hg (HA'.out.cells.apart (by omega))).wr hll
        obtain ⟨hck1, hck2'⟩ := hcA k hll
        obtain ⟨q0, q1, _, _⟩ := hq01.read
        have HS := Lib.hid (kept_step k l ks hll hlk)
        have hbl := writeL_length (kept (l.take k) (ks.take k)) b
        have hin := List.all_eq_true.1 HIN.out _ (List.getElem_mem hll)
        have HG := Lib.hid hg
        have HOK := Lib.hid ho
        clear hcK hcA hA1 hK1
        generalize hq2 : l[k] = x at *
        clear hq2
        obtain ⟨xa, xs⟩ := x
        simp only at hck1 hck2'
        obtain ⟨m, rfl⟩ : ∃ m : Nat, xa = m := by
          unfold takesS hasS at hin
          simp at hin
          exact ⟨xa.toNat, by omega⟩
        have hh : hasS b.length (m : Int) = true := by
          unfold takesS at hin
          simp only [Bool.and_eq_true] at hin
          exact hin.1
        have hmlt : m < b.length := by
          unfold hasS at hh
          simp at hh
          omega
        have hmi : (m : Int) < (b.length : Int) := by omega
        have HH := Lib.hid hh
        have HST := Lib.hid (show ((wr.setCell ⟨g, m, none⟩ (.string xs)).drew).ownsRow (w.heap.size + 1 + 1) 9 1 (.slice (some ⟨g, 0, none⟩) b.length c2) b.length (((writeL b (kept (l.take k) (ks.take k))).set m xs).map sv) ∧ w2.grownBy (wr.setCell ⟨g, m, none⟩ (.string xs)).drew (some g) from ⟨by rw [List.map_set]; exact (ho.stored m (.string xs)).1.drew, grown_trans (grown_trans hg (ho.stored m (.string xs)).2) (grown_drew _ _)⟩)
        have hf := ho.frozenAt m
        obtain ⟨u, hu⟩ : ∃ u, wr.cell? ⟨g, m, none⟩ = some u := by
          rw [ho.cellAt m (by omega)]
          exact ⟨_, List.getElem?_eq_getElem (by simp; omega)⟩
        clear hin hh ho hg
        cases hq : ks[k]
        · rw [hq] at hck0 HS
          clear hq
          go_wp2
          go_roundw
          case rel => exact ⟨k + 1, by omega, by omega, by go_num, by rw [HS.out]; simpa using HOK.out, HG.out⟩
          case measure => simp [intOf]; omega
        · rw [hq] at hck0 HS
          clear hq
          go_wp2_with fail
          go_still_tail 14, (by kernel_rfl)
          change wpList _ _ _ _ _ wr.drew
          go_wp2
          go_roundw
          case rel => exact ⟨k + 1, by omega, by omega, by go_num, by rw [HS.out, if_pos trivial, writeL_append]; rw [show ∀ z : List ByteArray, z.length = b.length → writeL z [((m : Int), xs)] = z.set m xs from fun z hz => by show write1 z _ = _; unfold write1; rw [if_pos (by rw [hz]; exact HH.out), Int.toNat_natCast]] <;> first | exact hbl | exact HST.out.1, HST.out.2⟩
          case measure => simp [intOf]; omega
      · have hkend : l.length ≤ k ∨ ks.length ≤ k := by omega
        have hkq : k = l.length ∨ k = ks.length := by omega
        have HKE := Lib.hid (kept_end k l ks hkend)
        have hb2 := HB2'.out.grown (by omega) hg (by omega)
        have HB3 := Lib.hid (hb2.store (.slice (some ⟨g, 0, none⟩) b.length c2) (.slice none 0 0))
        obtain ⟨r0, r1, f0, f1⟩ := hb2.read
        obtain ⟨q0, q1, _, _⟩ := hq01.read
        have HXr := Lib.hid (HX2.out.row' hg (by omega))
        have HXE := Lib.hid (HXr.out.store2 (k := w.heap.size + 1) (by omega) (.slice (some ⟨g, 0, none⟩) b.length c2) (.slice none 0 0))
        have HOE := Lib.hid (own_store2 ho (k := w.heap.size + 1) (by omega) (.slice (some ⟨g, 0, none⟩) b.length c2) (.slice none 0 0))
        clear ho hg hkend hkq
        go_wp2
        clear r0 r1 f0 f1
        obtain ⟨r0, r1, _, _⟩ := HB3.out.read
        refine bodyPost_ret (v := .agg #[.slice (some ⟨g, 0, none⟩) b.length c2, .slice none 0 0]) (by simp [results, Tryz.results19, go_sem, r0, r1]) rfl ?_
        refine ⟨_, rfl, ⟨_, _, _, _, by rw [writeL_length]; rfl, by rw [writeL_length, ← HKE.out]; exact own_sl1 HOE.out, Sl.nil _⟩, HXE.out⟩
    · have hkend : l.length ≤ k ∨ ks.length ≤ k := by omega
      have hkq : k = l.length ∨ k = ks.length := by omega
      have HKE := Lib.hid (kept_end k l ks hkend)
      have hb2 := HB2'.out.grown (by omega) hg (by omega)
      have HB3 := Lib.hid (hb2.store (.slice (some ⟨g, 0, none⟩) b.length c2) (.slice none 0 0))
      obtain ⟨r0, r1, f0, f1⟩ := hb2.read
      obtain ⟨q0, q1, _, _⟩ := hq01.read
      have HXr := Lib.hid (HX2.out.row' hg (by omega))
      have HXE := Lib.hid (HXr.out.store2 (k := w.heap.size + 1) (by omega) (.slice (some ⟨g, 0, none⟩) b.length c2) (.slice none 0 0))
      have HOE := Lib.hid (own_store2 ho (k := w.heap.size + 1) (by omega) (.slice (some ⟨g, 0, none⟩) b.length c2) (.slice none 0 0))
      clear ho hg hkend hkq
      go_wp2
      clear r0 r1 f0 f1
      obtain ⟨r0, r1, _, _⟩ := HB3.out.read
      refine bodyPost_ret (v := .agg #[.slice (some ⟨g, 0, none⟩) b.length c2, .slice none 0 0]) (by simp [results, Tryz.results19, go_sem, r0, r1]) rfl ?_
      refine ⟨_, rfl, ⟨_, _, _, _, by rw [writeL_length]; rfl, by rw [writeL_length, ← HKE.out]; exact own_sl1 HOE.out, Sl.nil _⟩, HXE.out⟩

theorem infoT : (Tryz.prog.info? 4).map (fun i => (i.zero, i.size, i.bytes)) = some (some (.bool false), 1, 1) := by kernel_rfl

theorem kept_all : ∀ (l : List Wr), kept l (List.replicate l.length true) = l
  | [] => rfl
  | x :: l => by simp [List.replicate_succ, kept, kept_all l]
theorem bools_snoc (n : Nat) : (List.replicate n true).map Value.bool ++ [Value.bool true] = (List.replicate (n + 1) true).map Value.bool := by
  rw [List.replicate_succ']; simp

set_option maxHeartbeats 4000000 in
set_option maxRecDepth 100000 in
theorem flushR_any (A A' : Option Addr) (b : List ByteArray) (l : List Wr) (c c' : Nat) (w : World) (hb : b.length ≤ 1000000) (hb0 : 1 ≤ b.length) (hl : l.length ≤ 1000000) (hin : l.all (takesS b.length) = true)
    (hA0 : Sl w A b.length c (b.map sv)) (hA0' : Sl w A' l.length c' (wvs l)) :
    Calls Tryz.prog 7 #[.agg #[.slice A b.length c, .slice A' l.length c']] w fun e w' => ∃ v, e = .returned v ∧ IsDisk w' v (writeL b l) [] ∧ Ext w w' := by
  have HA := Lib.hid hA0
  have HA' := Lib.hid hA0'
  have HIN := Lib.hid hin
  clear hA0 hA0' hin
  have HX := Lib.hid (((Ext.refl w).alloc (.cells #[.slice A b.length c, .slice A' l.length c'] 25)).alloc (.cells #[.slice none 0 0, .slice none 0 0] 25))
  have hb1 := (Box2.new w (.slice A b.length c) (.slice A' l.length c') 25).ext (by simp) ((Ext.refl _).alloc (.cells #[.slice none 0 0, .slice none 0 0] 25))
  have hb2 := Box2.new (w.alloc (.cells #[.slice A b.length c, .slice A' l.length c'] 25)) (.slice none 0 0) (.slice none 0 0) 25
  rw [World.size_alloc] at hb2
  have HB1 := Lib.hid hb1
  have HB2 := Lib.hid hb2
  clear hb1 hb2
  go_enter Tryz.func7, Tryz.ntmps7
  go_wp2
  generalize hw1 : ((w.alloc (.cells #[.slice A b.length c, .slice A' l.length c'] 25)).alloc (.cells #[.slice none 0 0, .slice none 0 0] 25)) = w1 at *
  have hs1 : w1.heap.size = w.heap.size + 1 + 1 := by rw [← hw1]; simp
  clear hw1
  go_loopw [3, 4] (fun v i wr => ∃ (k cap : Nat) (B : Option Addr), k ≤ l.length ∧ i = .int .i64 k ∧ v = .slice B k cap ∧ wr.ownsRow w1.heap.size 4 1 (.slice B k cap) k ((List.replicate k true).map Value.bool) ∧ Ext w1 wr) (fun _ i _ => l.length - (intOf i).toNat)
  case atStart => exact ⟨0, 0, none, Nat.zero_le _, rfl, rfl, World.ownsRow_nil _ _ _ _, Ext.refl _⟩
  case round =>
    obtain ⟨k, cap, B, hk, rfl, rfl, ho, hx⟩ := hrel
    have hsz := hx.size
    have HO := Lib.hid ho
    have HXr := Lib.hid hx
    obtain ⟨c0, c1, _, _⟩ := (HB1.out.ext (by omega) hx).read
    have hb2 := HB2.out.ext (by omega) hx
    clear ho hx
    by_cases hlt : k < l.length
    · clear hb2
      go_wp2_with (at_builtin; refine stop_here ?_)
      refine stop_on ?_
      refine wpList_app_sl _ rfl _ _ 62 rfl w1.heap.size 4 _ 1 1 Tryz.underlying62 infoT rfl (by omega) _ k _ rfl (HO.out.alloc _) (some ⟨wr.heap.size, 0, none⟩) 1 1 [.bool true] rfl rfl (sl_lit wr _ 1 [.bool true] (by unfold maxLen; omega)) (by intro u hu; simp at hu; subst hu; rfl) (by unfold maxLen; omega) (by omega) (by simp; omega) ?_
      intro B2 c2 w2 hown hg
      rw [bools_snoc] at hown
      have HX2 := Lib.hid (show Ext w1 w2 from Below.grown (HXr.out.alloc _) hg (by simp; omega) (fun q hq => ((HO.out.alloc (.cells #[.bool true] 4)).lt q hq).1))
      have HO2 := Lib.hid hown
      clear hown hg
      go_wp2
      go_roundw
      case rel => exact ⟨k + 1, c2, B2, by omega, by go_num, rfl, HO2.out, HX2.out⟩
      case measure => simp [intOf]; omega
    · obtain rfl : k = l.length := by omega
      have HX2 := Lib.hid (HX.out.trans HXr.out)
      have HC := Lib.hid (crashR_any A A' B b l (List.replicate l.length true) c c' cap wr hb hb0 hl (by simpa using hl) HIN.out (HA.out.ext HX2.out) (HA'.out.ext HX2.out) (by rw [List.length_replicate]; exact own_sl HO.out))
      rw [List.length_replicate, kept_all] at HC
      have HB2 := Lib.hid hb2
      clear hb2
      go_wp2_with (go_at_call 19; refine stop_here ?_)
      refine stop_on ?_
      refine HC.out.mono ?_
      rintro e w3 ⟨v, rfl, ⟨A3, c3, A4, c4, rfl, h3, h4⟩, hx3⟩
      have hb2 := HB2.out.ext (by omega) hx3
      have hb2X := hb2
      have HB3 := Lib.hid (hb2.store (.slice A3 (writeL b l).length c3) (.slice A4 0 c4))
      obtain ⟨r0, r1, f0, f1⟩ := hb2.read
      have HXE := Lib.hid ((HX2.out.trans hx3).store2 (k := w.heap.size + 1) (by omega) (.slice A3 (writeL b l).length c3) (.slice A4 0 c4))
      have h3' := h3.store2 (flat_svs _) hb2X (.slice A3 (writeL b l).length c3) (.slice A4 0 c4)
      have h4' := h4.store2 (flat_wvs _) hb2X (.slice A3 (writeL b l).length c3) (.slice A4 0 c4)
      clear hb2X
      have H3 := Lib.hid h3'
      have H4 := Lib.hid h4'
      clear h3 h4 h3' h4' hx3 HC
      generalize hBL : writeL b l = bl at *
      have HBL := Lib.hid hBL
      clear hBL
      go_wp2
      clear r0 r1 f0 f1
      obtain ⟨r0, r1, _, _⟩ := HB3.out.read
      refine bodyPost_ret (v := .agg #[.slice A3 bl.length c3, .slice A4 0 c4]) (by simp [results, Tryz.results7, go_sem, r0, r1]) rfl ?_
      refine ⟨_, rfl, ?_, HXE.out⟩
      rw [HBL.out]
      exact ⟨_, _, _, _, rfl, H3.out, H4.out⟩
end Go.Proofs.YtjbfopnkeclfgaaGreat
