/- The walks of both Put. -/
import Derived.Test.YtikdicnpmobidaaDiskW6
import Derived.Test.YtikdicnpmobidaaDiskP3
import Derived.Deep.RegionHeld3
import Derived.Deep.AppendLies
import Derived.Deep.DrawnRows
namespace Go.Proofs.Ytikdicnpmobidaa
open Go.RowKit
attribute [local go_sem ↓] Go.wp_at_zero Go.wp_at_succ

/-- P2.2: a write is taken, or not. -/
def putW (b : List ByteArray) (l : List Wr) (x : Wr) : List Wr := if takesS b.length x then l ++ [x] else l
def putE (b : List ByteArray) (x : Wr) : Int := if takesS b.length x then 0 else 1

/-- A world in which three boxes lie, one behind the other. -/
theorem three_boxes (w : World) (a b c d e f : Value) (t u v : TypeId) : ∀ w1, w1 = ((w.alloc (.cells #[a, b] t)).alloc (.cells #[c, d] u)).alloc (.cells #[e, f] v) →
    Ext w w1 ∧ w1.heap.size = w.heap.size + 1 + 1 + 1 ∧ Box2 w1 w.heap.size a b ∧ Box2 w1 (w.heap.size + 1) c d ∧ Box2 w1 (w.heap.size + 1 + 1) e f := by
  rintro w1 rfl
  have b0 := Box2.new w a b t
  have b1 := Box2.new (w.alloc (.cells #[a, b] t)) c d u
  have b2 := Box2.new ((w.alloc (.cells #[a, b] t)).alloc (.cells #[c, d] u)) e f v
  rw [World.size_alloc] at b1
  rw [World.size_alloc, World.size_alloc] at b2
  have x1 := (Ext.refl (w.alloc (.cells #[a, b] t))).alloc (.cells #[c, d] u)
  have x2 := (Ext.refl ((w.alloc (.cells #[a, b] t)).alloc (.cells #[c, d] u))).alloc (.cells #[e, f] v)
  exact ⟨(((Ext.refl w).alloc _).alloc _).alloc _, by simp, (b0.ext (by simp) x1).ext (by simp; omega) x2, b1.ext (by simp) x2, b2⟩

set_option maxHeartbeats 4000000 in
set_option maxRecDepth 100000 in
theorem putD_any (A A' : Option Addr) (b : List ByteArray) (l : List Wr) (c c' : Nat) (xa : Int) (xs : ByteArray) (w : World) (hb : b.length ≤ 1000000) (hl : l.length ≤ 900000)
    (hA0 : Sl w A b.length c (b.map sv)) (hA0' : Sl w A' l.length c' (wvs l)) :
    Calls Try.prog 20 #[.agg #[.slice A b.length c, .slice A' l.length c'], .int .i64 xa, .string xs] w fun e w' => ∃ v, e = .returned (.tuple #[v, .int .i64 (putE b (xa, xs))]) ∧ IsDisk w' v b (putW b l (xa, xs)) ∧ Ext w w' := by
  have HA := Lib.hid hA0
  have HA' := Lib.hid hA0'
  clear hA0 hA0'
  obtain ⟨w1, hw1⟩ : ∃ w1, w1 = ((w.alloc (.cells #[.slice A b.length c, .slice A' l.length c'] 25)).alloc (.cells #[.slice none 0 0, .slice none 0 0] 25)).alloc (.cells #[.int .i64 xa, .string xs] 43) := ⟨_, rfl⟩
  obtain ⟨hX, hs1, b0, b1, b2⟩ := three_boxes w _ _ _ _ _ _ _ _ _ w1 hw1
  have HX := Lib.hid hX
  have HW1 := Lib.hid hw1
  have HB0 := Lib.hid b0
  have HB1 := Lib.hid b1
  have HB2 := Lib.hid b2
  have HT := Lib.hid (takes_any A b.length c xa xs w1)
  clear hX hw1 b0 b1 b2
  cases ht : takesS b.length (xa, xs)
  · have HZ := Lib.hid ht
    have HP := Lib.hid (show putW b l (xa, xs) = l by unfold putW; rw [ht]; rfl)
    have HE := Lib.hid (show putE b (xa, xs) = 1 by unfold putE; rw [ht]; rfl)
    clear ht
    go_enter Try.func20, Try.ntmps20
    go_wp2_with (go_at_call 30; refine stop_here ?_)
    refine stop_on ?_
    rw [← HW1.out]
    refine HT.out.mono ?_
    clear HT
    rintro e w2 ⟨rfl, hx2⟩
    rw [HZ.out]
    have hs2 := hx2.size
    have b0 := HB0.out.ext (by omega) hx2
    have b1 := HB1.out.ext (by omega) hx2
    obtain ⟨c0, c1, _, _⟩ := b0.read
    obtain ⟨c4, c5, f4, f5⟩ := b1.read
    have hX2 := HX.out.trans hx2
    have H3 := Lib.hid ((HA.out.ext hX2).store2 (flat_svs b) b1 (.slice A b.length c) (.slice A' l.length c'))
    have H4 := Lib.hid ((HA'.out.ext hX2).store2 (flat_wvs l) b1 (.slice A b.length c) (.slice A' l.length c'))
    have HBS := Lib.hid (b1.store (.slice A b.length c) (.slice A' l.length c'))
    have HXE := Lib.hid (hX2.store2 (k := w.heap.size + 1) (by omega) (.slice A b.length c) (.slice A' l.length c'))
    clear b0 b1 hx2 hX2
    go_wp2
    clear c0 c1 c4 c5 f4 f5
    obtain ⟨r0, r1, _, _⟩ := HBS.out.read
    refine bodyPost_ret (v := .tuple #[.agg #[.slice A b.length c, .slice A' l.length c'], .int .i64 1]) (by simp [results, Try.results20, go_sem, r0, r1]) rfl ?_
    rw [HP.out, HE.out]
    exact ⟨_, rfl, ⟨_, _, _, _, rfl, H3.out, H4.out⟩, HXE.out⟩
  · have HZ := Lib.hid ht
    have HP := Lib.hid (show putW b l (xa, xs) = l ++ [(xa, xs)] by unfold putW; rw [if_pos ht])
    have HE := Lib.hid (show putE b (xa, xs) = 0 by unfold putE; rw [if_pos ht])
    clear ht
    go_enter Try.func20, Try.ntmps20
    go_wp2_with (go_at_call 30; refine stop_here ?_)
    refine stop_on ?_
    rw [← HW1.out]
    refine HT.out.mono ?_
    clear HT
    rintro e w2 ⟨rfl, hx2⟩
    rw [HZ.out]
    have hs2 := hx2.size
    have b0 := HB0.out.ext (by omega) hx2
    have b1 := HB1.out.ext (by omega) hx2
    have b2 := HB2.out.ext (by omega) hx2
    obtain ⟨c0, c1, _, _⟩ := b0.read
    obtain ⟨c2, c3, _, _⟩ := b2.read
    obtain ⟨c4, c5, f4, f5⟩ := b1.read
    have HB0 := Lib.hid b0
    have HB1 := Lib.hid b1
    have HB2 := Lib.hid b2
    have HX2 := Lib.hid (HX.out.trans hx2)
    clear b0 b1 b2 hx2
    have KS : ∀ w', Ext w2 w' → (w'.cell? ⟨w.heap.size, 0, none⟩ = some (.slice A b.length c) ∧ w'.cell? ⟨w.heap.size, 1, none⟩ = some (.slice A' l.length c') ∧ w'.cell? ⟨w.heap.size + 1 + 1, 0, none⟩ = some (.int .i64 xa) ∧ w'.cell? ⟨w.heap.size + 1 + 1, 1, none⟩ = some (.string xs)) := by
      intro w' hx
      obtain ⟨c0, c1, _, _⟩ := (HB0.out.ext (by omega) hx).read
      obtain ⟨c2, c3, _, _⟩ := (HB2.out.ext (by omega) hx).read
      exact ⟨c0, c1, c2, c3⟩
    have KS2 : ∀ w3 x y, Ext w2 w3 → ∀ w', w' = (w3.setCell ⟨w.heap.size + 1, 0, none⟩ x).setCell ⟨w.heap.size + 1, 1, none⟩ y → (w'.cell? ⟨w.heap.size, 0, none⟩ = some (.slice A b.length c) ∧ w'.cell? ⟨w.heap.size, 1, none⟩ = some (.slice A' l.length c') ∧ w'.cell? ⟨w.heap.size + 1 + 1, 0, none⟩ = some (.int .i64 xa) ∧ w'.cell? ⟨w.heap.size + 1 + 1, 1, none⟩ = some (.string xs)) := by
      rintro w3 x y hx w' rfl
      have hz := hx.size
      obtain ⟨c0, c1, _, _⟩ := ((HB0.out.ext (by omega) hx).grown (by omega) (grown_store2 _ (w.heap.size + 1) x y) (by omega)).read
      obtain ⟨c2, c3, _, _⟩ := ((HB2.out.ext (by omega) hx).grown (by omega) (grown_store2 _ (w.heap.size + 1) x y) (by omega)).read
      exact ⟨c0, c1, c2, c3⟩
    have HKS := Lib.hid KS
    have HKS2 := Lib.hid KS2
    clear KS KS2
    have HSL := Lib.hid (fun wx : World => sl_lit wx 43 1 [.int .i64 xa, .string xs] (by unfold maxLen; omega))
    have HML := Lib.hid (show l.length + 1 ≤ maxLen by unfold maxLen; omega)
    have HFL := Lib.hid (show ∀ u ∈ [Value.int .i64 xa, .string xs], u.oneCell' = true by intro u hu; simp at hu; rcases hu with rfl | rfl <;> rfl)
    go_wp2_with fail
    go_region_held3 (fun w' => w'.cell? ⟨w.heap.size, 0, none⟩ = some (.slice A b.length c) ∧ w'.cell? ⟨w.heap.size, 1, none⟩ = some (.slice A' l.length c') ∧ w'.cell? ⟨w.heap.size + 1 + 1, 0, none⟩ = some (.int .i64 xa) ∧ w'.cell? ⟨w.heap.size + 1 + 1, 1, none⟩ = some (.string xs))
      (first | exact HKS.out _ hE5.out | exact HKS.out _ hE4.out | exact HKS.out _ (hE4.out.alloc _) | exact HKS.out _ hE3.out | exact HKS.out _ (hE3.out.alloc _) | exact HKS.out _ (Ext.refl w2).drew | exact HKS.out _ ((Ext.refl w2).alloc _).drew | exact HKS2.out _ _ _ hE5.out _ rfl)
      (first
        | ((go_at_call 35
            refine (copiedB0 A b c _ hb HA.out.1 ?_).mono ?_
            · (first | exact HA.out.cells.ext HX2.out.drew | exact HA.out.cells.ext (HX2.out.alloc _).drew)
            rintro e w3 ⟨rfl, hoB, hxB⟩
            have hSB := Lib.hid (by first
              | exact (show Sl w3 (some ⟨w2.heap.size, 0, none⟩) b.length b.length (b.map sv) from own_sl1 hoB)
              | exact (show Sl w3 (some ⟨w2.heap.size + 1, 0, none⟩) b.length b.length (b.map sv) from (World.size_alloc w2 _) ▸ own_sl1 hoB))
            have hE3 := Lib.hid (show Ext w2 w3 from by first | exact (Ext.refl w2).drew.trans hxB | exact ((Ext.refl w2).alloc _).drew.trans hxB)
            have hxB := Lib.hid hxB
            clear hoB))
        | ((go_at_call 36
            refine (copiedW1 A' l c' _ (by omega) HA'.out.1 ?_).mono ?_
            · (first | exact HA'.out.cells.ext (HX2.out.trans hE3.out) | exact HA'.out.cells.ext ((HX2.out.trans hE3.out).alloc _))
            rintro e w4 ⟨rfl, hoW, hxW⟩
            have hE4 := Lib.hid (show Ext w2 w4 from by first | exact hE3.out.trans hxW | exact (hE3.out.alloc _).trans hxW)
            have hsz4 := hxW.size
            (try rw [World.size_alloc] at hsz4)
            have hsz4 := Lib.hid hsz4
            have hxW := Lib.hid hxW
            (try rw [World.size_alloc] at hoW)
            have hoW := Lib.hid hoW))
        | ((refine step_app_sl ?_ ?_ ?_ 23 ?_ ?_ 43 (.agg #[.int .i64 0, .string (ByteArray.mk #[])]) 2 24 Try.underlying23 infoW rfl Nat.two_pos ?_ l.length (wvs l) ?_ ?_ ?_ 1 1 [.int .i64 xa, .string xs] ?_ rfl ?_ ?_ ?_ ?_ ?_ ?_
            rfl
            rotate_left 2
            rfl
            rotate_left 2
            rfl
            (first | exact hoW.out | exact hoW.out.alloc _)
            rotate_left 1
            rfl
            (first | exact HSL.out w4 | exact (HSL.out w3).ext hxW.out | exact (((HSL.out w2).ext (Ext.refl _).drew).ext hxB.out).ext hxW.out)
            exact HFL.out
            exact HML.out
            omega
            (first | exact hsz4.out | exact Nat.le_succ_of_le hsz4.out | (rw [World.size_alloc]; exact Nat.le_succ_of_le hsz4.out))
            intro A5 q5 w5 hoA hgA
            have hE5 := Lib.hid (show Ext w2 w5 from by first
              | exact Below.grown hE4.out hgA hE4.out.size (fun q hq => Nat.le_trans hE3.out.size (hoW.out.lt q hq).1)
              | exact Below.grown (hE4.out.alloc _) hgA (hE4.out.alloc _).size (fun q hq => Nat.le_trans hE3.out.size (hoW.out.lt q hq).1)
              | exact Below.grown hE4.out hgA hE4.out.size (fun q hq => Nat.le_trans (Nat.le_succ_of_le hE3.out.size) (hoW.out.lt q hq).1))
            have hSB5 := Lib.hid (by first
              | exact (hSB.out.ext hxW.out).grown hgA (hSB.out.cells.apart (Nat.le_refl _))
              | exact ((hSB.out.ext hxW.out).ext ((Ext.refl _).alloc _)).grown hgA (hSB.out.cells.apart (Nat.le_refl _))
              | exact ((hSB.out.ext ((Ext.refl _).alloc _)).ext hxW.out).grown hgA (hSB.out.cells.apart (Nat.le_succ _)))
            have hSW5 := Lib.hid (own_sl hoA)
            clear hoA hgA
            obtain ⟨r0, r1, f0, f1⟩ := (HB1.out.ext (by omega) hE5.out).read)))
    all_goals
      go_wp2
      have hbe := HB1.out.ext (by omega) hE5.out
      have H4 := Lib.hid (hSW5.out.store2 (by rw [show wvs l ++ [Value.int .i64 xa, .string xs] = wvs (l ++ [(xa, xs)]) by rw [wvs_append]; rfl]; exact flat_wvs _) hbe)
      have H3 := Lib.hid (hSB5.out.store2 (flat_svs b) hbe)
      have HBS := Lib.hid (fun x y => hbe.store x y)
      have HXE := Lib.hid (fun x y => (HX2.out.trans hE5.out).store2 (k := w.heap.size + 1) (by omega) x y)
      clear r0 r1 f0 f1 c0 c1 c2 c3 c4 c5 f4 f5 hbe
      first
        | (have hq : Sl w5 (some ⟨w2.heap.size, 0, none⟩) b.length b.length (b.map sv) := hSB5.out
           clear hq
           obtain ⟨r0, r1, _, _⟩ := (HBS.out (.slice (some ⟨w2.heap.size, 0, none⟩) b.length b.length) (.slice A5 (l.length + 1) q5)).read
           refine bodyPost_ret (v := .tuple #[.agg #[.slice (some ⟨w2.heap.size, 0, none⟩) b.length b.length, .slice A5 (l.length + 1) q5], .int .i64 0]) (by simp [results, Try.results20, go_sem, r0, r1]) rfl ?_)
        | (obtain ⟨r0, r1, _, _⟩ := (HBS.out (.slice (some ⟨w2.heap.size + 1, 0, none⟩) b.length b.length) (.slice A5 (l.length + 1) q5)).read
           refine bodyPost_ret (v := .tuple #[.agg #[.slice (some ⟨w2.heap.size + 1, 0, none⟩) b.length b.length, .slice A5 (l.length + 1) q5], .int .i64 0]) (by simp [results, Try.results20, go_sem, r0, r1]) rfl ?_)
      rw [HP.out, HE.out]
      exact ⟨_, rfl, ⟨_, _, A5, q5, by rw [List.length_append]; rfl, H3.out _ _, by rw [List.length_append, wvs_append]; exact H4.out _ _⟩, HXE.out _ _⟩
end Go.Proofs.Ytikdicnpmobidaa
