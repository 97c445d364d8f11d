/- Get of package tree, by a range over items. -/
import Derived.Test.YthlencnlgnbpaaaTreeM6
namespace Go.Proofs.Ythlencnlgnbpaaa
open Go.RowKit Go.Shelf
attribute [local go_sem] Oper.semAt_some
attribute [local go_sem] run_store_func

theorem bts4 {w W : World} {c0 c1 c2 c3 : Array Value} {t0 t1 t2 t3 : TypeId} (h : (((w.alloc (.cells c0 t0)).alloc (.cells c1 t1)).alloc (.cells c2 t2)).alloc (.cells c3 t3) = W) : Ext w W ∧ W.heap.size = w.heap.size + 4 ∧ Bt W (w.heap.size + 1) t1 c1 ∧ Bt W (w.heap.size + 1 + 1) t2 c2 ∧ Bt W (w.heap.size + 1 + 1 + 1) t3 c3 := by
  obtain ⟨h1, h2, _, h4, h5⟩ := bts3 (w := w) (c0 := c0) (c1 := c1) (c2 := c2) (t0 := t0) (t1 := t1) (t2 := t2) rfl
  subst h
  have b3 := Bt.new (((w.alloc (.cells c0 t0)).alloc (.cells c1 t1)).alloc (.cells c2 t2)) c3 t3
  rw [h2] at b3
  have y := (Ext.refl (((w.alloc (.cells c0 t0)).alloc (.cells c1 t1)).alloc (.cells c2 t2))).alloc (.cells c3 t3)
  exact ⟨h1.trans y, by simp, h4.below y, h5.below y, b3⟩
set_option maxRecDepth 100000 in
set_option maxHeartbeats 800000 in
theorem get_in (R : Option Addr) (l : List HC) (n q : Nat) (keep keep' p key : Int) (w : World) (hl : AllR l) (hn : l.length ≤ 2000) (hr : rightR ⟨l, keep'⟩ p = true) (hA : HcSl w R n q l) :
    CallsIn Fence.wide 5 Try.prog 21 #[.agg #[.slice R n q, .int .i64 keep], .int .i64 p, .int .i64 key] w fun e w' => e = .returned (.tuple #[.int .i64 (getV (getT l p key)), .int .i64 (getE (getT l p key))]) ∧ Ext w w' := by
  obtain ⟨A, C, hLie⟩ := lie_ex hA
  have HN := Lib.hid hA.1
  clear hA
  refine callsIn_of_wp_marks Try.func21 rfl trivial ?_ rfl
  simp only [Try.ntmps21, List.size_toArray, List.length_cons, List.length_nil, Nat.reduceAdd, Nat.reduceSub, Array.replicate_succ, Array.replicate_zero, List.push_toArray, List.append_toArray, List.nil_append, List.cons_append]
  gi_wp2_with (refine ⟨trivial, ?_⟩; gi_at_call 35; refine (items_in _ _ _ _ _ _ _ _).mono ?_; rintro e w' ⟨rfl, rfl⟩)
  obtain ⟨W1, hW1⟩ : ∃ W1, (((w.alloc (.cells #[.slice R n q, .int .i64 keep] 24)).alloc (.cells #[.int .i64 key] 3)).alloc (.cells #[.int .i64 0] 3)).alloc (.cells #[.int .i64 0] 37) = W1 := ⟨_, rfl⟩
  obtain ⟨hx1, hz1, b1, b2, b3⟩ := bts4 hW1
  rw [hW1]
  obtain ⟨W0, hW0⟩ : ∃ W0, ((W1.alloc (.cells #[.slice R n q, .int .i64 keep] 24)).alloc (.cells #[.int .i64 p] 3)).alloc (.cells #[.int .i64 key] 3) = W0 := ⟨_, rfl⟩
  obtain ⟨hx2, hz2, b4, b5, b6⟩ := bts3 hW0
  rw [hW0]
  rw [hz1] at b4 b5 b6 hz2
  replace b1 := b1.below hx2
  replace b2 := b2.below hx2
  replace b3 := b3.below hx2
  have hX0 := hx1.trans hx2
  clear hW1 hW0 hx1 hx2 hz1
  have HX0 := Lib.hid hX0
  have HZ := Lib.hid hz2
  have HIP := Lib.hid (itemsP_right hl hn hr key)
  have HGF := Lib.hid (get_first hl hr key)
  refine range_own (m := 3) (gf := 42) (lb := #[.pointer (some ⟨w.heap.size + 1 + 1 + 1 + 1, 0, none⟩), .pointer (some ⟨w.heap.size + 1 + 1 + 1 + 1 + 1, 0, none⟩), .pointer (some ⟨w.heap.size + 1 + 1 + 1 + 1 + 1 + 1, 0, none⟩)]) rfl (enters_of Try.func42 (by kernel_rfl) rfl)
    (items_seq l hl R n q keep p key A C (w.heap.size + 1 + 1 + 1 + 1) (w.heap.size + 1 + 1 + 1 + 1 + 1 + 1) (w.heap.size + 1 + 1 + 1 + 1 + 1) w W0 hLie HN.out hX0 b4 b6 b5) (Ext.refl _) hX0.size (fun k hk => by omega) (fun _ => rfl)
    (fun pre V => pre = [] ∧ (Bt V (w.heap.size + 1) 3 #[.int .i64 key] ∧ (Bt V (w.heap.size + 1 + 1) 3 #[.int .i64 0] ∧ (Bt V (w.heap.size + 1 + 1 + 1) 37 #[.int .i64 0] ∧ Below w.heap.size w V))))
    (fun c u V => (∃ x : It, u = [x] ∧ ((c = .ret ∧ x.1 = key ∧ Bt V (w.heap.size + 1 + 1) 3 #[.int .i64 x.2]) ∨ (c = .exit 0 ∧ x.1 ≠ key ∧ Bt V (w.heap.size + 1 + 1) 3 #[.int .i64 0]))) ∧ (Bt V (w.heap.size + 1 + 1 + 1) 37 #[.int .i64 0] ∧ Below w.heap.size w V))
    (Stays.and (stays_pure _ _ (fun pre : List It => pre = [])) (Stays.and (stays_bt (fun _ => _) (by omega)) (Stays.and (stays_bt (fun _ => _) (by omega)) (Stays.and (stays_bt (fun _ => _) (by omega)) (stays_below w hX0.size (Nat.le_refl _))))))
    (fun c => Stays.and (fun u X Y hs ho => by
      obtain ⟨x, h1, h2⟩ := hs
      refine ⟨x, h1, h2.imp (fun h => ⟨h.1, h.2.1, stays_bt (fun (_ : Unit) => #[Value.int .i64 x.2]) (by omega) () X Y h.2.2 ho⟩) (fun h => ⟨h.1, h.2.1, stays_bt (fun (_ : Unit) => #[Value.int .i64 0]) (by omega) () X Y h.2.2 ho⟩)⟩)
      (Stays.and (stays_bt (fun _ => _) (by omega)) (stays_below w hX0.size (Nat.le_refl _))))
    ⟨rfl, b1, b2, b3, hX0⟩
    (fun x a' V => ∃ Bx, W0.heap.size + (2 + 9) ≤ Bx ∧ Bt V Bx 49 #[.int .i64 x.1, .int .i64 x.2] ∧ a' = { tmps := #[.agg #[.slice R n q, .int .i64 keep], .int .i64 p, .int .i64 key, .pointer (some ⟨w.heap.size, 0, none⟩), undef, .pointer (some ⟨w.heap.size + 1, 0, none⟩), .pointer (some ⟨w.heap.size + 1 + 1, 0, none⟩), .pointer (some ⟨w.heap.size + 1 + 1 + 1, 0, none⟩), .pointer (some ⟨Bx, 0, none⟩), .agg #[.slice R n q, .int .i64 keep], .int .i64 p, .int .i64 key, .func (.func 42) #[] #[.pointer (some ⟨w.heap.size + 1 + 1 + 1 + 1, 0, none⟩), .pointer (some ⟨w.heap.size + 1 + 1 + 1 + 1 + 1, 0, none⟩), .pointer (some ⟨w.heap.size + 1 + 1 + 1 + 1 + 1 + 1, 0, none⟩)], .agg #[.int .i64 x.1, .int .i64 x.2], undef, undef, undef, undef, undef, undef], defers := [] })
    (fun p a' s X Y hs ho => ⟨hs.choose, hs.choose_spec.1, stays_bt (fun (_ : Unit) => _) (.inr hs.choose_spec.1) () X Y hs.choose_spec.2.1 ho, hs.choose_spec.2.2⟩)
    ?assign ?body ?done ?stop
  case assign =>
    rintro l2 pre x V K ⟨he, h1, h2, h3, hb⟩ hz hp hK
    have HV := Lib.hid (show Ext V (V.alloc (.cells #[.int .i64 x.1, .int .i64 x.2] 49)) from (Ext.refl V).alloc _)
    have HI := Lib.hid (And.intro he (And.intro (h1.below HV.out) (And.intro (h2.below HV.out) (And.intro (h3.below HV.out) (Below.trans hb (HV.out.mono hb.size))))))
    have HKV := Lib.hid hK
    have HS0 := Lib.hid hb.size
    clear he h1 h2 h3 hb hK
    simp only [encI]
    gi_wp2
    exact HKV.out _ _ (Kw.ext _ HV.out HS0.out) HI.out ⟨V.heap.size, hz, Bt.new V _ _, rfl⟩
  case body =>
    rintro l2 pre x a' V ⟨rfl, h1, h2, h3, hb⟩ ⟨Bx, hBx, bX, rfl⟩ hz hp
    obtain ⟨xa, xb⟩ := x
    simp only at bX ⊢
    obtain ⟨x0, x1, x2⟩ := bX.bx.read2
    have c1 := h1.bx.at 0 _ rfl
    have c2 := h2.bx.at 0 _ rfl
    have c3 := h3.bx.at 0 _ rfl
    have f2 := h2.bx.free 0
    have f3 := h3.bx.free 0
    have e1 := h1.lt
    have e2 := h2.lt
    have e3 := h3.lt
    have HZ2 := HZ.out
    by_cases h : xa = key
    · have HE := Lib.hid h
      have t1 : (xa == key) = true := by rw [beq_iff_eq]; exact h
      have HS := Lib.hid (show Kw w.heap.size (fun k => (k = w.heap.size + 1 + 1 + 1 + 1 ∨ k = w.heap.size + 1 + 1 + 1 + 1 + 1 + 1 ∨ k = w.heap.size + 1 + 1 + 1 + 1 + 1) ∨ (W0.heap.size ≤ k ∧ k < W0.heap.size + (2 + 9))) V ((V.setCell ⟨w.heap.size + 1 + 1, 0, none⟩ (.int .i64 xb)).setCell ⟨w.heap.size + 1 + 1 + 1, 0, none⟩ (.int .i64 0)) from
        (Kw.set h2 (by decide) (by omega) (by omega) _ _).trans (Kw.set (h3.other (by show w.heap.size + 1 + 1 ≠ w.heap.size + 1 + 1 + 1; omega) _) (by decide) (by omega) (by omega) _ _))
      have HG := Lib.hid (show Bt ((V.setCell ⟨w.heap.size + 1 + 1, 0, none⟩ (.int .i64 xb)).setCell ⟨w.heap.size + 1 + 1 + 1, 0, none⟩ (.int .i64 0)) (w.heap.size + 1 + 1) 3 #[.int .i64 xb] from (h2.set1 _).other (by show w.heap.size + 1 + 1 + 1 ≠ w.heap.size + 1 + 1; omega) _)
      have HH := Lib.hid (show Bt ((V.setCell ⟨w.heap.size + 1 + 1, 0, none⟩ (.int .i64 xb)).setCell ⟨w.heap.size + 1 + 1 + 1, 0, none⟩ (.int .i64 0)) (w.heap.size + 1 + 1 + 1) 37 #[.int .i64 0] from (h3.other (by show w.heap.size + 1 + 1 ≠ w.heap.size + 1 + 1 + 1; omega) _).set1 _)
      have HB := Lib.hid (Below.trans hb HS.out.old)
      clear h h1 h2 h3 hb bX HZ2 hz2 hp
      gi_wp2
      exact ⟨HS.out, ⟨(xa, xb), rfl, .inl ⟨rfl, HE.out, HG.out⟩⟩, HH.out, HB.out⟩
    · have HE := Lib.hid h
      have t1 : (xa == key) = false := by rw [beq_eq_false_iff_ne]; exact h
      have HG := Lib.hid h2
      have HH := Lib.hid h3
      have HB := Lib.hid hb
      clear h h1 h2 h3 hb bX HZ2 hz2 hp
      gi_wp2
      exact ⟨Kw.refl _ _ _, ⟨(xa, xb), rfl, .inr ⟨rfl, HE.out, HG.out⟩⟩, HH.out, HB.out⟩
  case done =>
    rintro D V rfl ⟨he, h1, h2, h3, hb⟩ hK
    have HH := Lib.hid (HGF.out.1 (by rw [← HIP.out]; exact he))
    have c2 := h2.bx.at 0 _ rfl
    have c3 := h3.bx.at 0 _ rfl
    have f2 := h2.bx.free 0
    have f3 := h3.bx.free 0
    have e2 := h2.lt
    have e3 := h3.lt
    have HK := Lib.hid ((KeepsOthers.setCell (V.setCell ⟨w.heap.size + 1 + 1, 0, none⟩ (.int .i64 0)) ⟨w.heap.size + 1 + 1 + 1, 0, none⟩ (.int .i64 4)).same W0.heap.size _ ((KeepsOthers.setCell V ⟨w.heap.size + 1 + 1, 0, none⟩ (.int .i64 0)).same W0.heap.size _ hK rfl) rfl)
    have HB := Lib.hid (show Below w.heap.size w ((V.setCell ⟨w.heap.size + 1 + 1, 0, none⟩ (.int .i64 0)).setCell ⟨w.heap.size + 1 + 1 + 1, 0, none⟩ (.int .i64 4)) from Below.setCell (Below.setCell hb (p := ⟨w.heap.size + 1 + 1, 0, none⟩) (by show w.heap.size ≤ w.heap.size + 1 + 1; omega) _) (p := ⟨w.heap.size + 1 + 1 + 1, 0, none⟩) (by show w.heap.size ≤ w.heap.size + 1 + 1 + 1; omega) _)
    have HG := Lib.hid (show Bt ((V.setCell ⟨w.heap.size + 1 + 1, 0, none⟩ (.int .i64 0)).setCell ⟨w.heap.size + 1 + 1 + 1, 0, none⟩ (.int .i64 4)) (w.heap.size + 1 + 1) 3 #[.int .i64 0] from (h2.set1 _).other (by show w.heap.size + 1 + 1 + 1 ≠ w.heap.size + 1 + 1; omega) _)
    have HG3 := Lib.hid (show Bt ((V.setCell ⟨w.heap.size + 1 + 1, 0, none⟩ (.int .i64 0)).setCell ⟨w.heap.size + 1 + 1 + 1, 0, none⟩ (.int .i64 4)) (w.heap.size + 1 + 1 + 1) 37 #[.int .i64 4] from (h3.other (by show w.heap.size + 1 + 1 ≠ w.heap.size + 1 + 1 + 1; omega) _).set1 _)
    clear he h1 h2 h3 hb hK hz2
    gi_wp2
    have hzz := HZ.out
    refine ⟨by simp, .inl ⟨_, _, rfl, run_takeDeferred HK.out, ?_⟩⟩
    have c5 := (HG.out.putObj (D := W0.heap.size) (by omega) (.deferred none)).bx.at 0 _ rfl
    have c6 := (HG3.out.putObj (D := W0.heap.size) (by omega) (.deferred none)).bx.at 0 _ rfl
    exact ⟨.tuple #[.int .i64 0, .int .i64 4], by simp [results, Try.results21, go_sem, c5, c6], by rw [HH.out]; rfl, kept_def HB.out (Nat.le_refl _) (by omega) HK.out _⟩
  case stop =>
    rintro D c u V rfl hu ⟨⟨x, rfl, h⟩, h3, hb⟩ hK
    obtain ⟨r, hpr⟩ := hu
    have hcons : (listT l p).filter (fun x => decide (key ≤ x.1)) = x :: r := by rw [← HIP.out, ← hpr]; rfl
    rcases h with ⟨rfl, hx, h2⟩ | ⟨rfl, hx, h2⟩
    · have HH := Lib.hid ((HGF.out.2 x r hcons).1 hx)
      have HG := Lib.hid h2
      have HG3 := Lib.hid h3
      have HB := Lib.hid (show Below w.heap.size w V from hb)
      have HK := Lib.hid hK
      clear hcons hpr hx h2 h3 hb hK hz2
      gi_wp2
      have hzz := HZ.out
      refine ⟨by simp, .inl ⟨_, _, rfl, run_takeDeferred HK.out, ?_⟩⟩
      have c5 := (HG.out.putObj (D := W0.heap.size) (by omega) (.deferred none)).bx.at 0 _ rfl
      have c6 := (HG3.out.putObj (D := W0.heap.size) (by omega) (.deferred none)).bx.at 0 _ rfl
      exact ⟨.tuple #[.int .i64 x.2, .int .i64 0], by simp [results, Try.results21, go_sem, c5, c6], by rw [HH.out]; rfl, kept_def HB.out (Nat.le_refl _) (by omega) HK.out _⟩
    · have HH := Lib.hid ((HGF.out.2 x r hcons).2 hx)
      have c2 := h2.bx.at 0 _ rfl
      have c3 := h3.bx.at 0 _ rfl
      have f2 := h2.bx.free 0
      have f3 := h3.bx.free 0
      have e2 := h2.lt
      have e3 := h3.lt
      have HK := Lib.hid ((KeepsOthers.setCell (V.setCell ⟨w.heap.size + 1 + 1, 0, none⟩ (.int .i64 0)) ⟨w.heap.size + 1 + 1 + 1, 0, none⟩ (.int .i64 4)).same W0.heap.size _ ((KeepsOthers.setCell V ⟨w.heap.size + 1 + 1, 0, none⟩ (.int .i64 0)).same W0.heap.size _ hK rfl) rfl)
      have HB := Lib.hid (show Below w.heap.size w ((V.setCell ⟨w.heap.size + 1 + 1, 0, none⟩ (.int .i64 0)).setCell ⟨w.heap.size + 1 + 1 + 1, 0, none⟩ (.int .i64 4)) from Below.setCell (Below.setCell hb (p := ⟨w.heap.size + 1 + 1, 0, none⟩) (by show w.heap.size ≤ w.heap.size + 1 + 1; omega) _) (p := ⟨w.heap.size + 1 + 1 + 1, 0, none⟩) (by show w.heap.size ≤ w.heap.size + 1 + 1 + 1; omega) _)
      have HG := Lib.hid (show Bt ((V.setCell ⟨w.heap.size + 1 + 1, 0, none⟩ (.int .i64 0)).setCell ⟨w.heap.size + 1 + 1 + 1, 0, none⟩ (.int .i64 4)) (w.heap.size + 1 + 1) 3 #[.int .i64 0] from (h2.set1 _).other (by show w.heap.size + 1 + 1 + 1 ≠ w.heap.size + 1 + 1; omega) _)
      have HG3 := Lib.hid (show Bt ((V.setCell ⟨w.heap.size + 1 + 1, 0, none⟩ (.int .i64 0)).setCell ⟨w.heap.size + 1 + 1 + 1, 0, none⟩ (.int .i64 4)) (w.heap.size + 1 + 1 + 1) 37 #[.int .i64 4] from (h3.other (by show w.heap.size + 1 + 1 ≠ w.heap.size + 1 + 1 + 1; omega) _).set1 _)
      clear hcons hpr hx h2 h3 hb hK hz2
      gi_wp2
      have hzz := HZ.out
      refine ⟨by simp, .inl ⟨_, _, rfl, run_takeDeferred HK.out, ?_⟩⟩
      have c5 := (HG.out.putObj (D := W0.heap.size) (by omega) (.deferred none)).bx.at 0 _ rfl
      have c6 := (HG3.out.putObj (D := W0.heap.size) (by omega) (.deferred none)).bx.at 0 _ rfl
      exact ⟨.tuple #[.int .i64 0, .int .i64 4], by simp [results, Try.results21, go_sem, c5, c6], by rw [HH.out]; rfl, kept_def HB.out (Nat.le_refl _) (by omega) HK.out _⟩
end Go.Proofs.Ythlencnlgnbpaaa
