/- Scan of package tree, by a range over items. -/
import Derived.Test.YthlencnlgnbpaaaTreeM6
namespace Go.Proofs.Ythlencnlgnbpaaa
open Go.RowKit Go.Shelf
attribute [local go_sem] Oper.semAt_some
attribute [local go_sem] run_store_func

/-- What the scan has found where it stops at an item that is too far. -/
def ScanX (w : World) (hi : Int) (B : Nat) (c : Code) (u : List It) (V : World) : Prop := ∃ ini last, (c = .exit 0 ∧ u = ini ++ [last] ∧ (∀ x ∈ ini, x.1 < hi) ∧ hi ≤ last.1) ∧ ∃ Z z c, Bt V (w.heap.size + 1 + 1) 43 #[.slice Z z c] ∧ (V.ownsRow (B + (2 + 9)) 49 2 (.slice Z z c) z (ivs ini) ∧ Below w.heap.size w V)
set_option maxRecDepth 100000 in
set_option maxHeartbeats 1600000 in
theorem scan_in (R : Option Addr) (l : List HC) (n q : Nat) (keep keep' p lo hi : Int) (w : World) (hl : AllR l) (hn : l.length ≤ 2000) (hr : rightR ⟨l, keep'⟩ p = true) (hA : HcSl w R n q l) :
    CallsIn Fence.wide 5 Try.prog 24 #[.agg #[.slice R n q, .int .i64 keep], .int .i64 p, .int .i64 lo, .int .i64 hi] w fun e w' => ∃ S s d, e = .returned (.slice S s d) ∧ s = (scanT l p lo hi).length ∧ Sl w' S s d (ivs (scanT l p lo hi)) ∧ Ext w w' := by
  obtain ⟨A, C, hLie⟩ := lie_ex hA
  have HN := Lib.hid hA.1
  clear hA
  refine callsIn_of_wp_marks Try.func24 rfl trivial ?_ rfl
  simp only [Try.ntmps24, List.size_toArray, List.length_cons, List.length_nil, Nat.reduceAdd, Nat.reduceSub, Array.replicate_succ, Array.replicate_zero, List.push_toArray, List.append_toArray, List.nil_append, List.cons_append]
  gi_wp2_with (refine ⟨trivial, ?_⟩; gi_at_call 35; refine (items_in _ _ _ _ _ _ _ _).mono ?_; rintro e w' ⟨rfl, rfl⟩)
  obtain ⟨W1, hW1⟩ : ∃ W1, ((w.alloc (.cells #[.slice R n q, .int .i64 keep] 24)).alloc (.cells #[.int .i64 hi] 3)).alloc (.cells #[.slice none 0 0] 43) = W1 := ⟨_, rfl⟩
  obtain ⟨hx1, hz1, _, b1, b2⟩ := bts3 hW1
  rw [hW1]
  obtain ⟨W0, hW0⟩ : ∃ W0, ((W1.alloc (.cells #[.slice R n q, .int .i64 keep] 24)).alloc (.cells #[.int .i64 p] 3)).alloc (.cells #[.int .i64 lo] 3) = W0 := ⟨_, rfl⟩
  obtain ⟨hx2, hz2, b4, b5, b6⟩ := bts3 hW0
  rw [hW0]
  rw [hz1] at b4 b5 b6 hz2
  replace b1 := b1.below hx2
  replace b2 := b2.below hx2
  have hX0 := hx1.trans hx2
  clear hW1 hW0 hx1 hx2 hz1
  have HX0 := Lib.hid hX0
  have HZ := Lib.hid hz2
  have HIP := Lib.hid (itemsP_right hl hn hr lo)
  have HLN := Lib.hid (show (itemsP l p lo).length ≤ 1099511627776 from by
    rw [HIP.out]
    exact Nat.le_trans (List.length_filter_le _ _) (listT_len hl hr))
  have HST := Lib.hid (fun ini last (h : ini ++ [last] <+: itemsP l p lo) h1 h2 => scan_stops hl hr (lo := lo) (hi := hi) (ini := ini) (last := last) (by rw [HIP.out] at h; exact h) h1 h2)
  have HSA := Lib.hid (fun (h : ∀ x ∈ itemsP l p lo, x.1 < hi) => (show scanT l p lo hi = itemsP l p lo from by rw [HIP.out] at h ⊢; exact scan_all h))
  refine range_own (m := 3) (gf := 42) (lb := #[.pointer (some ⟨w.heap.size + 1 + 1 + 1, 0, none⟩), .pointer (some ⟨w.heap.size + 1 + 1 + 1 + 1, 0, none⟩), .pointer (some ⟨w.heap.size + 1 + 1 + 1 + 1 + 1, 0, none⟩)]) rfl (enters_of Try.func42 (by kernel_rfl) rfl)
    (items_seq l hl R n q keep p lo A C (w.heap.size + 1 + 1 + 1) (w.heap.size + 1 + 1 + 1 + 1 + 1) (w.heap.size + 1 + 1 + 1 + 1) w W0 hLie HN.out hX0 b4 b6 b5) (Ext.refl _) hX0.size (fun k hk => by omega) (fun _ => rfl)
    (fun pre V => (∀ x ∈ pre, x.1 < hi) ∧ (Bt V (w.heap.size + 1) 3 #[.int .i64 hi] ∧ ∃ Z z c, Bt V (w.heap.size + 1 + 1) 43 #[.slice Z z c] ∧ (V.ownsRow (W0.heap.size + (2 + 9)) 49 2 (.slice Z z c) z (ivs pre) ∧ Below w.heap.size w V)))
    (ScanX w hi W0.heap.size)
    (Stays.and (stays_pure _ _ (fun pre : List It => ∀ x ∈ pre, x.1 < hi)) (Stays.and (stays_bt (fun _ => _) (by omega)) (fun pre X Y hs ho => by
      obtain ⟨Z, z, c, h1, h2, h3⟩ := hs
      exact ⟨Z, z, c, stays_bt (fun (_ : Unit) => #[Value.slice Z z c]) (by omega) () X Y h1 ho, stays_own (fun (_ : Unit) => Value.slice Z z c) (fun _ => z) (fun _ => ivs pre) (Nat.le_refl _) () X Y h2 ho, stays_below w hX0.size (Nat.le_refl _) () X Y h3 ho⟩)))
    (fun c u X Y hs ho => by
      obtain ⟨ini, last, h0, Z, z, c, h1, h2, h3⟩ := hs
      exact ⟨ini, last, h0, Z, z, c, stays_bt (fun (_ : Unit) => #[Value.slice Z z c]) (by omega) () X Y h1 ho, stays_own (fun (_ : Unit) => Value.slice Z z c) (fun _ => z) (fun _ => ivs ini) (Nat.le_refl _) () X Y h2 ho, stays_below w hX0.size (Nat.le_refl _) () X Y h3 ho⟩)
    ⟨fun x hx => by simp at hx, b1, none, 0, 0, b2, ⟨rfl, .inl ⟨rfl, rfl⟩⟩, hX0⟩
    (fun x a' V => ∃ Bx, W0.heap.size + (2 + 9) ≤ Bx ∧ Bt V Bx 49 #[.int .i64 x.1, .int .i64 x.2] ∧ a' = { tmps := #[.agg #[.slice R n q, .int .i64 keep], .int .i64 p, .int .i64 lo, .int .i64 hi, .pointer (some ⟨w.heap.size, 0, none⟩), undef, undef, .pointer (some ⟨w.heap.size + 1, 0, none⟩), .slice none 0 0, .pointer (some ⟨w.heap.size + 1 + 1, 0, none⟩), .pointer (some ⟨Bx, 0, none⟩), .agg #[.slice R n q, .int .i64 keep], .int .i64 p, .int .i64 lo, .func (.func 42) #[] #[.pointer (some ⟨w.heap.size + 1 + 1 + 1, 0, none⟩), .pointer (some ⟨w.heap.size + 1 + 1 + 1 + 1, 0, none⟩), .pointer (some ⟨w.heap.size + 1 + 1 + 1 + 1 + 1, 0, none⟩)], .agg #[.int .i64 x.1, .int .i64 x.2], undef, undef, undef, undef, undef, undef, undef, undef, undef], defers := [] })
    (fun p a' s X Y hs ho => ⟨hs.choose, hs.choose_spec.1, stays_bt (fun (_ : Unit) => _) (.inr hs.choose_spec.1) () X Y hs.choose_spec.2.1 ho, hs.choose_spec.2.2⟩)
    ?assign ?body ?done ?stop
  case assign =>
    rintro l2 pre x V K ⟨he, h1, Z, z, c, h2, hRow, hb⟩ hz hp hK
    have HV := Lib.hid (show Ext V (V.alloc (.cells #[.int .i64 x.1, .int .i64 x.2] 49)) from (Ext.refl V).alloc _)
    have HI := Lib.hid (And.intro he (And.intro (h1.below HV.out) (show ∃ Z z c, Bt (V.alloc (.cells #[.int .i64 x.1, .int .i64 x.2] 49)) (w.heap.size + 1 + 1) 43 #[.slice Z z c] ∧ ((V.alloc (.cells #[.int .i64 x.1, .int .i64 x.2] 49)).ownsRow (W0.heap.size + (2 + 9)) 49 2 (.slice Z z c) z (ivs pre) ∧ Below w.heap.size w (V.alloc (.cells #[.int .i64 x.1, .int .i64 x.2] 49))) from
      ⟨Z, z, c, h2.below HV.out, own_ext hRow HV.out, Below.trans hb (HV.out.mono hb.size)⟩)))
    have HKV := Lib.hid hK
    have HS0 := Lib.hid hb.size
    clear he h1 h2 hRow hb hK
    simp only [encI]
    gi_wp2
    exact HKV.out _ _ (Kw.ext _ HV.out HS0.out) HI.out ⟨V.heap.size, hz, Bt.new V _ _, rfl⟩
  case body =>
    rintro l2 pre x a' V ⟨hu, h1, Z, z, c, hO, hRow, hb⟩ ⟨Bx, hBx, bX, rfl⟩ hz hp
    have hlen : pre.length + 1 ≤ 1099511627776 := by have := hp.length_le; rw [List.length_append] at this; simp at this; have := HLN.out; omega
    obtain ⟨xa, xb⟩ := x
    simp only at bX ⊢
    obtain ⟨x0, x1, x2⟩ := bX.bx.read2
    have c1 := h1.bx.at 0 _ rfl
    have e1 := h1.lt
    have c3 := hO.bx.at 0 _ rfl
    have f3 := hO.bx.free 0
    have g3 := hO.lt
    rcases Int.lt_or_le xa hi with h | h
    rotate_left
    · have t1 : decide (hi ≤ xa) = true := decide_eq_true h
      have HL := Lib.hid (show ScanX w hi W0.heap.size (.exit 0) (pre ++ [(xa, xb)]) V from
        ⟨pre, (xa, xb), ⟨rfl, rfl, hu, h⟩, Z, z, c, hO, hRow, hb⟩)
      clear h hu h1 hO hRow hb bX hlen hz2 hp
      gi_wp2
      exact ⟨Kw.refl _ _ _, HL.out⟩
    have t1 : decide (hi ≤ xa) = false := decide_eq_false (by omega)
    have HL := Lib.hid (show ∀ y ∈ pre ++ [(xa, xb)], y.1 < hi from fun y hy => (List.mem_append.1 hy).elim (hu y) (fun e => by simp at e; subst e; exact h))
    have HZL := Lib.hid (show z + 1 ≤ 1099511627776 from by have h1 := hRow.1; rw [ivs_length] at h1; omega)
    have HME := Lib.hid (show ivs (pre ++ [(xa, xb)]) = ivs pre ++ [.int .i64 xa, .int .i64 xb] from by rw [ivs_append]; rfl)
    have HX1 := Lib.hid ((Ext.refl V).alloc (.cells #[.int .i64 xa, .int .i64 xb] 49))
    have HO1 := Lib.hid (hO.below HX1.out)
    have HI1 := Lib.hid (h1.below HX1.out)
    have c4 := HO1.out.bx.at 0 _ rfl
    have HR1 := Lib.hid (own_ext hRow HX1.out)
    have HN1 := Lib.hid (sl_lit V 49 1 [.int .i64 xa, .int .i64 xb] (by unfold maxLen; omega))
    have HB1 := Lib.hid (show W0.heap.size + (2 + 9) ≤ (V.alloc (.cells #[.int .i64 xa, .int .i64 xb] 49)).heap.size from Nat.le_trans hz HX1.out.size)
    have HBW := Lib.hid hb
    have HBS := Lib.hid hb.size
    obtain ⟨i, hi', hz', hs', hb'⟩ := info_parts infoIt
    clear hO hRow hb hz hlen hp h hu h1 bX
    gi_wp2_with (gi_at_builtin; refine stop_here ?_)
    refine stop_on ?_
    refine wpListIn_append_own _ rfl _ _ 43 rfl (W0.heap.size + (2 + 9)) 49 i _ 2 16 Try.underlying43 hi' hz' hs' hb' rfl (by omega) _ _ _ rfl HR1.out ⟨V.heap.size, 0, none⟩ 1 1 [.int .i64 xa, .int .i64 xb] rfl rfl (HN1.out.cells.at_ _ rfl) (by intro u hu; simp only [List.mem_cons, List.not_mem_nil, or_false] at hu; rcases hu with rfl | rfl <;> rfl) (Nat.le_trans HZL.out (by unfold maxLen; omega)) (Nat.le_trans (Nat.mul_le_mul_right 16 HZL.out) (by omega)) HB1.out ?_
    intro v' w' h5 h6 _
    obtain ⟨A', c', rfl⟩ := own_shape h5
    have hzz := HZ.out
    have HO2 := Lib.hid (HO1.out.grown h6 (own_far HR1.out (by omega)))
    have HI2 := Lib.hid (HI1.out.grown h6 (own_far HR1.out (by omega)))
    have HR2 := Lib.hid h5
    have HG2 := Lib.hid h6
    clear h5 h6 c3 f3 c4 g3 c1 e1 x0 x1 x2
    have c3 := HO2.out.bx.at 0 _ rfl
    have f3 := HO2.out.bx.free 0
    have g3 := HO2.out.lt
    have HKW := Lib.hid (show Kw w.heap.size (fun k => (k = w.heap.size + 1 + 1 + 1 ∨ k = w.heap.size + 1 + 1 + 1 + 1 + 1 ∨ k = w.heap.size + 1 + 1 + 1 + 1) ∨ (W0.heap.size ≤ k ∧ k < W0.heap.size + (2 + 9))) V (w'.setCell ⟨w.heap.size + 1 + 1, 0, none⟩ (.slice A' (z + 1) c')) from
      ((Kw.ext _ HX1.out HBS.out).trans (Kw.own HR1.out (by decide) HG2.out HB1.out (by omega) (fun k hk => by omega))).trans (Kw.set HO2.out (by decide) (by omega) (by omega) _ _))
    have HRE := Lib.hid (show (w'.setCell ⟨w.heap.size + 1 + 1, 0, none⟩ (.slice A' (z + 1) c')).ownsRow (W0.heap.size + (2 + 9)) 49 2 (.slice A' (z + 1) c') (z + 1) (ivs (pre ++ [(xa, xb)])) from by
      rw [HME.out]
      exact ownsRow_setCell_below HR2.out (by show w.heap.size + 1 + 1 < _; omega) _)
    have HI3 := Lib.hid (HI2.out.other (p := ⟨w.heap.size + 1 + 1, 0, none⟩) (by show w.heap.size + 1 + 1 ≠ w.heap.size + 1; omega) (.slice A' (z + 1) c'))
    clear hzz hz2
    gi_wp2
    exact ⟨HKW.out, HL.out, HI3.out, A', z + 1, c', HO2.out.set1 _, HRE.out, Below.trans HBW.out HKW.out.old⟩
  case done =>
    rintro D V rfl ⟨hu, h1, Z, z, c, hO, hRow, hb⟩ hK
    have HSE := Lib.hid (HSA.out hu)
    have HZL := Lib.hid (show z = (scanT l p lo hi).length from by have h1 := hRow.1; rw [ivs_length] at h1; rw [HSE.out]; omega)
    clear hu h1
    have c3 := hO.bx.at 0 _ rfl
    have HK := Lib.hid hK
    have HR := Lib.hid hRow
    have HB := Lib.hid (show Below w.heap.size w V from hb)
    clear hO hRow hb hK hz2
    gi_wp2
    have hzz := HZ.out
    refine ⟨by simp, .inl ⟨_, _, rfl, run_takeDeferred HK.out, ?_⟩⟩
    exact ⟨.slice Z z c, by simp [results, Try.results24, go_sem], Z, z, c, rfl, HZL.out, by rw [HSE.out]; exact own_sl (own_put HR.out (by omega) _), kept_def HB.out (Nat.le_refl _) (by omega) HK.out _⟩
  case stop =>
    rintro D c u V rfl hu ⟨ini, last, ⟨rfl, rfl, h1, h2⟩, Z, z, c, hO, hRow, hb⟩ hK
    have HSE := Lib.hid (HST.out ini last hu h1 h2)
    have HZL := Lib.hid (show z = (scanT l p lo hi).length from by have h1 := hRow.1; rw [ivs_length] at h1; rw [HSE.out]; omega)
    clear hu h1 h2
    have c3 := hO.bx.at 0 _ rfl
    have HK := Lib.hid hK
    have HR := Lib.hid hRow
    have HB := Lib.hid (show Below w.heap.size w V from hb)
    clear hO hRow hb hK hz2
    gi_wp2
    have hzz := HZ.out
    refine ⟨by simp, .inl ⟨_, _, rfl, run_takeDeferred HK.out, ?_⟩⟩
    exact ⟨.slice Z z c, by simp [results, Try.results24, go_sem], Z, z, c, rfl, HZL.out, by rw [HSE.out]; exact own_sl (own_put HR.out (by omega) _), kept_def HB.out (Nat.le_refl _) (by omega) HK.out _⟩
end Go.Proofs.Ythlencnlgnbpaaa
