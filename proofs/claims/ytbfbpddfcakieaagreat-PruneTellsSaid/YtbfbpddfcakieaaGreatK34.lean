/- Scan of package tree, by a range over items. The contract of Cut of package prune. The example of chapter 9: 1 to 5, put one by one. The example of chapter 10: 1 to 5, put one by one, and taken out again. Walks of the reference of layer 8, where there are no tasks: Given, Tells, outside. -/
import Derived.Test.YtbfbpddfcakieaaGreatK32
import Derived.Test.YtbfbpddfcakieaaGreatK33
import Derived.Test.YtbfbpddfcakieaaGreatK23
import Derived.Test.YtbfbpddfcakieaaGreatK20
namespace Go.Proofs.YtbfbpddfcakieaaGreat
open Go.RowKit Go.Shelf
attribute [local go_sem] Oper.semAt_some
attribute [local go_sem] run_store_func

/-- What the scan has found where it stops at an item that is too far. -/
def ScanX (w : World) (hi : Int) (B : Nat) (c : Code) (u : List It) (V : World) : Prop := ∃ ini last, (c = .exit 0 ∧ u = ini ++ [last] ∧ (∀ x ∈ ini, x.1 < hi) ∧ hi ≤ last.1) ∧ ∃ Z z c, Bt V (w.heap.size + 1 + 1) 47 #[.slice Z z c] ∧ (V.ownsRow (B + (2 + 9)) 46 2 (.slice Z z c) z (ivs ini) ∧ Below w.heap.size w V)
set_option maxRecDepth 100000 in
set_option maxHeartbeats 1600000 in
theorem scan_in (R : Option Addr) (l : List HC) (n q : Nat) (keep keep' p lo hi : Int) (w : World) (hl : AllR l) (hn : l.length ≤ 2000) (hr : rightR ⟨l, keep'⟩ p = true) (hA : HcSl w R n q l) :
    CallsIn Fence.wide 5 Tryz.prog 35 #[.agg #[.slice R n q, .int .i64 keep], .int .i64 p, .int .i64 lo, .int .i64 hi] w fun e w' => ∃ S s d, e = .returned (.slice S s d) ∧ s = (scanT l p lo hi).length ∧ Sl w' S s d (ivs (scanT l p lo hi)) ∧ Ext w w' := by
  obtain ⟨A, C, hLie⟩ := lie_ex hA
  have HN := Lib.hid hA.1
  clear hA
  refine callsIn_of_wp_marks Tryz.func35 rfl trivial ?_ rfl
  simp only [Tryz.ntmps35, List.size_toArray, List.length_cons, List.length_nil, Nat.reduceAdd, Nat.reduceSub, Array.replicate_succ, Array.replicate_zero, List.push_toArray, List.append_toArray, List.nil_append, List.cons_append]
  gi_wp2_with (refine ⟨trivial, ?_⟩; gi_at_call 42; refine (items_in _ _ _ _ _ _ _ _).mono ?_; rintro e w' ⟨rfl, rfl⟩)
  obtain ⟨W1, hW1⟩ : ∃ W1, ((w.alloc (.cells #[.slice R n q, .int .i64 keep] 24)).alloc (.cells #[.int .i64 hi] 3)).alloc (.cells #[.slice none 0 0] 47) = W1 := ⟨_, rfl⟩
  obtain ⟨hx1, hz1, _, b1, b2⟩ := bts3 hW1
  rw [hW1]
  obtain ⟨W0, hW0⟩ : ∃ W0, ((W1.alloc (.cells #[.slice R n q, .int .i64 keep] 24)).alloc (.cells #[.int .i64 p] 3)).alloc (.cells #[.int .i64 lo] 3) = W0 := ⟨_, rfl⟩
  obtain ⟨hx2, hz2, b4, b5, b6⟩ := bts3 hW0
  rw [hW0]
  rw [hz1] at b4 b5 b6 hz2
  replace b1 := b1.below hx2
  replace b2 := b2.below hx2
  have hX0 := hx1.trans hx2
  clear hW1 hW0 hx1 hx2 hz1
  have HX0 := Lib.hid hX0
  have HZ := Lib.hid hz2
  have HIP := Lib.hid (itemsP_right hl hn hr lo)
  have HLN := Lib.hid (show (itemsP l p lo).length ≤ 1099511627776 from by
    rw [HIP.out]
    exact Nat.le_trans (List.length_filter_le _ _) (listT_len hl hr))
  have HST := Lib.hid (fun ini last (h : ini ++ [last] <+: itemsP l p lo) h1 h2 => scan_stops hl hr (lo := lo) (hi := hi) (ini := ini) (last := last) (by rw [HIP.out] at h; exact h) h1 h2)
  have HSA := Lib.hid (fun (h : ∀ x ∈ itemsP l p lo, x.1 < hi) => (show scanT l p lo hi = itemsP l p lo from by rw [HIP.out] at h ⊢; exact scan_all h))
  refine range_own (m := 3) (gf := 68) (lb := #[.pointer (some ⟨w.heap.size + 1 + 1 + 1, 0, none⟩), .pointer (some ⟨w.heap.size + 1 + 1 + 1 + 1, 0, none⟩), .pointer (some ⟨w.heap.size + 1 + 1 + 1 + 1 + 1, 0, none⟩)]) rfl (enters_of Tryz.func68 (by kernel_rfl) rfl)
    (items_seq l hl R n q keep p lo A C (w.heap.size + 1 + 1 + 1) (w.heap.size + 1 + 1 + 1 + 1 + 1) (w.heap.size + 1 + 1 + 1 + 1) w W0 hLie HN.out hX0 b4 b6 b5) (Ext.refl _) hX0.size (fun k hk => by omega) (fun _ => rfl)
    (fun pre V => (∀ x ∈ pre, x.1 < hi) ∧ (Bt V (w.heap.size + 1) 3 #[.int .i64 hi] ∧ ∃ Z z c, Bt V (w.heap.size + 1 + 1) 47 #[.slice Z z c] ∧ (V.ownsRow (W0.heap.size + (2 + 9)) 46 2 (.slice Z z c) z (ivs pre) ∧ Below w.heap.size w V)))
    (ScanX w hi W0.heap.size)
    (Stays.and (stays_pure _ _ (fun pre : List It => ∀ x ∈ pre, x.1 < hi)) (Stays.and (stays_bt (fun _ => _) (by omega)) (fun pre X Y hs ho => by
      obtain ⟨Z, z, c, h1, h2, h3⟩ := hs
      exact ⟨Z, z, c, stays_bt (fun (_ : Unit) => #[Value.slice Z z c]) (by omega) () X Y h1 ho, stays_own (fun (_ : Unit) => Value.slice Z z c) (fun _ => z) (fun _ => ivs pre) (Nat.le_refl _) () X Y h2 ho, stays_below w hX0.size (Nat.le_refl _) () X Y h3 ho⟩)))
    (fun c u X Y hs ho => by
      obtain ⟨ini, last, h0, Z, z, c, h1, h2, h3⟩ := hs
      exact ⟨ini, last, h0, Z, z, c, stays_bt (fun (_ : Unit) => #[Value.slice Z z c]) (by omega) () X Y h1 ho, stays_own (fun (_ : Unit) => Value.slice Z z c) (fun _ => z) (fun _ => ivs ini) (Nat.le_refl _) () X Y h2 ho, stays_below w hX0.size (Nat.le_refl _) () X Y h3 ho⟩)
    ⟨fun x hx => by simp at hx, b1, none, 0, 0, b2, ⟨rfl, .inl ⟨rfl, rfl⟩⟩, hX0⟩
    (fun x a' V => ∃ Bx, W0.heap.size + (2 + 9) ≤ Bx ∧ Bt V Bx 46 #[.int .i64 x.1, .int .i64 x.2] ∧ a' = { tmps := #[.agg #[.slice R n q, .int .i64 keep], .int .i64 p, .int .i64 lo, .int .i64 hi, .pointer (some ⟨w.heap.size, 0, none⟩), undef, undef, .pointer (some ⟨w.heap.size + 1, 0, none⟩), .slice none 0 0, .pointer (some ⟨w.heap.size + 1 + 1, 0, none⟩), .pointer (some ⟨Bx, 0, none⟩), .agg #[.slice R n q, .int .i64 keep], .int .i64 p, .int .i64 lo, .func (.func 68) #[] #[.pointer (some ⟨w.heap.size + 1 + 1 + 1, 0, none⟩), .pointer (some ⟨w.heap.size + 1 + 1 + 1 + 1, 0, none⟩), .pointer (some ⟨w.heap.size + 1 + 1 + 1 + 1 + 1, 0, none⟩)], .agg #[.int .i64 x.1, .int .i64 x.2], undef, undef, undef, undef, undef, undef, undef, undef, undef], defers := [] })
    (fun p a' s X Y hs ho => ⟨hs.choose, hs.choose_spec.1, stays_bt (fun (_ : Unit) => _) (.inr hs.choose_spec.1) () X Y hs.choose_spec.2.1 ho, hs.choose_spec.2.2⟩)
    ?assign ?body ?done ?stop
  case assign =>
    rintro l2 pre x V K ⟨he, h1, Z, z, c, h2, hRow, hb⟩ hz hp hK
    have HV := Lib.hid (show Ext V (V.alloc (.cells #[.int .i64 x.1, .int .i64 x.2] 46)) from (Ext.refl V).alloc _)
    have HI := Lib.hid (And.intro he (And.intro (h1.below HV.out) (show ∃ Z z c, Bt (V.alloc (.cells #[.int .i64 x.1, .int .i64 x.2] 46)) (w.heap.size + 1 + 1) 47 #[.slice Z z c] ∧ ((V.alloc (.cells #[.int .i64 x.1, .int .i64 x.2] 46)).ownsRow (W0.heap.size + (2 + 9)) 46 2 (.slice Z z c) z (ivs pre) ∧ Below w.heap.size w (V.alloc (.cells #[.int .i64 x.1, .int .i64 x.2] 46))) from
      ⟨Z, z, c, h2.below HV.out, own_ext hRow HV.out, Below.trans hb (HV.out.mono hb.size)⟩)))
    have HKV := Lib.hid hK
    have HS0 := Lib.hid hb.size
    clear he h1 h2 hRow hb hK
    simp only [encI]
    gi_wp2
    exact HKV.out _ _ (Kw.ext _ HV.out HS0.out) HI.out ⟨V.heap.size, hz, Bt.new V _ _, rfl⟩
  case body =>
    rintro l2 pre x a' V ⟨hu, h1, Z, z, c, hO, hRow, hb⟩ ⟨Bx, hBx, bX, rfl⟩ hz hp
    have hlen : pre.length + 1 ≤ 1099511627776 := by have := hp.length_le; rw [List.length_append] at this; simp at this; have := HLN.out; omega
    obtain ⟨xa, xb⟩ := x
    simp only at bX ⊢
    obtain ⟨x0, x1, x2⟩ := bX.bx.read2
    have c1 := h1.bx.at 0 _ rfl
    have e1 := h1.lt
    have c3 := hO.bx.at 0 _ rfl
    have f3 := hO.bx.free 0
    have g3 := hO.lt
    rcases Int.lt_or_le xa hi with h | h
    rotate_left
    · have t1 : decide (hi ≤ xa) = true := decide_eq_true h
      have HL := Lib.hid (show ScanX w hi W0.heap.size (.exit 0) (pre ++ [(xa, xb)]) V from
        ⟨pre, (xa, xb), ⟨rfl, rfl, hu, h⟩, Z, z, c, hO, hRow, hb⟩)
      clear h hu h1 hO hRow hb bX hlen hz2 hp
      gi_wp2
      exact ⟨Kw.refl _ _ _, HL.out⟩
    have t1 : decide (hi ≤ xa) = false := decide_eq_false (by omega)
    have HL := Lib.hid (show ∀ y ∈ pre ++ [(xa, xb)], y.1 < hi from fun y hy => (List.mem_append.1 hy).elim (hu y) (fun e => by simp at e; subst e; exact h))
    have HZL := Lib.hid (show z + 1 ≤ 1099511627776 from by have h1 := hRow.1; rw [ivs_length] at h1; omega)
    have HME := Lib.hid (show ivs (pre ++ [(xa, xb)]) = ivs pre ++ [.int .i64 xa, .int .i64 xb] from by rw [ivs_append]; rfl)
    have HX1 := Lib.hid ((Ext.refl V).alloc (.cells #[.int .i64 xa, .int .i64 xb] 46))
    have HO1 := Lib.hid (hO.below HX1.out)
    have HI1 := Lib.hid (h1.below HX1.out)
    have c4 := HO1.out.bx.at 0 _ rfl
    have HR1 := Lib.hid (own_ext hRow HX1.out)
    have HN1 := Lib.hid (sl_lit V 46 1 [.int .i64 xa, .int .i64 xb] (by unfold maxLen; omega))
    have HB1 := Lib.hid (show W0.heap.size + (2 + 9) ≤ (V.alloc (.cells #[.int .i64 xa, .int .i64 xb] 46)).heap.size from Nat.le_trans hz HX1.out.size)
    have HBW := Lib.hid hb
    have HBS := Lib.hid hb.size
    obtain ⟨i, hi', hz', hs', hb'⟩ := info_parts infoIt
    clear hO hRow hb hz hlen hp h hu h1 bX
    gi_wp2_with (gi_at_builtin; refine stop_here ?_)
    refine stop_on ?_
    refine wpListIn_append_own _ rfl _ _ 47 rfl (W0.heap.size + (2 + 9)) 46 i _ 2 16 Tryz.underlying47 hi' hz' hs' hb' rfl (by omega) _ _ _ rfl HR1.out ⟨V.heap.size, 0, none⟩ 1 1 [.int .i64 xa, .int .i64 xb] rfl rfl (HN1.out.cells.at_ _ rfl) (by intro u hu; simp only [List.mem_cons, List.not_mem_nil, or_false] at hu; rcases hu with rfl | rfl <;> rfl) (Nat.le_trans HZL.out (by unfold maxLen; omega)) (Nat.le_trans (Nat.mul_le_mul_right 16 HZL.out) (by omega)) HB1.out ?_
    intro v' w' h5 h6 _
    obtain ⟨A', c', rfl⟩ := own_shape h5
    have hzz := HZ.out
    have HO2 := Lib.hid (HO1.out.grown h6 (own_far HR1.out (by omega)))
    have HI2 := Lib.hid (HI1.out.grown h6 (own_far HR1.out (by omega)))
    have HR2 := Lib.hid h5
    have HG2 := Lib.hid h6
    clear h5 h6 c3 f3 c4 g3 c1 e1 x0 x1 x2
    have c3 := HO2.out.bx.at 0 _ rfl
    have f3 := HO2.out.bx.free 0
    have g3 := HO2.out.lt
    have HKW := Lib.hid (show Kw w.heap.size (fun k => (k = w.heap.size + 1 + 1 + 1 ∨ k = w.heap.size + 1 + 1 + 1 + 1 + 1 ∨ k = w.heap.size + 1 + 1 + 1 + 1) ∨ (W0.heap.size ≤ k ∧ k < W0.heap.size + (2 + 9))) V (w'.setCell ⟨w.heap.size + 1 + 1, 0, none⟩ (.slice A' (z + 1) c')) from
      ((Kw.ext _ HX1.out HBS.out).trans (Kw.own HR1.out (by decide) HG2.out HB1.out (by omega) (fun k hk => by omega))).trans (Kw.set HO2.out (by decide) (by omega) (by omega) _ _))
    have HRE := Lib.hid (show (w'.setCell ⟨w.heap.size + 1 + 1, 0, none⟩ (.slice A' (z + 1) c')).ownsRow (W0.heap.size + (2 + 9)) 46 2 (.slice A' (z + 1) c') (z + 1) (ivs (pre ++ [(xa, xb)])) from by
      rw [HME.out]
      exact ownsRow_setCell_below HR2.out (by show w.heap.size + 1 + 1 < _; omega) _)
    have HI3 := Lib.hid (HI2.out.other (p := ⟨w.heap.size + 1 + 1, 0, none⟩) (by show w.heap.size + 1 + 1 ≠ w.heap.size + 1; omega) (.slice A' (z + 1) c'))
    clear hzz hz2
    gi_wp2
    exact ⟨HKW.out, HL.out, HI3.out, A', z + 1, c', HO2.out.set1 _, HRE.out, Below.trans HBW.out HKW.out.old⟩
  case done =>
    rintro D V rfl ⟨hu, h1, Z, z, c, hO, hRow, hb⟩ hK
    have HSE := Lib.hid (HSA.out hu)
    have HZL := Lib.hid (show z = (scanT l p lo hi).length from by have h1 := hRow.1; rw [ivs_length] at h1; rw [HSE.out]; omega)
    clear hu h1
    have c3 := hO.bx.at 0 _ rfl
    have HK := Lib.hid hK
    have HR := Lib.hid hRow
    have HB := Lib.hid (show Below w.heap.size w V from hb)
    clear hO hRow hb hK hz2
    gi_wp2
    have hzz := HZ.out
    refine ⟨by simp, .inl ⟨_, _, rfl, run_takeDeferred HK.out, ?_⟩⟩
    exact ⟨.slice Z z c, by simp [results, Tryz.results35, go_sem], Z, z, c, rfl, HZL.out, by rw [HSE.out]; exact own_sl (own_put HR.out (by omega) _), kept_def HB.out (Nat.le_refl _) (by omega) HK.out _⟩
  case stop =>
    rintro D c u V rfl hu ⟨ini, last, ⟨rfl, rfl, h1, h2⟩, Z, z, c, hO, hRow, hb⟩ hK
    have HSE := Lib.hid (HST.out ini last hu h1 h2)
    have HZL := Lib.hid (show z = (scanT l p lo hi).length from by have h1 := hRow.1; rw [ivs_length] at h1; rw [HSE.out]; omega)
    clear hu h1 h2
    have c3 := hO.bx.at 0 _ rfl
    have HK := Lib.hid hK
    have HR := Lib.hid hRow
    have HB := Lib.hid (show Below w.heap.size w V from hb)
    clear hO hRow hb hK hz2
    gi_wp2
    have hzz := HZ.out
    refine ⟨by simp, .inl ⟨_, _, rfl, run_takeDeferred HK.out, ?_⟩⟩
    exact ⟨.slice Z z c, by simp [results, Tryz.results35, go_sem], Z, z, c, rfl, HZL.out, by rw [HSE.out]; exact own_sl (own_put HR.out (by omega) _), kept_def HB.out (Nat.le_refl _) (by omega) HK.out _⟩
end Go.Proofs.YtbfbpddfcakieaaGreat
namespace Go.Proofs.YtbfbpddfcakieaaGreat
open Go.RowKit
attribute [local go_sem ↓] Go.wp_at_zero Go.wp_at_succ

theorem pruneScan_any (R : Option Addr) (l : List HC) (n q : Nat) (keep keep' p lo hi : Int) (w : World) (hl : AllR l) (hn : l.length ≤ 2000) (hr : rightR ⟨l, keep'⟩ p = true) (hA : HcSl w R n q l) :
    Calls Tryz.prog 35 #[.agg #[.slice R n q, .int .i64 keep], .int .i64 p, .int .i64 lo, .int .i64 hi] w fun e w' => ∃ S s d, e = .returned (.slice S s d) ∧ s = (scanT l p lo hi).length ∧ Sl w' S s d (ivs (scanT l p lo hi)) ∧ Ext w w' :=
  callsIn_wide.1 (scan_in R l n q keep keep' p lo hi w hl hn hr hA)
def cutP (r : List HC × Int × Nat × Int) (j : Nat) : List HC × Int × Nat × Int := (r.1, r.2.1, r.2.2.1 + j, r.2.2.2)
/-- A tree of which some items of a range are taken out already. -/
structure CutJ (keep lo hi most : Int) (m : Nat) (F : List HC × Int × Nat × Int) (L : List It) (j : Nat) (c : List HC) (p : Int) : Prop where
  fine : fineB ⟨c, keep⟩ p most = true
  le : j ≤ L.length ∧ j ≤ m
  scan : scanT c p lo hi = L.drop j
  same : F = cutP (cutS keep lo hi (m - j) c p) j
theorem CutJ.stop {keep lo hi most : Int} {m : Nat} {F : List HC × Int × Nat × Int} {L : List It} {j : Nat} {c : List HC} {p : Int} (J : CutJ keep lo hi most m F L j c p) (h : m ≤ j ∨ L.length ≤ j) : F = (c, p, j, 0) := by
  rw [J.same]
  have h1 := J.le
  have h2 := J.scan
  rcases Nat.eq_zero_or_pos (m - j) with h0 | h0
  · rw [h0]; unfold cutP cutS; simp
  · obtain ⟨m', hm'⟩ : ∃ m', m - j = m' + 1 := ⟨m - j - 1, by omega⟩
    rw [List.drop_of_length_le (by omega)] at h2
    rw [hm', cutS, h2]
    unfold cutP
    simp
theorem CutJ.step {keep lo hi most : Int} (hmost : most ≤ 60) {m : Nat} {F : List HC × Int × Nat × Int} {L : List It} {j : Nat} {c : List HC} {p : Int} (J : CutJ keep lo hi most m F L j c p) (hj : j < m) (hl : j < L.length) :
    ((delR ⟨c, keep⟩ p L[j].1).2.2 = 0 ∧ CutJ keep lo hi most m F L (j + 1) (delR ⟨c, keep⟩ p L[j].1).1 (delR ⟨c, keep⟩ p L[j].1).2.1) ∨ ((delR ⟨c, keep⟩ p L[j].1).2.2 = 3 ∧ (delR ⟨c, keep⟩ p L[j].1).1 = c ∧ (delR ⟨c, keep⟩ p L[j].1).2.1 = p ∧ F = (c, p, j, 3)) := by
  have hsc := J.scan
  rw [List.drop_eq_getElem_cons hl] at hsc
  obtain ⟨hm, hrr, _⟩ := fine_may J.fine
  have hasc := listT_rise (may_iff hm).2.2 hrr
  have hx : L[j] ∈ listT c p := by
    have : L[j] ∈ scanT c p lo hi := by rw [hsc]; exact List.mem_cons_self
    unfold scanT at this
    exact (List.mem_filter.1 this).1
  have hsame := J.same
  obtain ⟨m', hm'⟩ : ∃ m', m - j = m' + 1 := ⟨m - j - 1, by omega⟩
  rw [hm', cutS, hsc] at hsame
  simp only at hsame
  rcases del_when hmost J.fine ⟨L[j], hx, rfl⟩ with ⟨e0, D, _⟩ | ⟨e3, e1, e2, _⟩
  · left
    rw [if_pos e0] at hsame
    refine ⟨e0, D.fine, ⟨by omega, by omega⟩, ?_, ?_⟩
    · have hlq : listT (delR ⟨c, keep⟩ p L[j].1).1 (delR ⟨c, keep⟩ p L[j].1).2.1 = outK (listT c p) L[j].1 := D.list
      unfold scanT at hsc ⊢
      rw [hlq]
      exact out_scan hasc hsc
    · rw [hsame, show m - (j + 1) = m' by omega]
      unfold cutP
      simp only [Prod.mk.injEq, true_and, and_true]
      omega
  · right
    rw [if_neg (by rw [e3]; decide)] at hsame
    refine ⟨e3, e1, e2, ?_⟩
    rw [hsame, e3]
    unfold cutP
    simp

set_option maxRecDepth 100000 in
set_option maxHeartbeats 3200000 in
/-- P10.3, where all is sound. -/
theorem pruneCut_any (R : Option Addr) (l : List HC) (n q : Nat) (keep root lo hi most : Int) (m : Nat) (w : World) (hmost : most ≤ 60) (_hm1 : m ≤ 1000) (hf : fineB ⟨l, keep⟩ root most = true) (hA : HcSl w R n q l) :
    Calls Tryz.prog 12 #[.agg #[.slice R n q, .int .i64 keep], .int .i64 root, .int .i64 lo, .int .i64 hi, .int .i64 m] w fun e w' => ∃ S d, e = .returned (.tuple #[.agg #[.slice S n d, .int .i64 keep], .int .i64 (cutS keep lo hi m l root).2.1, .int .i64 ((cutS keep lo hi m l root).2.2.1 : Nat), .int .i64 (cutS keep lo hi m l root).2.2.2]) ∧ HcSl w' S n d (cutS keep lo hi m l root).1 ∧ Ext w w' := by
  obtain ⟨hm, hrr, _⟩ := fine_may hf
  have hri := (may_iff hm).2.2
  obtain ⟨W, hW⟩ : ∃ W, W = (w.alloc (.cells #[.slice R n q, .int .i64 keep] 24)).alloc (.cells #[.slice none 0 0, .int .i64 0] 24) := ⟨_, rfl⟩
  obtain ⟨hx, hb0, hb1⟩ := allocs2 hW.symm
  have HX := Lib.hid hx
  have HB0 := Lib.hid hb0
  have HB1 := Lib.hid hb1
  have HA := Lib.hid (hA.ext hx)
  have HSC := Lib.hid (fun w' (hx : Ext w w') => pruneScan_any R l n q keep keep root lo hi w' (allR_of hri) (rightH_iff hri).1.1.2 hrr (hA.ext hx))
  obtain ⟨F, hF⟩ : ∃ F, cutS keep lo hi m l root = F := ⟨_, rfl⟩
  have HJ0 := Lib.hid (show CutJ keep lo hi most m F (scanT l root lo hi) 0 l root from ⟨hf, ⟨Nat.zero_le _, Nat.zero_le _⟩, rfl, by rw [← hF]; rfl⟩)
  rw [hF]
  have hl60 : (scanT l root lo hi).length ≤ 1099511627776 := by
    have h1 := listT_len (allR_of hri) hrr
    have h2 : (scanT l root lo hi).length ≤ (listT l root).length := List.length_filter_le _ _
    omega
  have HL6 := Lib.hid hl60
  obtain ⟨p0, p1, p2⟩ := hb0.read2
  clear hx hb0 hb1 hA hf hm hrr hri hF hl60
  generalize scanT l root lo hi = it at *
  subst hW
  go_enter Tryz.func12, Tryz.ntmps12
  go_wp2_with (go_at_call 35; refine stop_here ?_)
  refine stop_on ?_
  generalize hW : World.alloc (World.alloc w _) _ = W at *
  clear hW
  refine (HSC.out _ HX.out).mono ?_
  rintro e w1 ⟨A, s, c, rfl, hs, hI, hx1⟩
  have HX1 := Lib.hid (HX.out.trans hx1)
  have HB2 := Lib.hid (HB0.out.ext hx1)
  have HB3 := Lib.hid (HB1.out.ext hx1)
  have HA1 := Lib.hid (HA.out.ext hx1)
  have HI := Lib.hid hI
  have HM := Lib.hid hs
  have hs9 : s ≤ 1099511627776 := by rw [hs]; exact HL6.out
  clear hx1 hI hs p0 p1 p2
  go_wp2_with fail
  go_loopw [1, 14, 24] (fun r g i wr => ∃ (j : Nat) (S : Option Addr) (d : Nat) (cj : List HC) (pj : Int), g = .int .i64 j ∧ i = .int .i64 j ∧ r = .int .i64 pj ∧ CutJ keep lo hi most m F it j cj pj ∧ Ext w wr ∧ Hx w.heap.size keep w1 wr ∧ Bx wr w.heap.size #[.slice S n d, .int .i64 keep] ∧ Bx wr (w.heap.size + 1) #[.slice none 0 0, .int .i64 0] ∧ HcSl wr S n d cj) (fun _ _ i _ => s - (intOf i).toNat)
  case atStart => exact ⟨0, R, q, l, root, rfl, rfl, rfl, HJ0.out, HX1.out, Hx.of_ext HB2.out (Ext.refl _), HB2.out, HB3.out, HA1.out⟩
  case round =>
    obtain ⟨j, S, d1, cj, pj, rfl, rfl, rfl, hj, hx, hx1, hb0, hb1, hs⟩ := hrel
    have HJ := Lib.hid hj
    have HXR := Lib.hid hx
    have HXS := Lib.hid hx1
    have HC0 := Lib.hid hb0
    have HC1 := Lib.hid hb1
    have HS := Lib.hid hs
    have hjm : j ≤ m := hj.le.2
    have hjs : j ≤ s := by rw [HM.out]; exact hj.le.1
    obtain ⟨p0, p1, p2⟩ := hb0.read2
    obtain ⟨f0, f1⟩ := hb0.free2
    obtain ⟨t0, t1, t2⟩ := hb1.read2
    obtain ⟨y0, y1⟩ := hb1.free2
    clear hb0 hb1 hs hx hj
    rcases Nat.lt_or_ge j s with hlt | hlt
    rotate_left
    · have hst := HJ.out.stop (.inr (by rw [← HM.out]; exact hlt))
      obtain rfl : s = j := by omega
      subst hst
      have d4 : decide ((s : Int) < (s : Int)) = false := decide_eq_false (by omega)
      clear HJ HJ0 hlt
      go_wp2_with fail
      refine ret2_cell (k := w.heap.size + 1) (x := .slice S n d1) (y := .int .i64 keep) (v := .tuple #[.agg #[.slice S n d1, .int .i64 keep], .int .i64 pj, .int .i64 s, .int .i64 0]) ?hb4 (fun r0 r1 => by simp [results, Tryz.results12, go_sem, r0, r1]) rfl ?hx4
      case hb4 => exact HC1.out.set2 _ _
      case hx4 => exact ⟨S, d1, rfl, HS.out.boxed2 HC1.out _ _, HXR.out.store2 (by omega) _ _⟩
    have hjl : j < it.length := by rw [← HM.out]; exact hlt
    have hji : (j : Int) < (s : Int) := by omega
    obtain ⟨b2, off2, rfl, hbl2, k0, k1⟩ := it_at (hx1.its HI.out) hjl
    clear hx1
    rcases Nat.lt_or_ge j m with hm | hm
    rotate_left
    · have hst := HJ.out.stop (.inl hm)
      obtain rfl : m = j := by omega
      subst hst
      have d4 : decide ((m : Int) ≤ (m : Int)) = true := decide_eq_true (by omega)
      clear HJ HJ0 hm
      go_wp2_with fail
      refine ret2_cell (k := w.heap.size + 1) (x := .slice S n d1) (y := .int .i64 keep) (v := .tuple #[.agg #[.slice S n d1, .int .i64 keep], .int .i64 pj, .int .i64 m, .int .i64 0]) ?hb4 (fun r0 r1 => by simp [results, Tryz.results12, go_sem, r0, r1]) rfl ?hx4
      case hb4 => exact (HC1.out.set2 _ _).ext ((Ext.refl _).alloc _)
      case hx4 => exact ⟨S, d1, rfl, (HS.out.boxed2 HC1.out _ _).ext ((Ext.refl _).alloc _), (HXR.out.store2 (by omega) _ _).alloc _⟩
    have d4 : decide ((m : Int) ≤ (j : Int)) = false := decide_eq_false (by omega)
    have d5 : decide (m ≤ j) = false := decide_eq_false (by omega)
    have HST := Lib.hid (HJ.out.step hmost hm hjl)
    have HDE := Lib.hid (fun w' (hx : Ext wr w') => pruneDel_any S cj n d1 keep pj it[j].1 most w' hmost (by have hfj := HJ.out.fine; unfold fineB at hfj; rw [Bool.and_eq_true] at hfj; exact hfj.1) (HS.out.ext hx))
    generalize it[j] = y at *
    obtain ⟨ky, vy⟩ := y
    simp only at k0 k1 HDE HST
    generalize (delR ⟨cj, keep⟩ pj ky) = pr at *
    obtain ⟨c2, r2, e2⟩ := pr
    simp only at HST HDE
    obtain ⟨W5, hW5⟩ : ∃ W5, wr.alloc (.cells #[.int .i64 ky, .int .i64 vy] 46) = W5 := ⟨_, rfl⟩
    obtain ⟨hy, hbx⟩ := allocs1 hW5
    have HY := Lib.hid hy
    obtain ⟨g0, g1, g2⟩ := hbx.read2
    obtain ⟨p5, p6, p7⟩ := (HC0.out.ext hy).read2
    clear hy hbx
    have HLT := Lib.hid (And.intro hm hlt)
    clear hm hlt hjl hjs hjm
    rcases HST.out with ⟨h0, hJ2⟩ | ⟨h0, hc, hr, hF⟩
    · have HJ2 := Lib.hid hJ2
      subst h0
      clear hJ2 HST
      go_wp2_with (go_at_call 6; refine stop_here ?_)
      refine stop_on ?_
      refine (HDE.out _ HY.out).mono ?_
      rintro e w6 ⟨S6, d6, rfl, hs6, hx6⟩
      have HX6 := Lib.hid (HY.out.trans hx6)
      have HS6 := Lib.hid hs6
      have HD0 := Lib.hid (HC0.out.ext HX6.out)
      have HD1 := Lib.hid (HC1.out.ext HX6.out)
      clear hs6 hx6 p0 p1 p2 f0 f1 t0 t1 t2 y0 y1 p5 p6 p7 g0 g1 g2 k0 k1
      obtain ⟨p0, p1, p2⟩ := HD0.out.read2
      obtain ⟨f0, f1⟩ := HD0.out.free2
      go_wp2_with fail
      go_roundw
      case rel =>
        exact ⟨j + 1, S6, d6, c2, r2, by go_num, by go_num, rfl, HJ2.out, (HXR.out.trans HX6.out).store2 (Nat.le_refl _) _ _, (HXS.out.ext HX6.out).trans (hx_store HD0.out S6 n d6).2, HD0.out.set2 _ _, (HD1.out.set_other (p := ⟨w.heap.size, 0, none⟩) (by simp) _).set_other (p := ⟨w.heap.size, 1, none⟩) (by simp) _, HS6.out.boxed2 HD0.out _ _⟩
      case measure => have := HLT.out; simp [intOf]; omega
    · subst h0
      subst hc
      subst hr
      subst hF
      clear HST HJ HJ0
      go_wp2_with (go_at_call 6; refine stop_here ?_)
      refine stop_on ?_
      refine (HDE.out _ HY.out).mono ?_
      rintro e w6 ⟨S6, d6, rfl, hs6, hx6⟩
      have HX6 := Lib.hid (HY.out.trans hx6)
      have HS6 := Lib.hid hs6
      have HD0 := Lib.hid (HC0.out.ext HX6.out)
      have HD1 := Lib.hid (HC1.out.ext HX6.out)
      clear hs6 hx6 p0 p1 p2 f0 f1 t0 t1 t2 y0 y1 p5 p6 p7 g0 g1 g2 k0 k1
      obtain ⟨p0, p1, p2⟩ := HD0.out.read2
      obtain ⟨f0, f1⟩ := HD0.out.free2
      obtain ⟨t0, t1, t2⟩ := HD1.out.read2
      obtain ⟨y0, y1⟩ := HD1.out.free2
      go_wp2_with fail
      refine ret2_cell (k := w.heap.size + 1) (x := .slice S6 n d6) (y := .int .i64 keep) (v := .tuple #[.agg #[.slice S6 n d6, .int .i64 keep], .int .i64 r2, .int .i64 j, .int .i64 3]) ?hb4 (fun r0 r1 => by simp [results, Tryz.results12, go_sem, r0, r1]) rfl ?hx4
      case hb4 => exact ((HD1.out.set_other (p := ⟨w.heap.size, 0, none⟩) (by simp) _).set_other (p := ⟨w.heap.size, 1, none⟩) (by simp) _).set2 _ _
      case hx4 =>
        have HQ1 := (HD1.out.set_other (p := ⟨w.heap.size, 0, none⟩) (by simp) (.slice S6 n d6)).set_other (p := ⟨w.heap.size, 1, none⟩) (by simp) (.int .i64 keep)
        exact ⟨S6, d6, rfl, (HS6.out.boxed2 HD0.out _ _).boxed2 HQ1 _ _, ((HXR.out.trans HX6.out).store2 (Nat.le_refl _) _ _).store2 (by omega) _ _⟩
end Go.Proofs.YtbfbpddfcakieaaGreat
namespace Go.Proofs.YtbfbpddfcakieaaGreat
open Go.RowKit

theorem put_leaf {c : List HC} {keep root : Int} {x : It} {deep : Bool} {xs : List It} {rows : List (List It)} (h1 : okIt x) (h2 : ¬ (highT c root = 20 ∨ fitsH ⟨c, keep⟩ (2 * highT c root + 1) deep = false)) (h0 : ¬ root < 0) (hl : (cellT c root).leaf = true)
    (hxs : withS (cellT c root).it (atI true (cellT c root).it x.1).toNat (if atB (cellT c root).it x.1 then 1 else 0) [x] = xs) (hsp : splitS xs = rows) :
    putR ⟨c, keep⟩ root x deep = (looseL (c.length + 1) (topS (layS true [] rows c).1 (layS true [] rows c).2).1 root, (topS (layS true [] rows c).1 (layS true [] rows c).2).2, 0) := by
  have ha : anewS 20 c root x = layS true [] rows c := by
    show anewS (19 + 1) c root x = _
    rw [anewS, if_pos hl, hxs, hsp]
  unfold putR
  rw [if_pos h1]
  simp only
  rw [if_neg h2]
  unfold putG aboveS
  rw [if_neg h0, if_neg h0, ha]
def exN (n : Nat) : List HC := List.replicate n HC.none
def exW : HC := ⟨0, true, false, []⟩
def exL (it : List It) : HC := ⟨1, false, true, it⟩
def ex1 : List HC := exL [(1, 1)] :: exN 19
def ex2 : List HC := exW :: exL [(1, 1), (2, 2)] :: exN 18
def ex3 : List HC := exW :: exW :: exL [(1, 1), (2, 2), (3, 3)] :: exN 17
def ex4 : List HC := exW :: exW :: exW :: exL [(1, 1), (2, 2), (3, 3), (4, 4)] :: exN 16
def ex5 : List HC := exW :: exW :: exW :: exW :: exL [(1, 1), (2, 2), (3, 3)] :: exL [(4, 4), (5, 5)] :: ⟨1, false, false, [(1, 4), (4, 5)]⟩ :: exN 13
set_option maxRecDepth 100000 in
theorem exP1 : putR ⟨exN 20, 0⟩ (-1) (1, 1) false = (ex1, 0, 0) := by rfl
set_option maxRecDepth 100000 in
theorem exP2 : putR ⟨ex1, 0⟩ 0 (2, 2) false = (ex2, 1, 0) := by
  rw [put_leaf (xs := [(1, 1), (2, 2)]) (rows := [[(1, 1), (2, 2)]]) (by decide) (by decide) (by decide) rfl rfl (splitS_few (by simp) (by simp))]
  rfl
set_option maxRecDepth 100000 in
theorem exP3 : putR ⟨ex2, 0⟩ 1 (3, 3) false = (ex3, 2, 0) := by
  rw [put_leaf (xs := [(1, 1), (2, 2), (3, 3)]) (rows := [[(1, 1), (2, 2), (3, 3)]]) (by decide) (by decide) (by decide) rfl rfl (splitS_few (by simp) (by simp))]
  rfl
set_option maxRecDepth 100000 in
theorem exP4 : putR ⟨ex3, 0⟩ 2 (4, 4) false = (ex4, 3, 0) := by
  rw [put_leaf (xs := [(1, 1), (2, 2), (3, 3), (4, 4)]) (rows := [[(1, 1), (2, 2), (3, 3), (4, 4)]]) (by decide) (by decide) (by decide) rfl rfl (splitS_few (by simp) (by simp))]
  rfl
set_option maxRecDepth 100000 in
theorem exP5 : putR ⟨ex4, 0⟩ 3 (5, 5) false = (ex5, 6, 0) := by
  rw [put_leaf (xs := [(1, 1), (2, 2), (3, 3), (4, 4), (5, 5)]) (rows := [[(1, 1), (2, 2), (3, 3)], [(4, 4), (5, 5)]]) (by decide) (by decide) (by decide) rfl rfl (by rw [splitS_more (by simp), splitS_few (by simp) (by simp)]; rfl)]
  rfl
theorem ex_fill : fillR 0 [(1, 1), (2, 2), (3, 3), (4, 4), (5, 5)] (exN 20) (-1) = (ex5, 6, 0) := by
  rw [fillR, exP1, if_pos rfl]
  rw [fillR, exP2, if_pos rfl]
  rw [fillR, exP3, if_pos rfl]
  rw [fillR, exP4, if_pos rfl]
  rw [fillR, exP5, if_pos rfl]
  rfl
theorem ex_arg : putR ⟨exN 20, 0⟩ (-1) (-1, 0) true = (exN 20, -1, 1) := by unfold putR; rw [if_neg (by decide)]
set_option maxRecDepth 100000 in
theorem ex_one : putR ⟨exN 20, 0⟩ (-1) (7, 8) false = (exL [(7, 8)] :: exN 19, 0, 0) := by rfl
set_option maxRecDepth 100000 in
theorem ex_list : listT ex5 6 = [(1, 1), (2, 2), (3, 3), (4, 4), (5, 5)] := by rfl
theorem ex_len : ex5.length = 20 := by rfl
end Go.Proofs.YtbfbpddfcakieaaGreat
namespace Go.Proofs.YtbfbpddfcakieaaGreat
open Go.RowKit

def pf1 : List HC := exL [(1, 0)] :: exN 29
def pf2 : List HC := exW :: exL [(1, 0), (2, 0)] :: exN 28
def pf3 : List HC := exW :: exW :: exL [(1, 0), (2, 0), (3, 0)] :: exN 27
def pf4 : List HC := exW :: exW :: exW :: exL [(1, 0), (2, 0), (3, 0), (4, 0)] :: exN 26
def pf5 : List HC := exW :: exW :: exW :: exW :: exL [(1, 0), (2, 0), (3, 0)] :: exL [(4, 0), (5, 0)] :: ⟨1, false, false, [(1, 4), (4, 5)]⟩ :: exN 23
def pfA : List HC := exW :: exW :: exW :: exW :: exL [(1, 0), (2, 0), (3, 0)] :: exW :: exW :: exL [(5, 0)] :: ⟨1, false, false, [(1, 4), (5, 7)]⟩ :: exN 21
def pfB : List HC := exW :: exW :: exW :: exW :: exL [(1, 0), (2, 0), (3, 0)] :: exW :: exW :: exW :: exW :: exW :: exN 20
def pfC : List HC := exW :: exW :: exW :: exW :: exW :: exL [(4, 0), (5, 0)] :: exW :: exL [(1, 0), (3, 0)] :: ⟨1, false, false, [(1, 7), (4, 5)]⟩ :: exN 21
set_option maxRecDepth 100000 in
theorem pfP1 : putR ⟨exN 30, 0⟩ (-1) (1, 0) false = (pf1, 0, 0) := by rfl
set_option maxRecDepth 100000 in
theorem pfP2 : putR ⟨pf1, 0⟩ 0 (2, 0) false = (pf2, 1, 0) := by
  rw [put_leaf (xs := [(1, 0), (2, 0)]) (rows := [[(1, 0), (2, 0)]]) (by decide) (by decide) (by decide) rfl rfl (splitS_few (by simp) (by simp))]
  rfl
set_option maxRecDepth 100000 in
theorem pfP3 : putR ⟨pf2, 0⟩ 1 (3, 0) false = (pf3, 2, 0) := by
  rw [put_leaf (xs := [(1, 0), (2, 0), (3, 0)]) (rows := [[(1, 0), (2, 0), (3, 0)]]) (by decide) (by decide) (by decide) rfl rfl (splitS_few (by simp) (by simp))]
  rfl
set_option maxRecDepth 100000 in
theorem pfP4 : putR ⟨pf3, 0⟩ 2 (4, 0) false = (pf4, 3, 0) := by
  rw [put_leaf (xs := [(1, 0), (2, 0), (3, 0), (4, 0)]) (rows := [[(1, 0), (2, 0), (3, 0), (4, 0)]]) (by decide) (by decide) (by decide) rfl rfl (splitS_few (by simp) (by simp))]
  rfl
set_option maxRecDepth 100000 in
theorem pfP5 : putR ⟨pf4, 0⟩ 3 (5, 0) false = (pf5, 6, 0) := by
  rw [put_leaf (xs := [(1, 0), (2, 0), (3, 0), (4, 0), (5, 0)]) (rows := [[(1, 0), (2, 0), (3, 0)], [(4, 0), (5, 0)]]) (by decide) (by decide) (by decide) rfl rfl (by rw [splitS_more (by simp), splitS_few (by simp) (by simp)]; rfl)]
  rfl
theorem pf_fill : fillR 0 [(1, 0), (2, 0), (3, 0), (4, 0), (5, 0)] (exN 30) (-1) = (pf5, 6, 0) := by
  rw [fillR, pfP1, if_pos rfl]
  rw [fillR, pfP2, if_pos rfl]
  rw [fillR, pfP3, if_pos rfl]
  rw [fillR, pfP4, if_pos rfl]
  rw [fillR, pfP5, if_pos rfl]
  rfl
set_option maxRecDepth 100000 in
theorem pf_out4 : delR ⟨pf5, 0⟩ 6 4 = (pfA, 8, 0) := by rfl
set_option maxRecDepth 100000 in
theorem pf_out5 : delR ⟨pfA, 0⟩ 8 5 = (pfB, 4, 0) := by rfl
set_option maxRecDepth 100000 in
theorem pf_scan4 : scanT pf5 6 4 9 = [(4, 0), (5, 0)] := by rfl
set_option maxRecDepth 100000 in
theorem pf_scan5 : scanT pfA 8 4 9 = [(5, 0)] := by rfl
set_option maxRecDepth 100000 in
theorem pf_scan6 : scanT pfB 4 4 9 = [] := by rfl
theorem pf_cut : cutS 0 4 9 5 pf5 6 = (pfB, 4, 2, 0) := by
  rw [cutS, pf_scan4]
  simp only
  rw [pf_out4, if_pos rfl]
  simp only
  rw [cutS, pf_scan5]
  simp only
  rw [pf_out5, if_pos rfl]
  simp only
  rw [cutS, pf_scan6]
set_option maxRecDepth 100000 in
theorem pf_none : delR ⟨pf5, 0⟩ 6 6 = (pf5, 6, 4) := by rfl
set_option maxRecDepth 100000 in
theorem pf_two : delR ⟨pf5, 0⟩ 6 2 = (pfC, 8, 0) := by rfl
set_option maxRecDepth 100000 in
theorem pf_low : lowS 20 pfB 4 = (pfB, 4) := by rfl
set_option maxRecDepth 100000 in
theorem pf_listB : listT pfB 4 = [(1, 0), (2, 0), (3, 0)] := by rfl
set_option maxRecDepth 100000 in
theorem pf_listC : (listT pfC 8).length = 4 := by rfl
end Go.Proofs.YtbfbpddfcakieaaGreat
namespace Go.Proofs.YtbfbpddfcakieaaGreat
open Go.RowKit

set_option maxHeartbeats 400000 in
theorem ref08Given_nil (p : Int) (w : World) : Calls Tryz.prog 88 #[.slice none 0 0, .int .i64 p] w fun e w' => e = .returned (.int .i64 0) ∧ w = w' := by
  go_enter Tryz.func88, Tryz.ntmps88
  go_wp2
  go_loopw [5, 6] (fun m v wr => m = .int .i64 0 ∧ v = .int .i64 0 ∧ wr = w) (fun _ _ _ => 0)
  case atStart => exact ⟨rfl, rfl, rfl⟩
  case round =>
    obtain ⟨rfl, rfl, rfl⟩ := hrel
    go_wp2
    go_ret
    exact ⟨rfl, rfl⟩
set_option maxHeartbeats 400000 in
theorem ref06Right_nil (n : Int) (w : World) : Calls Tryz.prog 85 #[.slice none 0 0, .int .i64 n] w fun e w' => e = .returned (.bool true) ∧ w = w' := by
  go_enter Tryz.func85, Tryz.ntmps85
  go_wp2
  go_loopw [5] (fun v wr => v = .int .i64 0 ∧ wr = w) (fun _ _ => 0)
  case atStart => exact ⟨rfl, rfl⟩
  case round =>
    obtain ⟨rfl, rfl⟩ := hrel
    go_wp2
    go_ret
    exact ⟨rfl, rfl⟩
def outR (root p : Int) : Int := if root = p then 1 else 0
set_option maxHeartbeats 800000 in
theorem ref08outside_one (A : Option Addr) (c : Nat) (root p : Int) (w : World) (hA : Sl w A 1 c ([root].map iv)) : Calls Tryz.prog 89 #[.slice A 1 c, .slice none 0 0, .int .i64 p] w fun e w' => e = .returned (.int .i64 (outR root p)) ∧ w = w' := by
  obtain ⟨b, off, rfl, _, hc⟩ := Cells.num hA.cells (k := 0) (by simp)
  have h0 := hc 0 (by simp)
  simp only [List.getElem_cons_zero, Nat.add_zero] at h0
  clear hc hA
  go_enter Tryz.func89, Tryz.ntmps89
  go_wp2
  go_loopw [7, 8] (fun m v wr => wr = w ∧ ((v = .int .i64 0 ∧ m = .int .i64 0) ∨ (v = .int .i64 1 ∧ m = .int .i64 (outR root p)))) (fun _ v _ => (1 - intOf v).toNat)
  case atStart => exact ⟨rfl, .inl ⟨rfl, rfl⟩⟩
  case round =>
    obtain ⟨rfl, (⟨rfl, rfl⟩ | ⟨rfl, rfl⟩)⟩ := hrel
    · by_cases h : root = p
      · have t0 : (root == p) = true := by rw [beq_iff_eq]; exact h
        have HO := Lib.hid (show outR root p = 1 from by unfold outR; rw [if_pos h])
        clear h
        go_wp2
        go_roundw
        case rel => exact ⟨trivial, .inr ⟨by go_num, by rw [HO.out]⟩⟩
        case measure => simp [intOf]
      · have t0 : (root == p) = false := by rw [beq_eq_false_iff_ne]; exact h
        have HO := Lib.hid (show outR root p = 0 from by unfold outR; rw [if_neg h])
        clear h
        go_wp2
        go_roundw
        case rel => exact ⟨trivial, .inr ⟨by go_num, by rw [HO.out]⟩⟩
        case measure => simp [intOf]
    · go_wp2
      go_loopw [7, 9] (fun m v wx => m = .int .i64 (outR root p) ∧ v = .int .i64 0 ∧ wx = wr) (fun _ _ _ => 0)
      case atStart => exact ⟨rfl, rfl, rfl⟩
      case round =>
        obtain ⟨rfl, rfl, rfl⟩ := hrel
        go_wp2
        go_ret
        exact ⟨rfl, rfl⟩
end Go.Proofs.YtbfbpddfcakieaaGreat
