/- The contract of Low of package prune. -/
import Derived.Test.YtbfbpddfcakieaaGreatK27
import Derived.Test.YtbfbpddfcakieaaGreatK28
import Derived.Test.YtbfbpddfcakieaaGreatK30
import Derived.Test.YtbfbpddfcakieaaGreatK13
import Derived.Test.YtbfbpddfcakieaaGreatK17
import Derived.WalkMore
import Derived.ScopeJumps
namespace Go.Proofs.YtbfbpddfcakieaaGreat
open Go.RowKit
attribute [local go_sem ↓] Go.wp_at_zero Go.wp_at_succ

theorem pruneHigh_any (R : Option Addr) (l : List HC) (n q : Nat) (keep keep' p : Int) (w : World) (hl : AllR l) (hn : l.length ≤ 2000) (hr : rightR ⟨l, keep'⟩ p = true) (hA : HcSl w R n q l) :
    Calls Tryz.prog 22 #[.agg #[.slice R n q, .int .i64 keep], .int .i64 p] w fun e w' => e = .returned (.int .i64 (highT l p)) ∧ Ext w w' := by
  rw [← hgtP_right hl hn hr]
  exact callsIn_wide.1 (high_in R l n q keep p w hl hA)
/-- A tree that is gone down from, on the way. -/
structure LowJ (keep : Int) (c0 : List HC) (p0 : Int) (m0 : Nat) (c : List HC) (k m H : Nat) : Prop where
  right : rightH ⟨c, keep⟩ = true
  refs : ∀ j (hj : j < c.length), c[j].ref ≤ 1990000000 - (m : Int)
  small : m ≤ 1000
  lt : k < c.length
  is_ : (bel c 20 (k : Int)).is = true
  high : (bel c 20 (k : Int)).high = (H : Int)
  le : H ≤ m
  same : lowS m c (k : Int) = lowS m0 c0 p0
  len : c.length = c0.length
theorem LowJ.row {keep : Int} {c0 : List HC} {p0 : Int} {m0 : Nat} {c : List HC} {k m H : Nat} (J : LowJ keep c0 p0 m0 c k m H) : RowOK c (c[k]'J.lt).leaf (H : Int) (c[k]'J.lt).it ((bel c 20 (k : Int)).hi + 1) ∧ NdR (c[k]'J.lt).it := by
  obtain ⟨R, -, -, h⟩ := row_of_bel (e := (bel c 20 (k : Int)).hi + 1) J.right J.lt J.is_ (by omega)
  rw [J.high] at R
  exact ⟨R, h⟩
theorem LowJ.one {keep : Int} {c0 : List HC} {p0 : Int} {m0 : Nat} {c : List HC} {k m H : Nat} (J : LowJ keep c0 p0 m0 c k m H) : 1 ≤ H := by
  have := bel_pos c (allR_of J.right) 20 (k : Int) (by omega) (by have := J.lt; omega) J.is_
  have := J.high
  omega
theorem LowJ.stop {keep : Int} {c0 : List HC} {p0 : Int} {m0 : Nat} {c : List HC} {k m H : Nat} (J : LowJ keep c0 p0 m0 c k m H) (h : H < 2 ∨ (c[k]'J.lt).it.length ≠ 1) : lowS m0 c0 p0 = (c, (k : Int)) := by
  rw [← J.same]
  have h1 := J.one
  have h2 := J.le
  obtain ⟨m', rfl⟩ : ∃ m', m = m' + 1 := ⟨m - 1, by omega⟩
  rw [lowS, if_neg (by omega), cellT_at J.lt, if_pos]
  rcases h with h | h
  · left
    cases hlf : (c[k]'J.lt).leaf
    · have R := J.row.1
      rw [hlf] at R
      have := (R.inn rfl).1.1
      omega
    · rfl
  · exact .inr h
theorem LowJ.step {keep : Int} {c0 : List HC} {p0 : Int} {m0 : Nat} {c : List HC} {k m H : Nat} (J : LowJ keep c0 p0 m0 c k m H) (h : 2 ≤ H) (h1 : (c[k]'J.lt).it.length = 1) :
    ∃ wn : Nat, ((c[k]'J.lt).it.getD 0 (0, 0)).2 = (wn : Int) ∧ rightH ⟨holdL c (wn : Int), keep⟩ = true ∧ Bd c ∧ Bd (holdL c (wn : Int)) ∧ (holdL c (wn : Int)).length = c.length ∧ LowJ keep c0 p0 m0 (looseL (c.length + 1) (holdL c (wn : Int)) (k : Int)) wn (m - 1) (H - 1) := by
  have R := J.row.1
  have hlf : (c[k]'J.lt).leaf = false := by
    cases hlf : (c[k]'J.lt).leaf
    · rfl
    · rw [hlf] at R
      have := (R.lf rfl).1
      omega
  have hs := J.refs
  have hm := J.le
  obtain ⟨wn, hw, e1, r1, r2, l1, l2, b1, b2, hbel⟩ := low_off J.lt J.right (fun k hk => by have := hs k hk; omega) hlf h1
  rw [hold_c] at r1 r2 l1 l2 b1 b2 hbel
  obtain ⟨i1, i2⟩ := hbel J.is_
  refine ⟨wn, e1, r1, fun j hj => by have := hs j hj; omega, fun j hj => by have := b1 j hj; omega, l1, r2, fun j hj => ?_, by have := J.small; omega, by rw [l2]; exact hw, i1, by have := J.high; omega, by omega, ?_, l2.trans J.len⟩
  · have := b2 (1990000000 - (m : Int)) (by have := J.small; omega) hs j hj
    omega
  · rw [← J.same]
    obtain ⟨m', rfl⟩ : ∃ m', m = m' + 1 := ⟨m - 1, by omega⟩
    conv => rhs; rw [lowS, if_neg (by omega), cellT_at J.lt, if_neg (by rw [hlf, h1]; simp), e1]
    rfl

set_option maxRecDepth 100000 in
set_option maxHeartbeats 3200000 in
theorem pruneLow_right (m : Nat) (c : List HC) (k : Nat) (R : Option Addr) (n q : Nat) (keep : Int) (w : World) (hJ : ∃ H, LowJ keep c (k : Int) m c k m H) (hA : HcSl w R n q c) :
    Calls Tryz.prog 8 #[.agg #[.slice R n q, .int .i64 keep], .int .i64 k] w fun e w' => ∃ S d, e = .returned (.tuple #[.agg #[.slice S n d, .int .i64 keep], .int .i64 (lowS m c (k : Int)).2]) ∧ HcSl w' S n d (lowS m c (k : Int)).1 ∧ Ext w w' := by
  obtain ⟨H, J⟩ := hJ
  have hn2 := (rightH_iff J.right).1.1.2
  have hn := hA.1
  obtain ⟨W, hW⟩ : ∃ W, W = (w.alloc (.cells #[.slice R n q, .int .i64 keep] 24)).alloc (.cells #[.slice none 0 0, .int .i64 0] 24) := ⟨_, rfl⟩
  obtain ⟨hx, hb0, hb2⟩ := allocs2 hW.symm
  have HX := Lib.hid hx
  have HB0 := Lib.hid hb0
  have HB2 := Lib.hid hb2
  have HAW := Lib.hid (hA.ext hx)
  have HJ := Lib.hid J
  have hhi : highT c (k : Int) = (H : Int) := by unfold highT; rw [if_neg (by omega)]; exact J.high
  have HHI := Lib.hid (fun w' (hx : Ext w w') => show Calls Tryz.prog 22 #[.agg #[.slice R n q, .int .i64 keep], .int .i64 k] w' fun e w2 => e = .returned (.int .i64 H) ∧ Ext w' w2 from by
    have h := pruneHigh_any R c n q keep keep (k : Int) w' (allR_of J.right) hn2 (rightR_of (by omega) (by have := J.lt; omega) J.is_) (hA.ext hx)
    rw [hhi] at h
    exact h)
  have HN := Lib.hid hn
  obtain ⟨F, hF⟩ : ∃ F, lowS m c (k : Int) = F := ⟨_, rfl⟩
  rw [hF]
  have HF := Lib.hid hF
  obtain ⟨p0, p1, p2⟩ := hb0.read2
  clear hx hb0 hb2 hA hn hn2 hhi J hF
  subst hW
  go_enter Tryz.func8, Tryz.ntmps8
  go_wp2
  refine wp_scope_jumps 0 (fun a' wr => ∃ (cr : List HC) (kr mr Hr : Nat) (S : Option Addr) (d : Nat) (u7 u8 u9 u10 u11 u12 u13 u14 u15 u16 u17 u18 u19 u20 u21 u22 u23 u24 u25 u26 u27 u28 u29 u30 u31 u32 u33 u34 u35 u36 u37 u38 u39 u40 u41 u42 u43 u44 u45 u46 u47 u48 u49 u50 : Value), a' = { tmps := #[.agg #[.slice R n q, .int .i64 keep], .int .i64 kr, .pointer (some ⟨w.heap.size, 0, none⟩), undef, .pointer (some ⟨w.heap.size + 1, 0, none⟩), .int .i64 0, .int .i64 Hr, u7, u8, u9, u10, u11, u12, u13, u14, u15, u16, u17, u18, u19, u20, u21, u22, u23, u24, u25, u26, u27, u28, u29, u30, u31, u32, u33, u34, u35, u36, u37, u38, u39, u40, u41, u42, u43, u44, u45, u46, u47, u48, u49, u50], defers := [] } ∧ LowJ keep c (k : Int) m cr kr mr Hr ∧ Bx wr w.heap.size #[.slice S n d, .int .i64 keep] ∧ HcSl wr S n d cr ∧ Bx wr (w.heap.size + 1) #[.slice none 0 0, .int .i64 0] ∧ Ext w wr) (fun a' _ => (intOf (a'.tmps.getD 6 undef)).toNat) rfl ?_ ?_
  · go_wp2_with (go_at_call 22; refine stop_here ?_)
    refine stop_on ?_
    generalize hW : World.alloc (World.alloc w _) _ = W at *
    clear hW
    refine (HHI.out _ HX.out).mono ?_
    rintro e wr ⟨rfl, hx1⟩
    have HXR := Lib.hid (HX.out.trans hx1)
    have HBX := Lib.hid (HB0.out.ext hx1)
    have HT := Lib.hid (HB2.out.ext hx1)
    have HCS := Lib.hid (HAW.out.ext hx1)
    have HJR := HJ
    clear hx1 p0 p1 p2
    go_wp2
    go_step3
    obtain ⟨p0, p1, p2⟩ := HBX.out.read2
    obtain ⟨p3, p4⟩ := HBX.out.free2
    obtain ⟨t0, t1, t2⟩ := HT.out.read2
    obtain ⟨t3, t4⟩ := HT.out.free2
    rcases Nat.lt_or_ge H 2 with hH | hH
    · have d0 : decide ((H : Int) < 2) = true := decide_eq_true (by omega)
      have hst := HJR.out.stop (.inl hH)
      rw [HF.out] at hst
      subst hst
      clear HF
      go_wp2_with fail
      simp only [Exit.jump]
      refine ret2_cell (k := w.heap.size + 1) (x := .slice R n q) (y := .int .i64 keep) (v := .tuple #[.agg #[.slice R n q, .int .i64 keep], .int .i64 k]) ?hb4 (fun r0 r1 => by simp [results, Tryz.results8, go_sem, r0, r1]) rfl ?hx4
      case hb4 => exact HT.out.set2 _ _
      case hx4 => exact ⟨R, q, rfl, HCS.out.boxed2 HT.out _ _, HXR.out.store2 (by omega) _ _⟩
    have d0 : decide ((H : Int) < 2) = false := decide_eq_false (by omega)
    have hlt := HJR.out.lt
    obtain ⟨b, off, rfl, hbl, A, ca, -, -, -, r3, hI⟩ := HCS.out.cell hlt
    have hnd := HJR.out.row.2.1
    have hki : (k : Int) < (n : Int) := by have := HCS.out.1; omega
    have hkn : k < n := by have := HCS.out.1; omega
    by_cases h1 : c[k].it.length = 1
    rotate_left
    · have hst := HJR.out.stop (.inr h1)
      rw [HF.out] at hst
      subst hst
      clear HF
      have hnd1 := hnd.1
      generalize c[k].it.length = li at *
      have d1 : decide ((1 : Int) < (li : Int)) = true := decide_eq_true (by omega)
      have d2 : decide (1 < li) = true := decide_eq_true (by omega)
      clear hnd hnd1 hI h1 HJR hlt
      go_wp2_with fail
      simp only [Exit.jump]
      refine ret2_cell (k := w.heap.size + 1) (x := .slice (some ⟨b, off, none⟩) n q) (y := .int .i64 keep) (v := .tuple #[.agg #[.slice (some ⟨b, off, none⟩) n q, .int .i64 keep], .int .i64 k]) ?hb4 (fun r0 r1 => by simp [results, Tryz.results8, go_sem, r0, r1]) rfl ?hx4
      case hb4 => exact HT.out.set2 _ _
      case hx4 => exact ⟨_, q, rfl, HCS.out.boxed2 HT.out _ _, HXR.out.store2 (by omega) _ _⟩
    obtain ⟨wn, e1, g1, g2, g3, g4, J2⟩ := HJR.out.step hH h1
    have HJ2 := Lib.hid J2
    obtain ⟨bi, oi, rfl, hbi, -, kv⟩ := it_at hI (by omega : 0 < c[k].it.length)
    rw [show c[k].it[0].2 = (wn : Int) from by rw [← e1, List.getD_eq_getElem?_getD, List.getElem?_eq_getElem (by omega)]; rfl] at kv
    simp only [Nat.zero_mul, Nat.add_zero] at kv
    have HHO := Lib.hid (fun w' (hx : Ext wr w') => heapHold_any (some ⟨b, off, none⟩) c n q keep w' (wn : Int) HJR.out.right g2 (HCS.out.ext hx))
    rw [hold_c] at HHO
    have HLO := Lib.hid (fun w' S d (hS : HcSl w' S n d (holdL c (wn : Int))) => heapLoose_is S _ n d keep (k : Int) w' g1 g3 hS)
    rw [g4] at HLO
    rw [h1] at r3
    have d1 : decide ((1 : Int) < ((1 : Nat) : Int)) = false := decide_eq_false (by omega)
    have hwr : IntKind.i64.wrap ((H : Int) - 1) = ((H - 1 : Nat) : Int) := by have := HJR.out.le; have := HJR.out.small; rw [IntKind.wrap_i64]; omega
    clear e1 g1 g2 g3 g4 J2 hnd hI h1 hlt
    go_wp2_with (go_at_call 30; refine stop_here ?_)
    refine stop_on ?_
    refine (HHO.out _ (Ext.refl _)).mono ?_
    rintro e w1 ⟨S1, d1', rfl, hs1, hx1⟩
    have HBX1 := Lib.hid (HBX.out.ext hx1)
    have HX1 := Lib.hid ((HXR.out.trans hx1).store2 (k := w.heap.size) (Nat.le_refl _) (.slice S1 n d1') (.int .i64 keep))
    have HBY := Lib.hid (HBX1.out.set2 (.slice S1 n d1') (.int .i64 keep))
    have HTY := Lib.hid ((((HT.out.ext hx1).set_other (p := ⟨w.heap.size, 0, none⟩) (show w.heap.size ≠ w.heap.size + 1 by omega) (.slice S1 n d1')).set_other (p := ⟨w.heap.size, 1, none⟩) (show w.heap.size ≠ w.heap.size + 1 by omega) (.int .i64 keep)))
    have HS1 := Lib.hid (hs1.boxed2 HBX1.out (.slice S1 n d1') (.int .i64 keep))
    clear hx1 hs1 p0 p1 p2 p3 p4 t0 t1 t2 t3 t4 r3 kv hbl hbi
    obtain ⟨p0, p1, p2⟩ := HBX1.out.read2
    obtain ⟨p3, p4⟩ := HBX1.out.free2
    go_wp2_with (go_at_call 24; refine stop_here ?_)
    refine stop_on ?_
    generalize hWs : World.setCell (World.setCell w1 _ _) _ _ = Ws at *
    clear hWs
    refine (HLO.out _ _ _ HS1.out).mono ?_
    rintro e w2 ⟨S2, d2', rfl, hs2, hx2⟩
    have HBX2 := Lib.hid (HBY.out.ext hx2)
    have HX2 := Lib.hid ((HX1.out.trans hx2).store2 (k := w.heap.size) (Nat.le_refl _) (.slice S2 n d2') (.int .i64 keep))
    have HBZ := Lib.hid (HBX2.out.set2 (.slice S2 n d2') (.int .i64 keep))
    have HTZ := Lib.hid ((((HTY.out.ext hx2).set_other (p := ⟨w.heap.size, 0, none⟩) (show w.heap.size ≠ w.heap.size + 1 by omega) (.slice S2 n d2')).set_other (p := ⟨w.heap.size, 1, none⟩) (show w.heap.size ≠ w.heap.size + 1 by omega) (.int .i64 keep)))
    have HS2 := Lib.hid (hs2.boxed2 HBX2.out (.slice S2 n d2') (.int .i64 keep))
    clear hx2 hs2 p0 p1 p2 p3 p4
    obtain ⟨p0, p1, p2⟩ := HBX2.out.read2
    obtain ⟨p3, p4⟩ := HBX2.out.free2
    go_wp2
    go_step3
    exact ⟨rfl, _, wn, _, _, S2, d2', _, _, _, _, _, _, _, _, _, _, _, _, _, _, _, _, _, _, _, _, _, _, _, _, _, _, _, _, _, _, _, _, _, _, _, _, _, _, _, _, _, _, _, _, rfl, HJ2.out, HBZ.out, HS2.out, HTZ.out, HX2.out⟩
  · rintro a' wr ⟨cr, kr, mr, Hr, S, d, u7, u8, u9, u10, u11, u12, u13, u14, u15, u16, u17, u18, u19, u20, u21, u22, u23, u24, u25, u26, u27, u28, u29, u30, u31, u32, u33, u34, u35, u36, u37, u38, u39, u40, u41, u42, u43, u44, u45, u46, u47, u48, u49, u50, rfl, hjr, hbx, hcs, ht, hxr⟩
    have HJR := Lib.hid hjr
    have HBX := Lib.hid hbx
    have HCS := Lib.hid hcs
    have HT := Lib.hid ht
    have HXR := Lib.hid hxr
    clear hjr hbx hcs ht hxr p0 p1 p2 HJ HB0 HB2 HAW HHI HX
    obtain ⟨p0, p1, p2⟩ := HBX.out.read2
    obtain ⟨p3, p4⟩ := HBX.out.free2
    obtain ⟨t0, t1, t2⟩ := HT.out.read2
    obtain ⟨t3, t4⟩ := HT.out.free2
    rcases Nat.lt_or_ge Hr 2 with hH | hH
    · have d0 : decide ((Hr : Int) < 2) = true := decide_eq_true (by omega)
      have hst := HJR.out.stop (.inl hH)
      rw [HF.out] at hst
      subst hst
      clear HF
      go_wp2_with fail
      simp only [Exit.jump]
      refine ret2_cell (k := w.heap.size + 1) (x := .slice S n d) (y := .int .i64 keep) (v := .tuple #[.agg #[.slice S n d, .int .i64 keep], .int .i64 kr]) ?hb4 (fun r0 r1 => by simp [results, Tryz.results8, go_sem, r0, r1]) rfl ?hx4
      case hb4 => exact HT.out.set2 _ _
      case hx4 => exact ⟨S, d, rfl, HCS.out.boxed2 HT.out _ _, HXR.out.store2 (by omega) _ _⟩
    have d0 : decide ((Hr : Int) < 2) = false := decide_eq_false (by omega)
    have hlt := HJR.out.lt
    obtain ⟨b, off, hS, hbl, A, ca, -, -, -, r3, hI⟩ := HCS.out.cell hlt
    subst hS
    have hnd := HJR.out.row.2.1
    have hki : (kr : Int) < (n : Int) := by have := HCS.out.1; omega
    have hkn : kr < n := by have := HCS.out.1; omega
    by_cases h1 : cr[kr].it.length = 1
    rotate_left
    · have hst := HJR.out.stop (.inr h1)
      rw [HF.out] at hst
      subst hst
      clear HF
      have hnd1 := hnd.1
      generalize cr[kr].it.length = li at *
      have d1 : decide ((1 : Int) < (li : Int)) = true := decide_eq_true (by omega)
      have d2 : decide (1 < li) = true := decide_eq_true (by omega)
      clear hnd hnd1 hI h1 HJR hlt
      go_wp2_with fail
      simp only [Exit.jump]
      refine ret2_cell (k := w.heap.size + 1) (x := .slice (some ⟨b, off, none⟩) n d) (y := .int .i64 keep) (v := .tuple #[.agg #[.slice (some ⟨b, off, none⟩) n d, .int .i64 keep], .int .i64 kr]) ?hb4 (fun r0 r1 => by simp [results, Tryz.results8, go_sem, r0, r1]) rfl ?hx4
      case hb4 => exact HT.out.set2 _ _
      case hx4 => exact ⟨_, d, rfl, HCS.out.boxed2 HT.out _ _, HXR.out.store2 (by omega) _ _⟩
    obtain ⟨wn, e1, g1, g2, g3, g4, J2⟩ := HJR.out.step hH h1
    have HJ2 := Lib.hid J2
    obtain ⟨bi, oi, rfl, hbi, -, kv⟩ := it_at hI (by omega : 0 < cr[kr].it.length)
    rw [show cr[kr].it[0].2 = (wn : Int) from by rw [← e1, List.getD_eq_getElem?_getD, List.getElem?_eq_getElem (by omega)]; rfl] at kv
    simp only [Nat.zero_mul, Nat.add_zero] at kv
    have HHO := Lib.hid (fun w' (hx : Ext wr w') => heapHold_any (some ⟨b, off, none⟩) cr n d keep w' (wn : Int) HJR.out.right g2 (HCS.out.ext hx))
    rw [hold_c] at HHO
    have HLO := Lib.hid (fun w' S d (hS : HcSl w' S n d (holdL cr (wn : Int))) => heapLoose_is S _ n d keep (kr : Int) w' g1 g3 hS)
    rw [g4] at HLO
    rw [h1] at r3
    have d1 : decide ((1 : Int) < ((1 : Nat) : Int)) = false := decide_eq_false (by omega)
    have hwr : IntKind.i64.wrap ((Hr : Int) - 1) = ((Hr - 1 : Nat) : Int) := by have := HJR.out.le; have := HJR.out.small; rw [IntKind.wrap_i64]; omega
    clear e1 g1 g2 g3 g4 J2 hnd hI h1 hlt
    go_wp2_with (go_at_call 30; refine stop_here ?_)
    refine stop_on ?_
    refine (HHO.out _ (Ext.refl _)).mono ?_
    rintro e w1 ⟨S1, d1', rfl, hs1, hx1⟩
    have HBX1 := Lib.hid (HBX.out.ext hx1)
    have HX1 := Lib.hid ((HXR.out.trans hx1).store2 (k := w.heap.size) (Nat.le_refl _) (.slice S1 n d1') (.int .i64 keep))
    have HBY := Lib.hid (HBX1.out.set2 (.slice S1 n d1') (.int .i64 keep))
    have HTY := Lib.hid ((((HT.out.ext hx1).set_other (p := ⟨w.heap.size, 0, none⟩) (show w.heap.size ≠ w.heap.size + 1 by omega) (.slice S1 n d1')).set_other (p := ⟨w.heap.size, 1, none⟩) (show w.heap.size ≠ w.heap.size + 1 by omega) (.int .i64 keep)))
    have HS1 := Lib.hid (hs1.boxed2 HBX1.out (.slice S1 n d1') (.int .i64 keep))
    clear hx1 hs1 p0 p1 p2 p3 p4 t0 t1 t2 t3 t4 r3 kv hbl hbi
    obtain ⟨p0, p1, p2⟩ := HBX1.out.read2
    obtain ⟨p3, p4⟩ := HBX1.out.free2
    go_wp2_with (go_at_call 24; refine stop_here ?_)
    refine stop_on ?_
    generalize hWs : World.setCell (World.setCell w1 _ _) _ _ = Ws at *
    clear hWs
    refine (HLO.out _ _ _ HS1.out).mono ?_
    rintro e w2 ⟨S2, d2', rfl, hs2, hx2⟩
    have HBX2 := Lib.hid (HBY.out.ext hx2)
    have HX2 := Lib.hid ((HX1.out.trans hx2).store2 (k := w.heap.size) (Nat.le_refl _) (.slice S2 n d2') (.int .i64 keep))
    have HBZ := Lib.hid (HBX2.out.set2 (.slice S2 n d2') (.int .i64 keep))
    have HTZ := Lib.hid ((((HTY.out.ext hx2).set_other (p := ⟨w.heap.size, 0, none⟩) (show w.heap.size ≠ w.heap.size + 1 by omega) (.slice S2 n d2')).set_other (p := ⟨w.heap.size, 1, none⟩) (show w.heap.size ≠ w.heap.size + 1 by omega) (.int .i64 keep)))
    have HS2 := Lib.hid (hs2.boxed2 HBX2.out (.slice S2 n d2') (.int .i64 keep))
    clear hx2 hs2 p0 p1 p2 p3 p4
    obtain ⟨p0, p1, p2⟩ := HBX2.out.read2
    obtain ⟨p3, p4⟩ := HBX2.out.free2
    go_wp2
    go_step3
    exact ⟨rfl, ⟨_, wn, _, _, S2, d2', _, _, _, _, _, _, _, _, _, _, _, _, _, _, _, _, _, _, _, _, _, _, _, _, _, _, _, _, _, _, _, _, _, _, _, _, _, _, _, _, _, _, _, _, rfl, HJ2.out, HBZ.out, HS2.out, HTZ.out, HX2.out⟩, by simp [intOf]; omega⟩
end Go.Proofs.YtbfbpddfcakieaaGreat
