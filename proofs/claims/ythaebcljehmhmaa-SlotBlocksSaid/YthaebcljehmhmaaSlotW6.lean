/- Walks of both Parse. -/
import Derived.Test.YthaebcljehmhmaaSlotW5
namespace Go.Proofs.Ythaebcljehmhmaa
open Go.RowKit

theorem bytes_inj (a b : ByteArray) (h : a.toList = b.toList) : a = b := by
  rw [ByteArray.toList_eq, ByteArray.toList_eq] at h
  obtain ⟨⟨l⟩⟩ := a
  obtain ⟨⟨m⟩⟩ := b
  simp only at h
  rw [h]
theorem bytes_same (a b : ByteArray) : (a.toList == b.toList) = decide (a = b) := by
  by_cases h : a = b
  · subst h; simp
  · rw [decide_eq_false h]
    simp only [beq_eq_false_iff_ne, ne_eq]
    exact fun e => h (bytes_inj a b e)
theorem par_none {b : ByteArray} (h : ¬ (openE b.data.toList = 0 ∧ supR (supAt (openL b.data.toList)) = true ∧ supB (supAt (openL b.data.toList)) = b)) : parX b = sup0 ∧ parE b = 2 := by
  unfold parX parE parS; rw [if_neg h]; exact ⟨rfl, rfl⟩
theorem par_some {b : ByteArray} (h : openE b.data.toList = 0 ∧ supR (supAt (openL b.data.toList)) = true ∧ supB (supAt (openL b.data.toList)) = b) : parX b = supAt (openL b.data.toList) ∧ parE b = 0 := by
  unfold parX parE parS; rw [if_pos h]; exact ⟨rfl, rfl⟩

set_option maxRecDepth 100000 in
set_option maxHeartbeats 4000000 in
theorem slotParse_any (b : ByteArray) (w : World) (hs : b.size ≤ maxLen) :
    Calls Try.prog 11 #[.string b] w fun e w' => e = .returned (.tuple #[Sup.v (parX b), .int .i64 (parE b)]) ∧ Ext w w' := by
  by_cases ho : openE b.data.toList = 0
  · have HO := Lib.hid (fun w' => numOpen_y b w' hs ho)
    have hl := openL_len ho
    have hpn := fun h => par_none (b := b) h
    have hps := fun h => par_some (b := b) h
    generalize hx : supAt (openL b.data.toList) = x at *
    obtain ⟨g, z, s⟩ := x
    have HT := Lib.hid (show ∀ A c w', Sl w' A 36 c ((openL b.data.toList).map bv) → Calls Try.prog 25 #[.slice A 36 c] w' fun e w2 => e = .returned (.agg #[.int .i64 g, .int .i64 z, .int .i64 s]) ∧ Ext w' w2 from fun A c w' h => by
      have h := slotTaken_any A (openL b.data.toList) c w' hl h
      rw [hx] at h; exact h)
    clear hl hx
    rcases Bool.eq_false_or_eq_true (supR ⟨g, z, s⟩) with hr | hr
    rotate_left
    · have ⟨h1, h2⟩ := hpn (fun h => by rw [hr] at h; exact absurd h.2.1 (by simp))
      rw [h1, h2]
      have HP := Lib.hid (fun w' => slotPrint_any g z s w')
      unfold supE at HP
      rw [hr] at HP
      clear h1 h2 hpn hps hr
      go_enter Try.func11, Try.ntmps11
      go_wp2_with (first
        | (go_at_call 24; refine (HO.out _).mono ?_; rintro e w1 ⟨A, c, rfl, hS, hx⟩; have HS1 := Lib.hid hS; have HB1 := Lib.hid ((Bx.new w #[.int .i64 0, .int .i64 0, .int .i64 0] 23).ext hx); have HX1 := Lib.hid (((Ext.refl w).alloc _).trans hx); clear hS hx)
        | (go_at_call 25; refine (HT.out _ _ _ HS1.out).mono ?_; rintro e w2 ⟨rfl, hx⟩; have HB2 := Lib.hid (HB1.out.ext hx); have HX2 := Lib.hid (HX1.out.trans hx); clear hx)
        | (go_at_call 9; refine (HP.out _).mono ?_; rintro e w3 ⟨rfl, hx⟩; have HB3 := Lib.hid (HB2.out.ext (((Ext.refl w2).alloc _).trans hx)); have HS3 := Lib.hid ((Bx.new w2 #[.int .i64 g, .int .i64 z, .int .i64 s] 23).ext hx); have HX3 := Lib.hid (HX2.out.trans (((Ext.refl w2).alloc _).trans hx)); clear hx; obtain ⟨r0, r1, r2⟩ := HB3.out.read3; obtain ⟨f0, f1, f2⟩ := HB3.out.free3; have r3 := HB3.out.lt; obtain ⟨s0, s1, s2⟩ := HS3.out.read3; have s3 := HS3.out.lt))
      have HE := Lib.hid (HB3.out.set3 (.int .i64 0) (.int .i64 0) (.int .i64 0))
      have HXE := Lib.hid (HX3.out.store3 (k := w.heap.size) (by omega) (.int .i64 0) (.int .i64 0) (.int .i64 0))
      clear r0 r1 r2 f0 f1 f2
      obtain ⟨r0, r1, r2⟩ := HE.out.read3
      refine bodyPost_ret (v := .tuple #[.agg #[.int .i64 0, .int .i64 0, .int .i64 0], .int .i64 2]) (by simp [results, Try.results11, go_sem, r0, r1, r2]) rfl ⟨rfl, HXE.out⟩
    by_cases hb : supB ⟨g, z, s⟩ = b
    · have ⟨h1, h2⟩ := hps ⟨ho, hr, hb⟩
      rw [h1, h2]
      have HP := Lib.hid (fun w' => slotPrint_any g z s w')
      unfold supE at HP
      rw [hr, hb] at HP
      clear h1 h2 hpn hps hr hb
      go_enter Try.func11, Try.ntmps11
      go_wp2_with (first
        | (go_at_call 24; refine (HO.out _).mono ?_; rintro e w1 ⟨A, c, rfl, hS, hx⟩; have HS1 := Lib.hid hS; have HB1 := Lib.hid ((Bx.new w #[.int .i64 0, .int .i64 0, .int .i64 0] 23).ext hx); have HX1 := Lib.hid (((Ext.refl w).alloc _).trans hx); clear hS hx)
        | (go_at_call 25; refine (HT.out _ _ _ HS1.out).mono ?_; rintro e w2 ⟨rfl, hx⟩; have HB2 := Lib.hid (HB1.out.ext hx); have HX2 := Lib.hid (HX1.out.trans hx); clear hx)
        | (go_at_call 9; refine (HP.out _).mono ?_; rintro e w3 ⟨rfl, hx⟩; have HB3 := Lib.hid (HB2.out.ext (((Ext.refl w2).alloc _).trans hx)); have HS3 := Lib.hid ((Bx.new w2 #[.int .i64 g, .int .i64 z, .int .i64 s] 23).ext hx); have HX3 := Lib.hid (HX2.out.trans (((Ext.refl w2).alloc _).trans hx)); clear hx; obtain ⟨r0, r1, r2⟩ := HB3.out.read3; obtain ⟨f0, f1, f2⟩ := HB3.out.free3; have r3 := HB3.out.lt; obtain ⟨s0, s1, s2⟩ := HS3.out.read3; have s3 := HS3.out.lt))
      have HE := Lib.hid (HB3.out.set3 (.int .i64 g) (.int .i64 z) (.int .i64 s))
      have HXE := Lib.hid (HX3.out.store3 (k := w.heap.size) (by omega) (.int .i64 g) (.int .i64 z) (.int .i64 s))
      clear r0 r1 r2 f0 f1 f2
      obtain ⟨r0, r1, r2⟩ := HE.out.read3
      refine bodyPost_ret (v := .tuple #[.agg #[.int .i64 g, .int .i64 z, .int .i64 s], .int .i64 0]) (by simp [results, Try.results11, go_sem, r0, r1, r2]) rfl ⟨rfl, HXE.out⟩
    · have ⟨h1, h2⟩ := hpn (fun h => hb h.2.2)
      rw [h1, h2]
      have HP := Lib.hid (fun w' => slotPrint_any g z s w')
      unfold supE at HP
      rw [hr] at HP
      have hy : ((supB ⟨g, z, s⟩).toList == b.toList) = false := by rw [bytes_same, decide_eq_false hb]
      clear h1 h2 hpn hps hr hb
      generalize supB ⟨g, z, s⟩ = y at *
      go_enter Try.func11, Try.ntmps11
      go_wp2_with (first
        | (go_at_call 24; refine (HO.out _).mono ?_; rintro e w1 ⟨A, c, rfl, hS, hx⟩; have HS1 := Lib.hid hS; have HB1 := Lib.hid ((Bx.new w #[.int .i64 0, .int .i64 0, .int .i64 0] 23).ext hx); have HX1 := Lib.hid (((Ext.refl w).alloc _).trans hx); clear hS hx)
        | (go_at_call 25; refine (HT.out _ _ _ HS1.out).mono ?_; rintro e w2 ⟨rfl, hx⟩; have HB2 := Lib.hid (HB1.out.ext hx); have HX2 := Lib.hid (HX1.out.trans hx); clear hx)
        | (go_at_call 9; refine (HP.out _).mono ?_; rintro e w3 ⟨rfl, hx⟩; have HB3 := Lib.hid (HB2.out.ext (((Ext.refl w2).alloc _).trans hx)); have HS3 := Lib.hid ((Bx.new w2 #[.int .i64 g, .int .i64 z, .int .i64 s] 23).ext hx); have HX3 := Lib.hid (HX2.out.trans (((Ext.refl w2).alloc _).trans hx)); clear hx; obtain ⟨r0, r1, r2⟩ := HB3.out.read3; obtain ⟨f0, f1, f2⟩ := HB3.out.free3; have r3 := HB3.out.lt; obtain ⟨s0, s1, s2⟩ := HS3.out.read3; have s3 := HS3.out.lt))
      have HE := Lib.hid (HB3.out.set3 (.int .i64 0) (.int .i64 0) (.int .i64 0))
      have HXE := Lib.hid (HX3.out.store3 (k := w.heap.size) (by omega) (.int .i64 0) (.int .i64 0) (.int .i64 0))
      clear r0 r1 r2 f0 f1 f2
      obtain ⟨r0, r1, r2⟩ := HE.out.read3
      refine bodyPost_ret (v := .tuple #[.agg #[.int .i64 0, .int .i64 0, .int .i64 0], .int .i64 2]) (by simp [results, Try.results11, go_sem, r0, r1, r2]) rfl ⟨rfl, HXE.out⟩
  · have ⟨h1, h2⟩ := par_none (b := b) (fun h => ho h.1)
    rw [h1, h2]
    have HO := Lib.hid (fun w' => numOpen_n b w' hs ho)
    clear h1 h2 ho hs
    go_enter Try.func11, Try.ntmps11
    go_wp2_with (go_at_call 24; refine (HO.out _).mono ?_; rintro e w1 ⟨A, c, rfl, hx⟩; have HB := Lib.hid ((Bx.new w #[.int .i64 0, .int .i64 0, .int .i64 0] 23).ext hx); obtain ⟨r0, r1, r2⟩ := HB.out.read3; obtain ⟨f0, f1, f2⟩ := HB.out.free3; have r3 := HB.out.lt; have HX := Lib.hid (((Ext.refl w).alloc _).trans hx); clear hx)
    have HE := Lib.hid (HB.out.set3 (.int .i64 0) (.int .i64 0) (.int .i64 0))
    have HXE := Lib.hid (HX.out.store3 (k := w.heap.size) (by omega) (.int .i64 0) (.int .i64 0) (.int .i64 0))
    clear r0 r1 r2 f0 f1 f2
    obtain ⟨r0, r1, r2⟩ := HE.out.read3
    refine bodyPost_ret (v := .tuple #[.agg #[.int .i64 0, .int .i64 0, .int .i64 0], .int .i64 2]) (by simp [results, Try.results11, go_sem, r0, r1, r2]) rfl ⟨rfl, HXE.out⟩

set_option maxRecDepth 100000 in
set_option maxHeartbeats 4000000 in
theorem ref03Parse_any (b : ByteArray) (w : World) (hs : b.size ≤ maxLen) :
    Calls Try.prog 12 #[.string b] w fun e w' => e = .returned (.tuple #[Sup.v (parX b), .int .i64 (parE b)]) ∧ Ext w w' := by
  by_cases ho : openE b.data.toList = 0
  · have HO := Lib.hid (fun w' => ref01Open_y b w' hs ho)
    have hl := openL_len ho
    have hpn := fun h => par_none (b := b) h
    have hps := fun h => par_some (b := b) h
    generalize hx : supAt (openL b.data.toList) = x at *
    obtain ⟨g, z, s⟩ := x
    have HT0 := Lib.hid (show ∀ A c w', Sl w' A 36 c ((openL b.data.toList).map bv) → Calls Try.prog 27 #[.slice A 36 c, .int .i64 2, .int .i64 4] w' fun e w2 => e = .returned (.tuple #[.int .i64 g, .int .i64 6, .int .i64 0]) ∧ w' = w2 from fun A c w' h => by
      have h := ref01Take_n A (openL b.data.toList) 36 c 2 2 w' hl.symm rfl (by omega) h
      have e : ((leNat (((openL b.data.toList).drop 2).take 4) : Nat) : Int) = g := congrArg Sup.g hx
      rw [e] at h; exact h)
    have HT1 := Lib.hid (show ∀ A c w', Sl w' A 36 c ((openL b.data.toList).map bv) → Calls Try.prog 27 #[.slice A 36 c, .int .i64 6, .int .i64 4] w' fun e w2 => e = .returned (.tuple #[.int .i64 z, .int .i64 10, .int .i64 0]) ∧ w' = w2 from fun A c w' h => by
      have h := ref01Take_n A (openL b.data.toList) 36 c 6 6 w' hl.symm rfl (by omega) h
      have e : ((leNat (((openL b.data.toList).drop 6).take 4) : Nat) : Int) = z := congrArg Sup.z hx
      rw [e] at h; exact h)
    have HT2 := Lib.hid (show ∀ A c w', Sl w' A 36 c ((openL b.data.toList).map bv) → Calls Try.prog 27 #[.slice A 36 c, .int .i64 10, .int .i64 4] w' fun e w2 => e = .returned (.tuple #[.int .i64 s, .int .i64 14, .int .i64 0]) ∧ w' = w2 from fun A c w' h => by
      have h := ref01Take_n A (openL b.data.toList) 36 c 10 10 w' hl.symm rfl (by omega) h
      have e : ((leNat (((openL b.data.toList).drop 10).take 4) : Nat) : Int) = s := congrArg Sup.s hx
      rw [e] at h; exact h)
    clear hl hx
    rcases Bool.eq_false_or_eq_true (supR ⟨g, z, s⟩) with hr | hr
    rotate_left
    · have ⟨h1, h2⟩ := hpn (fun h => by rw [hr] at h; exact absurd h.2.1 (by simp))
      rw [h1, h2]
      have HP := Lib.hid (fun w' => ref03Print_any g z s w')
      unfold supE at HP
      rw [hr] at HP
      clear h1 h2 hpn hps hr
      go_enter Try.func12, Try.ntmps12
      go_wp2_with (first
        | (go_at_call 26; refine (HO.out _).mono ?_; rintro e w2 ⟨A, c, rfl, hS, hx⟩; have HS1 := Lib.hid hS; have HB2 := Lib.hid ((Bx.new w #[.int .i64 0, .int .i64 0, .int .i64 0] 23).ext hx); have HX2 := Lib.hid (((Ext.refl w).alloc _).trans hx); clear hS hx)
        | (go_at_call 27; (first | (with_reducible refine (HT0.out _ _ _ HS1.out).mono ?_) | (with_reducible refine (HT1.out _ _ _ HS1.out).mono ?_) | (with_reducible refine (HT2.out _ _ _ HS1.out).mono ?_)); rintro e w' ⟨rfl, rfl⟩)
        | (go_at_call 10; refine (HP.out _).mono ?_; rintro e w3 ⟨rfl, hx⟩; have HB3 := Lib.hid (HB2.out.ext (((Ext.refl w2).alloc _).trans hx)); have HS3 := Lib.hid ((Bx.new w2 #[.int .i64 g, .int .i64 z, .int .i64 s] 23).ext hx); have HX3 := Lib.hid (HX2.out.trans (((Ext.refl w2).alloc _).trans hx)); clear hx; obtain ⟨r0, r1, r2⟩ := HB3.out.read3; obtain ⟨f0, f1, f2⟩ := HB3.out.free3; have r3 := HB3.out.lt; obtain ⟨s0, s1, s2⟩ := HS3.out.read3; have s3 := HS3.out.lt))
      have HE := Lib.hid (HB3.out.set3 (.int .i64 0) (.int .i64 0) (.int .i64 0))
      have HXE := Lib.hid (HX3.out.store3 (k := w.heap.size) (by omega) (.int .i64 0) (.int .i64 0) (.int .i64 0))
      clear r0 r1 r2 f0 f1 f2
      obtain ⟨r0, r1, r2⟩ := HE.out.read3
      refine bodyPost_ret (v := .tuple #[.agg #[.int .i64 0, .int .i64 0, .int .i64 0], .int .i64 2]) (by simp [results, Try.results12, go_sem, r0, r1, r2]) rfl ⟨rfl, HXE.out⟩
    by_cases hb : supB ⟨g, z, s⟩ = b
    · have ⟨h1, h2⟩ := hps ⟨ho, hr, hb⟩
      rw [h1, h2]
      have HP := Lib.hid (fun w' => ref03Print_any g z s w')
      unfold supE at HP
      rw [hr, hb] at HP
      clear h1 h2 hpn hps hr hb
      go_enter Try.func12, Try.ntmps12
      go_wp2_with (first
        | (go_at_call 26; refine (HO.out _).mono ?_; rintro e w2 ⟨A, c, rfl, hS, hx⟩; have HS1 := Lib.hid hS; have HB2 := Lib.hid ((Bx.new w #[.int .i64 0, .int .i64 0, .int .i64 0] 23).ext hx); have HX2 := Lib.hid (((Ext.refl w).alloc _).trans hx); clear hS hx)
        | (go_at_call 27; (first | (with_reducible refine (HT0.out _ _ _ HS1.out).mono ?_) | (with_reducible refine (HT1.out _ _ _ HS1.out).mono ?_) | (with_reducible refine (HT2.out _ _ _ HS1.out).mono ?_)); rintro e w' ⟨rfl, rfl⟩)
        | (go_at_call 10; refine (HP.out _).mono ?_; rintro e w3 ⟨rfl, hx⟩; have HB3 := Lib.hid (HB2.out.ext (((Ext.refl w2).alloc _).trans hx)); have HS3 := Lib.hid ((Bx.new w2 #[.int .i64 g, .int .i64 z, .int .i64 s] 23).ext hx); have HX3 := Lib.hid (HX2.out.trans (((Ext.refl w2).alloc _).trans hx)); clear hx; obtain ⟨r0, r1, r2⟩ := HB3.out.read3; obtain ⟨f0, f1, f2⟩ := HB3.out.free3; have r3 := HB3.out.lt; obtain ⟨s0, s1, s2⟩ := HS3.out.read3; have s3 := HS3.out.lt))
      have HE := Lib.hid (HB3.out.set3 (.int .i64 g) (.int .i64 z) (.int .i64 s))
      have HXE := Lib.hid (HX3.out.store3 (k := w.heap.size) (by omega) (.int .i64 g) (.int .i64 z) (.int .i64 s))
      clear r0 r1 r2 f0 f1 f2
      obtain ⟨r0, r1, r2⟩ := HE.out.read3
      refine bodyPost_ret (v := .tuple #[.agg #[.int .i64 g, .int .i64 z, .int .i64 s], .int .i64 0]) (by simp [results, Try.results12, go_sem, r0, r1, r2]) rfl ⟨rfl, HXE.out⟩
    · have ⟨h1, h2⟩ := hpn (fun h => hb h.2.2)
      rw [h1, h2]
      have HP := Lib.hid (fun w' => ref03Print_any g z s w')
      unfold supE at HP
      rw [hr] at HP
      have hy : ((supB ⟨g, z, s⟩).toList == b.toList) = false := by rw [bytes_same, decide_eq_false hb]
      clear h1 h2 hpn hps hr hb
      generalize supB ⟨g, z, s⟩ = y at *
      go_enter Try.func12, Try.ntmps12
      go_wp2_with (first
        | (go_at_call 26; refine (HO.out _).mono ?_; rintro e w2 ⟨A, c, rfl, hS, hx⟩; have HS1 := Lib.hid hS; have HB2 := Lib.hid ((Bx.new w #[.int .i64 0, .int .i64 0, .int .i64 0] 23).ext hx); have HX2 := Lib.hid (((Ext.refl w).alloc _).trans hx); clear hS hx)
        | (go_at_call 27; (first | (with_reducible refine (HT0.out _ _ _ HS1.out).mono ?_) | (with_reducible refine (HT1.out _ _ _ HS1.out).mono ?_) | (with_reducible refine (HT2.out _ _ _ HS1.out).mono ?_)); rintro e w' ⟨rfl, rfl⟩)
        | (go_at_call 10; refine (HP.out _).mono ?_; rintro e w3 ⟨rfl, hx⟩; have HB3 := Lib.hid (HB2.out.ext (((Ext.refl w2).alloc _).trans hx)); have HS3 := Lib.hid ((Bx.new w2 #[.int .i64 g, .int .i64 z, .int .i64 s] 23).ext hx); have HX3 := Lib.hid (HX2.out.trans (((Ext.refl w2).alloc _).trans hx)); clear hx; obtain ⟨r0, r1, r2⟩ := HB3.out.read3; obtain ⟨f0, f1, f2⟩ := HB3.out.free3; have r3 := HB3.out.lt; obtain ⟨s0, s1, s2⟩ := HS3.out.read3; have s3 := HS3.out.lt))
      have HE := Lib.hid (HB3.out.set3 (.int .i64 0) (.int .i64 0) (.int .i64 0))
      have HXE := Lib.hid (HX3.out.store3 (k := w.heap.size) (by omega) (.int .i64 0) (.int .i64 0) (.int .i64 0))
      clear r0 r1 r2 f0 f1 f2
      obtain ⟨r0, r1, r2⟩ := HE.out.read3
      refine bodyPost_ret (v := .tuple #[.agg #[.int .i64 0, .int .i64 0, .int .i64 0], .int .i64 2]) (by simp [results, Try.results12, go_sem, r0, r1, r2]) rfl ⟨rfl, HXE.out⟩
  · have ⟨h1, h2⟩ := par_none (b := b) (fun h => ho h.1)
    rw [h1, h2]
    have HO := Lib.hid (fun w' => ref01Open_n b w' hs ho)
    clear h1 h2 ho hs
    go_enter Try.func12, Try.ntmps12
    go_wp2_with (go_at_call 26; refine (HO.out _).mono ?_; rintro e w1 ⟨A, c, rfl, hx⟩; have HB := Lib.hid ((Bx.new w #[.int .i64 0, .int .i64 0, .int .i64 0] 23).ext hx); obtain ⟨r0, r1, r2⟩ := HB.out.read3; obtain ⟨f0, f1, f2⟩ := HB.out.free3; have r3 := HB.out.lt; have HX := Lib.hid (((Ext.refl w).alloc _).trans hx); clear hx)
    have HE := Lib.hid (HB.out.set3 (.int .i64 0) (.int .i64 0) (.int .i64 0))
    have HXE := Lib.hid (HX.out.store3 (k := w.heap.size) (by omega) (.int .i64 0) (.int .i64 0) (.int .i64 0))
    clear r0 r1 r2 f0 f1 f2
    obtain ⟨r0, r1, r2⟩ := HE.out.read3
    refine bodyPost_ret (v := .tuple #[.agg #[.int .i64 0, .int .i64 0, .int .i64 0], .int .i64 2]) (by simp [results, Try.results12, go_sem, r0, r1, r2]) rfl ⟨rfl, HXE.out⟩
end Go.Proofs.Ythaebcljehmhmaa
