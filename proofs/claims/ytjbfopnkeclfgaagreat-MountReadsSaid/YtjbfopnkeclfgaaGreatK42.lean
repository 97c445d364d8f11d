/- Walk of Pick of package slot. -/
import Derived.Test.YtjbfopnkeclfgaaGreatK10
namespace Go.Proofs.YtjbfopnkeclfgaaGreat
set_option maxRecDepth 20000
open Go.RowKit

theorem Bx.other3 {w : World} {k j : Nat} {cs : Array Value} (h : Bx w k cs) (hj : j ≠ k) (x y z : Value) : Bx (((w.setCell ⟨j, 0, none⟩ x).setCell ⟨j, 1, none⟩ y).setCell ⟨j, 2, none⟩ z) k cs :=
  ((h.set_other (p := ⟨j, 0, none⟩) hj x).set_other (p := ⟨j, 1, none⟩) hj y).set_other (p := ⟨j, 2, none⟩) hj z
def pk2 (p : Int × Sup) (b : Option Sup) : Int × Sup := match b with
  | some y => if p.2.g < y.g then (1, y) else p
  | none => p
/-- What is picked ahead of round k. -/
def pk (a b : ByteArray) : Nat → Int × Sup
  | 0 => (0, sup0)
  | 1 => (0, (parS a).getD sup0)
  | _ => pk2 (0, (parS a).getD sup0) (parS b)
def supC (x : Sup) : Array Value := #[.int .i64 x.g, .int .i64 x.z, .int .i64 x.s]
theorem par_low {b : ByteArray} {x : Sup} (h : parS b = some x) : 1 ≤ x.g := ((supR_iff x).1 (par_right h).1).1.1
theorem pk_1y {a : ByteArray} (b : ByteArray) {x : Sup} (h : parS a = some x) : pk a b 1 = (0, x) := by show (0, (parS a).getD sup0) = _; rw [h]; rfl
theorem pk_1n {a : ByteArray} (b : ByteArray) (h : parS a = none) : pk a b 1 = (0, sup0) := by show (0, (parS a).getD sup0) = _; rw [h]; rfl
theorem pk_2y (a : ByteArray) {b : ByteArray} {x : Sup} (h : parS b = some x) : pk a b 2 = if (pk a b 1).2.g < x.g then (1, x) else pk a b 1 := by show pk2 (pk a b 1) (parS b) = _; rw [h]; rfl
theorem pk_2n (a : ByteArray) {b : ByteArray} (h : parS b = none) : pk a b 2 = pk a b 1 := by show pk2 (pk a b 1) (parS b) = _; rw [h]; rfl
theorem pk_end (a b : ByteArray) : ((pk a b 2).2.g = 0 ∧ pickV a b = .tuple #[.int .i64 0, Sup.v sup0, .int .i64 4]) ∨ ((pk a b 2).2.g ≠ 0 ∧ pickV a b = .tuple #[.int .i64 (pk a b 2).1, Sup.v (pk a b 2).2, .int .i64 0]) := by
  cases ha : parS a with
  | none =>
    cases hb : parS b with
    | none =>
      left
      rw [pk_2n a hb, pk_1n b ha]
      exact ⟨rfl, by unfold pickV pickI pickX pickE; rw [ha, hb]⟩
    | some y =>
      have := par_low hb
      right
      have h0 : ((pk a b 1).2.g < y.g) := by rw [pk_1n b ha]; show (0 : Int) < y.g; omega
      rw [pk_2y a hb, if_pos h0]
      exact ⟨by show y.g ≠ 0; omega, by unfold pickV pickI pickX pickE; rw [ha, hb]⟩
  | some x =>
    have h1 := par_low ha
    cases hb : parS b with
    | none =>
      right
      rw [pk_2n a hb, pk_1y b ha]
      exact ⟨by show x.g ≠ 0; omega, by unfold pickV pickI pickX pickE; rw [ha, hb]⟩
    | some y =>
      have := par_low hb
      right
      rw [pk_2y a hb, pk_1y b ha]
      unfold pickV pickI pickX pickE; rw [ha, hb]
      simp only
      split
      · exact ⟨by show y.g ≠ 0; omega, rfl⟩
      · exact ⟨by show x.g ≠ 0; omega, rfl⟩

set_option maxRecDepth 100000 in
set_option maxHeartbeats 8000000 in
theorem slotPick_any (a b : ByteArray) (w : World) (ha : a.size ≤ maxLen) (hb : b.size ≤ maxLen) :
    Calls Tryz.prog 21 #[.string a, .string b] w fun e w' => e = .returned (pickV a b) ∧ Ext w w' := by
  go_enter Tryz.func21, Tryz.ntmps21
  go_wp2_with fail
  generalize hW : (World.alloc (World.alloc (World.alloc w _) _) _) = W
  obtain ⟨hx, hb0, hb1, hb2⟩ := allocs3 hW
  have HX := Lib.hid hx
  have HB0 := Lib.hid hb0
  have HB1 := Lib.hid hb1
  have HB2 := Lib.hid hb2
  clear hx hb0 hb1 hb2 hW
  go_loopw [7, 17] (fun v i wr => ∃ k : Nat, k ≤ 2 ∧ i = .int .i64 k ∧ v = .int .i64 (pk a b k).1 ∧ Ext w wr ∧ Bx wr w.heap.size (supC sup0) ∧ Bx wr (w.heap.size + 1) (supC (pk a b k).2) ∧ Bx wr (w.heap.size + 1 + 1) #[.string a, .string b]) (fun _ i _ => 2 - (intOf i).toNat)
  case atStart => exact ⟨0, by omega, rfl, rfl, HX.out, HB0.out, HB1.out, HB2.out⟩
  case round =>
    obtain ⟨k, hk, rfl, rfl, hxr, hb0, hb1, hb2⟩ := hrel
    have HXR := Lib.hid hxr
    have HC0 := Lib.hid hb0
    have HC1 := Lib.hid hb1
    have HC2 := Lib.hid hb2
    have hk3 : k = 0 ∨ k = 1 ∨ k = 2 := by omega
    clear hxr hb0 hb1 hb2
    rcases hk3 with rfl | rfl | rfl
    · have q2 : wr.cell? ⟨w.heap.size + 1 + 1, 0, none⟩ = some (.string a) := HC2.out.at 0 _ rfl
      have z2 := HC2.out.lt
      have HN : ∀ x, parS a = some x → pk a b 1 = (0, x) := fun x h => pk_1y b h
      have HM : parS a = none → pk a b 1 = (0, sup0) := fun h => pk_1n b h
      have HPK : pk a b 0 = (0, sup0) := rfl
      have HN := Lib.hid HN
      have HM := Lib.hid HM
      simp only [HPK, supC, sup0] at HC1 ⊢
      clear HPK
      cases hy : parS a with
      | none =>
        have HP := Lib.hid (fun w' => slotParse_n a w' ha hy)
        have HE := Lib.hid (HM.out hy)
        clear hy HM HN
        go_wp2_with (go_at_call 49; with_reducible refine (HP.out _).mono ?_; rintro e w2 ⟨rfl, hx⟩; have HX2 := Lib.hid hx; clear hx)
        go_roundw
        case rel => exact ⟨1, by omega, by go_num, by rw [HE.out], HXR.out.trans (HX2.out.alloc _), HC0.out.ext (HX2.out.alloc _), (by rw [HE.out]; exact HC1.out.ext (HX2.out.alloc _)), HC2.out.ext (HX2.out.alloc _)⟩
        case measure => simp [intOf]
      | some y =>
        obtain ⟨p, q, r⟩ := y
        have hp := par_low hy
        simp only at hp
        have HP := Lib.hid (fun w' => slotParse_y a w' ha hy)
        have HE := Lib.hid (HN.out _ hy)
        clear hy HM HN
        go_wp2_with (go_at_call 49; with_reducible refine (HP.out _).mono ?_; rintro e w2 ⟨rfl, hx⟩; have HX2 := Lib.hid hx; clear hx; have HD1 := Lib.hid (HC1.out.ext HX2.out); obtain ⟨r0, r1, r2⟩ := HD1.out.read3; obtain ⟨f0, f1, f2⟩ := HD1.out.free3; have r3 := HD1.out.lt)
        go_region
        all_goals (go_wp2_with fail)
        go_roundw
        case rel => exact ⟨1, by omega, by go_num, by rw [HE.out], (((HXR.out.trans HX2.out).store3 (k := w.heap.size + 1) (by omega) (.int .i64 p) (.int .i64 q) (.int .i64 r)).alloc _).drew, ((HC0.out.ext HX2.out).other3 (j := w.heap.size + 1) (by omega) (.int .i64 p) (.int .i64 q) (.int .i64 r)).ext ((Ext.refl _).alloc _).drew, (by rw [HE.out]; exact (HD1.out.set3 (.int .i64 p) (.int .i64 q) (.int .i64 r)).ext ((Ext.refl _).alloc _).drew), ((HC2.out.ext HX2.out).other3 (j := w.heap.size + 1) (by omega) (.int .i64 p) (.int .i64 q) (.int .i64 r)).ext ((Ext.refl _).alloc _).drew⟩
        case measure => simp [intOf]
    · have q2 : wr.cell? ⟨w.heap.size + 1 + 1, 1, none⟩ = some (.string b) := HC2.out.at 1 _ rfl
      have z2 := HC2.out.lt
      have HN : ∀ x, parS b = some x → pk a b 2 = if (pk a b 1).2.g < x.g then (1, x) else pk a b 1 := fun x h => pk_2y a h
      have HM : parS b = none → pk a b 2 = pk a b 1 := fun h => pk_2n a h
      have HN := Lib.hid HN
      have HM := Lib.hid HM
      obtain ⟨⟨i0, g, z, s⟩, hpk⟩ : ∃ p, pk a b 1 = p := ⟨_, rfl⟩
      rw [hpk] at HC1 HN HM ⊢
      simp only [supC] at HC1 HN HM ⊢
      have HPK := Lib.hid hpk
      clear hpk
      cases hy : parS b with
      | none =>
        have HP := Lib.hid (fun w' => slotParse_n b w' hb hy)
        have HE := Lib.hid (HM.out hy)
        clear hy HM HN
        go_wp2_with (go_at_call 49; with_reducible refine (HP.out _).mono ?_; rintro e w2 ⟨rfl, hx⟩; have HX2 := Lib.hid hx; clear hx)
        go_roundw
        case rel => exact ⟨2, by omega, by go_num, by rw [HE.out], HXR.out.trans (HX2.out.alloc _), HC0.out.ext (HX2.out.alloc _), (by rw [HE.out]; exact HC1.out.ext (HX2.out.alloc _)), HC2.out.ext (HX2.out.alloc _)⟩
        case measure => simp [intOf]
      | some y =>
        obtain ⟨p, q, r⟩ := y
        have hp := par_low hy
        simp only at hp
        have HP := Lib.hid (fun w' => slotParse_y b w' hb hy)
        have HE := Lib.hid (show pk a b 2 = if g < p then (1, ⟨p, q, r⟩) else (i0, ⟨g, z, s⟩) from HN.out _ hy)
        clear hy HM HN
        by_cases hg : g < p
        · rw [if_pos hg] at HE
          go_wp2_with (go_at_call 49; with_reducible refine (HP.out _).mono ?_; rintro e w2 ⟨rfl, hx⟩; have HX2 := Lib.hid hx; clear hx; have HD1 := Lib.hid (HC1.out.ext HX2.out); obtain ⟨r0, r1, r2⟩ := HD1.out.read3; obtain ⟨f0, f1, f2⟩ := HD1.out.free3; have r3 := HD1.out.lt)
          go_region
          all_goals (go_wp2_with fail)
          go_roundw
          case rel => exact ⟨2, by omega, by go_num, by rw [HE.out], (((HXR.out.trans HX2.out).store3 (k := w.heap.size + 1) (by omega) (.int .i64 p) (.int .i64 q) (.int .i64 r)).alloc _).drew, ((HC0.out.ext HX2.out).other3 (j := w.heap.size + 1) (by omega) (.int .i64 p) (.int .i64 q) (.int .i64 r)).ext ((Ext.refl _).alloc _).drew, (by rw [HE.out]; exact (HD1.out.set3 (.int .i64 p) (.int .i64 q) (.int .i64 r)).ext ((Ext.refl _).alloc _).drew), ((HC2.out.ext HX2.out).other3 (j := w.heap.size + 1) (by omega) (.int .i64 p) (.int .i64 q) (.int .i64 r)).ext ((Ext.refl _).alloc _).drew⟩
          case measure => simp [intOf]
        · rw [if_neg hg] at HE
          go_wp2_with (go_at_call 49; with_reducible refine (HP.out _).mono ?_; rintro e w2 ⟨rfl, hx⟩; have HX2 := Lib.hid hx; clear hx; have HD1 := Lib.hid (HC1.out.ext HX2.out); obtain ⟨r0, r1, r2⟩ := HD1.out.read3; obtain ⟨f0, f1, f2⟩ := HD1.out.free3; have r3 := HD1.out.lt)
          go_roundw
          case rel => exact ⟨2, by omega, by go_num, by rw [HE.out], HXR.out.trans (HX2.out.alloc _), HC0.out.ext (HX2.out.alloc _), (by rw [HE.out]; exact HC1.out.ext (HX2.out.alloc _)), HC2.out.ext (HX2.out.alloc _)⟩
          case measure => simp [intOf]
    · have hend := pk_end a b
      obtain ⟨⟨i0, g, z, s⟩, hpk⟩ : ∃ p, pk a b 2 = p := ⟨_, rfl⟩
      rw [hpk] at HC1 hend ⊢
      simp only [supC, sup0, Sup.v] at HC1 HC0 hend ⊢
      clear hpk
      obtain ⟨r0, r1, r2⟩ := HC1.out.read3
      have r3 := HC1.out.lt
      obtain ⟨s0, s1, s2⟩ := HC0.out.read3
      obtain ⟨f0, f1, f2⟩ := HC0.out.free3
      have s3 := HC0.out.lt
      rcases hend with ⟨h0, h1⟩ | ⟨h0, h1⟩
      · subst h0
        have H1 := Lib.hid h1
        clear h1
        go_wp2_with fail
        refine ret3_cell (k := w.heap.size) (x := .int .i64 0) (y := .int .i64 0) (z := .int .i64 0) (v := .tuple #[.int .i64 0, .agg #[.int .i64 0, .int .i64 0, .int .i64 0], .int .i64 4]) ?hb (fun r0 r1 r2 => by simp [results, Tryz.results21, go_sem, r0, r1, r2]) rfl ⟨by rw [H1.out], ?hx⟩
        case hb => first | exact HC0.out.set3 (.int .i64 0) (.int .i64 0) (.int .i64 0) | exact HC0.out.set3 (.int .i64 0) (.int .i64 0) (.int .i64 0)
        case hx => first | exact HXR.out.store3 (k := w.heap.size) (by omega) (.int .i64 0) (.int .i64 0) (.int .i64 0) | exact (HXR.out.store3 (k := w.heap.size) (by omega) (.int .i64 0) (.int .i64 0) (.int .i64 0)).drew
      · have H1 := Lib.hid h1
        clear h1
        have h2 : (g == 0) = false := by simpa using h0
        go_wp2_with fail
        go_region
        all_goals (go_wp2_with fail)
        refine ret3_cell (k := w.heap.size) (x := .int .i64 g) (y := .int .i64 z) (z := .int .i64 s) (v := .tuple #[.int .i64 i0, .agg #[.int .i64 g, .int .i64 z, .int .i64 s], .int .i64 0]) ?hb (fun r0 r1 r2 => by simp [results, Tryz.results21, go_sem, r0, r1, r2]) rfl ⟨by rw [H1.out], ?hx⟩
        case hb => first | exact HC0.out.set3 (.int .i64 g) (.int .i64 z) (.int .i64 s) | exact HC0.out.set3 (.int .i64 g) (.int .i64 z) (.int .i64 s)
        case hx => first | exact HXR.out.store3 (k := w.heap.size) (by omega) (.int .i64 g) (.int .i64 z) (.int .i64 s) | exact (HXR.out.store3 (k := w.heap.size) (by omega) (.int .i64 g) (.int .i64 z) (.int .i64 s)).drew
end Go.Proofs.YtjbfopnkeclfgaaGreat
