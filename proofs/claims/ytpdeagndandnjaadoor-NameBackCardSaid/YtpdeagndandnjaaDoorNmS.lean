/- The example at the head of layer 17's laws, over what package name answers. -/
import Derived.Test.YtpdeagndandnjaaDoorNmQ
namespace Go.Proofs.YtpdeagndandnjaaDoor
set_option maxRecDepth 20000
open Go.RowKit

theorem sl_one {w : World} {A : Option Addr} {c : Nat} (h : Sl w A 2 c ([2, 28].map zv)) : Sl w A 1 c ([2].map zv) :=
  ⟨h.1, by have := h.2.1; omega, h.2.2.1, fun _ => by
    obtain ⟨b, off, e, hlt, hc⟩ := h.cells (by simp)
    exact ⟨b, off, e, hlt, fun j u hu => hc j u (by
      match j, hu with
      | 0, hu => exact hu
      | j + 1, hu => simp at hu)⟩⟩
def sAA : ByteArray := ⟨#[97, 97]⟩
def sPath : ByteArray := ⟨#[47, 98, 47, 97, 97]⟩
set_option maxRecDepth 100000 in
set_option maxHeartbeats 6400000 in
theorem nshown_any (G : NmC) (w : World) : Calls Tryd.prog 9 #[] w fun e w' => e = .returned (.bool true) ∧ Ext w w' := by
  have HX := Lib.hid (Ext.refl w)
  have h1 : ofN (tx sAA) = 28 ∧ ofE (tx sAA) = 0 := by decide
  have h2 : textE 26 = 0 ∧ textL 26 = [122] := by decide
  have h3 : pathL (tx sPath) = [2, 28] ∧ pathE (tx sPath) = 0 := by decide +kernel
  have h4 : joinE [2, 28] = 0 ∧ joinL [2, 28] = [47, 98, 47, 97, 97] := by decide +kernel
  have h5 : withinB [2] [2, 28] = true ∧ withinB [2, 28] [2] = false := by decide
  have G1 := Lib.hid (fun w' => (show Calls Tryd.prog 10 #[.string ⟨#[97, 97]⟩] w' fun e w'' => e = .returned (.tuple #[.int .i64 28, .int .i64 0]) ∧ Ext w' w'' from by
    have h := G.of sAA w'
    rw [h1.1, h1.2] at h
    exact h))
  have G2 := Lib.hid (fun w' => (show Calls Tryd.prog 12 #[.int .i64 26] w' fun e w'' => ∃ t : ByteArray, e = .returned (.tuple #[.string t, .int .i64 0]) ∧ tx t = [122] ∧ Ext w' w'' from by
    have h := G.text 26 w'
    rw [h2.1, h2.2] at h
    exact h))
  have G3 := Lib.hid (fun w' => (show Calls Tryd.prog 14 #[.string ⟨#[47, 98, 47, 97, 97]⟩] w' fun e w'' => ∃ A c, e = .returned (.tuple #[.slice A 2 c, .int .i64 0]) ∧ Sl w'' A 2 c ([2, 28].map nv) ∧ Ext w' w'' from by
    have h := G.path sPath w' (by decide)
    rw [h3.1, h3.2] at h
    exact h))
  have G4 := Lib.hid (fun w' A c (hA : Sl w' A 2 c ([2, 28].map zv)) => (show Calls Tryd.prog 16 #[.slice A 2 c] w' fun e w'' => ∃ t : ByteArray, e = .returned (.tuple #[.string t, .int .i64 0]) ∧ tx t = [47, 98, 47, 97, 97] ∧ Ext w' w'' from by
    have h := G.join A [2, 28] 2 c w' rfl (by decide) hA
    rw [h4.1, h4.2] at h
    exact h))
  have G5 := Lib.hid (fun w' A c (hA : Sl w' A 2 c ([2, 28].map zv)) => (show Calls Tryd.prog 19 #[.slice A 1 c, .slice A 2 c] w' fun e w'' => e = .returned (.bool true) ∧ Ext w' w'' from by
    have h := G.within A A [2] [2, 28] 1 2 c c w' rfl rfl (by decide) (by decide) (sl_one hA) hA
    rw [h5.1] at h
    exact h))
  have G6 := Lib.hid (fun w' A c (hA : Sl w' A 2 c ([2, 28].map zv)) => (show Calls Tryd.prog 19 #[.slice A 2 c, .slice A 1 c] w' fun e w'' => e = .returned (.bool false) ∧ Ext w' w'' from by
    have h := G.within A A [2, 28] [2] 2 1 c c w' rfl rfl (by decide) (by decide) hA (sl_one hA)
    rw [h5.2] at h
    exact h))
  clear h1 h2 h3 h4 h5
  go_enter Tryd.func9, Tryd.ntmps9
  go_wp2_with (first
    | (go_at_call 10; refine (G1.out _).mono ?_; rintro e w1 ⟨rfl, hx⟩; have HX := Lib.hid (HX.out.trans hx); clear hx)
    | (go_at_call 12; refine (G2.out _).mono ?_; rintro e w1 ⟨t, rfl, ht, hx⟩; have q1 : (t.toList == [122]) = true := (by rw [str_inj (s := t) (t := ⟨#[122]⟩) ht]; decide +kernel); have HX := Lib.hid (HX.out.trans hx); clear hx ht)
    | (go_at_call 14; refine (G3.out _).mono ?_; rintro e w1 ⟨A, c, rfl, hs, hx⟩; rw [nv_zv] at hs; have hc2 : 2 ≤ c := hs.2.1; have hcm := hs.2.2.1; have S := Lib.hid (show Sl w1 A 2 c ([2, 28].map zv) from hs); have HX := Lib.hid (HX.out.trans hx); clear hx hs)
    | (go_at_call 16; refine (G4.out _ _ _ S.out).mono ?_; rintro e w1 ⟨u, rfl, ht, hx⟩; have q2 : (u.toList == [47, 98, 47, 97, 97]) = true := (by rw [str_inj (s := u) (t := ⟨#[47, 98, 47, 97, 97]⟩) ht]; decide +kernel); have S := Lib.hid (S.out.ext hx); have HX := Lib.hid (HX.out.trans hx); clear hx ht)
    | (go_at_call 18; refine (rowInts_any _ _ [2, 28] [2, 28] _ _ _ _ _ rfl rfl (S.out.ext ((Ext.refl _).alloc _)) (show Sl _ _ 2 2 ([2, 28].map zv) from sl_lit _ _ 2 ([2, 28].map zv) (by unfold maxLen; omega))).mono ?_; rintro e w2 ⟨rfl, q, rfl⟩; have HS := Lib.hid (show sameJ [2, 28] [2, 28] = true from by decide); rw [HS.out]; have hx := ((Ext.refl w1).alloc (.cells #[zv 2, zv 28] 3)).drewN q; have S := Lib.hid (S.out.ext hx); have HX := Lib.hid (HX.out.trans hx); clear hx)
    | (go_at_call 19; with_reducible refine (G5.out _ _ _ S.out).mono ?_; rintro e w1 ⟨rfl, hx⟩; have S := Lib.hid (S.out.ext hx); have HX := Lib.hid (HX.out.trans hx); clear hx)
    | (go_at_call 19; with_reducible refine (G6.out _ _ _ S.out).mono ?_; rintro e w1 ⟨rfl, hx⟩; have S := Lib.hid (S.out.ext hx); have HX := Lib.hid (HX.out.trans hx); clear hx))
  all_goals (go_ret; exact ⟨rfl, HX.out⟩)
end Go.Proofs.YtpdeagndandnjaaDoor
