/- What the laws of layer 17 ask of package name; NameTells. -/
import Derived.Test.YtpdeagndandnjaaDoorNmE
namespace Go.Proofs.YtpdeagndandnjaaDoor
set_option maxRecDepth 20000
open Go.RowKit

/-- What the calls of package name answer. -/
structure NmC : Prop where
  of : ∀ (s : ByteArray) (w : World), Calls Tryd.prog 10 #[.string s] w fun e w' => e = .returned (.tuple #[.int .i64 (ofN (tx s) : Nat), .int .i64 (ofE (tx s) : Nat)]) ∧ Ext w w'
  text : ∀ (n : Int) (w : World), Calls Tryd.prog 12 #[.int .i64 n] w fun e w' => ∃ t : ByteArray, e = .returned (.tuple #[.string t, .int .i64 (textE n : Nat)]) ∧ tx t = textL n ∧ Ext w w'
  path : ∀ (s : ByteArray) (w : World), s.size ≤ 1000000 → Calls Tryd.prog 14 #[.string s] w fun e w' => ∃ A c, e = .returned (.tuple #[.slice A (pathL (tx s)).length c, .int .i64 (pathE (tx s) : Nat)]) ∧ Sl w' A (pathL (tx s)).length c ((pathL (tx s)).map nv) ∧ Ext w w'
  join : ∀ (A : Option Addr) (l : List Int) (n c : Nat) (w : World), n = l.length → n ≤ 1000000 → Sl w A n c (l.map zv) → Calls Tryd.prog 16 #[.slice A n c] w fun e w' => ∃ t : ByteArray, e = .returned (.tuple #[.string t, .int .i64 (joinE l : Nat)]) ∧ tx t = joinL l ∧ Ext w w'
  within : ∀ (A B : Option Addr) (a b : List Int) (n m c d : Nat) (w : World), n = a.length → m = b.length → n ≤ 1000000 → m ≤ 1000000 → Sl w A n c (a.map zv) → Sl w B m d (b.map zv) → Calls Tryd.prog 19 #[.slice A n c, .slice B m d] w fun e w' => e = .returned (.bool (withinB a b)) ∧ Ext w w'
/-- And the document's example: what the laws ask. -/
structure NmOk : Prop extends NmC where
  shown : ∀ w, Calls Tryd.prog 9 #[] w fun e w' => e = .returned (.bool true) ∧ Ext w w'
theorem ext_drewN (w : World) (n : Nat) : Ext w (w.drewN n) := (Ext.refl w).drewN n
theorem ints_same (A B : Option Addr) (a : List Nat) (n m c d : Nat) (w : World) (hn : n = a.length) (hm : m = a.length) (hA : Sl w A n c (a.map nv)) (hB : Sl w B m d (a.map nv)) :
    Calls Tryd.prog 18 #[.slice A n c, .slice B m d] w fun e w' => e = .returned (.bool true) ∧ Ext w w' := by
  rw [nv_zv] at hA hB
  refine (rowInts_any A B _ _ n m c d w (by rw [List.length_map]; exact hn) (by rw [List.length_map]; exact hm) hA hB).mono ?_
  rintro e w' ⟨rfl, q, rfl⟩
  exact ⟨by unfold sameJ; rw [decide_eq_true rfl], ext_drewN w q⟩
theorem str_eq {s t : ByteArray} (h : tx s = tx t) : (s.toList == t.toList) = true := by rw [str_inj h]; simp
set_option maxRecDepth 100000 in
set_option maxHeartbeats 3200000 in
theorem ntells_any (G : NmOk) (s : ByteArray) (n : Int) (A B : Option Addr) (l m : List Int) (c d : Nat) (w : World) (hA : Sl w A l.length c (l.map zv)) (hB : Sl w B m.length d (m.map zv)) :
    Calls Tryd.prog 3 #[.agg #[.string s, .int .i64 n, .slice A l.length c, .slice B m.length d]] w fun e w' => e = .returned (.bool true) ∧ Ext w w' := by
  have hx0 := (Ext.refl w).alloc (.cells #[.string s, .int .i64 n, .slice A l.length c, .slice B m.length d] 24)
  have HX := Lib.hid hx0
  have hb := Bx.new w #[.string s, .int .i64 n, .slice A l.length c, .slice B m.length d] 24
  have p0 := hb.at 0 _ rfl
  have p1 := hb.at 1 _ rfl
  have p2 := hb.at 2 _ rfl
  have p3 := hb.at 3 _ rfl
  have HA := Lib.hid hA
  have HB := Lib.hid hB
  clear hb hx0 hA hB
  obtain ⟨a, ha⟩ : ∃ a, l.length = a := ⟨_, rfl⟩
  obtain ⟨b, hb⟩ : ∃ b, m.length = b := ⟨_, rfl⟩
  have HLA := Lib.hid ha
  have HLB := Lib.hid hb
  rw [ha] at HA HX p0 p1 p2 p3 ⊢
  rw [hb] at HB HX p0 p1 p2 p3 ⊢
  clear ha hb
  by_cases h1 : 300 < s.size
  · have d1 : decide ((300 : Int) < s.size) = true := decide_eq_true (by omega)
    have d2 : decide (300 < s.size) = true := decide_eq_true h1
    go_enter Tryd.func3, Tryd.ntmps3
    go_wp2_with (go_at_call 9; refine (G.shown _).mono ?_; rintro e w2 ⟨rfl, hx⟩; have HX2 := Lib.hid (HX.out.trans hx); clear hx)
    go_ret
    exact ⟨rfl, HX2.out⟩
  have d1 : decide ((300 : Int) < s.size) = false := decide_eq_false (by omega)
  have d2 : decide (300 < s.size) = false := decide_eq_false h1
  by_cases h2 : 40 < a
  · have d3 : decide ((40 : Int) < a) = true := decide_eq_true (by omega)
    have d4 : decide (40 < a) = true := decide_eq_true h2
    go_enter Tryd.func3, Tryd.ntmps3
    go_wp2_with (go_at_call 9; refine (G.shown _).mono ?_; rintro e w2 ⟨rfl, hx⟩; have HX2 := Lib.hid (HX.out.trans hx); clear hx)
    go_ret
    exact ⟨rfl, HX2.out⟩
  have d3 : decide ((40 : Int) < a) = false := decide_eq_false (by omega)
  have d4 : decide (40 < a) = false := decide_eq_false h2
  by_cases h3 : 40 < b
  · have d5 : decide ((40 : Int) < b) = true := decide_eq_true (by omega)
    have d6 : decide (40 < b) = true := decide_eq_true h3
    go_enter Tryd.func3, Tryd.ntmps3
    go_wp2_with (go_at_call 9; refine (G.shown _).mono ?_; rintro e w2 ⟨rfl, hx⟩; have HX2 := Lib.hid (HX.out.trans hx); clear hx)
    go_ret
    exact ⟨rfl, HX2.out⟩
  have d5 : decide ((40 : Int) < b) = false := decide_eq_false (by omega)
  have d6 : decide (40 < b) = false := decide_eq_false h3
  have hs3 : s.size ≤ 1000000 := by omega
  have ha3 : a ≤ 1000000 := by omega
  have hb3 : b ≤ 1000000 := by omega
  have HPL := Lib.hid (show (pathL (tx s)).length = (pathL (tx s)).length from rfl)
  obtain ⟨PN, hPN⟩ : ∃ x, (pathL (tx s)).length = x := ⟨_, rfl⟩
  have HPN := Lib.hid hPN
  have GP := Lib.hid (fun w' => G.path s w' hs3)
  have RP := Lib.hid (fun w' => ref17Path_any s w' hs3)
  rw [hPN] at GP RP
  clear hPN HPL
  go_enter Tryd.func3, Tryd.ntmps3
  go_wp2_with (first
    | (go_at_call 9; refine (G.shown _).mono ?_; rintro e w1 ⟨rfl, hx⟩; have X1 := Lib.hid (HX.out.trans hx); clear hx p0 p1 p2 p3)
    | (go_at_call 10; refine (G.of _ _).mono ?_; rintro e w2 ⟨rfl, hx⟩; have X2 := Lib.hid (X1.out.trans hx); clear hx)
    | (go_at_call 11; refine (ref17Of_any _ _).mono ?_; rintro e w3 ⟨rfl, rfl⟩)
    | (go_at_call 12; refine (G.text _ _).mono ?_; rintro e w4 ⟨t1, rfl, h1, hx⟩; have T1 := Lib.hid h1; have X4 := Lib.hid (X2.out.trans hx); clear hx h1)
    | (go_at_call 13; refine (ref17Text_any _ _).mono ?_; rintro e w5 ⟨t2, rfl, h1, hx⟩; have q1 := str_eq (T1.out.trans h1.symm); have X5 := Lib.hid (X4.out.trans hx); clear hx h1)
    | (go_at_call 14; refine (GP.out _).mono ?_; rintro e w6 ⟨P, pc, rfl, h1, hx⟩; have S6 := Lib.hid h1; have X6 := Lib.hid (X5.out.trans hx); clear hx h1)
    | (go_at_call 15; refine (RP.out _).mono ?_; rintro e w7 ⟨Q, qc, rfl, h1, hx⟩; have S7 := Lib.hid h1; have S67 := Lib.hid (S6.out.ext hx); have X7 := Lib.hid (X6.out.trans hx); clear hx h1)
    | (go_at_call 16; refine (G.join _ l _ _ _ HLA.out.symm ha3 (HA.out.ext X7.out)).mono ?_; rintro e w8 ⟨t3, rfl, h1, hx⟩; have T3 := Lib.hid h1; have S8 := Lib.hid (S7.out.ext hx); have S68 := Lib.hid (S67.out.ext hx); have X8 := Lib.hid (X7.out.trans hx); clear hx h1)
    | (go_at_call 17; refine (ref17Join_any _ l _ _ _ HLA.out.symm ha3 (HA.out.ext X8.out)).mono ?_; rintro e w9 ⟨t4, rfl, h1, hx⟩; have q2 := str_eq (T3.out.trans h1.symm); have S9 := Lib.hid (S8.out.ext hx); have S69 := Lib.hid (S68.out.ext hx); have X9 := Lib.hid (X8.out.trans hx); clear hx h1)
    | (go_at_call 18; refine (ints_same _ _ (pathL (tx s)) _ _ _ _ _ HPN.out.symm HPN.out.symm S69.out S9.out).mono ?_; rintro e w10 ⟨rfl, hx⟩; have X10 := Lib.hid (X9.out.trans hx); clear hx)
    | (go_at_call 19; refine (G.within _ _ l m _ _ _ _ _ HLA.out.symm HLB.out.symm ha3 hb3 (HA.out.ext X10.out) (HB.out.ext X10.out)).mono ?_; rintro e w11 ⟨rfl, hx⟩; have X11 := Lib.hid (X10.out.trans hx); clear hx)
    | (go_at_call 20; refine (ref17Within_any _ _ l m _ _ _ _ _ HLA.out.symm HLB.out.symm (HA.out.ext X11.out) (HB.out.ext X11.out)).mono ?_; rintro e w12 ⟨rfl, q, rfl⟩; have X12 := Lib.hid (X11.out.trans (ext_drewN _ q))))
  go_ret
  exact ⟨rfl, X12.out⟩
end Go.Proofs.YtpdeagndandnjaaDoor
