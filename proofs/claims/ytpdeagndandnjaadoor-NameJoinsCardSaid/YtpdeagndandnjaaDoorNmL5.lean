/- NameJoins, over what package name answers. -/
import Derived.Test.YtpdeagndandnjaaDoorNmL2
import Derived.Test.YtpdeagndandnjaaDoorNmL4
namespace Go.Proofs.YtpdeagndandnjaaDoor
set_option maxRecDepth 20000
open Go.RowKit

set_option maxRecDepth 100000 in
set_option maxHeartbeats 3200000 in
theorem njoins_any (G : NmOk) (s t : ByteArray) (w : World) :
    Calls Tryd.prog 7 #[.string s, .string t] w fun e w' => e = .returned (.bool true) ∧ Ext w w' := by
  have G0 := Lib.hid G.shown
  have early : ∀ (d1 d2 d3 : Bool), True := fun _ _ _ => trivial
  clear early
  by_cases h1 : 100 < s.size
  · have d1 : decide ((100 : Int) < s.size) = true := decide_eq_true (by omega)
    have d2 : decide (100 < s.size) = true := decide_eq_true h1
    go_enter Tryd.func7, Tryd.ntmps7
    go_wp2_with (go_at_call 9; refine (G0.out _).mono ?_; rintro e w2 ⟨rfl, hx⟩; have X := Lib.hid hx; clear hx)
    go_ret
    exact ⟨rfl, X.out⟩
  have d1 : decide ((100 : Int) < s.size) = false := decide_eq_false (by omega)
  have d2 : decide (100 < s.size) = false := decide_eq_false h1
  by_cases h2 : 100 < t.size
  · have d3 : decide ((100 : Int) < t.size) = true := decide_eq_true (by omega)
    have d4 : decide (100 < t.size) = true := decide_eq_true h2
    go_enter Tryd.func7, Tryd.ntmps7
    go_wp2_with (go_at_call 9; refine (G0.out _).mono ?_; rintro e w2 ⟨rfl, hx⟩; have X := Lib.hid hx; clear hx)
    go_ret
    exact ⟨rfl, X.out⟩
  have d3 : decide ((100 : Int) < t.size) = false := decide_eq_false (by omega)
  have d4 : decide (100 < t.size) = false := decide_eq_false h2
  by_cases h3 : tx s = [47]
  · have d5 := eq_yes h3
    clear h3
    go_enter Tryd.func7, Tryd.ntmps7
    go_wp2_with (go_at_call 9; refine (G0.out _).mono ?_; rintro e w2 ⟨rfl, hx⟩; have X := Lib.hid hx; clear hx)
    go_ret
    exact ⟨rfl, X.out⟩
  have d5 := eq_no h3
  by_cases h4 : tx t = [47]
  · have d6 := eq_yes h4
    clear h3 h4
    go_enter Tryd.func7, Tryd.ntmps7
    go_wp2_with (go_at_call 9; refine (G0.out _).mono ?_; rintro e w2 ⟨rfl, hx⟩; have X := Lib.hid hx; clear hx)
    go_ret
    exact ⟨rfl, X.out⟩
  have d6 := eq_no h4
  have hs3 : s.size ≤ 1000000 := by omega
  have ht3 : t.size ≤ 1000000 := by omega
  have hst : (s ++ t).size = s.size + t.size := by
    have h := congrArg List.length (tx_append s t)
    rw [List.length_append, tx_len, tx_len, tx_len] at h
    exact h
  have hst3 : (s ++ t).size ≤ 1000000 := by omega
  have hs100 : s.size ≤ 100 := by omega
  have ht100 : t.size ≤ 100 := by omega
  have G1 := Lib.hid (fun w' => G.path s w' hs3)
  have G2 := Lib.hid (fun w' => G.path t w' ht3)
  have G3 := Lib.hid (fun w' => G.path (s ++ t) w' hst3)
  clear hst
  cases hp : pathP (tx s) with
  | none =>
    obtain ⟨o1, o2⟩ := pathP_none hp
    rw [o1, o2] at G1
    clear h3 h4 hp
    go_enter Tryd.func7, Tryd.ntmps7
    go_wp2_with (first
      | (go_at_call 9; refine (G0.out _).mono ?_; rintro e w2 ⟨rfl, hx⟩; have X := Lib.hid hx; clear hx)
      | (go_at_call 14; first
        | (with_reducible refine (G1.out _).mono ?_; rintro e w3 ⟨A3, c3, rfl, hs, hx⟩; have X := Lib.hid (X.out.trans hx); clear hx hs)
        | (with_reducible refine (G2.out _).mono ?_; rintro e w4 ⟨A4, c4, rfl, hs, hx⟩; have X := Lib.hid (X.out.trans hx); clear hx hs)
        | (with_reducible refine (G3.out _).mono ?_; rintro e w5 ⟨A5, c5, rfl, hs, hx⟩; have X := Lib.hid (X.out.trans hx); clear hx hs)))
    go_ret
    exact ⟨rfl, X.out⟩
  | some a =>
    obtain ⟨o1, o2⟩ := pathP_yes hp
    rw [o1, o2] at G1
    cases hq : pathP (tx t) with
    | none =>
      obtain ⟨p1, p2⟩ := pathP_none hq
      rw [p1, p2] at G2
      clear h3 h4 hp hq
      go_enter Tryd.func7, Tryd.ntmps7
      go_wp2_with (first
        | (go_at_call 9; refine (G0.out _).mono ?_; rintro e w2 ⟨rfl, hx⟩; have X := Lib.hid hx; clear hx)
        | (go_at_call 14; first
          | (with_reducible refine (G1.out _).mono ?_; rintro e w3 ⟨A3, c3, rfl, hs, hx⟩; have X := Lib.hid (X.out.trans hx); clear hx hs)
          | (with_reducible refine (G2.out _).mono ?_; rintro e w4 ⟨A4, c4, rfl, hs, hx⟩; have X := Lib.hid (X.out.trans hx); clear hx hs)
          | (with_reducible refine (G3.out _).mono ?_; rintro e w5 ⟨A5, c5, rfl, hs, hx⟩; have X := Lib.hid (X.out.trans hx); clear hx hs)))
      go_ret
      exact ⟨rfl, X.out⟩
    | some b =>
      obtain ⟨p1, p2⟩ := pathP_yes hq
      rw [p1, p2] at G2
      have h2 := path_two h3 h4 hp hq
      obtain ⟨_, _, ha20⟩ := join_path hp
      obtain ⟨_, _, hb20⟩ := join_path hq
      obtain ⟨ka, hka⟩ : ∃ k, a.length = k := ⟨_, rfl⟩
      obtain ⟨kb, hkb⟩ : ∃ k, b.length = k := ⟨_, rfl⟩
      have HKA := Lib.hid hka
      have HKB := Lib.hid hkb
      rw [hka] at G1 ha20
      rw [hkb] at G2 hb20
      rw [hka, hkb, ← tx_append] at h2
      clear h3 h4 hp hq o1 o2 p1 p2 hka hkb
      by_cases h20 : ka + kb ≤ 20
      · rw [if_pos h20] at h2
        obtain ⟨r1, r2⟩ := pathP_yes h2
        obtain ⟨j1, j2, _⟩ := join_path h2
        have hlab : (a ++ b).length = ka + kb := by rw [List.length_append, HKA.out, HKB.out]
        rw [r1, r2, hlab] at G3
        have HL := Lib.hid hlab
        have HJ := Lib.hid (fun w' A c (hs : Sl w' A (ka + kb) c ((a ++ b).map nv)) => (show Calls Tryd.prog 16 #[.slice A (ka + kb) c] w' fun e w'' => ∃ u : ByteArray, e = .returned (.tuple #[.string u, .int .i64 0]) ∧ tx u = tx (s ++ t) ∧ Ext w' w'' from by
          have h := G.join A (ints (a ++ b)) (ka + kb) c w' (by unfold ints; rw [List.length_map]; exact HL.out.symm) (by omega) (by rw [← nv_ints]; exact hs)
          rw [show joinE (ints (a ++ b)) = 0 from (join_good j1).2, show joinL (ints (a ++ b)) = tx (s ++ t) from j2] at h
          exact h))
        have HW := Lib.hid (fun w' A c B d (h1 : Sl w' A ka c (a.map nv)) (h2 : Sl w' B (ka + kb) d ((a ++ b).map nv)) => (show Calls Tryd.prog 19 #[.slice A ka c, .slice B (ka + kb) d] w' fun e w'' => e = .returned (.bool true) ∧ Ext w' w'' from by
          have h := G.within A B (ints a) (ints (a ++ b)) ka (ka + kb) c d w' (by unfold ints; rw [List.length_map]; exact HKA.out.symm) (by unfold ints; rw [List.length_map]; exact HL.out.symm) (by omega) (by omega) (by rw [← nv_ints]; exact h1) (by rw [← nv_ints]; exact h2)
          rw [show withinB (ints a) (ints (a ++ b)) = true from within_iff.2 ⟨ints b, by unfold ints; simp⟩] at h
          exact h))
        have e1 : decide ((20 : Int) < (ka : Int) + (kb : Int)) = false := decide_eq_false (by omega)
        have e2 : decide (20 < ka + kb) = false := decide_eq_false (by omega)
        have e3 : decide ((20 : Int) < ((ka + kb : Nat) : Int)) = false := decide_eq_false (by omega)
        clear h2 r1 r2 j1 j2 hlab
        go_enter Tryd.func7, Tryd.ntmps7
        go_wp2_with (first
          | (go_at_call 9; refine (G0.out _).mono ?_; rintro e w2 ⟨rfl, hx⟩; have X := Lib.hid hx; clear hx)
          | (go_at_call 14; first
            | (with_reducible refine (G1.out _).mono ?_; rintro e w3 ⟨A3, c3, rfl, hs, hx⟩; have S3 := Lib.hid hs; have X := Lib.hid (X.out.trans hx); clear hx hs)
            | (with_reducible refine (G2.out _).mono ?_; rintro e w4 ⟨A4, c4, rfl, hs, hx⟩; have S3 := Lib.hid (S3.out.ext hx); have S4 := Lib.hid hs; have X := Lib.hid (X.out.trans hx); clear hx hs)
            | (with_reducible refine (G3.out _).mono ?_; rintro e w5 ⟨A5, c5, rfl, hs, hx⟩; have S3 := Lib.hid (S3.out.ext hx); have S4 := Lib.hid (S4.out.ext hx); have S5 := Lib.hid hs; have X := Lib.hid (X.out.trans hx); clear hx hs))
          | (at_builtin; refine stop_here ?_))
        refine stop_on ?_
        refine app_nv _ rfl _ _ rfl w5.heap.size _ 0 [] rfl (own_empty w5 3 1) A3 ka c3 a rfl HKA.out (S3.out.ext ((Ext.refl w5).alloc _)) (by omega) (by simp) ?_
        intro A6 c6 w6 hown hg
        rw [List.nil_append, Nat.zero_add] at hown
        rw [Nat.zero_add]
        have O6 := Lib.hid hown
        have X6 := Lib.hid (show Ext w5 w6 from Below.grown ((Ext.refl w5).alloc _) hg (by simp) (by intro q hq; cases hq; exact Nat.le_refl _))
        clear hown hg
        go_wp2_with (at_builtin; refine stop_here ?_)
        refine stop_on ?_
        refine app_nv _ rfl _ _ rfl w5.heap.size _ ka a rfl O6.out A4 kb c4 b rfl HKB.out (S4.out.ext X6.out) (by omega) X6.out.size ?_
        intro A7 c7 w7 hown hg
        have S7 := Lib.hid (own_sl hown)
        have X7 := Lib.hid (show Ext w5 w7 from X6.out.app O6.out (Nat.le_refl _) hg)
        clear hown hg
        have X := Lib.hid (X.out.trans X7.out)
        have S3 := Lib.hid (S3.out.ext X7.out)
        have S5 := Lib.hid (S5.out.ext X7.out)
        go_wp2_with (first
          | (go_at_call 16; with_reducible refine (HJ.out _ _ _ S7.out).mono ?_; rintro e w8 ⟨u, rfl, hu, hx⟩; have q1 := str_eq hu; have S3 := Lib.hid (S3.out.ext hx); have S5 := Lib.hid (S5.out.ext hx); have S7 := Lib.hid (S7.out.ext hx); have X := Lib.hid (X.out.trans hx); clear hx hu)
          | (go_at_call 18; refine (ints_same _ _ (a ++ b) _ _ _ _ _ HL.out.symm HL.out.symm S5.out S7.out).mono ?_; rintro e w9 ⟨rfl, hx⟩; have S3 := Lib.hid (S3.out.ext hx); have S5 := Lib.hid (S5.out.ext hx); have X := Lib.hid (X.out.trans hx); clear hx)
          | (go_at_call 19; with_reducible refine (HW.out _ _ _ _ _ S3.out S5.out).mono ?_; rintro e w10 ⟨rfl, hx⟩; have X := Lib.hid (X.out.trans hx); clear hx))
        go_ret
        exact ⟨rfl, X.out⟩
      · rw [if_neg h20] at h2
        obtain ⟨r1, r2⟩ := pathP_none h2
        rw [r1, r2] at G3
        have e1 : decide ((20 : Int) < (ka : Int) + (kb : Int)) = true := decide_eq_true (by omega)
        have e2 : decide (20 < ka + kb) = true := decide_eq_true (by omega)
        have e3 : decide ((20 : Int) < ((ka + kb : Nat) : Int)) = true := decide_eq_true (by omega)
        clear h2 r1 r2
        go_enter Tryd.func7, Tryd.ntmps7
        go_wp2_with (first
          | (go_at_call 9; refine (G0.out _).mono ?_; rintro e w2 ⟨rfl, hx⟩; have X := Lib.hid hx; clear hx)
          | (go_at_call 14; first
            | (with_reducible refine (G1.out _).mono ?_; rintro e w3 ⟨A3, c3, rfl, hs, hx⟩; have S3 := Lib.hid hs; have X := Lib.hid (X.out.trans hx); clear hx hs)
            | (with_reducible refine (G2.out _).mono ?_; rintro e w4 ⟨A4, c4, rfl, hs, hx⟩; have S3 := Lib.hid (S3.out.ext hx); have S4 := Lib.hid hs; have X := Lib.hid (X.out.trans hx); clear hx hs)
            | (with_reducible refine (G3.out _).mono ?_; rintro e w5 ⟨A5, c5, rfl, hs, hx⟩; have S3 := Lib.hid (S3.out.ext hx); have S4 := Lib.hid (S4.out.ext hx); have X := Lib.hid (X.out.trans hx); clear hx hs))
          | (at_builtin; refine stop_here ?_))
        refine stop_on ?_
        refine app_nv _ rfl _ _ rfl w5.heap.size _ 0 [] rfl (own_empty w5 3 1) A3 ka c3 a rfl HKA.out (S3.out.ext ((Ext.refl w5).alloc _)) (by omega) (by simp) ?_
        intro A6 c6 w6 hown hg
        rw [List.nil_append, Nat.zero_add] at hown
        rw [Nat.zero_add]
        have O6 := Lib.hid hown
        have X6 := Lib.hid (show Ext w5 w6 from Below.grown ((Ext.refl w5).alloc _) hg (by simp) (by intro q hq; cases hq; exact Nat.le_refl _))
        clear hown hg
        go_wp2_with (at_builtin; refine stop_here ?_)
        refine stop_on ?_
        refine app_nv _ rfl _ _ rfl w5.heap.size _ ka a rfl O6.out A4 kb c4 b rfl HKB.out (S4.out.ext X6.out) (by omega) X6.out.size ?_
        intro A7 c7 w7 hown hg
        have X7 := Lib.hid (show Ext w5 w7 from X6.out.app O6.out (Nat.le_refl _) hg)
        clear hown hg
        have X := Lib.hid (X.out.trans X7.out)
        go_wp2_with fail
        go_ret
        exact ⟨rfl, X.out⟩
end Go.Proofs.YtpdeagndandnjaaDoor
