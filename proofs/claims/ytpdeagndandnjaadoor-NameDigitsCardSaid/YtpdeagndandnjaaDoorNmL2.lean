/- NameBack, over what package name answers. -/
import Derived.Test.YtpdeagndandnjaaDoorNmQ
namespace Go.Proofs.YtpdeagndandnjaaDoor
set_option maxRecDepth 20000
open Go.RowKit

theorem str_ne {s t : ByteArray} (h : tx s = tx t) : (s.toList != t.toList) = false := by rw [str_inj h]; simp
theorem text_nil : textOk 0 = false := by decide
/-- What Of tells, and what Text tells of that. -/
theorem of_cases (s : ByteArray) : ∃ (a e f : Nat) (T : Bs), ofN (tx s) = a ∧ ofE (tx s) = e ∧ textE (a : Int) = f ∧ textL (a : Int) = T ∧ ((e = 0 ∧ f = 0 ∧ T = tx s ∧ 1 ≤ a ∧ a ≤ 531440) ∨ (e = 1 ∧ f = 1 ∧ a = 0)) := by
  cases h : ofOk (tx s) with
  | true =>
    obtain ⟨h1, h2⟩ := of_good h
    obtain ⟨t1, t2, t3, t4⟩ := text_of h
    exact ⟨_, _, _, _, h1, h2, rfl, rfl, .inl ⟨rfl, (text_good t1).2, t2, t3, t4⟩⟩
  | false =>
    obtain ⟨h1, h2⟩ := of_bad h
    exact ⟨_, _, _, _, h1, h2, rfl, rfl, .inr ⟨rfl, (text_bad text_nil).2, rfl⟩⟩
/-- What Text tells, and what Of tells of that. -/
theorem text_cases (n : Int) : ∃ (g h b : Nat) (T : Bs), textE n = g ∧ textL n = T ∧ ofE T = h ∧ ofN T = b ∧ ((g = 0 ∧ h = 0 ∧ (b : Int) = n) ∨ (g = 1 ∧ h = 1)) := by
  cases h : textOk n with
  | true =>
    obtain ⟨h1, h2, _⟩ := of_text h
    obtain ⟨o1, o2⟩ := of_good h1
    exact ⟨_, _, _, _, rfl, rfl, rfl, rfl, .inl ⟨(text_good h).2, o2, by rw [o1]; exact h2⟩⟩
  | false =>
    obtain ⟨h1, h2⟩ := text_bad h
    exact ⟨_, _, _, _, rfl, rfl, rfl, rfl, .inr ⟨h2, by rw [h1]; rfl⟩⟩
def ints (l : List Nat) : List Int := l.map (fun (n : Nat) => (n : Int))
theorem nv_ints (l : List Nat) : l.map nv = (ints l).map zv := nv_zv l
/-- What Path tells, and what Join tells of that. -/
theorem path_cases (s : ByteArray) : ∃ (L : List Nat) (i j k : Nat) (T : Bs), pathL (tx s) = L ∧ L.length = k ∧ pathE (tx s) = i ∧ joinE (ints L) = j ∧ joinL (ints L) = T ∧ k ≤ 20 ∧ ((i = 0 ∧ j = 0 ∧ T = tx s) ∨ i = 1) := by
  cases h : pathP (tx s) with
  | some ns =>
    obtain ⟨h1, h2⟩ := pathP_yes h
    obtain ⟨j1, j2, j3⟩ := join_path h
    exact ⟨_, _, _, _, _, h1, rfl, h2, rfl, rfl, j3, .inl ⟨rfl, (join_good j1).2, j2⟩⟩
  | none =>
    obtain ⟨h1, h2⟩ := pathP_none h
    exact ⟨_, _, _, _, _, h1, rfl, h2, rfl, rfl, Nat.zero_le _, .inr rfl⟩
/-- What Join tells, and what Path tells of that. -/
theorem join_cases (l : List Int) : ∃ (k w z : Nat) (T : Bs) (L : List Nat), joinE l = k ∧ joinL l = T ∧ T.length ≤ 101 ∧ pathE T = w ∧ pathL T = L ∧ L.length = z ∧ ((k = 0 ∧ w = 0 ∧ ints L = l) ∨ k = 1) := by
  cases h : joinOk l with
  | true =>
    obtain ⟨ns, h1, h2⟩ := path_join h
    obtain ⟨p1, p2⟩ := pathP_yes h1
    obtain ⟨j1, j2⟩ := join_good h
    refine ⟨_, _, _, _, _, j2, rfl, ?_, p2, p1, rfl, .inl ⟨rfl, rfl, h2⟩⟩
    rw [j1]
    unfold joinOk at h
    rw [Bool.and_eq_true, decide_eq_true_eq] at h
    have := slashed_len l
    split
    · simp
    · omega
  | false =>
    obtain ⟨h1, h2⟩ := join_bad h
    exact ⟨_, _, _, _, _, h2, h1, by simp, rfl, rfl, rfl, .inr rfl⟩
set_option maxRecDepth 100000 in
set_option maxHeartbeats 6400000 in
theorem nback_any (G : NmOk) (s : ByteArray) (n : Int) (A : Option Addr) (l : List Int) (c : Nat) (w : World) (hA : Sl w A l.length c (l.map zv)) :
    Calls Tryd.prog 4 #[.string s, .int .i64 n, .slice A l.length c] w fun e w' => e = .returned (.bool true) ∧ Ext w w' := by
  have HA := Lib.hid hA
  clear hA
  obtain ⟨q, hq⟩ : ∃ q, l.length = q := ⟨_, rfl⟩
  have HLA := Lib.hid hq
  rw [hq] at HA ⊢
  clear hq
  by_cases h1 : 300 < s.size
  · have d1 : decide ((300 : Int) < s.size) = true := decide_eq_true (by omega)
    have d2 : decide (300 < s.size) = true := decide_eq_true h1
    go_enter Tryd.func4, Tryd.ntmps4
    go_wp2_with (go_at_call 9; refine (G.shown _).mono ?_; rintro e w2 ⟨rfl, hx⟩; have HX2 := Lib.hid hx; clear hx)
    go_ret
    exact ⟨rfl, HX2.out⟩
  have d1 : decide ((300 : Int) < s.size) = false := decide_eq_false (by omega)
  have d2 : decide (300 < s.size) = false := decide_eq_false h1
  by_cases h2 : 40 < q
  · have d3 : decide ((40 : Int) < q) = true := decide_eq_true (by omega)
    have d4 : decide (40 < q) = true := decide_eq_true h2
    go_enter Tryd.func4, Tryd.ntmps4
    go_wp2_with (go_at_call 9; refine (G.shown _).mono ?_; rintro e w2 ⟨rfl, hx⟩; have HX2 := Lib.hid hx; clear hx)
    go_ret
    exact ⟨rfl, HX2.out⟩
  have d3 : decide ((40 : Int) < q) = false := decide_eq_false (by omega)
  have d4 : decide (40 < q) = false := decide_eq_false h2
  have hs3 : s.size ≤ 1000000 := by omega
  have hq3 : q ≤ 1000000 := by omega
  obtain ⟨a, e1, f1, T1, a1, a2, a3, a4, ca⟩ := of_cases s
  obtain ⟨g1, i1, b1, T2, b2, b3, b4, b5, cb⟩ := text_cases n
  obtain ⟨L3, i3, j3, k3, T3, c1, c2, c3, c4, c5, c6, cc⟩ := path_cases s
  obtain ⟨k4, w4, z4, T4, L4, e2, e3, e4, e5, e6, e7, cd⟩ := join_cases l
  have G1 := Lib.hid (fun w' => G.of s w')
  rw [a1, a2] at G1
  have G2 := Lib.hid (fun w' => G.text (a : Int) w')
  rw [a3, a4] at G2
  have G3 := Lib.hid (fun w' => G.text n w')
  rw [b2, b3] at G3
  have G4 := Lib.hid (fun (t : ByteArray) w' (ht : tx t = T2) => (show Calls Tryd.prog 10 #[.string t] w' fun e w'' => e = .returned (.tuple #[.int .i64 (b1 : Nat), .int .i64 (i1 : Nat)]) ∧ Ext w' w'' from by
    have h := G.of t w'
    rw [ht, b4, b5] at h
    exact h))
  have G5 := Lib.hid (fun w' => G.path s w' hs3)
  rw [c1, c2, c3] at G5
  have G6 := Lib.hid (fun P pc w' (h : Sl w' P k3 pc (L3.map nv)) => (show Calls Tryd.prog 16 #[.slice P k3 pc] w' fun e w'' => ∃ t : ByteArray, e = .returned (.tuple #[.string t, .int .i64 (j3 : Nat)]) ∧ tx t = T3 ∧ Ext w' w'' from by
    rw [nv_ints] at h
    have h := G.join P (ints L3) k3 pc w' (by unfold ints; rw [List.length_map]; exact c2.symm) (by omega) h
    rw [c4, c5] at h
    exact h))
  have G7 := Lib.hid (fun w' (h : Sl w' A q c (l.map zv)) => G.join A l q c w' HLA.out.symm hq3 h)
  rw [e2, e3] at G7
  have G8 := Lib.hid (fun (t : ByteArray) w' (ht : tx t = T4) => (show Calls Tryd.prog 14 #[.string t] w' fun e w'' => ∃ A c, e = .returned (.tuple #[.slice A z4 c, .int .i64 (w4 : Nat)]) ∧ Sl w'' A z4 c (L4.map nv) ∧ Ext w' w'' from by
    have h := G.path t w' (by rw [← tx_len, ht]; omega)
    rw [ht, e5, e6, e7] at h
    exact h))
  have HL4 := Lib.hid e7
  clear a1 a2 a3 a4 b2 b3 b4 b5 c1 c2 c3 c4 c5 e2 e3 e4 e5 e6 e7
  rcases ca with ⟨rfl, rfl, rfl, ca1, ca2⟩ | ⟨rfl, rfl, ca3⟩ <;> rcases cb with ⟨rfl, rfl, cb1⟩ | ⟨rfl, rfl⟩ <;> rcases cc with ⟨rfl, rfl, rfl⟩ | rfl <;> rcases cd with ⟨rfl, rfl, cd1⟩ | rfl
  all_goals
    (try (have G2b := Lib.hid (show ∀ w', Calls Tryd.prog 12 #[.int .i64 0] w' fun e w'' => ∃ t : ByteArray, e = .returned (.tuple #[.string t, .int .i64 1]) ∧ tx t = T1 ∧ Ext w' w'' from by have h := G2.out; rw [ca3] at h; exact h)))
    (try subst ca3)
    (try have x1 : ¬ (a : Int) < 1 := by omega)
    (try have x2 : ¬ (531440 : Int) < (a : Int) := by omega)
    (try have x5 : decide (531440 < a) = false := decide_eq_false (by omega))
    (try have x6 : decide ((a : Int) < 1) = false := decide_eq_false (by omega))
    (try have x7 : decide ((531440 : Int) < (a : Int)) = false := decide_eq_false (by omega))
    (try have x3 : ((b1 : Int) != n) = false := by rw [cb1]; simp)
    (try have x3b : ((b1 : Int) == n) = true := by rw [cb1]; simp)
    (try have x9 : decide (a < 1) = false := decide_eq_false (by omega))
    have x4 : decide (20 < k3) = false := decide_eq_false (by omega)
    have x8 : decide ((20 : Int) < (k3 : Int)) = false := decide_eq_false (by omega)
    (try have HCD := Lib.hid cd1)
    (try clear cb1)
    (try clear cd1)
    go_enter Tryd.func4, Tryd.ntmps4
    go_wp2_with (first
      | (go_at_call 9; refine (G.shown _).mono ?_; rintro e w1 ⟨rfl, hx⟩; have X := Lib.hid hx; clear hx)
      | (go_at_call 10; first
          | (with_reducible refine (G1.out _).mono ?_; rintro e w2 ⟨rfl, hx⟩; have X := Lib.hid (X.out.trans hx); clear hx)
          | (refine (G4.out _ _ R2.out).mono ?_; rintro e w2 ⟨rfl, hx⟩; have X := Lib.hid (X.out.trans hx); clear hx))
      | (go_at_call 12; first
          | (with_reducible refine (G2.out _).mono ?_; rintro e w4 ⟨t1, rfl, h1, hx⟩; (try have q1 := str_ne h1); (try have q1b := str_eq h1); have X := Lib.hid (X.out.trans hx); clear hx h1)
          | (with_reducible refine (G2b.out _).mono ?_; rintro e w4 ⟨t1, rfl, h1, hx⟩; have X := Lib.hid (X.out.trans hx); clear hx h1)
          | (with_reducible refine (G3.out _).mono ?_; rintro e w4 ⟨t2, rfl, h1, hx⟩; have R2 := Lib.hid h1; have X := Lib.hid (X.out.trans hx); clear hx h1))
      | (go_at_call 14; first
          | (with_reducible refine (G5.out _).mono ?_; rintro e w6 ⟨P, pc, rfl, h1, hx⟩; have S6 := Lib.hid h1; have X := Lib.hid (X.out.trans hx); clear hx h1)
          | (refine (G8.out _ _ R4.out).mono ?_; rintro e w6 ⟨Q, qc, rfl, h1, hx⟩; have S8 := Lib.hid h1; have X := Lib.hid (X.out.trans hx); clear hx h1))
      | (go_at_call 16; first
          | (with_reducible refine (G6.out _ _ _ S6.out).mono ?_; rintro e w7 ⟨t3, rfl, h1, hx⟩; (try have q3 := str_ne h1); (try have q3b := str_eq h1); have X := Lib.hid (X.out.trans hx); clear hx h1)
          | (refine (G7.out _ (HA.out.ext X.out)).mono ?_; rintro e w7 ⟨t4, rfl, h1, hx⟩; have R4 := Lib.hid h1; have X := Lib.hid (X.out.trans hx); clear hx h1))
      | (go_at_call 18; refine (rowInts_any _ _ (ints L4) l _ _ _ _ _ (by unfold ints; rw [List.length_map]; exact HL4.out.symm) HLA.out.symm (by rw [← nv_ints]; exact S8.out) (HA.out.ext X.out)).mono ?_; rintro e w8 ⟨rfl, q8, rfl⟩; have X := Lib.hid (X.out.trans (ext_drewN _ q8)); (try rw [show sameJ (ints L4) l = true from by unfold sameJ; exact decide_eq_true HCD.out])))
    go_ret
    exact ⟨rfl, X.out⟩
end Go.Proofs.YtpdeagndandnjaaDoor
