/- NameWithin, over what package name answers. -/
import Derived.Test.YtpdeagndandnjaaDoorNmQ
namespace Go.Proofs.YtpdeagndandnjaaDoor
set_option maxRecDepth 20000
open Go.RowKit

theorem app_zv (w : World) {ops : Array Oper} {rest : List Oper} {o : Oper} {a : Act} {Q : Exit → Act → World → Prop} (hgd : o.guard = none) (s x : Operand)
    (ho : o.op = .call { callee := .builtin .append, args := #[s, x], argTypes := #[22, 22] })
    (B : Nat) (v : Value) (n : Nat) (l : List Int) (hs : a.eval s = v) (hown : w.ownsRow B 3 1 v n (l.map zv))
    (A : Option Addr) (m c : Nat) (k : List Int) (hx : a.eval x = .slice A m c) (hl : k.length = m) (hS : Sl w A m c (k.map zv))
    (hsz : n + m ≤ 1000000) (hB : B ≤ w.heap.size)
    (h : ∀ A' c' w', w'.ownsRow B 3 1 (.slice A' (n + m) c') (n + m) ((l ++ k).map zv) → w.grownBy w' v.ownBlock → wpList Tryd.prog ops Q rest (a.put o.dst (.slice A' (n + m) c')) w') : wpList Tryd.prog ops Q (o :: rest) a w := by
  refine wpList_app_sl w hgd s x 22 ho B 3 (.int .i64 0) 1 8 Tryd.underlying22 infoN rfl (by omega) v n (l.map zv) hs hown A m c (k.map zv) hx (by simp [hl]) hS (zv_one k) (by unfold maxLen; omega) (by omega) hB ?_
  intro A' c' w' h1 h2
  rw [← List.map_append] at h1
  exact h A' c' w' h1 h2
theorem sl_pre {w : World} {A : Option Addr} {n c : Nat} {l : List Int} (h : Sl w A n c (l.map zv)) (k : Nat) (hk : k ≤ n) : Sl w A k c ((l.take k).map zv) := by
  obtain ⟨h1, h2, h3, h4⟩ := h
  refine ⟨h1, by omega, h3, fun hx => ?_⟩
  obtain ⟨b, off, rfl, hlt, hc⟩ := h4 (fun e => hx (by rw [List.map_eq_nil_iff] at e; subst e; simp))
  refine ⟨b, off, rfl, hlt, fun j u hu => hc j u ?_⟩
  rw [List.map_take, List.getElem?_take] at hu
  split at hu
  · exact hu
  · cases hu
theorem wi_pre (a : List Int) (k : Nat) : withinB (a.take k) a = true := within_iff.2 ⟨a.drop k, (List.take_append_drop k a).symm⟩
theorem wi_app (a b : List Int) : withinB a (a ++ b) = true := within_iff.2 ⟨b, rfl⟩
theorem wi_nil (b : List Int) : withinB [] b = true := within_iff.2 ⟨b, rfl⟩
theorem wi_both (a b : List Int) : withinB (a ++ b) a = decide (b.length = 0) := by
  by_cases h : b.length = 0
  · obtain rfl := List.eq_nil_of_length_eq_zero h
    rw [List.append_nil, decide_eq_true h]
    exact within_iff.2 ⟨[], by simp⟩
  · rw [decide_eq_false h]
    cases hw : withinB (a ++ b) a with
    | false => rfl
    | true =>
      obtain ⟨c, e⟩ := within_iff.1 hw
      have := congrArg List.length e
      rw [List.length_append, List.length_append] at this
      omega
theorem wi_two (a b : List Int) : (withinB a b && withinB b a) = sameJ a b := by
  unfold sameJ
  by_cases h : a = b
  · subst h
    rw [decide_eq_true rfl]
    have : withinB a a = true := within_iff.2 ⟨[], by simp⟩
    rw [this]
    rfl
  · rw [decide_eq_false h]
    cases h1 : withinB a b with
    | false => rfl
    | true =>
      cases h2 : withinB b a with
      | false => rfl
      | true =>
        obtain ⟨c, rfl⟩ := within_iff.1 h1
        obtain ⟨d, e⟩ := within_iff.1 h2
        have := congrArg List.length e
        rw [List.length_append, List.length_append] at this
        have hc : c = [] := List.eq_nil_of_length_eq_zero (by omega)
        exact absurd (by rw [hc, List.append_nil]) h
set_option maxRecDepth 100000 in
set_option maxHeartbeats 3200000 in
theorem nwithin_any (G : NmOk) (A B : Option Addr) (l m : List Int) (c d : Nat) (cut : Int) (w : World) (h0 : 0 ≤ cut) (h255 : cut ≤ 255) (hA : Sl w A l.length c (l.map zv)) (hB : Sl w B m.length d (m.map zv)) :
    Calls Tryd.prog 6 #[.slice A l.length c, .slice B m.length d, .int .u8 cut] w fun e w' => e = .returned (.bool true) ∧ Ext w w' := by
  have HA := Lib.hid hA
  have HB := Lib.hid hB
  have hcA := hA.2.1
  clear hA hB
  obtain ⟨a, ha⟩ : ∃ a, l.length = a := ⟨_, rfl⟩
  obtain ⟨b, hb⟩ : ∃ b, m.length = b := ⟨_, rfl⟩
  have HLA := Lib.hid ha
  have HLB := Lib.hid hb
  rw [ha] at HA hcA ⊢
  rw [hb] at HB ⊢
  clear ha hb
  by_cases h2 : 20 < a
  · have d3 : decide ((20 : Int) < a) = true := decide_eq_true (by omega)
    have d4 : decide (20 < a) = true := decide_eq_true h2
    go_enter Tryd.func6, Tryd.ntmps6
    go_wp2_with (go_at_call 9; refine (G.shown _).mono ?_; rintro e w2 ⟨rfl, hx⟩; have X := Lib.hid hx; clear hx)
    go_ret
    exact ⟨rfl, X.out⟩
  have d3 : decide ((20 : Int) < a) = false := decide_eq_false (by omega)
  have d4 : decide (20 < a) = false := decide_eq_false h2
  by_cases h3 : 20 < b
  · have d5 : decide ((20 : Int) < b) = true := decide_eq_true (by omega)
    have d6 : decide (20 < b) = true := decide_eq_true h3
    go_enter Tryd.func6, Tryd.ntmps6
    go_wp2_with (go_at_call 9; refine (G.shown _).mono ?_; rintro e w2 ⟨rfl, hx⟩; have X := Lib.hid hx; clear hx)
    go_ret
    exact ⟨rfl, X.out⟩
  have d5 : decide ((20 : Int) < b) = false := decide_eq_false (by omega)
  have d6 : decide (20 < b) = false := decide_eq_false h3
  obtain ⟨k, hk⟩ : ∃ k : Nat, cut.tmod ((a : Int) + 1) = (k : Int) := Int.eq_ofNat_of_zero_le (by rw [Int.tmod_eq_emod_of_nonneg h0]; exact Int.emod_nonneg _ (by omega))
  have hka : k ≤ a := by
    have h := Int.emod_lt_of_pos cut (show (0 : Int) < (a : Int) + 1 by omega)
    rw [← Int.tmod_eq_emod_of_nonneg h0, hk] at h
    omega
  have hk2 : cut % ((a : Int) + 1) = (k : Int) := by rw [← Int.tmod_eq_emod_of_nonneg h0]; exact hk
  have e1 : IntKind.i64.wrap ((a : Int) + 1) = (a : Int) + 1 := by rw [IntKind.wrap_i64]; omega
  have e2 : IntKind.i64.wrap cut = cut := by rw [IntKind.wrap_i64]; omega
  have e3 : ¬ ((a : Int) + 1 = 0) := by omega
  have e4 : (k : Int) ≤ (c : Int) := by omega
  have e5 : IntKind.i64.wrap ((k : Int)) = (k : Int) := by rw [IntKind.wrap_i64]; omega
  have K1 := Lib.hid (wi_pre l k)
  have K2 := Lib.hid (wi_app l m)
  have K3 := Lib.hid (wi_nil m)
  obtain ⟨r4, hr4⟩ : ∃ r, withinB (l ++ m) l = r := ⟨_, rfl⟩
  have hb4 : ((b : Int) == 0) = r4 := by
    rw [← hr4, wi_both, HLB.out]
    exact Bool.eq_iff_iff.2 (by rw [beq_iff_eq, decide_eq_true_eq]; omega)
  have hb5 : (b == 0) = r4 := by
    rw [← hr4, wi_both, HLB.out]
    exact Bool.eq_iff_iff.2 (by rw [beq_iff_eq, decide_eq_true_eq])
  obtain ⟨r5, hr5⟩ : ∃ r, withinB l m = r := ⟨_, rfl⟩
  obtain ⟨r6, hr6⟩ : ∃ r, withinB m l = r := ⟨_, rfl⟩
  have hr7 : sameJ l m = (r5 && r6) := by rw [← wi_two, hr5, hr6]
  have K4 := Lib.hid hr4
  have K5 := Lib.hid hr5
  have K6 := Lib.hid hr6
  have K7 := Lib.hid hr7
  clear hr4 hr5 hr6 hr7
  cases r4 <;> cases r5 <;> cases r6
  all_goals
    go_enter Tryd.func6, Tryd.ntmps6
    go_wp2_with (first
      | (go_at_call 9; refine (G.shown _).mono ?_; rintro e w2 ⟨rfl, hx⟩; have X := Lib.hid hx; clear hx)
      | (at_builtin; refine stop_here ?_))
    refine stop_on ?_
    refine app_zv _ rfl _ _ rfl w2.heap.size _ 0 [] rfl (own_empty w2 3 1) A a c l rfl HLA.out ((HA.out.ext X.out).ext ((Ext.refl w2).alloc _)) (by omega) (by simp) ?_
    intro A3 c3 w3 hown hg
    rw [List.nil_append, Nat.zero_add] at hown
    rw [Nat.zero_add]
    have O3 := Lib.hid hown
    have X3 := Lib.hid (show Ext w2 w3 from Below.grown ((Ext.refl w2).alloc _) hg (by simp) (by intro q hq; cases hq; exact Nat.le_refl _))
    clear hown hg
    go_wp2_with (at_builtin; refine stop_here ?_)
    refine stop_on ?_
    refine app_zv _ rfl _ _ rfl w2.heap.size _ a l rfl O3.out B b d m rfl HLB.out ((HB.out.ext X.out).ext X3.out) (by omega) X3.out.size ?_
    intro A4 c4 w4 hown hg
    have S4 := Lib.hid (own_sl hown)
    have X4 := Lib.hid (show Ext w2 w4 from X3.out.app O3.out (Nat.le_refl _) hg)
    clear hown hg
    have X := Lib.hid (X.out.trans X4.out)
    have HLT := Lib.hid (show a + b = (l ++ m).length from by rw [List.length_append, HLA.out, HLB.out])
    have hab : a + b ≤ 1000000 := by omega
    have W1 := Lib.hid (fun w' (h : Ext w w') => G.within A A (l.take k) l k a c c w' (by rw [List.length_take, HLA.out]; omega) HLA.out.symm (by omega) (by omega) (sl_pre (HA.out.ext h) k hka) (HA.out.ext h))
    rw [K1.out] at W1
    have W2 := Lib.hid (fun w' (h : Ext w w') A5 c5 (hs : Sl w' A5 (a + b) c5 ((l ++ m).map zv)) => G.within A A5 l (l ++ m) a (a + b) c c5 w' HLA.out.symm HLT.out (by omega) hab (HA.out.ext h) hs)
    rw [K2.out] at W2
    have W3 := Lib.hid (fun w' (h : Ext w w') => G.within none B [] m 0 b 0 d w' rfl HLB.out.symm (by omega) (by omega) (Sl.nil _) (HB.out.ext h))
    rw [K3.out] at W3
    have W4 := Lib.hid (fun w' (h : Ext w w') A5 c5 (hs : Sl w' A5 (a + b) c5 ((l ++ m).map zv)) => G.within A5 A (l ++ m) l (a + b) a c5 c w' HLT.out HLA.out.symm hab (by omega) hs (HA.out.ext h))
    rw [K4.out] at W4
    have W5 := Lib.hid (fun w' (h : Ext w w') => G.within A B l m a b c d w' HLA.out.symm HLB.out.symm (by omega) (by omega) (HA.out.ext h) (HB.out.ext h))
    rw [K5.out] at W5
    have W6 := Lib.hid (fun w' (h : Ext w w') => G.within B A m l b a d c w' HLB.out.symm HLA.out.symm (by omega) (by omega) (HB.out.ext h) (HA.out.ext h))
    rw [K6.out] at W6
    have W7 := Lib.hid (fun w' (h : Ext w w') => rowInts_any A B l m a b c d w' HLA.out.symm HLB.out.symm (HA.out.ext h) (HB.out.ext h))
    rw [K7.out] at W7
    go_wp2_with (first
      | (go_at_call 19; first
        | (with_reducible refine (W1.out _ X.out).mono ?_; rintro e w5 ⟨rfl, hx⟩; have S4 := Lib.hid (S4.out.ext hx); have X := Lib.hid (X.out.trans hx); clear hx)
        | (with_reducible refine (W2.out _ X.out _ _ S4.out).mono ?_; rintro e w5 ⟨rfl, hx⟩; have S4 := Lib.hid (S4.out.ext hx); have X := Lib.hid (X.out.trans hx); clear hx)
        | (with_reducible refine (W3.out _ X.out).mono ?_; rintro e w5 ⟨rfl, hx⟩; have S4 := Lib.hid (S4.out.ext hx); have X := Lib.hid (X.out.trans hx); clear hx)
        | (with_reducible refine (W4.out _ X.out _ _ S4.out).mono ?_; rintro e w5 ⟨rfl, hx⟩; have S4 := Lib.hid (S4.out.ext hx); have X := Lib.hid (X.out.trans hx); clear hx)
        | (with_reducible refine (W5.out _ X.out).mono ?_; rintro e w5 ⟨rfl, hx⟩; have S4 := Lib.hid (S4.out.ext hx); have X := Lib.hid (X.out.trans hx); clear hx)
        | (with_reducible refine (W6.out _ X.out).mono ?_; rintro e w5 ⟨rfl, hx⟩; have S4 := Lib.hid (S4.out.ext hx); have X := Lib.hid (X.out.trans hx); clear hx))
      | (go_at_call 18; with_reducible refine (W7.out _ X.out).mono ?_; rintro e w8 ⟨rfl, q8, rfl⟩; have X := Lib.hid (X.out.trans (ext_drewN _ q8))))
    go_ret
    exact ⟨rfl, X.out⟩
end Go.Proofs.YtpdeagndandnjaaDoor
