/- The walk of package todo's Print (as TdB2 has it, for seats that hold NumW5). The walks of with and Print of package book, of any state that a book tells. -/
import Derived.Test.YtnlkakbpcdfgfaaGreatK18
import Derived.Test.YtnlkakbpcdfgfaaGreatK21
namespace Go.Proofs.YtnlkakbpcdfgfaaGreat
set_option maxRecDepth 20000
open Go.RowKit
attribute [local go_sem ↓] Go.wp_at_zero Go.wp_at_succ

/-- A task's bytes, and a row's. -/
def tkB (t : Tk) : List UInt8 := putL (plN t.1) 2 ++ putL (plN t.2) 1
def printT (l : List Tk) : List UInt8 := putL l.length 2 ++ l.flatMap tkB
theorem tkB_len (t : Tk) : (tkB t).length = 3 := by unfold tkB; simp [putL_length]
theorem tkBs_len (l : List Tk) : (l.flatMap tkB).length = 3 * l.length := by
  induction l with
  | nil => rfl
  | cons a l ih => simp only [List.flatMap_cons, List.length_append, tkB_len, ih, List.length_cons]; omega
theorem printT_len (l : List Tk) : (printT l).length = 2 + 3 * l.length := by unfold printT; rw [List.length_append, putL_length, tkBs_len]
/-- A task whose parts are whole numbers that have bytes. -/
def wkT (t : Tk) : Prop := ∃ p k : Nat, p < 2600 ∧ k < 256 ∧ isWh t.1 p ∧ isWh t.2 k
theorem putS_2 {n : Nat} (h : n < 65536) : putS n 2 = putL n 2 := putS_some (m := 2) (by omega) (by omega) (by omega)
theorem putS_1 {n : Nat} (h : n < 256) : putS n 1 = putL n 1 := putS_some (m := 1) (by omega) (by omega) (by omega)
theorem app_u8 (w : World) {ops : Array Oper} {rest : List Oper} {o : Oper} {a : Act} {Q : Exit → Act → World → Prop} (hgd : o.guard = none) (s x : Operand)
    (ho : o.op = .call { callee := .builtin .append, args := #[s, x], argTypes := #[83, 83] })
    (B : Nat) (v : Value) (n : Nat) (l : List UInt8) (hs : a.eval s = v) (hown : w.ownsRow B 5 1 v n (l.map bv))
    (A : Option Addr) (m c : Nat) (k : List UInt8) (hx : a.eval x = .slice A m c) (hl : k.length = m) (hS : Sl w A m c (k.map bv))
    (hsz : n + m ≤ 1000000) (hB : B ≤ w.heap.size)
    (h : ∀ A' c' w', w'.ownsRow B 5 1 (.slice A' (n + m) c') (n + m) ((l ++ k).map bv) → w.grownBy w' v.ownBlock → wpList Tryz.prog ops Q rest (a.put o.dst (.slice A' (n + m) c')) w') : wpList Tryz.prog ops Q (o :: rest) a w := by
  refine wpList_app_sl w hgd s x 83 ho B 5 (.int .u8 0) 1 1 Tryz.underlying83 info5 rfl (by omega) v n (l.map bv) hs hown A m c (k.map bv) hx (by simp [hl]) hS (fun u hu => by obtain ⟨_, _, rfl⟩ := List.mem_map.1 hu; rfl) (by unfold maxLen; omega) (by omega) hB ?_
  intro A' c' w' h1 h2
  rw [← List.map_append] at h1
  exact h A' c' w' h1 h2
set_option maxRecDepth 100000 in
set_option maxHeartbeats 1600000 in
theorem todoPrint_c (A : Option Addr) (l : List Tk) (m c : Nat) (w : World) (hall : ∀ k (hk : k < l.length), wkT l[k]) (hm : m = l.length) (hb : m ≤ 60000) (hA : Sl w A m c (l.map cxv)) (hR : Calls Tryz.prog 136 #[.slice A m c, .int .i64 2000] w fun e w' => e = .returned (.bool true) ∧ Ext w w') :
    Calls Tryz.prog 117 #[.slice A m c] w fun e w' => ∃ S n d, e = .returned (.slice S n d) ∧ n = (printT l).length ∧ Sl w' S n d ((printT l).map bv) ∧ Ext w w' := by
  have HA := Lib.hid hA
  have HM := Lib.hid hm
  have HALL := Lib.hid hall
  have HR := Lib.hid hR
  clear hR
  have HP0 := Lib.hid (fun w => show Calls Tryz.prog 128 #[.int .i64 m, .int .i64 2] w fun e w' => ∃ v, e = .returned v ∧ w'.ownsRow w.heap.size 5 1 v 2 ((putL m 2).map bv) ∧ Below w.heap.size w w' from by
    have h := numPut_own m 2 w (by omega) (by omega)
    rw [putS_2 (by omega), putL_length] at h
    exact h)
  clear hA hm hall
  go_enter Tryz.func117, Tryz.ntmps117
  go_wp2_with (first | (go_at_call 136; refine HR.out.mono ?_; rintro e w0 ⟨rfl, hx0⟩; have HX00 := Lib.hid hx0; clear hx0) | (go_at_call 128; refine stop_here ?_))
  refine stop_on ?_
  have HA0 := Lib.hid (HA.out.ext HX00.out)
  refine (HP0.out w0).mono ?_
  rintro e w1 ⟨v, rfl, ho, hx⟩
  obtain ⟨S0, d0, rfl⟩ := own_shape ho
  have HO0 := Lib.hid ho
  have HX0 := Lib.hid (show Ext w0 w1 from hx)
  clear ho hx
  go_wp2_with fail
  go_loopw [3, 14] (fun s i wr => ∃ k : Nat, k ≤ m ∧ i = .int .i64 k ∧ ∃ S d, s = .slice S (2 + 3 * k) d ∧ wr.ownsRow w0.heap.size 5 1 (.slice S (2 + 3 * k) d) (2 + 3 * k) ((putL m 2 ++ (l.take k).flatMap tkB).map bv) ∧ Ext w0 wr) (fun _ i _ => m - (intOf i).toNat)
  case atStart => exact ⟨0, Nat.zero_le _, rfl, S0, d0, rfl, by simpa using HO0.out, HX0.out⟩
  case round =>
    obtain ⟨k, hk, rfl, S, d, rfl, ho, hx⟩ := hrel
    have HO := Lib.hid ho
    have HX := Lib.hid hx
    rcases Nat.lt_or_ge k m with hlt | hlt
    · have hkl : k < l.length := by rw [← HM.out]; exact hlt
      obtain ⟨b, off, rfl, _, hc⟩ := (HA0.out.ext hx).cells.tk hkl
      have hck := hc k hkl
      have hki : (k : Int) < (m : Int) := by omega
      obtain ⟨p, s, hp, hs, h1, h2⟩ := HALL.out k hkl
      have HT := Lib.hid (show (l.take (k + 1)).flatMap tkB = ((l.take k).flatMap tkB ++ putL p 2) ++ putL s 1 from by
        rw [List.take_succ_eq_append_getElem hkl, List.flatMap_append]
        simp only [List.flatMap_cons, List.flatMap_nil, List.append_nil]
        unfold tkB
        rw [plN_is hp h1, plN_is (by omega) h2, List.append_assoc])
      have HPL := Lib.hid (fun w' => todoPlace_any l[k] p w' hp h1)
      have HDN := Lib.hid (fun w' => todoDone_any l[k] s w' (by omega) h2)
      have HP2 := Lib.hid (fun w' => show Calls Tryz.prog 128 #[.int .i64 p, .int .i64 2] w' fun e w2 => ∃ v, e = .returned v ∧ w2.ownsRow w'.heap.size 5 1 v 2 ((putL p 2).map bv) ∧ Below w'.heap.size w' w2 from by
        have h := numPut_own p 2 w' (by omega) (by omega)
        rw [putS_2 (by omega), putL_length] at h
        exact h)
      have HP1 := Lib.hid (fun w' => show Calls Tryz.prog 128 #[.int .i64 s, .int .i64 1] w' fun e w2 => ∃ v, e = .returned v ∧ w2.ownsRow w'.heap.size 5 1 v 1 ((putL s 1).map bv) ∧ Below w'.heap.size w' w2 from by
        have h := numPut_own s 1 w' (by omega) (by omega)
        rw [putS_1 hs, putL_length] at h
        exact h)
      have HRD := Lib.hid (fun w' (hx : Ext w0 w') => (show w'.cell? ⟨b, off + k, none⟩ = some (.complex .f64 l[k].1 l[k].2) from by
        obtain ⟨b', off', e', _, hc'⟩ := (HA0.out.ext hx).cells.tk hkl
        cases e'
        exact hc' k hkl))
      clear hc ho hx h1 h2 HALL
      generalize l[k] = t at *
      obtain ⟨x, y⟩ := t
      simp only at hck HPL HDN HRD
      go_wp2_with (first | (go_at_call 137; refine (HPL.out _).mono ?_; rintro e w2 ⟨rfl, rfl⟩) | (go_at_call 128; refine stop_here ?_))
      refine stop_on ?_
      refine (HP2.out _).mono ?_
      rintro e w2 ⟨v, rfl, ho2, hx2⟩
      obtain ⟨S2, d2, rfl⟩ := own_shape ho2
      have HS2 := Lib.hid (own_sl ho2)
      have HX2 := Lib.hid (show Ext wr w2 from hx2)
      clear ho2 hx2 hck
      go_wp2_with (at_builtin; refine stop_here ?_)
      refine stop_on ?_
      refine app_u8 _ rfl _ _ rfl w0.heap.size _ (2 + 3 * k) _ rfl (own_ext HO.out HX2.out) S2 2 d2 (putL p 2) rfl (putL_length _ _) HS2.out (by omega) (by have h1 := HX.out.size; have h2 := HX2.out.size; omega) ?_
      intro S3 d3 w3 ho3 hg3
      have HX3 := Lib.hid (Ext.app (HX.out.trans HX2.out) (own_ext HO.out HX2.out) (Nat.le_refl _) hg3)
      have HO3 := Lib.hid ho3
      have hck := HRD.out w3 HX3.out
      clear ho3 hg3
      go_wp2_with (first | (go_at_call 138; refine (HDN.out _).mono ?_; rintro e w4 ⟨rfl, rfl⟩) | (go_at_call 128; refine stop_here ?_))
      refine stop_on ?_
      refine (HP1.out _).mono ?_
      rintro e w4 ⟨v, rfl, ho4, hx4⟩
      obtain ⟨S4, d4, rfl⟩ := own_shape ho4
      have HS4 := Lib.hid (own_sl ho4)
      have HX4 := Lib.hid (show Ext w3 w4 from hx4)
      clear ho4 hx4 hck
      go_wp2_with (at_builtin; refine stop_here ?_)
      refine stop_on ?_
      refine app_u8 _ rfl _ _ rfl w0.heap.size _ (2 + 3 * k + 2) _ rfl (own_ext HO3.out HX4.out) S4 1 d4 (putL s 1) rfl (putL_length _ _) HS4.out (by omega) (by have h1 := HX3.out.size; have h2 := HX4.out.size; omega) ?_
      intro S5 d5 w5 ho5 hg5
      have HX5 := Lib.hid (Ext.app (HX3.out.trans HX4.out) (own_ext HO3.out HX4.out) (Nat.le_refl _) hg5)
      rw [show 2 + 3 * k + 2 + 1 = 2 + 3 * (k + 1) by omega] at ho5
      have HO5 := Lib.hid ho5
      clear ho5 hg5
      go_wp2_with fail
      go_roundw
      case rel => exact ⟨k + 1, by omega, by go_num, S5, d5, by rw [show 2 + 3 * k + 2 + 1 = 2 + 3 * (k + 1) by omega], by rw [HT.out]; simpa [List.append_assoc] using HO5.out, HX5.out⟩
      case measure => simp [intOf]; omega
    · obtain rfl : m = k := by omega
      have HN := Lib.hid (show 2 + 3 * m = (printT l).length by rw [printT_len, HM.out])
      have hE : putL m 2 ++ (l.take m).flatMap tkB = printT l := by unfold printT; rw [HM.out, List.take_length]
      rw [hE] at HO
      clear ho hx hlt hE
      go_wp2_with fail
      go_ret
      exact ⟨_, _, _, rfl, HN.out, own_sl HO.out, HX00.out.trans HX.out⟩
end Go.Proofs.YtnlkakbpcdfgfaaGreat
namespace Go.Proofs.YtnlkakbpcdfgfaaGreat
set_option maxRecDepth 20000
open Go.RowKit
attribute [local go_sem ↓] Go.wp_at_zero Go.wp_at_succ

theorem grown_of_ext {w w' : World} (h : Ext w w') (row : Option Nat) : w.grownBy w' row := ⟨h.os, h.tape, h.output, h.size, fun k hk _ => h.block k hk⟩
theorem own_new {w : World} {B e s n : Nat} {v : Value} {xs : List Value} (h : w.ownsRow B e s v n xs) : v.ownBlock ≠ some w.heap.size := fun e => by
  have := (h.lt _ e).2
  omega
set_option maxHeartbeats 800000 in
theorem bkWith_any (B : Nat) (A : Option Addr) (l : List UInt8) (m c n wide : Nat) (w : World) (hown : w.ownsRow B 5 1 (.slice A m c) m (l.map bv)) (hB : B ≤ w.heap.size) (h1 : 1 ≤ wide) (h2 : wide ≤ 4) (h3 : n < 256 ^ wide) (hm : m ≤ 90000) :
    Calls Tryz.prog 116 #[.slice A m c, .int .i64 n, .int .i64 wide] w fun e w' => ∃ A' c', e = .returned (.slice A' (m + wide) c') ∧ w'.ownsRow B 5 1 (.slice A' (m + wide) c') (m + wide) ((l ++ putL n wide).map bv) ∧ w.grownBy w' (Value.slice A m c).ownBlock := by
  have h4 : n < 4294967296 := Nat.lt_of_lt_of_le h3 (Nat.pow_le_pow_right (n := 256) (by omega) h2)
  have HP := Lib.hid (show Calls Tryz.prog 128 #[.int .i64 n, .int .i64 wide] w fun e w' => ∃ v, e = .returned v ∧ w'.ownsRow w.heap.size 5 1 v wide ((putL n wide).map bv) ∧ Below w.heap.size w w' from by
    have h := numPut_own n wide w (by omega) (by omega)
    rw [putS_some h1 h2 h3, putL_length] at h
    exact h)
  have HO := Lib.hid hown
  clear hown h3 h4
  go_enter Tryz.func116, Tryz.ntmps116
  go_wp2_with (go_at_call 128; refine stop_here ?_)
  refine stop_on ?_
  refine HP.out.mono ?_
  rintro e w1 ⟨v, rfl, ho, hx⟩
  obtain ⟨S1, d1, rfl⟩ := own_shape ho
  have HS := Lib.hid (own_sl ho)
  have HX := Lib.hid (show Ext w w1 from hx)
  clear ho hx
  go_wp2_with (at_builtin; refine stop_here ?_)
  refine stop_on ?_
  refine app_u8 _ rfl _ _ rfl B _ m l rfl (own_ext HO.out HX.out) S1 wide d1 (putL n wide) rfl (putL_length _ _) HS.out (by omega) (Nat.le_trans hB HX.out.size) ?_
  intro A' c' w2 ho hg
  have HO2 := Lib.hid ho
  have HG := Lib.hid (grown_trans (grown_of_ext HX.out (Value.slice A m c).ownBlock) hg)
  clear ho hg
  go_wp2
  go_ret
  exact ⟨A', c', rfl, HO2.out, HG.out⟩
theorem bkWith_to (B : Nat) (A : Option Addr) (l : List UInt8) (m c n wide m' : Nat) (w : World) (hown : w.ownsRow B 5 1 (.slice A m c) m (l.map bv)) (hB : B ≤ w.heap.size) (h1 : 1 ≤ wide) (h2 : wide ≤ 4) (h3 : n < 256 ^ wide) (hm : m ≤ 90000) (hm' : m + wide = m') :
    Calls Tryz.prog 116 #[.slice A m c, .int .i64 n, .int .i64 wide] w fun e w' => ∃ A' c', e = .returned (.slice A' m' c') ∧ w'.ownsRow B 5 1 (.slice A' m' c') m' ((l ++ putL n wide).map bv) ∧ w.grownBy w' (Value.slice A m c).ownBlock := by
  subst hm'
  exact bkWith_any B A l m c n wide w hown hB h1 h2 h3 hm
/-- A volume's bytes, and a row's. -/
def volB (x : It) : List UInt8 := putL x.1.toNat 4 ++ putL (x.2 + 1).toNat 2
theorem volB_len (x : It) : (volB x).length = 6 := by unfold volB; simp [putL_length]
/-- P13.1: a book's bytes. -/
def bookW (refs : List Int) (keep : Int) (vs : List It) (ts : List (Nat × Nat)) (next : Int) : List UInt8 :=
  putL next.toNat 4 ++ putL vs.length 1 ++ vs.flatMap volB ++ printT (ts.map tkB2) ++ putL keep.toNat 2 ++ putL refs.length 2 ++ refs.flatMap (fun r => putL r.toNat 2)
theorem rightP_up {ts : List (Nat × Nat)} {n m : Int} (h : rightP ts n = true) (hm : m ≤ 2000) (hn : n ≤ m) : rightP ts m = true := by
  unfold rightP at *
  simp only [Bool.and_eq_true, decide_eq_true_eq, List.all_eq_true] at *
  refine ⟨⟨⟨by omega, hm⟩, h.1.2⟩, fun x hx => ?_⟩
  have := h.2 x hx
  unfold okP at *
  simp only [Bool.and_eq_true, decide_eq_true_eq] at *
  omega
theorem rightP_small {ts : List (Nat × Nat)} {n : Int} (h : rightP ts n = true) : ts.length ≤ 500 ∧ ∀ x ∈ ts, x.1 < 2000 ∧ x.2 ≤ 5 := by
  unfold rightP at h
  simp only [Bool.and_eq_true, decide_eq_true_eq, List.all_eq_true] at h
  refine ⟨h.1.2, fun x hx => ?_⟩
  have h1 := h.2 x hx
  unfold okP at h1
  simp only [Bool.and_eq_true, decide_eq_true_eq] at h1
  omega
theorem idsR_ok {next : Int} : ∀ {vs : List It} {a : Int}, idsR next vs a = true → 1 ≤ a → ∀ x ∈ vs, 1 ≤ x.1 ∧ x.1 < next
  | [], _, _, _, _, hx => by cases hx
  | v :: vs, a, h, ha, x, hx => by
    rw [idsR, Bool.and_eq_true] at h
    have h1 := h.1
    unfold fromP at h1
    simp only [Bool.and_eq_true, decide_eq_true_eq] at h1
    rcases List.mem_cons.1 hx with rfl | hx
    · omega
    · exact idsR_ok h.2 (by omega) x hx
/-- What is told is in its bounds. -/
theorem toldP_ok {c : List HC} {keep : Int} {vs : List It} {ts : List (Nat × Nat)} {next gen : Int} (h : toldP c keep vs ts next gen = true) :
    1 ≤ next ∧ next ≤ 2147483647 ∧ 1 ≤ c.length ∧ c.length ≤ 2000 ∧ 0 ≤ keep ∧ keep ≤ c.length ∧ c.any refBad = false ∧ (∀ x ∈ c, 0 ≤ x.ref ∧ x.ref ≤ 65535) ∧ vs.length ≤ 20 ∧ (∀ x ∈ vs, 1 ≤ x.1 ∧ x.1 < 2147483647 ∧ -1 ≤ x.2 ∧ x.2 < c.length) ∧ rightP ts 2000 = true := by
  unfold toldP at h
  simp only [Bool.and_eq_true, Bool.not_eq_true'] at h
  obtain ⟨⟨⟨⟨h1, h2⟩, h3⟩, h4⟩, ⟨⟨h5, h6⟩, h7⟩, h8⟩ := h
  unfold idsP at h6
  unfold fromP at h1 h3 h4
  simp only [Bool.and_eq_true, decide_eq_true_eq] at h1 h3 h4 h6
  refine ⟨h1.1, h1.2, by omega, by omega, h4.1, h4.2, h5, fun x hx => ?_, h6.2, fun x hx => ?_, rightP_up h8 (Int.le_refl _) (by omega)⟩
  · have h9 := (List.any_eq_false.1 h5) x hx
    unfold refBad fromP at h9
    simp only [Bool.not_eq_true', Bool.and_eq_false_imp, decide_eq_true_eq] at h9
    simp at h9
    omega
  · have h9 := idsR_ok h6.1 (by omega) x hx
    have h10 := (List.any_eq_false.1 h7) x.2 (List.mem_map_of_mem hx)
    unfold rootBad at h10
    by_cases he : x.2 = -1
    · omega
    · rw [if_neg he] at h10
      by_cases hr : 0 ≤ x.2 ∧ x.2 < c.length
      · omega
      · rw [if_neg hr] at h10
        exact absurd rfl h10
def headW (vs : List It) (next : Int) (k : Nat) : List UInt8 := putL next.toNat 4 ++ putL vs.length 1 ++ (vs.take k).flatMap volB
theorem headW_step {vs : List It} {next : Int} {k : Nat} (h : k < vs.length) : headW vs next (k + 1) = headW vs next k ++ putL vs[k].1.toNat 4 ++ putL (vs[k].2 + 1).toNat 2 := by
  unfold headW
  rw [List.take_succ_eq_append_getElem h, List.flatMap_append]
  simp [volB, List.append_assoc]
def tailW (refs : List Int) (keep : Int) (vs : List It) (ts : List (Nat × Nat)) (next : Int) (k : Nat) : List UInt8 := headW vs next vs.length ++ printT (ts.map tkB2) ++ putL keep.toNat 2 ++ putL refs.length 2 ++ (refs.take k).flatMap (fun r => putL r.toNat 2)
theorem tailW_step {refs : List Int} {keep : Int} {vs : List It} {ts : List (Nat × Nat)} {next : Int} {k : Nat} (h : k < refs.length) : tailW refs keep vs ts next (k + 1) = tailW refs keep vs ts next k ++ putL refs[k].toNat 2 := by
  unfold tailW
  rw [List.take_succ_eq_append_getElem h, List.flatMap_append]
  simp [List.append_assoc]
theorem tailW_end (refs : List Int) (keep : Int) (vs : List It) (ts : List (Nat × Nat)) (next : Int) : tailW refs keep vs ts next refs.length = bookW refs keep vs ts next := by
  unfold tailW bookW headW
  rw [List.take_length, List.take_length]
set_option maxRecDepth 100000 in
set_option maxHeartbeats 6400000 in
theorem bkPrint_any (c : List HC) (keep : Int) (vs : List It) (ts : List (Nat × Nat)) (next gen : Int) (R V L : Option Addr) (n q m cv t cl : Nat) (w : World) (htold : toldP c keep vs ts next gen = true) (hm : m = vs.length) (ht : t = ts.length) (hA : HcSl w R n q c) (hV : Sl w V m cv (ivs vs)) (hL : Sl w L t cl ((ts.map tkB2).map cxv)) :
    Calls Tryz.prog 92 #[.agg #[.slice R n q, .int .i64 keep, .slice V m cv, .slice L t cl, .int .i64 next, .int .i64 gen]] w fun e w' => ∃ S d, e = .returned (.tuple #[.slice S (11 + 6 * m + 3 * t + 2 * n) d, .int .i64 0]) ∧ Sl w' S (11 + 6 * m + 3 * t + 2 * n) d ((bookW (c.map (·.ref)) keep vs ts next).map bv) ∧ Ext w w' := by
  obtain ⟨g1, g2, g3, g4, g5, g6, g7, g8, g9, g10, g11⟩ := toldP_ok htold
  obtain ⟨g12, g13⟩ := rightP_small g11
  have hn := hA.1
  have hts : ∀ x ∈ ts, x.1 < 65536 ∧ x.2 < 65536 := fun x hx => by have := g13 x hx; omega
  have HTO := Lib.hid (fun w' (hy : Ext w w') => bkTold_any c keep vs ts next gen R V L n q m cv t cl w' (by omega) g7 hm (by omega) ht hts (hA.ext hy) (hV.ext hy) (hL.ext hy))
  rw [htold] at HTO
  have HTP := Lib.hid (fun w' (hy : Ext w w') => todoPrint_c L (ts.map tkB2) t cl w' (fun k hk => by
    have hk' : k < ts.length := by rw [List.length_map] at hk; exact hk
    have h1 := g13 _ (List.getElem_mem hk')
    rw [List.getElem_map]
    exact ⟨ts[k].1, ts[k].2, by omega, by omega, isWh_fN _, isWh_fN _⟩) (by rw [List.length_map]; exact ht) (by omega) (hL.ext hy) (by have h1 := tdRight_any L ts t cl 2000 w' ht hts (hL.ext hy); rw [g11] at h1; exact h1))
  have hb := Bx.new w #[.slice R n q, .int .i64 keep, .slice V m cv, .slice L t cl, .int .i64 next, .int .i64 gen] 33
  have hx := (Ext.refl w).alloc (.cells #[.slice R n q, .int .i64 keep, .slice V m cv, .slice L t cl, .int .i64 next, .int .i64 gen] 33)
  obtain ⟨next', hnext⟩ : ∃ k : Nat, next = k := ⟨next.toNat, by omega⟩
  obtain ⟨keep', hkeep⟩ : ∃ k : Nat, keep = k := ⟨keep.toNat, by omega⟩
  subst hnext
  subst hkeep
  have HPL := Lib.hid (show (printT (ts.map tkB2)).length = 2 + 3 * t from by rw [printT_len, List.length_map, ht])
  have HM := Lib.hid hm
  have HN := Lib.hid hn
  have HA := Lib.hid hA
  have HV := Lib.hid hV
  have HVB := Lib.hid (fun k (hk : k < vs.length) => (show 1 ≤ vs[k].1 ∧ vs[k].1 < 2147483647 ∧ -1 ≤ vs[k].2 ∧ vs[k].2 < 2000 from by have := g10 _ (List.getElem_mem hk); omega))
  have HCB := Lib.hid (fun k (hk : k < c.length) => g8 _ (List.getElem_mem hk))
  have hn2 : n ≤ 2000 := by omega
  have hm2 : m ≤ 20 := by omega
  have ht2 : t ≤ 500 := by omega
  have hk2 : keep' ≤ 2000 := by omega
  have hx2 : next' ≤ 2147483647 := by omega
  have HX := Lib.hid hx
  have HB := Lib.hid hb
  obtain ⟨p0, p1, p2, p3, p4, p5⟩ := st_at6 HB.out
  clear hb hx hA hV hL hm ht hn hts g1 g2 g3 g4 g5 g6 g7 g8 g9 g10 g11 g12 g13 htold
  go_enter Tryz.func92, Tryz.ntmps92
  go_wp2_with (first
    | (go_at_call 115; with_reducible refine (HTO.out _ HX.out).mono ?_; rintro e w1 ⟨rfl, hx⟩; replace HB := Lib.hid (HB.out.ext hx); replace HX := Lib.hid (HX.out.trans hx); obtain ⟨p0, p1, p2, p3, p4, p5⟩ := st_at6 HB.out; clear hx)
    | (go_at_call 116; refine stop_here ?_))
  refine stop_on ?_
  have HO := Lib.hid (show w1.ownsRow (w.heap.size + 1) 5 1 (.slice none 0 0) 0 (([] : List UInt8).map bv) from World.ownsRow_nil _ _ _ _)
  refine (bkWith_to (w.heap.size + 1) none ([]) (0) 0 (next') 4 (4) _ HO.out (by have := HB.out.lt; omega) (by omega) (by omega) (by omega) (by omega) (by omega)).mono ?_
  rintro e w2 ⟨S2, c2, rfl, ho, hg⟩
  replace HX := Lib.hid (HX.out.app HO.out (by omega) hg)
  replace HB := Lib.hid (HB.out.grown hg (own_old HO.out (by omega)))
  replace HO := Lib.hid ho
  obtain ⟨p0, p1, p2, p3, p4, p5⟩ := st_at6 HB.out
  clear ho hg
  go_wp2_with (go_at_call 116; refine stop_here ?_)
  refine stop_on ?_
  refine (bkWith_to (w.heap.size + 1) S2 ([] ++ putL next' 4) (4) c2 (m) 1 (5) _ HO.out (by have := HB.out.lt; omega) (by omega) (by omega) (by omega) (by omega) (by omega)).mono ?_
  rintro e w3 ⟨S3, c3, rfl, ho, hg⟩
  replace HX := Lib.hid (HX.out.app HO.out (by omega) hg)
  replace HB := Lib.hid (HB.out.grown hg (own_old HO.out (by omega)))
  replace HO := Lib.hid ho
  obtain ⟨p0, p1, p2, p3, p4, p5⟩ := st_at6 HB.out
  clear ho hg
  replace HO := Lib.hid (show w3.ownsRow (w.heap.size + 1) 5 1 (.slice S3 5 c3) 5 ((headW vs next' 0).map bv) from by
    have h := HO.out
    unfold headW
    rw [HM.out] at h
    simpa using h)
  go_wp2_with fail
  clear p0 p1 p2 p3 p4 p5
  go_loopw [4, 23] (fun b i wr => ∃ (k : Nat) (S : Option Addr) (d : Nat), k ≤ m ∧ i = .int .i64 k ∧ b = .slice S (5 + 6 * k) d ∧ wr.ownsRow (w.heap.size + 1) 5 1 (.slice S (5 + 6 * k) d) (5 + 6 * k) ((headW vs next' k).map bv) ∧ Bx wr w.heap.size #[.slice R n q, .int .i64 keep', .slice V m cv, .slice L t cl, .int .i64 next', .int .i64 gen] ∧ Ext w wr) (fun _ i _ => m - (intOf i).toNat)
  case atStart => exact ⟨0, S3, c3, Nat.zero_le _, rfl, rfl, HO.out, HB.out, HX.out⟩
  case round =>
    clear HX HB HO
    obtain ⟨k, S, d, hk, rfl, rfl, ho, hb, hx⟩ := hrel
    have HO := Lib.hid ho
    have HB := Lib.hid hb
    have HX := Lib.hid hx
    obtain ⟨p0, p1, p2, p3, p4, p5⟩ := st_at6 HB.out
    clear ho hb hx
    rcases Nat.lt_or_ge k m with hlt | hge
    · have hkl : k < vs.length := by rw [← HM.out]; exact hlt
      obtain ⟨b, off, rfl, _, hc⟩ := (HV.out.ext HX.out).cells.it hkl
      obtain ⟨a0, a1⟩ := hc k hkl
      have hki : (k : Int) < (m : Int) := by omega
      have HST := Lib.hid (headW_step (next := next') hkl)
      have hvb := HVB.out k hkl
      clear hc
      generalize vs[k] = x at *
      obtain ⟨x1, x2⟩ := x
      simp only at a0 a1 HST hvb
      obtain ⟨i, rfl⟩ : ∃ i : Nat, x1 = i := ⟨x1.toNat, by omega⟩
      obtain ⟨r, rfl⟩ : ∃ r : Nat, x2 = (r : Int) - 1 := ⟨(x2 + 1).toNat, by omega⟩
      have hi : i < 2147483647 := by omega
      have hr : r ≤ 2000 := by omega
      have hw1 : IntKind.i64.wrap ((r : Int) - 1 + 1) = (r : Int) := by simp only [IntKind.wrap_i64]; omega
      have hw2 : IntKind.i64.wrap (r : Int) = (r : Int) := by simp only [IntKind.wrap_i64]; omega
      rw [show ((r : Int) - 1 + 1).toNat = r by omega, Int.toNat_natCast] at HST
      clear hvb
      have hy := (Ext.refl wr).alloc (.cells #[.int .i64 i, .int .i64 ((r : Int) - 1)] 91)
      have HVX := Lib.hid (Bx.new wr #[.int .i64 i, .int .i64 ((r : Int) - 1)] 91)
      have HNW := Lib.hid (own_new HO.out)
      replace HX := Lib.hid (HX.out.trans hy)
      replace HB := Lib.hid (HB.out.ext hy)
      replace HO := Lib.hid (own_ext HO.out hy)
      obtain ⟨v0, v1, v2⟩ := HVX.out.read2
      obtain ⟨p0, p1, p2, p3, p4, p5⟩ := st_at6 HB.out
      clear hy
      go_wp2_with (go_at_call 116; refine stop_here ?_)
      refine stop_on ?_
      refine (bkWith_to (w.heap.size + 1) S (headW vs next' k) (5 + 6 * k) d (i) 4 (5 + 6 * k + 4) _ HO.out (by have := HB.out.lt; omega) (by omega) (by omega) (by omega) (by omega) (by omega)).mono ?_
      rintro e w4 ⟨S4, c4, rfl, ho, hg⟩
      replace HX := Lib.hid (HX.out.app HO.out (by omega) hg)
      replace HB := Lib.hid (HB.out.grown hg (own_old HO.out (by omega)))
      have HVX := Lib.hid (HVX.out.grown hg HNW.out)
      replace HO := Lib.hid ho
      obtain ⟨p0, p1, p2, p3, p4, p5⟩ := st_at6 HB.out
      clear ho hg
      obtain ⟨v0, v1, v2⟩ := HVX.out.read2
      go_wp2_with (go_at_call 116; refine stop_here ?_)
      refine stop_on ?_
      refine (bkWith_to (w.heap.size + 1) S4 (headW vs next' k ++ putL i 4) (5 + 6 * k + 4) c4 (r) 2 (5 + 6 * (k + 1)) _ HO.out (by have := HB.out.lt; omega) (by omega) (by omega) (by omega) (by omega) (by omega)).mono ?_
      rintro e w5 ⟨S5, c5, rfl, ho, hg⟩
      replace HX := Lib.hid (HX.out.app HO.out (by omega) hg)
      replace HB := Lib.hid (HB.out.grown hg (own_old HO.out (by omega)))
      replace HO := Lib.hid ho
      obtain ⟨p0, p1, p2, p3, p4, p5⟩ := st_at6 HB.out
      clear ho hg
      go_wp2
      go_roundw
      case rel => exact ⟨k + 1, S5, c5, by omega, by go_num, rfl, by rw [HST.out]; exact HO.out, HB.out, HX.out⟩
      case measure => simp [intOf]; omega
    · obtain rfl : m = k := by omega
      clear hge
      generalize wr = wq at *
      go_wp2_with (go_at_call 117; refine stop_here ?_)
      refine stop_on ?_
      refine (HTP.out _ HX.out).mono ?_
      rintro e w6 ⟨S6, n6, d6, rfl, hn6, hs6, hx⟩
      rw [HPL.out] at hn6
      subst hn6
      have HS6 := Lib.hid hs6
      replace HX := Lib.hid (HX.out.trans hx)
      replace HB := Lib.hid (HB.out.ext hx)
      replace HO := Lib.hid (own_ext HO.out hx)
      obtain ⟨p0, p1, p2, p3, p4, p5⟩ := st_at6 HB.out
      clear hx hs6
      go_wp2_with (at_builtin; refine stop_here ?_)
      refine stop_on ?_
      refine app_u8 _ rfl _ _ rfl (w.heap.size + 1) _ (5 + 6 * m) (headW vs next' m) rfl HO.out S6 (2 + 3 * t) d6 (printT (ts.map tkB2)) rfl HPL.out HS6.out (by omega) (by have := HB.out.lt; omega) ?_
      intro S7 c7 w7 ho hg
      replace HX := Lib.hid (HX.out.app HO.out (by omega) hg)
      replace HB := Lib.hid (HB.out.grown hg (own_old HO.out (by omega)))
      replace HO := Lib.hid ho
      obtain ⟨p0, p1, p2, p3, p4, p5⟩ := st_at6 HB.out
      clear ho hg
      go_wp2_with (go_at_call 116; refine stop_here ?_)
      refine stop_on ?_
      refine (bkWith_to (w.heap.size + 1) S7 (headW vs next' m ++ printT (ts.map tkB2)) (5 + 6 * m + (2 + 3 * t)) c7 (keep') 2 (5 + 6 * m + (2 + 3 * t) + 2) _ HO.out (by have := HB.out.lt; omega) (by omega) (by omega) (by omega) (by omega) (by omega)).mono ?_
      rintro e w8 ⟨S8, c8, rfl, ho, hg⟩
      replace HX := Lib.hid (HX.out.app HO.out (by omega) hg)
      replace HB := Lib.hid (HB.out.grown hg (own_old HO.out (by omega)))
      replace HO := Lib.hid ho
      obtain ⟨p0, p1, p2, p3, p4, p5⟩ := st_at6 HB.out
      clear ho hg
      go_wp2_with (go_at_call 116; refine stop_here ?_)
      refine stop_on ?_
      refine (bkWith_to (w.heap.size + 1) S8 (headW vs next' m ++ printT (ts.map tkB2) ++ putL keep' 2) (5 + 6 * m + (2 + 3 * t) + 2) c8 (n) 2 (11 + 6 * m + 3 * t + 2 * 0) _ HO.out (by have := HB.out.lt; omega) (by omega) (by omega) (by omega) (by omega) (by omega)).mono ?_
      rintro e w9 ⟨S9, c9, rfl, ho, hg⟩
      replace HX := Lib.hid (HX.out.app HO.out (by omega) hg)
      replace HB := Lib.hid (HB.out.grown hg (own_old HO.out (by omega)))
      replace HO := Lib.hid ho
      obtain ⟨p0, p1, p2, p3, p4, p5⟩ := st_at6 HB.out
      clear ho hg
      replace HO := Lib.hid (show w9.ownsRow (w.heap.size + 1) 5 1 (.slice S9 (11 + 6 * m + 3 * t + 2 * 0) c9) (11 + 6 * m + 3 * t + 2 * 0) ((tailW (c.map (·.ref)) keep' vs ts next' 0).map bv) from by
        rw [show tailW (c.map (·.ref)) keep' vs ts next' 0 = headW vs next' m ++ printT (ts.map tkB2) ++ putL keep' 2 ++ putL n 2 from by
          unfold tailW
          rw [List.length_map, ← HN.out, ← HM.out]
          simp]
        exact HO.out)
      go_wp2_with fail
      clear p0 p1 p2 p3 p4 p5
      go_loopw [4, 57] (fun b i wr => ∃ (k : Nat) (S : Option Addr) (d : Nat), k ≤ n ∧ i = .int .i64 k ∧ b = .slice S (11 + 6 * m + 3 * t + 2 * k) d ∧ wr.ownsRow (w.heap.size + 1) 5 1 (.slice S (11 + 6 * m + 3 * t + 2 * k) d) (11 + 6 * m + 3 * t + 2 * k) ((tailW (c.map (·.ref)) keep' vs ts next' k).map bv) ∧ Bx wr w.heap.size #[.slice R n q, .int .i64 keep', .slice V m cv, .slice L t cl, .int .i64 next', .int .i64 gen] ∧ Ext w wr) (fun _ i _ => n - (intOf i).toNat)
      case atStart => exact ⟨0, S9, c9, Nat.zero_le _, rfl, rfl, HO.out, HB.out, HX.out⟩
      case round =>
        clear HX HB HO
        obtain ⟨k, S, d, hk, rfl, rfl, ho, hb, hx⟩ := hrel
        have HO := Lib.hid ho
        have HB := Lib.hid hb
        have HX := Lib.hid hx
        obtain ⟨p0, p1, p2, p3, p4, p5⟩ := st_at6 HB.out
        clear ho hb hx
        rcases Nat.lt_or_ge k n with hlt | hge
        · have hkl : k < c.length := by rw [← HN.out]; exact hlt
          obtain ⟨b, off, rfl, _, AI, ci, a0, a1, a2, a3, _⟩ := (HA.out.ext HX.out).cell hkl
          have hki : (k : Int) < (n : Int) := by omega
          have HST := Lib.hid (tailW_step (refs := c.map (·.ref)) (keep := keep') (vs := vs) (ts := ts) (next := next') (k := k) (by rw [List.length_map]; exact hkl))
          rw [List.getElem_map] at HST
          have hvb := HCB.out k hkl
          generalize c[k] = x at *
          obtain ⟨rf, pn, lf, it⟩ := x
          simp only at a0 a1 a2 a3 HST hvb
          obtain ⟨r, rfl⟩ : ∃ r : Nat, rf = r := ⟨rf.toNat, by omega⟩
          have hr : r ≤ 65535 := by omega
          rw [Int.toNat_natCast] at HST
          clear hvb
          have hy := (Ext.refl wr).alloc (.cells #[.int .i64 r, .bool pn, .bool lf, .slice AI it.length ci] 72)
          have HVX := Lib.hid (Bx.new wr #[.int .i64 r, .bool pn, .bool lf, .slice AI it.length ci] 72)
          replace HX := Lib.hid (HX.out.trans hy)
          replace HB := Lib.hid (HB.out.ext hy)
          replace HO := Lib.hid (own_ext HO.out hy)
          obtain ⟨v0, v1, v2, v3⟩ := HVX.out.read4
          obtain ⟨p0, p1, p2, p3, p4, p5⟩ := st_at6 HB.out
          clear hy
          go_wp2_with (go_at_call 116; refine stop_here ?_)
          refine stop_on ?_
          refine (bkWith_to (w.heap.size + 1) S (tailW (c.map (·.ref)) keep' vs ts next' k) (11 + 6 * m + 3 * t + 2 * k) d (r) 2 (11 + 6 * m + 3 * t + 2 * (k + 1)) _ HO.out (by have := HB.out.lt; omega) (by omega) (by omega) (by omega) (by omega) (by omega)).mono ?_
          rintro e w4 ⟨S4, c4, rfl, ho, hg⟩
          replace HX := Lib.hid (HX.out.app HO.out (by omega) hg)
          replace HB := Lib.hid (HB.out.grown hg (own_old HO.out (by omega)))
          replace HO := Lib.hid ho
          obtain ⟨p0, p1, p2, p3, p4, p5⟩ := st_at6 HB.out
          clear ho hg
          go_wp2
          go_roundw
          case rel => exact ⟨k + 1, S4, c4, by omega, by go_num, rfl, by rw [HST.out]; exact HO.out, HB.out, HX.out⟩
          case measure => simp [intOf]; omega
        · obtain rfl : n = k := by omega
          clear hge
          have HE := Lib.hid (show tailW (c.map (·.ref)) keep' vs ts next' n = bookW (c.map (·.ref)) keep' vs ts next' from by rw [← tailW_end, List.length_map, HN.out])
          go_wp2
          go_ret2
          exact ⟨S, d, rfl, by rw [← HE.out]; exact own_sl HO.out, HX.out⟩
end Go.Proofs.YtnlkakbpcdfgfaaGreat
