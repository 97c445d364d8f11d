/- The walk of GrowFills. -/
import Derived.Test.YtkoomcbiddanfaaK31
import Derived.Deep.AppendLies
import Derived.Deep.RegionHeld3
import Derived.Deep.DeepCutAuto
import Derived.Deep.DrawnRows
import Derived.RegionTactic
namespace Go.Proofs.Ytkoomcbiddanfaa
open Go.RowKit
attribute [local go_sem ↓] Go.wp_at_zero Go.wp_at_succ

attribute [local go_sem] beq_self_eq_true bne_self_eq_false
theorem growNew_is (r N : Nat) (w : World) (hr : r < 40) (hN : N = r + 1) : Calls Try.prog 15 #[.int .i64 (1 + (r : Int)), .int .i64 0] w fun e w' => ∃ S d, e = .returned (.tuple #[.agg #[.slice S N d, .int .i64 0], .int .i64 0]) ∧ HcSl w' S N d (exN N) ∧ Ext w w' := by
  subst hN
  have h := ref05New_any (1 + (r : Int)) 0 w
  obtain ⟨e1, e2, _⟩ := new_fine (n := r + 1) (most := 60) (by omega) (by omega) (by decide)
  have e : (1 + (r : Int)) = ((r + 1 : Nat) : Int) := by omega
  rw [e] at h ⊢
  rw [e1, e2] at h
  simp only [List.length_replicate] at h
  exact h
theorem growFill_is {l : List HC} {R : Option Addr} {n q : Nat} {root : Int} {w : World} {A : Option Addr} {it : List It} {m c : Nat} {c2 : List HC} {r2 e2 : Int} (hf : fineB ⟨l, 0⟩ root 40 = true) (hm : m = it.length) (hmb : m ≤ 8) (h : fillR 0 it l root = (c2, r2, e2)) (hA : HcSl w R n q l) (hI : Sl w A m c (ivs it)) :
    Calls Try.prog 16 #[.agg #[.slice R n q, .int .i64 0], .int .i64 root, .slice A m c] w fun e w' => ∃ S d, e = .returned (.tuple #[.agg #[.slice S n d, .int .i64 0], .int .i64 r2, .int .i64 e2]) ∧ HcSl w' S n d c2 ∧ Ext w w' := by
  have h1 := growFill_any R l n q 0 root 40 A it m c w (by decide) hf hm (by omega) hA hI
  rw [h] at h1
  exact h1
theorem lastV_step {l : List It} {i j : Nat} (hj : j < l.length) (hij : i ≤ j) (key : Int) (o : Option Int) : lastV key o ((l.take (j + 1)).drop i) = if l[j].1 = key then some l[j].2 else lastV key o ((l.take j).drop i) := by
  rw [List.take_succ_eq_append_getElem hj, List.drop_append_of_le_length (by rw [List.length_take]; omega), lastV_append]
  rfl
set_option maxRecDepth 100000 in
set_option maxHeartbeats 4000000 in
theorem fills_long (A : Option Addr) (l : List It) (m c : Nat) (nn cc : Int) (w : World) (_hn : 0 ≤ nn ∧ nn < 256) (_hc : 0 ≤ cc ∧ cc < 256) (hm : m = l.length) (hI : Sl w A m c (ivs l)) (h8 : 8 < m) :
    Calls Try.prog 5 #[.int .u8 nn, .slice A m c, .int .u8 cc] w fun e w' => e = .returned (.bool true) ∧ Ext w w' := by
  have X_1 := Lib.hid (Ext.refl w)
  have I_2 := Lib.hid (hI)
  have HM := Lib.hid hm
  have hml := hI.len
  have hmc := hI.2.1
  have hcl := hI.2.2.1
  unfold maxLen at hml hcl
  clear hI hm
  have d0 : decide ((8 : Int) < (m : Int)) = true := decide_eq_true (by omega)
  have d1 : (8 : Int) < (m : Int) := by omega
  go_enter Try.func5, Try.ntmps5
  go_wp2_with (go_at_call 6; refine stop_here ?_)
  refine stop_on ?_
  refine (shown_any _).mono ?_
  rintro e w3 ⟨rfl, hx⟩
  have X_4 := Lib.hid (X_1.out.ext hx)
  have I_4 := Lib.hid (I_2.out.ext hx)
  clear X_1 I_2
  clear hx
  go_wp2
  go_ret
  exact ⟨rfl, X_4.out⟩
set_option maxRecDepth 100000 in
set_option maxHeartbeats 4000000 in
theorem fills_err (A : Option Addr) (l : List It) (m c : Nat) (nn cc : Int) (w : World) (hn : 0 ≤ nn ∧ nn < 256) (_hc : 0 ≤ cc ∧ cc < 256) (hm : m = l.length) (hI : Sl w A m c (ivs l)) (h8 : m ≤ 8) (r : Nat) (hr : nn % 40 = (r : Int)) (ca : List HC) (pa ea : Int) (hp : fillR 0 l (exN (r + 1)) (-1) = (ca, pa, ea)) (he : ea ≠ 0) :
    Calls Try.prog 5 #[.int .u8 nn, .slice A m c, .int .u8 cc] w fun e w' => e = .returned (.bool true) ∧ Ext w w' := by
  have X_5 := Lib.hid (Ext.refl w)
  have I_6 := Lib.hid (hI)
  have HM := Lib.hid hm
  have hml := hI.len
  have hmc := hI.2.1
  have hcl := hI.2.2.1
  unfold maxLen at hml hcl
  clear hI hm
  have d0 : decide ((8 : Int) < (m : Int)) = false := decide_eq_false (by omega)
  have d1 : ¬ (8 : Int) < (m : Int) := by omega
  have hr40 : r < 40 := by have := Int.emod_lt_of_pos nn (show (0 : Int) < 40 by omega); omega
  have htm : nn.tmod 40 = (r : Int) := by rw [Int.tmod_eq_emod_of_nonneg hn.1, hr]
  have hw1 : IntKind.i64.wrap nn = nn := by rw [IntKind.wrap_i64]; omega
  have hw2 : IntKind.i64.wrap (r : Int) = (r : Int) := by rw [IntKind.wrap_i64]; omega
  have hw3 : IntKind.i64.wrap (1 + (r : Int)) = 1 + (r : Int) := by rw [IntKind.wrap_i64]; omega
  have f0 : fineB ⟨exN (r + 1), 0⟩ (-1) 40 = true := (new_fine (n := r + 1) (most := 40) (by omega) (by omega) (by decide)).2.2
  obtain ⟨f1, f2, f3⟩ := fill_fine (by decide) l (exN (r + 1)) (-1) f0
  rw [hp] at f1 f2 f3
  simp only at f1 f2 f3
  obtain ⟨N, hN⟩ : ∃ N, N = r + 1 := ⟨_, rfl⟩
  rw [← hN] at f0 hp f3
  have HNN := Lib.hid hN
  have HF0 := Lib.hid f0
  have HF1 := Lib.hid f1
  have HP := Lib.hid hp
  have hne : (ea != 0) = true := by simp [he]
  have hc3 : ea = 3 ∨ ea = 1 := by
    rcases f2 with h | h | h
    · exact absurd h he
    · exact .inr h
    · exact .inl h
  clear hr hN f0 f1 f2 f3 hp he
  rcases hc3 with rfl | rfl
  all_goals
    go_enter Try.func5, Try.ntmps5
    go_wp2_with (go_at_call 6; refine stop_here ?_)
    refine stop_on ?_
    refine (shown_any _).mono ?_
    rintro e w7 ⟨rfl, hx⟩
    have X_8 := Lib.hid (X_5.out.ext hx)
    have I_8 := Lib.hid (I_6.out.ext hx)
    clear X_5 I_6
    clear hx
    go_wp2_with (go_at_call 15; refine stop_here ?_)
    refine stop_on ?_
    refine (growNew_is r N _ hr40 HNN.out).mono ?_
    rintro e w9 ⟨S0, t0, rfl, h0, hx⟩
    have X_10 := Lib.hid (X_8.out.ext hx)
    have I_10 := Lib.hid (I_8.out.ext hx)
    clear X_8 I_8
    have H0_11 := Lib.hid h0
    clear hx h0
    go_wp2_with (go_at_call 16; refine stop_here ?_)
    refine stop_on ?_
    generalize hW : (World.alloc w9 _) = W12
    obtain ⟨hx, hb0⟩ := allocs1 hW
    clear hW
    have X_13 := Lib.hid (X_10.out.ext hx)
    have I_13 := Lib.hid (I_10.out.ext hx)
    have H0_13 := Lib.hid (H0_11.out.ext hx)
    clear X_10 I_10 H0_11
    have h_14 := Lib.hid hb0
    clear hx hb0
    refine (growFill_is HF0.out HM.out h8 HP.out H0_13.out I_13.out).mono ?_
    rintro e w15 ⟨S1, t1, rfl, h1, hx⟩
    have X_16 := Lib.hid (X_13.out.ext hx)
    have I_16 := Lib.hid (I_13.out.ext hx)
    have H0_16 := Lib.hid (H0_13.out.ext hx)
    have h_16 := Lib.hid (h_14.out.ext hx)
    clear X_13 I_13 H0_13 h_14
    have H1_17 := Lib.hid h1
    clear hx h1
    have qh0 : w15.cell? ⟨w9.heap.size, 0, none⟩ = some (.slice S0 N t0) := h_16.out.at 0 _ rfl
    have qh1 : w15.cell? ⟨w9.heap.size, 1, none⟩ = some (.int .i64 0) := h_16.out.at 1 _ rfl
    have zh := h_16.out.lt
    go_wp2_with (go_at_call 7; refine stop_here ?_)
    refine stop_on ?_
    clear qh0 qh1 zh
    generalize hW : (World.alloc (World.alloc w15 _) _) = W18
    obtain ⟨hx, hb0, hb1⟩ := allocs2 hW
    clear hW
    have X_19 := Lib.hid (X_16.out.ext hx)
    have I_19 := Lib.hid (I_16.out.ext hx)
    have H0_19 := Lib.hid (H0_16.out.ext hx)
    have h_19 := Lib.hid (h_16.out.ext hx)
    have H1_19 := Lib.hid (H1_17.out.ext hx)
    clear X_16 I_16 H0_16 h_16 H1_17
    have a_20 := Lib.hid hb0
    have rt_21 := Lib.hid hb1
    clear hx hb0 hb1
    refine (growFine_is _ 1 40 HF1.out H1_19.out (show Sl _ _ 1 1 ([pa].map iv) from rt_21.out.slP 1 (by unfold maxLen; omega))).mono ?_
    rintro e w22 ⟨rfl, hx⟩
    have X_23 := Lib.hid (X_19.out.ext hx)
    have I_23 := Lib.hid (I_19.out.ext hx)
    have H0_23 := Lib.hid (H0_19.out.ext hx)
    have h_23 := Lib.hid (h_19.out.ext hx)
    have H1_23 := Lib.hid (H1_19.out.ext hx)
    have a_23 := Lib.hid (a_20.out.ext hx)
    have rt_23 := Lib.hid (rt_21.out.ext hx)
    clear X_19 I_19 H0_19 h_19 H1_19 a_20 rt_21
    clear hx
    have qh0 : w22.cell? ⟨w9.heap.size, 0, none⟩ = some (.slice S0 N t0) := h_23.out.at 0 _ rfl
    have qh1 : w22.cell? ⟨w9.heap.size, 1, none⟩ = some (.int .i64 0) := h_23.out.at 1 _ rfl
    have zh := h_23.out.lt
    have qa0 : w22.cell? ⟨w15.heap.size, 0, none⟩ = some (.slice S1 N t1) := a_23.out.at 0 _ rfl
    have qa1 : w22.cell? ⟨w15.heap.size, 1, none⟩ = some (.int .i64 0) := a_23.out.at 1 _ rfl
    have za := a_23.out.lt
    have qrt0 : w22.cell? ⟨w15.heap.size + 1, 0, none⟩ = some (.int .i64 pa) := rt_23.out.at 0 _ rfl
    have zrt := rt_23.out.lt
    go_wp2
    go_ret
    exact ⟨rfl, X_23.out⟩
set_option maxRecDepth 100000 in
set_option maxHeartbeats 4000000 in
theorem fills_ok (A : Option Addr) (l : List It) (m c : Nat) (nn cc : Int) (w : World) (hn : 0 ≤ nn ∧ nn < 256) (hc : 0 ≤ cc ∧ cc < 256) (hm : m = l.length) (hI : Sl w A m c (ivs l)) (h8 : m ≤ 8) (r : Nat) (hr : nn % 40 = (r : Int)) (ca : List HC) (pa : Int) (hp : fillR 0 l (exN (r + 1)) (-1) = (ca, pa, 0)) :
    Calls Try.prog 5 #[.int .u8 nn, .slice A m c, .int .u8 cc] w fun e w' => e = .returned (.bool true) ∧ Ext w w' := by
  have X_24 := Lib.hid (Ext.refl w)
  have I_25 := Lib.hid (hI)
  have HM := Lib.hid hm
  have hml := hI.len
  have hmc := hI.2.1
  have hcl := hI.2.2.1
  unfold maxLen at hml hcl
  clear hI hm
  have d0 : decide ((8 : Int) < (m : Int)) = false := decide_eq_false (by omega)
  have d1 : ¬ (8 : Int) < (m : Int) := by omega
  have hr40 : r < 40 := by have := Int.emod_lt_of_pos nn (show (0 : Int) < 40 by omega); omega
  have htm : nn.tmod 40 = (r : Int) := by rw [Int.tmod_eq_emod_of_nonneg hn.1, hr]
  have hw1 : IntKind.i64.wrap nn = nn := by rw [IntKind.wrap_i64]; omega
  have hw2 : IntKind.i64.wrap (r : Int) = (r : Int) := by rw [IntKind.wrap_i64]; omega
  have hw3 : IntKind.i64.wrap (1 + (r : Int)) = 1 + (r : Int) := by rw [IntKind.wrap_i64]; omega
  have f0 : fineB ⟨exN (r + 1), 0⟩ (-1) 40 = true := (new_fine (n := r + 1) (most := 40) (by omega) (by omega) (by decide)).2.2
  obtain ⟨f1, f2, f3⟩ := fill_fine (by decide) l (exN (r + 1)) (-1) f0
  rw [hp] at f1 f2 f3
  simp only at f1 f2 f3
  obtain ⟨N, hN⟩ : ∃ N, N = r + 1 := ⟨_, rfl⟩
  rw [← hN] at f0 hp f3
  have HNN := Lib.hid hN
  have HF0 := Lib.hid f0
  have HF1 := Lib.hid f1
  have HP := Lib.hid hp
  obtain ⟨k, hk⟩ : ∃ k : Nat, cc % ((m : Int) + 1) = (k : Int) := Int.eq_ofNat_of_zero_le (Int.emod_nonneg _ (by omega))
  have hkm : k ≤ m := by have := Int.emod_lt_of_pos cc (show (0 : Int) < (m : Int) + 1 by omega); omega
  have htm2 : cc.tmod ((m : Int) + 1) = (k : Int) := by rw [Int.tmod_eq_emod_of_nonneg hc.1, hk]
  have hw4 : IntKind.i64.wrap cc = cc := by rw [IntKind.wrap_i64]; omega
  have hw5 : IntKind.i64.wrap ((m : Int) + 1) = (m : Int) + 1 := by rw [IntKind.wrap_i64]; omega
  have hw6 : IntKind.i64.wrap (k : Int) = (k : Int) := by rw [IntKind.wrap_i64]; omega
  have hap := fill_append (keep := 0) (l.take k) (l.drop k) (exN N) (-1) (by rw [List.take_append_drop, hp])
  rw [List.take_append_drop, hp] at hap
  obtain ⟨⟨cb, pb, eb⟩, hq⟩ : ∃ x, fillR 0 (l.take k) (exN N) (-1) = x := ⟨_, rfl⟩
  rw [hq] at hap
  simp only at hap
  obtain ⟨rfl, hap2⟩ := hap
  have g1 := (fill_fine (keep := 0) (most := 40) (by decide) (l.take k) (exN N) (-1) f0).1
  rw [hq] at g1
  have HFB := Lib.hid g1
  have HQ := Lib.hid hq
  have HQ2 := Lib.hid hap2.symm
  obtain ⟨j1, j2, j3⟩ := f3 trivial
  have e0 : listT (exN N) (-1) = [] := rfl
  rw [e0] at j1
  have HGT := Lib.hid (fun (i : Nat) (hi : i < l.length) (v : Int) (h : lastV l[i].1 (some l[i].2) (l.drop i) = some v) => (show getT ca pa l[i].1 = some v from by rw [getT_F, j1, getF_fold, lastV_self hi]; exact h))
  obtain ⟨ll, hll⟩ : ∃ k, (listT ca pa).length = k := ⟨_, rfl⟩
  have HLL := Lib.hid hll
  have hle : ll ≤ m := by
    have := fold_len l []
    rw [← j1, hll] at this
    have := HM.out
    simp at *
    omega
  obtain ⟨a1, b1, c1, _⟩ := fine_all f1
  have A1 := Lib.hid a1
  have B1 := Lib.hid b1
  have D1 := Lib.hid c1
  obtain ⟨bb, hb1, hb2⟩ : ∃ bb : Bool, (pa == -1) = bb ∧ ((m : Int) == 0) = bb := by
    by_cases h0 : l = []
    · refine ⟨true, ?_, ?_⟩
      · rw [j3 h0]; rfl
      · have := HM.out; rw [h0] at this; simp at this; subst this; rfl
    · refine ⟨false, ?_, ?_⟩
      · have := j2 h0; simp; omega
      · have h1 := HM.out; have : l.length ≠ 0 := by simpa using h0
        simp; omega
  have d5 : decide ((ll : Int) ≤ (m : Int)) = true := decide_eq_true (by omega)
  have d6 : decide (ll ≤ m) = true := decide_eq_true hle
  have i1 : (k : Int) ≤ (c : Int) := by omega
  have i2 : (m : Int) ≤ (c : Int) := by omega
  have i3 : (k : Int) ≤ (m : Int) := by omega
  obtain ⟨S3, hI3⟩ : ∃ X, (if c = k then A else A.map (fun x => x.add (k * 2))) = X := ⟨_, rfl⟩
  have P1_26 := Lib.hid ((I_25.out.pre HM.out k hkm))
  have hpost := I_25.out.post HM.out k hkm
  rw [hI3] at hpost
  have P2_27 := Lib.hid (hpost)
  have HK1 := Lib.hid (show k = (l.take k).length from by have := HM.out; rw [List.length_take]; omega)
  have HK2 := Lib.hid (show m - k = (l.drop k).length from by have := HM.out; rw [List.length_drop]; omega)
  have h8k : k ≤ 8 := by omega
  have h8m : m - k ≤ 8 := by omega
  clear hr hN f0 f1 f2 f3 hp hk hq hap2 g1 j1 j2 j3 e0 hll hle a1 b1 c1 hpost
  go_enter Try.func5, Try.ntmps5
  go_wp2_with (go_at_call 6; refine stop_here ?_)
  refine stop_on ?_
  refine (shown_any _).mono ?_
  rintro e w28 ⟨rfl, hx⟩
  have X_29 := Lib.hid (X_24.out.ext hx)
  have I_29 := Lib.hid (I_25.out.ext hx)
  have P1_29 := Lib.hid (P1_26.out.ext hx)
  have P2_29 := Lib.hid (P2_27.out.ext hx)
  clear X_24 I_25 P1_26 P2_27
  clear hx
  go_wp2_with (go_at_call 15; refine stop_here ?_)
  refine stop_on ?_
  refine (growNew_is r N _ hr40 HNN.out).mono ?_
  rintro e w30 ⟨S0, t0, rfl, h0, hx⟩
  have X_31 := Lib.hid (X_29.out.ext hx)
  have I_31 := Lib.hid (I_29.out.ext hx)
  have P1_31 := Lib.hid (P1_29.out.ext hx)
  have P2_31 := Lib.hid (P2_29.out.ext hx)
  clear X_29 I_29 P1_29 P2_29
  have H0_32 := Lib.hid h0
  clear hx h0
  go_wp2_with (go_at_call 16; refine stop_here ?_)
  refine stop_on ?_
  generalize hW : (World.alloc w30 _) = W33
  obtain ⟨hx, hb0⟩ := allocs1 hW
  clear hW
  have X_34 := Lib.hid (X_31.out.ext hx)
  have I_34 := Lib.hid (I_31.out.ext hx)
  have P1_34 := Lib.hid (P1_31.out.ext hx)
  have P2_34 := Lib.hid (P2_31.out.ext hx)
  have H0_34 := Lib.hid (H0_32.out.ext hx)
  clear X_31 I_31 P1_31 P2_31 H0_32
  have h_35 := Lib.hid hb0
  clear hx hb0
  refine (growFill_is HF0.out HM.out h8 HP.out H0_34.out I_34.out).mono ?_
  rintro e w36 ⟨S1, t1, rfl, h1, hx⟩
  have X_37 := Lib.hid (X_34.out.ext hx)
  have I_37 := Lib.hid (I_34.out.ext hx)
  have P1_37 := Lib.hid (P1_34.out.ext hx)
  have P2_37 := Lib.hid (P2_34.out.ext hx)
  have H0_37 := Lib.hid (H0_34.out.ext hx)
  have h_37 := Lib.hid (h_35.out.ext hx)
  clear X_34 I_34 P1_34 P2_34 H0_34 h_35
  have H1_38 := Lib.hid h1
  clear hx h1
  have qh0 : w36.cell? ⟨w30.heap.size, 0, none⟩ = some (.slice S0 N t0) := h_37.out.at 0 _ rfl
  have qh1 : w36.cell? ⟨w30.heap.size, 1, none⟩ = some (.int .i64 0) := h_37.out.at 1 _ rfl
  have zh := h_37.out.lt
  go_wp2_with (go_at_call 7; refine stop_here ?_)
  refine stop_on ?_
  clear qh0 qh1 zh
  generalize hW : (World.alloc (World.alloc w36 _) _) = W39
  obtain ⟨hx, hb0, hb1⟩ := allocs2 hW
  clear hW
  have X_40 := Lib.hid (X_37.out.ext hx)
  have I_40 := Lib.hid (I_37.out.ext hx)
  have P1_40 := Lib.hid (P1_37.out.ext hx)
  have P2_40 := Lib.hid (P2_37.out.ext hx)
  have H0_40 := Lib.hid (H0_37.out.ext hx)
  have h_40 := Lib.hid (h_37.out.ext hx)
  have H1_40 := Lib.hid (H1_38.out.ext hx)
  clear X_37 I_37 P1_37 P2_37 H0_37 h_37 H1_38
  have a_41 := Lib.hid hb0
  have rt_42 := Lib.hid hb1
  clear hx hb0 hb1
  refine (growFine_is _ 1 40 HF1.out H1_40.out (show Sl _ _ 1 1 ([pa].map iv) from rt_42.out.slP 1 (by unfold maxLen; omega))).mono ?_
  rintro e w43 ⟨rfl, hx⟩
  have X_44 := Lib.hid (X_40.out.ext hx)
  have I_44 := Lib.hid (I_40.out.ext hx)
  have P1_44 := Lib.hid (P1_40.out.ext hx)
  have P2_44 := Lib.hid (P2_40.out.ext hx)
  have H0_44 := Lib.hid (H0_40.out.ext hx)
  have h_44 := Lib.hid (h_40.out.ext hx)
  have H1_44 := Lib.hid (H1_40.out.ext hx)
  have a_44 := Lib.hid (a_41.out.ext hx)
  have rt_44 := Lib.hid (rt_42.out.ext hx)
  clear X_40 I_40 P1_40 P2_40 H0_40 h_40 H1_40 a_41 rt_42
  clear hx
  have qh0 : w43.cell? ⟨w30.heap.size, 0, none⟩ = some (.slice S0 N t0) := h_44.out.at 0 _ rfl
  have qh1 : w43.cell? ⟨w30.heap.size, 1, none⟩ = some (.int .i64 0) := h_44.out.at 1 _ rfl
  have zh := h_44.out.lt
  have qa0 : w43.cell? ⟨w36.heap.size, 0, none⟩ = some (.slice S1 N t1) := a_44.out.at 0 _ rfl
  have qa1 : w43.cell? ⟨w36.heap.size, 1, none⟩ = some (.int .i64 0) := a_44.out.at 1 _ rfl
  have za := a_44.out.lt
  have qrt0 : w43.cell? ⟨w36.heap.size + 1, 0, none⟩ = some (.int .i64 pa) := rt_44.out.at 0 _ rfl
  have zrt := rt_44.out.lt
  have GG45 := Lib.hid (fun w' (hx : Ext w43 w') => growFill_is HF0.out HK1.out h8k HQ.out (H0_44.out.ext hx) (P1_44.out.ext hx))
  have hal := (Ext.refl w43).alloc (.cells #[.slice none 0 0, .int .i64 0] 24)
  obtain ⟨pa0, pa1, pa2⟩ := (h_44.out.ext hal).read2
  clear hal
  go_wp2_with fail
  go_cut [14, 15, 16] from 67 to 76 (fun v u y wx => ∃ X S' d', v = .pointer (some ⟨X, 0, none⟩) ∧ u = .int .i64 pb ∧ y = .int .i64 0 ∧ Bx wx X #[.slice S' N d', .int .i64 0] ∧ HcSl wx S' N d' cb ∧ Ext w43 wx)
  case first =>
    go_region_law
      (first
        | ((go_simp
            go_at_call 16
            refine (GG45.out _ ?_).mono ?_
            (first | exact (Ext.refl _).drew | exact ((Ext.refl _).drew).alloc _ | exact ((Ext.refl _).alloc _).drew | exact Ext.refl _)
            rintro e w4 ⟨S4, d4, rfl, hs4, hx4⟩
            have E4 := Lib.hid (show Ext w43 w4 from by first | exact (Ext.refl _).drew.trans hx4 | exact (((Ext.refl _).drew).alloc _).trans hx4 | exact (((Ext.refl _).alloc _).drew).trans hx4 | exact hx4)
            have N4 := Lib.hid hs4
            (try (have B4 := Lib.hid (show Bx w4 w43.heap.size #[.slice none 0 0, .int .i64 0] from (Bx.new w43.drew _ _).ext hx4); have f0 := B4.out.free 0; have f1 := B4.out.free 1; have z1 := B4.out.lt; have q0 : w4.cell? ⟨w43.heap.size, 0, none⟩ = some (.slice none 0 0) := B4.out.at 0 _ rfl; have q1 : w4.cell? ⟨w43.heap.size, 1, none⟩ = some (.int .i64 0) := B4.out.at 1 _ rfl))
            clear hs4 hx4)))
    all_goals
      go_wp2_with fail
      go_meet
      first
      | exact ⟨_, S4, d4, rfl, rfl, rfl, Bx.new _ _ _, N4.out.ext ((Ext.refl _).alloc _), E4.out.alloc _⟩
      | exact ⟨_, S4, d4, rfl, rfl, rfl, B4.out.set2 _ _, N4.out.boxed2 B4.out _ _, E4.out.store2 (Nat.le_refl _) _ _⟩
  case rest =>
    obtain ⟨X45, Sb, tb, rfl, rfl, rfl, hB, hs, hx⟩ := hcut
    have hwc := hx.size
    clear hwc pa0 pa1 pa2 GG45
    clear qh0 qh1 zh qa0 qa1 za qrt0 zrt
    have X_46 := Lib.hid (X_44.out.ext hx)
    have I_46 := Lib.hid (I_44.out.ext hx)
    have P1_46 := Lib.hid (P1_44.out.ext hx)
    have P2_46 := Lib.hid (P2_44.out.ext hx)
    have H0_46 := Lib.hid (H0_44.out.ext hx)
    have h_46 := Lib.hid (h_44.out.ext hx)
    have H1_46 := Lib.hid (H1_44.out.ext hx)
    have a_46 := Lib.hid (a_44.out.ext hx)
    have rt_46 := Lib.hid (rt_44.out.ext hx)
    clear X_44 I_44 P1_44 P2_44 H0_44 h_44 H1_44 a_44 rt_44
    have b_47 := Lib.hid (hB)
    have H2_48 := Lib.hid (hs)
    clear hB hs hx
    have qh0 : wc.cell? ⟨w30.heap.size, 0, none⟩ = some (.slice S0 N t0) := h_46.out.at 0 _ rfl
    have qh1 : wc.cell? ⟨w30.heap.size, 1, none⟩ = some (.int .i64 0) := h_46.out.at 1 _ rfl
    have zh := h_46.out.lt
    have qa0 : wc.cell? ⟨w36.heap.size, 0, none⟩ = some (.slice S1 N t1) := a_46.out.at 0 _ rfl
    have qa1 : wc.cell? ⟨w36.heap.size, 1, none⟩ = some (.int .i64 0) := a_46.out.at 1 _ rfl
    have za := a_46.out.lt
    have zrt := rt_46.out.lt
    have qb0 : wc.cell? ⟨X45, 0, none⟩ = some (.slice Sb N tb) := b_47.out.at 0 _ rfl
    have qb1 : wc.cell? ⟨X45, 1, none⟩ = some (.int .i64 0) := b_47.out.at 1 _ rfl
    have zb := b_47.out.lt
    generalize hwc : wc = wD at *
    clear hwc
    have GG49 := Lib.hid (fun w' (hx : Ext wD w') => growFill_is HFB.out HK2.out h8m HQ2.out (H2_48.out.ext hx) (P2_46.out.ext hx))
    have hal := (Ext.refl wD).alloc (.cells #[.slice none 0 0, .int .i64 0] 24)
    obtain ⟨pa0, pa1, pa2⟩ := (b_47.out.ext hal).read2
    clear hal
    go_wp2_with fail
    go_cut [17, 18, 19] from 76 to 86 (fun v u y wx => ∃ X S' d', v = .pointer (some ⟨X, 0, none⟩) ∧ u = .int .i64 pa ∧ y = .int .i64 0 ∧ Bx wx X #[.slice S' N d', .int .i64 0] ∧ HcSl wx S' N d' ca ∧ Ext wD wx)
    case first =>
      go_region_law
        (first
          | ((go_simp
              go_at_call 16
              refine (GG49.out _ ?_).mono ?_
              (first | exact (Ext.refl _).drew | exact ((Ext.refl _).drew).alloc _ | exact ((Ext.refl _).alloc _).drew | exact Ext.refl _)
              rintro e w4 ⟨S4, d4, rfl, hs4, hx4⟩
              have E4 := Lib.hid (show Ext wD w4 from by first | exact (Ext.refl _).drew.trans hx4 | exact (((Ext.refl _).drew).alloc _).trans hx4 | exact (((Ext.refl _).alloc _).drew).trans hx4 | exact hx4)
              have N4 := Lib.hid hs4
              (try (have B4 := Lib.hid (show Bx w4 wD.heap.size #[.slice none 0 0, .int .i64 0] from (Bx.new wD.drew _ _).ext hx4); have f0 := B4.out.free 0; have f1 := B4.out.free 1; have z1 := B4.out.lt; have q0 : w4.cell? ⟨wD.heap.size, 0, none⟩ = some (.slice none 0 0) := B4.out.at 0 _ rfl; have q1 : w4.cell? ⟨wD.heap.size, 1, none⟩ = some (.int .i64 0) := B4.out.at 1 _ rfl))
              clear hs4 hx4)))
      all_goals
        go_wp2_with fail
        go_meet
        first
        | exact ⟨_, S4, d4, rfl, rfl, rfl, Bx.new _ _ _, N4.out.ext ((Ext.refl _).alloc _), E4.out.alloc _⟩
        | exact ⟨_, S4, d4, rfl, rfl, rfl, B4.out.set2 _ _, N4.out.boxed2 B4.out _ _, E4.out.store2 (Nat.le_refl _) _ _⟩
    case rest =>
      obtain ⟨X49, Sc, tc, rfl, rfl, rfl, hB, hs, hx⟩ := hcut
      have hwc := hx.size
      clear hwc pa0 pa1 pa2 GG49
      clear qh0 qh1 zh qa0 qa1 za zrt qb0 qb1 zb
      have X_50 := Lib.hid (X_46.out.ext hx)
      have I_50 := Lib.hid (I_46.out.ext hx)
      have P1_50 := Lib.hid (P1_46.out.ext hx)
      have P2_50 := Lib.hid (P2_46.out.ext hx)
      have H0_50 := Lib.hid (H0_46.out.ext hx)
      have h_50 := Lib.hid (h_46.out.ext hx)
      have H1_50 := Lib.hid (H1_46.out.ext hx)
      have a_50 := Lib.hid (a_46.out.ext hx)
      have rt_50 := Lib.hid (rt_46.out.ext hx)
      have b_50 := Lib.hid (b_47.out.ext hx)
      have H2_50 := Lib.hid (H2_48.out.ext hx)
      clear X_46 I_46 P1_46 P2_46 H0_46 h_46 H1_46 a_46 rt_46 b_47 H2_48
      have c_51 := Lib.hid (hB)
      have H3_52 := Lib.hid (hs)
      clear hB hs hx
      have qh0 : wc.cell? ⟨w30.heap.size, 0, none⟩ = some (.slice S0 N t0) := h_50.out.at 0 _ rfl
      have qh1 : wc.cell? ⟨w30.heap.size, 1, none⟩ = some (.int .i64 0) := h_50.out.at 1 _ rfl
      have zh := h_50.out.lt
      have qa0 : wc.cell? ⟨w36.heap.size, 0, none⟩ = some (.slice S1 N t1) := a_50.out.at 0 _ rfl
      have qa1 : wc.cell? ⟨w36.heap.size, 1, none⟩ = some (.int .i64 0) := a_50.out.at 1 _ rfl
      have za := a_50.out.lt
      have zrt := rt_50.out.lt
      have qb0 : wc.cell? ⟨X45, 0, none⟩ = some (.slice Sb N tb) := b_50.out.at 0 _ rfl
      have qb1 : wc.cell? ⟨X45, 1, none⟩ = some (.int .i64 0) := b_50.out.at 1 _ rfl
      have zb := b_50.out.lt
      have qc0 : wc.cell? ⟨X49, 0, none⟩ = some (.slice Sc N tc) := c_51.out.at 0 _ rfl
      have qc1 : wc.cell? ⟨X49, 1, none⟩ = some (.int .i64 0) := c_51.out.at 1 _ rfl
      have zc := c_51.out.lt
      clear qh0 qh1 zh qa0 qa1 za zrt qb0 qb1 zb qc0 qc1 zc
      generalize hwc : wc = wD at *
      clear hwc
      go_wp2_with fail
      go_loopw [20] (fun i wr => ∃ j : Nat, j ≤ m ∧ i = .int .i64 j ∧ Ext wD wr) (fun i _ => m - (intOf i).toNat)
      case atStart => exact ⟨0, Nat.zero_le _, rfl, Ext.refl _⟩
      case round =>
        obtain ⟨i, hi, rfl, hx⟩ := hrel
        have HXR := Lib.hid hx
        clear hx
        rcases Nat.lt_or_ge i m with hlt | hlt
        · have hil : i < l.length := by rw [← HM.out]; exact hlt
          have hii : (i : Int) < (m : Int) := by omega
          obtain ⟨bA, oA, rfl, hbA, c0, c1⟩ := it_at (I_50.out.ext HXR.out) hil
          have HSL := Lib.hid I_50.out
          have HG := Lib.hid (HGT.out i hil)
          have HST := Lib.hid (fun (j : Nat) (hj : j < l.length) (hij : i ≤ j) => lastV_step (l := l) hj hij l[i].1 (some l[i].2))
          have HS0 := Lib.hid (show lastV l[i].1 (some l[i].2) ((l.take i).drop i) = some l[i].2 from by rw [List.drop_of_length_le (by rw [List.length_take]; omega)]; rfl)
          generalize l[i].1 = ky at *
          generalize l[i].2 = vl at *
          go_wp2_with fail
          go_loopw [21, 22] (fun la jv wq => ∃ (j : Nat) (v : Int), i ≤ j ∧ j ≤ m ∧ jv = .int .i64 j ∧ la = .int .i64 v ∧ lastV ky (some vl) ((l.take j).drop i) = some v ∧ Ext wr wq) (fun _ jv _ => m - (intOf jv).toNat)
          case atStart => exact ⟨i, vl, Nat.le_refl _, by omega, rfl, rfl, HS0.out, Ext.refl _⟩
          case round =>
            obtain ⟨j, v, hij, hj, rfl, rfl, hla, hx⟩ := hrel
            have HLA := Lib.hid hla
            have HXQ := Lib.hid hx
            clear hla hx
            rcases Nat.lt_or_ge j m with hjt | hjt
            · have hjl : j < l.length := by rw [← HM.out]; exact hjt
              have hjj : (j : Int) < (m : Int) := by omega
              obtain ⟨bB, oB, eB, hbB, e0, e1⟩ := it_at (HSL.out.ext (HXR.out.trans HXQ.out)) hjl
              cases eB
              have e2 := (HXQ.out.cell (p := ⟨bA, oA + i * 2, none⟩) hbA).trans c0
              have HN := Lib.hid (HST.out j hjl hij)
              generalize l[j].1 = kj at *
              generalize l[j].2 = vj at *
              rcases Decidable.em (kj = ky) with he | he
              · have t0 : (kj == ky) = true := by simp [he]
                have HE := Lib.hid (HN.out.trans (if_pos he))
                clear he hjl
                go_wp2_with fail
                go_quiet (fail)
                go_wp2_with fail
                go_roundw
                case rel => exact ⟨j + 1, vj, by omega, by omega, by go_num, rfl, HE.out, HXQ.out.drewN _⟩
                case measure => simp [intOf]; omega
              · have t0 : (kj == ky) = false := by simp [he]
                have HE := Lib.hid ((HN.out.trans (if_neg he)).trans HLA.out)
                clear he hjl
                go_wp2_with fail
                go_quiet (fail)
                go_wp2_with fail
                go_roundw
                case rel => exact ⟨j + 1, v, by omega, by omega, by go_num, rfl, HE.out, HXQ.out.drewN _⟩
                case measure => simp [intOf]; omega
            · obtain rfl : m = j := by omega
              have hdl : (l.take m).drop i = l.drop i := by rw [HM.out, List.take_length]
              have HV := Lib.hid (HG.out v (by rw [← hdl]; exact HLA.out))
              have HXC := Lib.hid (HXR.out.trans HXQ.out)
              have d7 : decide ((m : Int) < (m : Int)) = false := decide_eq_false (by omega)
              obtain ⟨x0, x1, x2⟩ := (a_50.out.ext HXC.out).read2
              have e2 := (HXQ.out.cell (p := ⟨bA, oA + i * 2, none⟩) hbA).trans c0
              have HGE := Lib.hid (fun w' (hx : Ext wD w') => growGet_is ky A1.out B1.out D1.out HV.out (H1_50.out.ext hx))
              clear hdl hjt
              go_wp2_with fail
              go_region_law
                (first
                  | ((go_simp
                      go_at_call 14
                      refine (HGE.out _ ?_).mono ?_
                      (first | exact HXC.out | exact HXC.out.drew)
                      rintro e w5 ⟨rfl, hx5⟩
                      have E5 := Lib.hid (show Ext wD w5 from by first | exact HXC.out.trans hx5 | exact HXC.out.drew.trans hx5)
                      clear hx5)))
              all_goals
                go_wp2_with fail
                go_roundw
                case rel => exact ⟨i + 1, by omega, by go_num, E5.out⟩
                case measure => simp [intOf]; omega
        · obtain rfl : m = i := by omega
          have d7 : decide ((m : Int) < (m : Int)) = false := decide_eq_false (by omega)
          obtain ⟨x0, x1, x2⟩ := (a_50.out.ext HXR.out).read2
          obtain ⟨y0, y1, y2⟩ := (c_51.out.ext HXR.out).read2
          have HSA := Lib.hid (fun w' (hx : Ext wD w') => growSame_is (keep := 0) _ _ _ (H1_50.out.ext hx) (H3_52.out.ext hx))
          have HLI := Lib.hid (fun w' (hx : Ext wD w') => growList_is A1.out B1.out D1.out rfl HLL.out (H1_50.out.ext hx))
          clear hlt
          go_wp2_with (go_at_call 17; refine stop_here ?_)
          refine stop_on ?_
          refine (HSA.out _ HXR.out).mono ?_
          rintro e w6 ⟨rfl, hx6⟩
          have HX6 := Lib.hid (HXR.out.trans hx6)
          clear x0 x1 x2 y0 y1 y2 hx6
          obtain ⟨x0, x1, x2⟩ := (a_50.out.ext HX6.out).read2
          go_wp2_with (go_at_call 13; refine stop_here ?_)
          refine stop_on ?_
          refine (HLI.out _ HX6.out).mono ?_
          rintro e w7 ⟨S7, t7, rfl, h7, hx7⟩
          have HX7 := Lib.hid (X_50.out.trans (HX6.out.trans hx7))
          clear x0 x1 x2 h7 hx7
          go_wp2_with fail
          go_ret
          exact ⟨rfl, HX7.out⟩
theorem fills_any (A : Option Addr) (l : List It) (m c : Nat) (nn cc : Int) (w : World) (hn : 0 ≤ nn ∧ nn < 256) (hc : 0 ≤ cc ∧ cc < 256) (hm : m = l.length) (hI : Sl w A m c (ivs l)) :
    Calls Try.prog 5 #[.int .u8 nn, .slice A m c, .int .u8 cc] w fun e w' => e = .returned (.bool true) ∧ Ext w w' := by
  rcases Nat.lt_or_ge 8 m with h8 | h8
  · exact fills_long A l m c nn cc w hn hc hm hI h8
  obtain ⟨r, hr⟩ : ∃ r : Nat, nn % 40 = (r : Int) := Int.eq_ofNat_of_zero_le (Int.emod_nonneg _ (by omega))
  obtain ⟨⟨ca, pa, ea⟩, hp⟩ : ∃ x, fillR 0 l (exN (r + 1)) (-1) = x := ⟨_, rfl⟩
  by_cases he : ea = 0
  · subst he
    exact fills_ok A l m c nn cc w hn hc hm hI h8 r hr ca pa hp
  · exact fills_err A l m c nn cc w hn hc hm hI h8 r hr ca pa ea hp he
end Go.Proofs.Ytkoomcbiddanfaa

