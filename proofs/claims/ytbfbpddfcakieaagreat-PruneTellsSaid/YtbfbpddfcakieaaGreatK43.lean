/- The example of layer 10. -/
import Derived.Test.YtbfbpddfcakieaaGreatK34
import Derived.Deep.AppendLies
import Derived.Deep.RegionHeld3
import Derived.Deep.DeepCutAuto
import Derived.Deep.DrawnRows
import Derived.RegionTactic
import Derived.Test.YtbfbpddfcakieaaGreatK42
import Derived.Test.YtbfbpddfcakieaaGreatK37
import Derived.Test.YtbfbpddfcakieaaGreatK23
namespace Go.Proofs.YtbfbpddfcakieaaGreat
open Go.RowKit
attribute [local go_sem ↓] Go.wp_at_zero Go.wp_at_succ

theorem Bx.slQ {w : World} {k : Nat} {cs : Array Value} (h : Bx w k cs) (n : Nat) (hn : n ≤ maxLen) : Sl w (some ⟨k, 0, none⟩) n n cs.toList :=
  ⟨(fun e => by cases e), Nat.le_refl _, hn, fun _ => ⟨k, 0, rfl, h.lt, fun j u hu => by rw [Nat.zero_add]; exact h.at j u (by simpa using hu)⟩⟩
theorem pfNew_any (w : World) : Calls Tryz.prog 14 #[.int .i64 30, .int .i64 0] w fun e w' => ∃ S d, e = .returned (.tuple #[.agg #[.slice S 30 d, .int .i64 0], .int .i64 0]) ∧ HcSl w' S 30 d (exN 30) ∧ Ext w w' := by
  have h := ref05New_any 30 0 w
  obtain ⟨e1, e2, _⟩ := new_fine (n := 30) (most := 60) (by decide) (by decide) (by decide)
  rw [show newH 30 0 = ⟨exN 30, 0⟩ from e1, show newHE 30 0 = 0 from e2] at h
  exact h
theorem pf_fine : fineB ⟨exN 30, 0⟩ (-1) 60 = true := (new_fine (n := 30) (most := 60) (by decide) (by decide) (by decide)).2.2
theorem pf_may {h : Hp} {p : Int} (hf : fineB h p 60 = true) : mayT h p 60 = true := by unfold fineB at hf; rw [Bool.and_eq_true] at hf; exact hf.1
theorem pf5_fine : fineB ⟨pf5, 0⟩ 6 60 = true := by
  have h := (fill_fine (keep := 0) (most := 60) (by decide) [(1, 0), (2, 0), (3, 0), (4, 0), (5, 0)] (exN 30) (-1) pf_fine).1
  rw [pf_fill] at h
  exact h
theorem pfB_fine : fineB ⟨pfB, 0⟩ 4 60 = true := by
  have h := (cut_fine (keep := 0) (lo := 4) (hi := 9) (most := 60) (by decide) 5 pf5 6 pf5_fine).fine
  rw [pf_cut] at h
  exact h
set_option maxRecDepth 100000 in
theorem pfC_fine : fineB ⟨pfC, 0⟩ 8 60 = true := by
  rcases del_when (key := 2) (by decide) pf5_fine ⟨(2, 0), by decide +kernel, rfl⟩ with ⟨_, D, _⟩ | ⟨h, _⟩
  · have h := D.fine
    rw [pf_two] at h
    exact h
  · rw [pf_two] at h
    exact absurd h (by decide)
theorem pfFill_any (S A : Option Addr) (d : Nat) (w : World) (hA : HcSl w S 30 d (exN 30)) (hI : Sl w A 5 5 (ivs [(1, 0), (2, 0), (3, 0), (4, 0), (5, 0)])) :
    Calls Tryz.prog 15 #[.agg #[.slice S 30 d, .int .i64 0], .int .i64 (-1), .slice A 5 5] w fun e w' => ∃ S d, e = .returned (.tuple #[.agg #[.slice S 30 d, .int .i64 0], .int .i64 6, .int .i64 0]) ∧ HcSl w' S 30 d pf5 ∧ Ext w w' := by
  have h := ref09Fill_any S (exN 30) 30 d 0 (-1) 60 A [(1, 0), (2, 0), (3, 0), (4, 0), (5, 0)] 5 5 w (by decide) pf_fine rfl (by decide) hA hI
  rw [pf_fill] at h
  exact h
theorem pfCut_any (S : Option Addr) (d : Nat) (w : World) (hA : HcSl w S 30 d pf5) :
    Calls Tryz.prog 12 #[.agg #[.slice S 30 d, .int .i64 0], .int .i64 6, .int .i64 4, .int .i64 9, .int .i64 5] w fun e w' => ∃ S d, e = .returned (.tuple #[.agg #[.slice S 30 d, .int .i64 0], .int .i64 4, .int .i64 2, .int .i64 0]) ∧ HcSl w' S 30 d pfB ∧ Ext w w' := by
  have h := pruneCut_any S pf5 30 d 0 6 4 9 60 5 w (by decide) (by decide) pf5_fine hA
  rw [pf_cut] at h
  exact h
theorem pfNone_any (S : Option Addr) (d : Nat) (w : World) (hA : HcSl w S 30 d pf5) :
    Calls Tryz.prog 6 #[.agg #[.slice S 30 d, .int .i64 0], .int .i64 6, .int .i64 6] w fun e w' => ∃ S d, e = .returned (.tuple #[.agg #[.slice S 30 d, .int .i64 0], .int .i64 6, .int .i64 4]) ∧ HcSl w' S 30 d pf5 ∧ Ext w w' := by
  have h := pruneDel_any S pf5 30 d 0 6 6 60 w (by decide) (pf_may pf5_fine) hA
  rw [pf_none] at h
  exact h
theorem pfTwo_any (S : Option Addr) (d : Nat) (w : World) (hA : HcSl w S 30 d pf5) :
    Calls Tryz.prog 6 #[.agg #[.slice S 30 d, .int .i64 0], .int .i64 6, .int .i64 2] w fun e w' => ∃ S d, e = .returned (.tuple #[.agg #[.slice S 30 d, .int .i64 0], .int .i64 8, .int .i64 0]) ∧ HcSl w' S 30 d pfC ∧ Ext w w' := by
  have h := pruneDel_any S pf5 30 d 0 6 2 60 w (by decide) (pf_may pf5_fine) hA
  rw [pf_two] at h
  exact h
theorem pfLow_any (S : Option Addr) (d : Nat) (w : World) (hA : HcSl w S 30 d pfB) :
    Calls Tryz.prog 8 #[.agg #[.slice S 30 d, .int .i64 0], .int .i64 4] w fun e w' => ∃ S d, e = .returned (.tuple #[.agg #[.slice S 30 d, .int .i64 0], .int .i64 4]) ∧ HcSl w' S 30 d pfB ∧ Ext w w' := by
  have h := pruneLow_any S pfB 30 d 0 4 60 w (pf_may pfB_fine) hA
  rw [pf_low] at h
  exact h
theorem pf_all {c : List HC} {p : Int} (hf : fineB ⟨c, 0⟩ p 60 = true) (hn : c.length = 30) : AllR c ∧ c.length ≤ 2000 ∧ rightR ⟨c, 0⟩ p = true := by
  obtain ⟨h1, h2, _⟩ := fine_may hf
  exact ⟨allR_of (may_iff h1).2.2, by omega, h2⟩
theorem pfRight_any {c : List HC} {p : Int} (hf : fineB ⟨c, 0⟩ p 60 = true) (hn : c.length = 30) (S : Option Addr) (d : Nat) (w : World) (hA : HcSl w S 30 d c) :
    Calls Tryz.prog 16 #[.agg #[.slice S 30 d, .int .i64 0], .int .i64 p] w fun e w' => e = .returned (.bool true) ∧ Ext w w' := by
  obtain ⟨h1, h2, h3⟩ := pf_all hf hn
  have h := ref07Right_any S c 30 d 0 p w h1 h2 hA
  rw [h3] at h
  exact h
theorem pfList_any {c : List HC} {p : Int} {L : List It} {k : Nat} (hf : fineB ⟨c, 0⟩ p 60 = true) (hn : c.length = 30) (hL : listT c p = L) (hk : L.length = k) (S : Option Addr) (d : Nat) (w : World) (hA : HcSl w S 30 d c) :
    Calls Tryz.prog 18 #[.agg #[.slice S 30 d, .int .i64 0], .int .i64 p] w fun e w' => ∃ S d, e = .returned (.slice S k d) ∧ Sl w' S k d (ivs L) ∧ Ext w w' := by
  obtain ⟨h1, h2, h3⟩ := pf_all hf hn
  refine (ref07List_any S c 30 d 0 0 p w h1 h2 h3 hA).mono ?_
  rintro e w2 ⟨T, s, c, rfl, rfl, h1, h2⟩
  subst hL
  subst hk
  exact ⟨T, c, rfl, h1, h2⟩
theorem pfItems_any (S T : Option Addr) (d c : Nat) (w : World) (h1 : Sl w S 3 d (ivs [(1, 0), (2, 0), (3, 0)])) (h2 : Sl w T 3 c (ivs [(1, 0), (2, 0), (3, 0)])) :
    Calls Tryz.prog 17 #[.slice S 3 d, .slice T 3 c] w fun e w' => e = .returned (.bool true) ∧ Ext w w' := by
  have h := ref04Items_any S T [(1, 0), (2, 0), (3, 0)] [(1, 0), (2, 0), (3, 0)] 3 3 d c w rfl rfl h1 h2
  rw [show sameI [(1, 0), (2, 0), (3, 0)] [(1, 0), (2, 0), (3, 0)] = true from by unfold sameI; simp] at h
  exact h
theorem pf_leaf {w : World} {bs off d : Nat} (h : HcSl w (some ⟨bs, off, none⟩) 30 d pfB) : w.cell? ⟨bs, off + 4 * 4 + 2, none⟩ = some (.bool true) := by
  obtain ⟨b, o, e, -, A, c, -, -, r2, -⟩ := h.cell (k := 4) (by decide)
  cases e
  exact r2
theorem pf_pre {w : World} {k : Nat} (h : Bx w k #[.int .i64 1, .int .i64 0, .int .i64 2, .int .i64 0, .int .i64 3, .int .i64 0, .int .i64 4, .int .i64 0, .int .i64 5, .int .i64 0]) : Sl w (some ⟨k, 0, none⟩) 3 5 (ivs [(1, 0), (2, 0), (3, 0)]) :=
  (show Sl w (some ⟨k, 0, none⟩) 5 5 (ivs [(1, 0), (2, 0), (3, 0), (4, 0), (5, 0)]) from h.slQ 5 (by unfold maxLen; omega)).pre rfl 3 (by decide)
attribute [local go_sem] beq_self_eq_true bne_self_eq_false
set_option maxRecDepth 100000 in
set_option maxHeartbeats 4000000 in
theorem shown_any (w : World) : Calls Tryz.prog 4 #[] w fun e w' => e = .returned (.bool true) ∧ Ext w w' := by
  have X_1 := Lib.hid (Ext.refl w)
  go_enter Tryz.func4, Tryz.ntmps4
  go_wp2_with (go_at_call 14; refine stop_here ?_)
  refine stop_on ?_
  refine (pfNew_any _).mono ?_
  rintro e w2 ⟨S0, d0, rfl, h0, hx⟩
  have X_3 := Lib.hid (X_1.out.ext hx)
  clear X_1
  have H0_4 := Lib.hid h0
  clear hx h0
  go_wp2_with (go_at_call 15; refine stop_here ?_)
  refine stop_on ?_
  generalize hW : (World.alloc (World.alloc w2 _) _) = W5
  obtain ⟨hx, hb0, hb1⟩ := allocs2 hW
  clear hW
  have X_6 := Lib.hid (X_3.out.ext hx)
  have H0_6 := Lib.hid (H0_4.out.ext hx)
  clear X_3 H0_4
  have bh_7 := Lib.hid hb0
  have bl_8 := Lib.hid hb1
  clear hx hb0 hb1
  refine (pfFill_any S0 _ d0 _ H0_6.out (bl_8.out.slQ 5 (by unfold maxLen; omega))).mono ?_
  rintro e w9 ⟨S1, d1, rfl, h1, hx⟩
  have X_10 := Lib.hid (X_6.out.ext hx)
  have H0_10 := Lib.hid (H0_6.out.ext hx)
  have bh_10 := Lib.hid (bh_7.out.ext hx)
  have bl_10 := Lib.hid (bl_8.out.ext hx)
  clear X_6 H0_6 bh_7 bl_8
  have H1_11 := Lib.hid h1
  clear hx h1
  have qbh0 : w9.cell? ⟨w2.heap.size, 0, none⟩ = some (.slice S0 30 d0) := bh_10.out.at 0 _ rfl
  have qbh1 : w9.cell? ⟨w2.heap.size, 1, none⟩ = some (.int .i64 0) := bh_10.out.at 1 _ rfl
  have zbh := bh_10.out.lt
  have qbl0 : w9.cell? ⟨w2.heap.size + 1, 0, none⟩ = some (.int .i64 1) := bl_10.out.at 0 _ rfl
  have qbl1 : w9.cell? ⟨w2.heap.size + 1, 1, none⟩ = some (.int .i64 0) := bl_10.out.at 1 _ rfl
  have qbl2 : w9.cell? ⟨w2.heap.size + 1, 2, none⟩ = some (.int .i64 2) := bl_10.out.at 2 _ rfl
  have qbl3 : w9.cell? ⟨w2.heap.size + 1, 3, none⟩ = some (.int .i64 0) := bl_10.out.at 3 _ rfl
  have qbl4 : w9.cell? ⟨w2.heap.size + 1, 4, none⟩ = some (.int .i64 3) := bl_10.out.at 4 _ rfl
  have qbl5 : w9.cell? ⟨w2.heap.size + 1, 5, none⟩ = some (.int .i64 0) := bl_10.out.at 5 _ rfl
  have qbl6 : w9.cell? ⟨w2.heap.size + 1, 6, none⟩ = some (.int .i64 4) := bl_10.out.at 6 _ rfl
  have qbl7 : w9.cell? ⟨w2.heap.size + 1, 7, none⟩ = some (.int .i64 0) := bl_10.out.at 7 _ rfl
  have qbl8 : w9.cell? ⟨w2.heap.size + 1, 8, none⟩ = some (.int .i64 5) := bl_10.out.at 8 _ rfl
  have qbl9 : w9.cell? ⟨w2.heap.size + 1, 9, none⟩ = some (.int .i64 0) := bl_10.out.at 9 _ rfl
  have zbl := bl_10.out.lt
  go_wp2_with (go_at_call 12; refine stop_here ?_)
  refine stop_on ?_
  clear qbh0 qbh1 zbh qbl0 qbl1 qbl2 qbl3 qbl4 qbl5 qbl6 qbl7 qbl8 qbl9 zbl
  generalize hW : (World.alloc w9 _) = W12
  obtain ⟨hx, hb0⟩ := allocs1 hW
  clear hW
  have X_13 := Lib.hid (X_10.out.ext hx)
  have H0_13 := Lib.hid (H0_10.out.ext hx)
  have bh_13 := Lib.hid (bh_10.out.ext hx)
  have bl_13 := Lib.hid (bl_10.out.ext hx)
  have H1_13 := Lib.hid (H1_11.out.ext hx)
  clear X_10 H0_10 bh_10 bl_10 H1_11
  have bg_14 := Lib.hid hb0
  clear hx hb0
  refine (pfCut_any S1 d1 _ H1_13.out).mono ?_
  rintro e w15 ⟨S2, d2, rfl, h2, hx⟩
  have X_16 := Lib.hid (X_13.out.ext hx)
  have H0_16 := Lib.hid (H0_13.out.ext hx)
  have bh_16 := Lib.hid (bh_13.out.ext hx)
  have bl_16 := Lib.hid (bl_13.out.ext hx)
  have H1_16 := Lib.hid (H1_13.out.ext hx)
  have bg_16 := Lib.hid (bg_14.out.ext hx)
  clear X_13 H0_13 bh_13 bl_13 H1_13 bg_14
  have H2_17 := Lib.hid h2
  clear hx h2
  have zbh := bh_16.out.lt
  have qbl0 : w15.cell? ⟨w2.heap.size + 1, 0, none⟩ = some (.int .i64 1) := bl_16.out.at 0 _ rfl
  have qbl1 : w15.cell? ⟨w2.heap.size + 1, 1, none⟩ = some (.int .i64 0) := bl_16.out.at 1 _ rfl
  have qbl2 : w15.cell? ⟨w2.heap.size + 1, 2, none⟩ = some (.int .i64 2) := bl_16.out.at 2 _ rfl
  have qbl3 : w15.cell? ⟨w2.heap.size + 1, 3, none⟩ = some (.int .i64 0) := bl_16.out.at 3 _ rfl
  have qbl4 : w15.cell? ⟨w2.heap.size + 1, 4, none⟩ = some (.int .i64 3) := bl_16.out.at 4 _ rfl
  have qbl5 : w15.cell? ⟨w2.heap.size + 1, 5, none⟩ = some (.int .i64 0) := bl_16.out.at 5 _ rfl
  have qbl6 : w15.cell? ⟨w2.heap.size + 1, 6, none⟩ = some (.int .i64 4) := bl_16.out.at 6 _ rfl
  have qbl7 : w15.cell? ⟨w2.heap.size + 1, 7, none⟩ = some (.int .i64 0) := bl_16.out.at 7 _ rfl
  have qbl8 : w15.cell? ⟨w2.heap.size + 1, 8, none⟩ = some (.int .i64 5) := bl_16.out.at 8 _ rfl
  have qbl9 : w15.cell? ⟨w2.heap.size + 1, 9, none⟩ = some (.int .i64 0) := bl_16.out.at 9 _ rfl
  have zbl := bl_16.out.lt
  have qbg0 : w15.cell? ⟨w9.heap.size, 0, none⟩ = some (.slice S1 30 d1) := bg_16.out.at 0 _ rfl
  have qbg1 : w15.cell? ⟨w9.heap.size, 1, none⟩ = some (.int .i64 0) := bg_16.out.at 1 _ rfl
  have zbg := bg_16.out.lt
  go_wp2_with (go_at_call 6; refine stop_here ?_)
  refine stop_on ?_
  clear zbh qbl0 qbl1 qbl2 qbl3 qbl4 qbl5 qbl6 qbl7 qbl8 qbl9 zbl qbg0 qbg1 zbg
  generalize hW : (World.alloc w15 _) = W18
  obtain ⟨hx, hb0⟩ := allocs1 hW
  clear hW
  have X_19 := Lib.hid (X_16.out.ext hx)
  have H0_19 := Lib.hid (H0_16.out.ext hx)
  have bh_19 := Lib.hid (bh_16.out.ext hx)
  have bl_19 := Lib.hid (bl_16.out.ext hx)
  have H1_19 := Lib.hid (H1_16.out.ext hx)
  have bg_19 := Lib.hid (bg_16.out.ext hx)
  have H2_19 := Lib.hid (H2_17.out.ext hx)
  clear X_16 H0_16 bh_16 bl_16 H1_16 bg_16 H2_17
  have ba_20 := Lib.hid hb0
  clear hx hb0
  refine (pfNone_any S1 d1 _ H1_19.out).mono ?_
  rintro e w21 ⟨S3, d3, rfl, h3, hx⟩
  have X_22 := Lib.hid (X_19.out.ext hx)
  have H0_22 := Lib.hid (H0_19.out.ext hx)
  have bh_22 := Lib.hid (bh_19.out.ext hx)
  have bl_22 := Lib.hid (bl_19.out.ext hx)
  have H1_22 := Lib.hid (H1_19.out.ext hx)
  have bg_22 := Lib.hid (bg_19.out.ext hx)
  have H2_22 := Lib.hid (H2_19.out.ext hx)
  have ba_22 := Lib.hid (ba_20.out.ext hx)
  clear X_19 H0_19 bh_19 bl_19 H1_19 bg_19 H2_19 ba_20
  have H3_23 := Lib.hid h3
  clear hx h3
  have zbh := bh_22.out.lt
  have qbl0 : w21.cell? ⟨w2.heap.size + 1, 0, none⟩ = some (.int .i64 1) := bl_22.out.at 0 _ rfl
  have qbl1 : w21.cell? ⟨w2.heap.size + 1, 1, none⟩ = some (.int .i64 0) := bl_22.out.at 1 _ rfl
  have qbl2 : w21.cell? ⟨w2.heap.size + 1, 2, none⟩ = some (.int .i64 2) := bl_22.out.at 2 _ rfl
  have qbl3 : w21.cell? ⟨w2.heap.size + 1, 3, none⟩ = some (.int .i64 0) := bl_22.out.at 3 _ rfl
  have qbl4 : w21.cell? ⟨w2.heap.size + 1, 4, none⟩ = some (.int .i64 3) := bl_22.out.at 4 _ rfl
  have qbl5 : w21.cell? ⟨w2.heap.size + 1, 5, none⟩ = some (.int .i64 0) := bl_22.out.at 5 _ rfl
  have qbl6 : w21.cell? ⟨w2.heap.size + 1, 6, none⟩ = some (.int .i64 4) := bl_22.out.at 6 _ rfl
  have qbl7 : w21.cell? ⟨w2.heap.size + 1, 7, none⟩ = some (.int .i64 0) := bl_22.out.at 7 _ rfl
  have qbl8 : w21.cell? ⟨w2.heap.size + 1, 8, none⟩ = some (.int .i64 5) := bl_22.out.at 8 _ rfl
  have qbl9 : w21.cell? ⟨w2.heap.size + 1, 9, none⟩ = some (.int .i64 0) := bl_22.out.at 9 _ rfl
  have zbl := bl_22.out.lt
  have qbg0 : w21.cell? ⟨w9.heap.size, 0, none⟩ = some (.slice S1 30 d1) := bg_22.out.at 0 _ rfl
  have qbg1 : w21.cell? ⟨w9.heap.size, 1, none⟩ = some (.int .i64 0) := bg_22.out.at 1 _ rfl
  have zbg := bg_22.out.lt
  have qba0 : w21.cell? ⟨w15.heap.size, 0, none⟩ = some (.slice S2 30 d2) := ba_22.out.at 0 _ rfl
  have qba1 : w21.cell? ⟨w15.heap.size, 1, none⟩ = some (.int .i64 0) := ba_22.out.at 1 _ rfl
  have zba := ba_22.out.lt
  go_wp2_with (go_at_call 6; refine stop_here ?_)
  refine stop_on ?_
  clear zbh qbl0 qbl1 qbl2 qbl3 qbl4 qbl5 qbl6 qbl7 qbl8 qbl9 zbl qbg0 qbg1 zbg qba0 qba1 zba
  generalize hW : (World.alloc w21 _) = W24
  obtain ⟨hx, hb0⟩ := allocs1 hW
  clear hW
  have X_25 := Lib.hid (X_22.out.ext hx)
  have H0_25 := Lib.hid (H0_22.out.ext hx)
  have bh_25 := Lib.hid (bh_22.out.ext hx)
  have bl_25 := Lib.hid (bl_22.out.ext hx)
  have H1_25 := Lib.hid (H1_22.out.ext hx)
  have bg_25 := Lib.hid (bg_22.out.ext hx)
  have H2_25 := Lib.hid (H2_22.out.ext hx)
  have ba_25 := Lib.hid (ba_22.out.ext hx)
  have H3_25 := Lib.hid (H3_23.out.ext hx)
  clear X_22 H0_22 bh_22 bl_22 H1_22 bg_22 H2_22 ba_22 H3_23
  clear hx hb0
  refine (pfTwo_any S1 d1 _ H1_25.out).mono ?_
  rintro e w26 ⟨S4, d4, rfl, h4, hx⟩
  have X_27 := Lib.hid (X_25.out.ext hx)
  have H0_27 := Lib.hid (H0_25.out.ext hx)
  have bh_27 := Lib.hid (bh_25.out.ext hx)
  have bl_27 := Lib.hid (bl_25.out.ext hx)
  have H1_27 := Lib.hid (H1_25.out.ext hx)
  have bg_27 := Lib.hid (bg_25.out.ext hx)
  have H2_27 := Lib.hid (H2_25.out.ext hx)
  have ba_27 := Lib.hid (ba_25.out.ext hx)
  have H3_27 := Lib.hid (H3_25.out.ext hx)
  clear X_25 H0_25 bh_25 bl_25 H1_25 bg_25 H2_25 ba_25 H3_25
  have H4_28 := Lib.hid h4
  clear hx h4
  have zbh := bh_27.out.lt
  have qbl0 : w26.cell? ⟨w2.heap.size + 1, 0, none⟩ = some (.int .i64 1) := bl_27.out.at 0 _ rfl
  have qbl1 : w26.cell? ⟨w2.heap.size + 1, 1, none⟩ = some (.int .i64 0) := bl_27.out.at 1 _ rfl
  have qbl2 : w26.cell? ⟨w2.heap.size + 1, 2, none⟩ = some (.int .i64 2) := bl_27.out.at 2 _ rfl
  have qbl3 : w26.cell? ⟨w2.heap.size + 1, 3, none⟩ = some (.int .i64 0) := bl_27.out.at 3 _ rfl
  have qbl4 : w26.cell? ⟨w2.heap.size + 1, 4, none⟩ = some (.int .i64 3) := bl_27.out.at 4 _ rfl
  have qbl5 : w26.cell? ⟨w2.heap.size + 1, 5, none⟩ = some (.int .i64 0) := bl_27.out.at 5 _ rfl
  have qbl6 : w26.cell? ⟨w2.heap.size + 1, 6, none⟩ = some (.int .i64 4) := bl_27.out.at 6 _ rfl
  have qbl7 : w26.cell? ⟨w2.heap.size + 1, 7, none⟩ = some (.int .i64 0) := bl_27.out.at 7 _ rfl
  have qbl8 : w26.cell? ⟨w2.heap.size + 1, 8, none⟩ = some (.int .i64 5) := bl_27.out.at 8 _ rfl
  have qbl9 : w26.cell? ⟨w2.heap.size + 1, 9, none⟩ = some (.int .i64 0) := bl_27.out.at 9 _ rfl
  have zbl := bl_27.out.lt
  have qbg0 : w26.cell? ⟨w9.heap.size, 0, none⟩ = some (.slice S1 30 d1) := bg_27.out.at 0 _ rfl
  have qbg1 : w26.cell? ⟨w9.heap.size, 1, none⟩ = some (.int .i64 0) := bg_27.out.at 1 _ rfl
  have zbg := bg_27.out.lt
  have qba0 : w26.cell? ⟨w15.heap.size, 0, none⟩ = some (.slice S2 30 d2) := ba_27.out.at 0 _ rfl
  have qba1 : w26.cell? ⟨w15.heap.size, 1, none⟩ = some (.int .i64 0) := ba_27.out.at 1 _ rfl
  have zba := ba_27.out.lt
  go_wp2_with (go_at_call 16; refine stop_here ?_)
  refine stop_on ?_
  clear zbh qbl0 qbl1 qbl2 qbl3 qbl4 qbl5 qbl6 qbl7 qbl8 qbl9 zbl qbg0 qbg1 zbg qba0 qba1 zba
  generalize hW : (World.alloc w26 _) = W29
  obtain ⟨hx, hb0⟩ := allocs1 hW
  clear hW
  have X_30 := Lib.hid (X_27.out.ext hx)
  have H0_30 := Lib.hid (H0_27.out.ext hx)
  have bh_30 := Lib.hid (bh_27.out.ext hx)
  have bl_30 := Lib.hid (bl_27.out.ext hx)
  have H1_30 := Lib.hid (H1_27.out.ext hx)
  have bg_30 := Lib.hid (bg_27.out.ext hx)
  have H2_30 := Lib.hid (H2_27.out.ext hx)
  have ba_30 := Lib.hid (ba_27.out.ext hx)
  have H3_30 := Lib.hid (H3_27.out.ext hx)
  have H4_30 := Lib.hid (H4_28.out.ext hx)
  clear X_27 H0_27 bh_27 bl_27 H1_27 bg_27 H2_27 ba_27 H3_27 H4_28
  have bb_31 := Lib.hid hb0
  clear hx hb0
  refine (pfRight_any pfB_fine rfl S2 d2 _ H2_30.out).mono ?_
  rintro e w32 ⟨rfl, hx⟩
  have X_33 := Lib.hid (X_30.out.ext hx)
  have H0_33 := Lib.hid (H0_30.out.ext hx)
  have bh_33 := Lib.hid (bh_30.out.ext hx)
  have bl_33 := Lib.hid (bl_30.out.ext hx)
  have H1_33 := Lib.hid (H1_30.out.ext hx)
  have bg_33 := Lib.hid (bg_30.out.ext hx)
  have H2_33 := Lib.hid (H2_30.out.ext hx)
  have ba_33 := Lib.hid (ba_30.out.ext hx)
  have H3_33 := Lib.hid (H3_30.out.ext hx)
  have H4_33 := Lib.hid (H4_30.out.ext hx)
  have bb_33 := Lib.hid (bb_31.out.ext hx)
  clear X_30 H0_30 bh_30 bl_30 H1_30 bg_30 H2_30 ba_30 H3_30 H4_30 bb_31
  clear hx
  have zbh := bh_33.out.lt
  have qbl0 : w32.cell? ⟨w2.heap.size + 1, 0, none⟩ = some (.int .i64 1) := bl_33.out.at 0 _ rfl
  have qbl1 : w32.cell? ⟨w2.heap.size + 1, 1, none⟩ = some (.int .i64 0) := bl_33.out.at 1 _ rfl
  have qbl2 : w32.cell? ⟨w2.heap.size + 1, 2, none⟩ = some (.int .i64 2) := bl_33.out.at 2 _ rfl
  have qbl3 : w32.cell? ⟨w2.heap.size + 1, 3, none⟩ = some (.int .i64 0) := bl_33.out.at 3 _ rfl
  have qbl4 : w32.cell? ⟨w2.heap.size + 1, 4, none⟩ = some (.int .i64 3) := bl_33.out.at 4 _ rfl
  have qbl5 : w32.cell? ⟨w2.heap.size + 1, 5, none⟩ = some (.int .i64 0) := bl_33.out.at 5 _ rfl
  have qbl6 : w32.cell? ⟨w2.heap.size + 1, 6, none⟩ = some (.int .i64 4) := bl_33.out.at 6 _ rfl
  have qbl7 : w32.cell? ⟨w2.heap.size + 1, 7, none⟩ = some (.int .i64 0) := bl_33.out.at 7 _ rfl
  have qbl8 : w32.cell? ⟨w2.heap.size + 1, 8, none⟩ = some (.int .i64 5) := bl_33.out.at 8 _ rfl
  have qbl9 : w32.cell? ⟨w2.heap.size + 1, 9, none⟩ = some (.int .i64 0) := bl_33.out.at 9 _ rfl
  have zbl := bl_33.out.lt
  have zbg := bg_33.out.lt
  have qba0 : w32.cell? ⟨w15.heap.size, 0, none⟩ = some (.slice S2 30 d2) := ba_33.out.at 0 _ rfl
  have qba1 : w32.cell? ⟨w15.heap.size, 1, none⟩ = some (.int .i64 0) := ba_33.out.at 1 _ rfl
  have zba := ba_33.out.lt
  have qbb0 : w32.cell? ⟨w26.heap.size, 0, none⟩ = some (.slice S4 30 d4) := bb_33.out.at 0 _ rfl
  have qbb1 : w32.cell? ⟨w26.heap.size, 1, none⟩ = some (.int .i64 0) := bb_33.out.at 1 _ rfl
  have zbb := bb_33.out.lt
  go_wp2_with (go_at_call 16; refine stop_here ?_)
  refine stop_on ?_
  clear zbh qbl0 qbl1 qbl2 qbl3 qbl4 qbl5 qbl6 qbl7 qbl8 qbl9 zbl zbg qba0 qba1 zba qbb0 qbb1 zbb
  refine (pfRight_any pfC_fine rfl S4 d4 _ H4_33.out).mono ?_
  rintro e w34 ⟨rfl, hx⟩
  have X_35 := Lib.hid (X_33.out.ext hx)
  have H0_35 := Lib.hid (H0_33.out.ext hx)
  have bh_35 := Lib.hid (bh_33.out.ext hx)
  have bl_35 := Lib.hid (bl_33.out.ext hx)
  have H1_35 := Lib.hid (H1_33.out.ext hx)
  have bg_35 := Lib.hid (bg_33.out.ext hx)
  have H2_35 := Lib.hid (H2_33.out.ext hx)
  have ba_35 := Lib.hid (ba_33.out.ext hx)
  have H3_35 := Lib.hid (H3_33.out.ext hx)
  have H4_35 := Lib.hid (H4_33.out.ext hx)
  have bb_35 := Lib.hid (bb_33.out.ext hx)
  clear X_33 H0_33 bh_33 bl_33 H1_33 bg_33 H2_33 ba_33 H3_33 H4_33 bb_33
  clear hx
  have zbh := bh_35.out.lt
  have qbl0 : w34.cell? ⟨w2.heap.size + 1, 0, none⟩ = some (.int .i64 1) := bl_35.out.at 0 _ rfl
  have qbl1 : w34.cell? ⟨w2.heap.size + 1, 1, none⟩ = some (.int .i64 0) := bl_35.out.at 1 _ rfl
  have qbl2 : w34.cell? ⟨w2.heap.size + 1, 2, none⟩ = some (.int .i64 2) := bl_35.out.at 2 _ rfl
  have qbl3 : w34.cell? ⟨w2.heap.size + 1, 3, none⟩ = some (.int .i64 0) := bl_35.out.at 3 _ rfl
  have qbl4 : w34.cell? ⟨w2.heap.size + 1, 4, none⟩ = some (.int .i64 3) := bl_35.out.at 4 _ rfl
  have qbl5 : w34.cell? ⟨w2.heap.size + 1, 5, none⟩ = some (.int .i64 0) := bl_35.out.at 5 _ rfl
  have qbl6 : w34.cell? ⟨w2.heap.size + 1, 6, none⟩ = some (.int .i64 4) := bl_35.out.at 6 _ rfl
  have qbl7 : w34.cell? ⟨w2.heap.size + 1, 7, none⟩ = some (.int .i64 0) := bl_35.out.at 7 _ rfl
  have qbl8 : w34.cell? ⟨w2.heap.size + 1, 8, none⟩ = some (.int .i64 5) := bl_35.out.at 8 _ rfl
  have qbl9 : w34.cell? ⟨w2.heap.size + 1, 9, none⟩ = some (.int .i64 0) := bl_35.out.at 9 _ rfl
  have zbl := bl_35.out.lt
  have zbg := bg_35.out.lt
  have qba0 : w34.cell? ⟨w15.heap.size, 0, none⟩ = some (.slice S2 30 d2) := ba_35.out.at 0 _ rfl
  have qba1 : w34.cell? ⟨w15.heap.size, 1, none⟩ = some (.int .i64 0) := ba_35.out.at 1 _ rfl
  have zba := ba_35.out.lt
  have qbb0 : w34.cell? ⟨w26.heap.size, 0, none⟩ = some (.slice S4 30 d4) := bb_35.out.at 0 _ rfl
  have qbb1 : w34.cell? ⟨w26.heap.size, 1, none⟩ = some (.int .i64 0) := bb_35.out.at 1 _ rfl
  have zbb := bb_35.out.lt
  go_wp2_with (go_at_call 8; refine stop_here ?_)
  refine stop_on ?_
  clear zbh qbl0 qbl1 qbl2 qbl3 qbl4 qbl5 qbl6 qbl7 qbl8 qbl9 zbl zbg qba0 qba1 zba qbb0 qbb1 zbb
  refine (pfLow_any S2 d2 _ H2_35.out).mono ?_
  rintro e w36 ⟨S5, d5, rfl, h5, hx⟩
  have X_37 := Lib.hid (X_35.out.ext hx)
  have H0_37 := Lib.hid (H0_35.out.ext hx)
  have bh_37 := Lib.hid (bh_35.out.ext hx)
  have bl_37 := Lib.hid (bl_35.out.ext hx)
  have H1_37 := Lib.hid (H1_35.out.ext hx)
  have bg_37 := Lib.hid (bg_35.out.ext hx)
  have H2_37 := Lib.hid (H2_35.out.ext hx)
  have ba_37 := Lib.hid (ba_35.out.ext hx)
  have H3_37 := Lib.hid (H3_35.out.ext hx)
  have H4_37 := Lib.hid (H4_35.out.ext hx)
  have bb_37 := Lib.hid (bb_35.out.ext hx)
  clear X_35 H0_35 bh_35 bl_35 H1_35 bg_35 H2_35 ba_35 H3_35 H4_35 bb_35
  have H5_38 := Lib.hid h5
  clear hx h5
  have zbh := bh_37.out.lt
  have qbl0 : w36.cell? ⟨w2.heap.size + 1, 0, none⟩ = some (.int .i64 1) := bl_37.out.at 0 _ rfl
  have qbl1 : w36.cell? ⟨w2.heap.size + 1, 1, none⟩ = some (.int .i64 0) := bl_37.out.at 1 _ rfl
  have qbl2 : w36.cell? ⟨w2.heap.size + 1, 2, none⟩ = some (.int .i64 2) := bl_37.out.at 2 _ rfl
  have qbl3 : w36.cell? ⟨w2.heap.size + 1, 3, none⟩ = some (.int .i64 0) := bl_37.out.at 3 _ rfl
  have qbl4 : w36.cell? ⟨w2.heap.size + 1, 4, none⟩ = some (.int .i64 3) := bl_37.out.at 4 _ rfl
  have qbl5 : w36.cell? ⟨w2.heap.size + 1, 5, none⟩ = some (.int .i64 0) := bl_37.out.at 5 _ rfl
  have qbl6 : w36.cell? ⟨w2.heap.size + 1, 6, none⟩ = some (.int .i64 4) := bl_37.out.at 6 _ rfl
  have qbl7 : w36.cell? ⟨w2.heap.size + 1, 7, none⟩ = some (.int .i64 0) := bl_37.out.at 7 _ rfl
  have qbl8 : w36.cell? ⟨w2.heap.size + 1, 8, none⟩ = some (.int .i64 5) := bl_37.out.at 8 _ rfl
  have qbl9 : w36.cell? ⟨w2.heap.size + 1, 9, none⟩ = some (.int .i64 0) := bl_37.out.at 9 _ rfl
  have zbl := bl_37.out.lt
  have zbg := bg_37.out.lt
  have qba0 : w36.cell? ⟨w15.heap.size, 0, none⟩ = some (.slice S2 30 d2) := ba_37.out.at 0 _ rfl
  have qba1 : w36.cell? ⟨w15.heap.size, 1, none⟩ = some (.int .i64 0) := ba_37.out.at 1 _ rfl
  have zba := ba_37.out.lt
  have qbb0 : w36.cell? ⟨w26.heap.size, 0, none⟩ = some (.slice S4 30 d4) := bb_37.out.at 0 _ rfl
  have qbb1 : w36.cell? ⟨w26.heap.size, 1, none⟩ = some (.int .i64 0) := bb_37.out.at 1 _ rfl
  have zbb := bb_37.out.lt
  obtain ⟨bs, off, rfl, -⟩ := H2_37.out.cell (k := 4) (by decide)
  clear zbh qbl0 qbl1 qbl2 qbl3 qbl4 qbl5 qbl6 qbl7 qbl8 qbl9 zbl zbg qba0 qba1 zba qbb0 qbb1 zbb
  have zbh := bh_37.out.lt
  have qbl0 : w36.cell? ⟨w2.heap.size + 1, 0, none⟩ = some (.int .i64 1) := bl_37.out.at 0 _ rfl
  have qbl1 : w36.cell? ⟨w2.heap.size + 1, 1, none⟩ = some (.int .i64 0) := bl_37.out.at 1 _ rfl
  have qbl2 : w36.cell? ⟨w2.heap.size + 1, 2, none⟩ = some (.int .i64 2) := bl_37.out.at 2 _ rfl
  have qbl3 : w36.cell? ⟨w2.heap.size + 1, 3, none⟩ = some (.int .i64 0) := bl_37.out.at 3 _ rfl
  have qbl4 : w36.cell? ⟨w2.heap.size + 1, 4, none⟩ = some (.int .i64 3) := bl_37.out.at 4 _ rfl
  have qbl5 : w36.cell? ⟨w2.heap.size + 1, 5, none⟩ = some (.int .i64 0) := bl_37.out.at 5 _ rfl
  have qbl6 : w36.cell? ⟨w2.heap.size + 1, 6, none⟩ = some (.int .i64 4) := bl_37.out.at 6 _ rfl
  have qbl7 : w36.cell? ⟨w2.heap.size + 1, 7, none⟩ = some (.int .i64 0) := bl_37.out.at 7 _ rfl
  have qbl8 : w36.cell? ⟨w2.heap.size + 1, 8, none⟩ = some (.int .i64 5) := bl_37.out.at 8 _ rfl
  have qbl9 : w36.cell? ⟨w2.heap.size + 1, 9, none⟩ = some (.int .i64 0) := bl_37.out.at 9 _ rfl
  have zbl := bl_37.out.lt
  have zbg := bg_37.out.lt
  have qba0 : w36.cell? ⟨w15.heap.size, 0, none⟩ = some (.slice (some ⟨bs, off, none⟩) 30 d2) := ba_37.out.at 0 _ rfl
  have qba1 : w36.cell? ⟨w15.heap.size, 1, none⟩ = some (.int .i64 0) := ba_37.out.at 1 _ rfl
  have zba := ba_37.out.lt
  have qbb0 : w36.cell? ⟨w26.heap.size, 0, none⟩ = some (.slice S4 30 d4) := bb_37.out.at 0 _ rfl
  have qbb1 : w36.cell? ⟨w26.heap.size, 1, none⟩ = some (.int .i64 0) := bb_37.out.at 1 _ rfl
  have zbb := bb_37.out.lt
  go_wp2_with fail
  clear zbh qbl0 qbl1 qbl2 qbl3 qbl4 qbl5 qbl6 qbl7 qbl8 qbl9 zbl zbg qba0 qba1 zba qbb0 qbb1 zbb
  generalize hW : (World.alloc w36 _) = W39
  obtain ⟨hx, hb0⟩ := allocs1 hW
  clear hW
  have X_40 := Lib.hid (X_37.out.ext hx)
  have H0_40 := Lib.hid (H0_37.out.ext hx)
  have bh_40 := Lib.hid (bh_37.out.ext hx)
  have bl_40 := Lib.hid (bl_37.out.ext hx)
  have H1_40 := Lib.hid (H1_37.out.ext hx)
  have bg_40 := Lib.hid (bg_37.out.ext hx)
  have H2_40 := Lib.hid (H2_37.out.ext hx)
  have ba_40 := Lib.hid (ba_37.out.ext hx)
  have H3_40 := Lib.hid (H3_37.out.ext hx)
  have H4_40 := Lib.hid (H4_37.out.ext hx)
  have bb_40 := Lib.hid (bb_37.out.ext hx)
  have H5_40 := Lib.hid (H5_38.out.ext hx)
  clear X_37 H0_37 bh_37 bl_37 H1_37 bg_37 H2_37 ba_37 H3_37 H4_37 bb_37 H5_38
  have bc_41 := Lib.hid hb0
  clear hx hb0
  have HK42 := Lib.hid (fun w' (hx : Ext W39 w') => (show w'.cell? ⟨w15.heap.size, 0, none⟩ = some (.slice (some ⟨bs, off, none⟩) 30 d2) ∧ w'.cell? ⟨w15.heap.size, 1, none⟩ = some (.int .i64 0) ∧ w'.cell? ⟨w26.heap.size, 0, none⟩ = some (.slice S4 30 d4) ∧ w'.cell? ⟨w26.heap.size, 1, none⟩ = some (.int .i64 0) ∧ w'.cell? ⟨w36.heap.size, 0, none⟩ = some (.slice S5 30 d5) ∧ w'.cell? ⟨w36.heap.size, 1, none⟩ = some (.int .i64 0) ∧ w'.cell? ⟨bs, off + 4 * 4 + 2, none⟩ = some (.bool true) from ⟨(ba_40.out.ext hx).at 0 _ rfl, (ba_40.out.ext hx).at 1 _ rfl, (bb_40.out.ext hx).at 0 _ rfl, (bb_40.out.ext hx).at 1 _ rfl, (bc_41.out.ext hx).at 0 _ rfl, (bc_41.out.ext hx).at 1 _ rfl, pf_leaf (H2_40.out.ext hx)⟩))
  have G42_0 := Lib.hid (fun w' (hx : Ext W39 w') => pfList_any pfB_fine rfl pf_listB rfl _ d2 _ (H2_40.out.ext hx))
  have G42_2 := Lib.hid (fun w' (hx : Ext W39 w') => pfList_any pfC_fine rfl rfl pf_listC S4 d4 _ (H4_40.out.ext hx))
  have qba0 : W39.cell? ⟨w15.heap.size, 0, none⟩ = some (.slice (some ⟨bs, off, none⟩) 30 d2) := ba_40.out.at 0 _ rfl
  have qba1 : W39.cell? ⟨w15.heap.size, 1, none⟩ = some (.int .i64 0) := ba_40.out.at 1 _ rfl
  have zba := ba_40.out.lt
  have qbb0 : W39.cell? ⟨w26.heap.size, 0, none⟩ = some (.slice S4 30 d4) := bb_40.out.at 0 _ rfl
  have qbb1 : W39.cell? ⟨w26.heap.size, 1, none⟩ = some (.int .i64 0) := bb_40.out.at 1 _ rfl
  have zbb := bb_40.out.lt
  have qbc0 : W39.cell? ⟨w36.heap.size, 0, none⟩ = some (.slice S5 30 d5) := bc_41.out.at 0 _ rfl
  have qbc1 : W39.cell? ⟨w36.heap.size, 1, none⟩ = some (.int .i64 0) := bc_41.out.at 1 _ rfl
  have zbc := bc_41.out.lt
  go_region_held3 (fun w' => w'.cell? ⟨w15.heap.size, 0, none⟩ = some (.slice (some ⟨bs, off, none⟩) 30 d2) ∧ w'.cell? ⟨w15.heap.size, 1, none⟩ = some (.int .i64 0) ∧ w'.cell? ⟨w26.heap.size, 0, none⟩ = some (.slice S4 30 d4) ∧ w'.cell? ⟨w26.heap.size, 1, none⟩ = some (.int .i64 0) ∧ w'.cell? ⟨w36.heap.size, 0, none⟩ = some (.slice S5 30 d5) ∧ w'.cell? ⟨w36.heap.size, 1, none⟩ = some (.int .i64 0) ∧ w'.cell? ⟨bs, off + 4 * 4 + 2, none⟩ = some (.bool true))
    (first | exact HK42.out _ E42_2.out | exact HK42.out _ E42_1.out | exact HK42.out _ E42_0.out | exact HK42.out _ (Ext.refl W39).drew | exact HK42.out _ (Ext.refl W39))
    (first
      | ((go_at_call 18
          with_reducible refine (G42_2.out _ E42_1.out).mono ?_
          rintro e v42_2 ⟨S7, d7, rfl, h7, hx⟩
          have E42_2 := Lib.hid (E42_1.out.trans hx)
          have P6_42_2 := Lib.hid (P6_42_1.out.ext hx)
          have P7_42_2 := Lib.hid h7
          clear hx h7))
      | ((go_at_call 17
          have hc := pfItems_any S6 _ d6 5 _ P6_42_0.out (pf_pre (bl_40.out.ext E42_0.out))
          with_reducible refine hc.mono ?_
          clear hc
          rintro e v42_1 ⟨rfl, hx⟩
          have E42_1 := Lib.hid (E42_0.out.trans hx)
          have P6_42_1 := Lib.hid (P6_42_0.out.ext hx)
          clear hx))
      | ((go_at_call 18
          with_reducible refine (G42_0.out _ ?_).mono ?_
          (first | exact Ext.refl _ | exact (Ext.refl _).drew)
          rintro e v42_0 ⟨S6, d6, rfl, h6, hx⟩
          have E42_0 := Lib.hid (show Ext W39 v42_0 from by first | exact hx | exact (Ext.refl W39).drew.trans hx)
          have P6_42_0 := Lib.hid h6
          clear hx h6)))
  clear qba0 qba1 zba qbb0 qbb1 zbb qbc0 qbc1 zbc
  go_wp2
  go_ret
  exact ⟨rfl, X_40.out.trans E42_2.out⟩
end Go.Proofs.YtbfbpddfcakieaaGreat
