/- The example of layer 10. The walk of Low of the reference of layer 10. The contract of Low of the reference of layer 10. The walk of Without of the reference of layer 10. What the laws of layer 10 ask, of heaps that are fine; contracts with answers that are told. -/
import Derived.Test.YtbfbpddfcakieaaK31
import Derived.Deep.AppendLies
import Derived.Deep.RegionHeld3
import Derived.Deep.DeepCutAuto
import Derived.Deep.DrawnRows
import Derived.RegionTactic
import Derived.Test.YtbfbpddfcakieaaK38
import Derived.Test.YtbfbpddfcakieaaK33
import Derived.Test.YtbfbpddfcakieaaK21
import Derived.Test.YtbfbpddfcakieaaK24
import Derived.Test.YtbfbpddfcakieaaK04
import Derived.Test.YtbfbpddfcakieaaK11
import Derived.Test.YtbfbpddfcakieaaK30
import Derived.Test.YtbfbpddfcakieaaK14
namespace Go.Proofs.Ytbfbpddfcakieaa
open Go.RowKit
attribute [local go_sem ↓] Go.wp_at_zero Go.wp_at_succ

theorem Bx.slQ {w : World} {k : Nat} {cs : Array Value} (h : Bx w k cs) (n : Nat) (hn : n ≤ maxLen) : Sl w (some ⟨k, 0, none⟩) n n cs.toList :=
  ⟨(fun e => by cases e), Nat.le_refl _, hn, fun _ => ⟨k, 0, rfl, h.lt, fun j u hu => by rw [Nat.zero_add]; exact h.at j u (by simpa using hu)⟩⟩
theorem pfNew_any (w : World) : Calls Try.prog 19 #[.int .i64 30, .int .i64 0] w fun e w' => ∃ S d, e = .returned (.tuple #[.agg #[.slice S 30 d, .int .i64 0], .int .i64 0]) ∧ HcSl w' S 30 d (exN 30) ∧ Ext w w' := by
  have h := ref05New_any 30 0 w
  obtain ⟨e1, e2, _⟩ := new_fine (n := 30) (most := 60) (by decide) (by decide) (by decide)
  rw [show newH 30 0 = ⟨exN 30, 0⟩ from e1, show newHE 30 0 = 0 from e2] at h
  exact h
theorem pf_fine : fineB ⟨exN 30, 0⟩ (-1) 60 = true := (new_fine (n := 30) (most := 60) (by decide) (by decide) (by decide)).2.2
theorem pf_may {h : Hp} {p : Int} (hf : fineB h p 60 = true) : mayT h p 60 = true := by unfold fineB at hf; rw [Bool.and_eq_true] at hf; exact hf.1
theorem pf5_fine : fineB ⟨pf5, 0⟩ 6 60 = true := by
  have h := (fill_fine (keep := 0) (most := 60) (by decide) [(1, 0), (2, 0), (3, 0), (4, 0), (5, 0)] (exN 30) (-1) pf_fine).1
  rw [pf_fill] at h
  exact h
theorem pfB_fine : fineB ⟨pfB, 0⟩ 4 60 = true := by
  have h := (cut_fine (keep := 0) (lo := 4) (hi := 9) (most := 60) (by decide) 5 pf5 6 pf5_fine).fine
  rw [pf_cut] at h
  exact h
set_option maxRecDepth 100000 in
theorem pfC_fine : fineB ⟨pfC, 0⟩ 8 60 = true := by
  rcases del_when (key := 2) (by decide) pf5_fine ⟨(2, 0), by decide +kernel, rfl⟩ with ⟨_, D, _⟩ | ⟨h, _⟩
  · have h := D.fine
    rw [pf_two] at h
    exact h
  · rw [pf_two] at h
    exact absurd h (by decide)
theorem pfFill_any (S A : Option Addr) (d : Nat) (w : World) (hA : HcSl w S 30 d (exN 30)) (hI : Sl w A 5 5 (ivs [(1, 0), (2, 0), (3, 0), (4, 0), (5, 0)])) :
    Calls Try.prog 20 #[.agg #[.slice S 30 d, .int .i64 0], .int .i64 (-1), .slice A 5 5] w fun e w' => ∃ S d, e = .returned (.tuple #[.agg #[.slice S 30 d, .int .i64 0], .int .i64 6, .int .i64 0]) ∧ HcSl w' S 30 d pf5 ∧ Ext w w' := by
  have h := ref09Fill_any S (exN 30) 30 d 0 (-1) 60 A [(1, 0), (2, 0), (3, 0), (4, 0), (5, 0)] 5 5 w (by decide) pf_fine rfl (by decide) hA hI
  rw [pf_fill] at h
  exact h
theorem pfCut_any (S : Option Addr) (d : Nat) (w : World) (hA : HcSl w S 30 d pf5) :
    Calls Try.prog 12 #[.agg #[.slice S 30 d, .int .i64 0], .int .i64 6, .int .i64 4, .int .i64 9, .int .i64 5] w fun e w' => ∃ S d, e = .returned (.tuple #[.agg #[.slice S 30 d, .int .i64 0], .int .i64 4, .int .i64 2, .int .i64 0]) ∧ HcSl w' S 30 d pfB ∧ Ext w w' := by
  have h := pruneCut_any S pf5 30 d 0 6 4 9 60 5 w (by decide) (by decide) pf5_fine hA
  rw [pf_cut] at h
  exact h
theorem pfNone_any (S : Option Addr) (d : Nat) (w : World) (hA : HcSl w S 30 d pf5) :
    Calls Try.prog 9 #[.agg #[.slice S 30 d, .int .i64 0], .int .i64 6, .int .i64 6] w fun e w' => ∃ S d, e = .returned (.tuple #[.agg #[.slice S 30 d, .int .i64 0], .int .i64 6, .int .i64 4]) ∧ HcSl w' S 30 d pf5 ∧ Ext w w' := by
  have h := pruneDel_any S pf5 30 d 0 6 6 60 w (by decide) (pf_may pf5_fine) hA
  rw [pf_none] at h
  exact h
theorem pfTwo_any (S : Option Addr) (d : Nat) (w : World) (hA : HcSl w S 30 d pf5) :
    Calls Try.prog 9 #[.agg #[.slice S 30 d, .int .i64 0], .int .i64 6, .int .i64 2] w fun e w' => ∃ S d, e = .returned (.tuple #[.agg #[.slice S 30 d, .int .i64 0], .int .i64 8, .int .i64 0]) ∧ HcSl w' S 30 d pfC ∧ Ext w w' := by
  have h := pruneDel_any S pf5 30 d 0 6 2 60 w (by decide) (pf_may pf5_fine) hA
  rw [pf_two] at h
  exact h
theorem pfLow_any (S : Option Addr) (d : Nat) (w : World) (hA : HcSl w S 30 d pfB) :
    Calls Try.prog 22 #[.agg #[.slice S 30 d, .int .i64 0], .int .i64 4] w fun e w' => ∃ S d, e = .returned (.tuple #[.agg #[.slice S 30 d, .int .i64 0], .int .i64 4]) ∧ HcSl w' S 30 d pfB ∧ Ext w w' := by
  have h := pruneLow_any S pfB 30 d 0 4 60 w (pf_may pfB_fine) hA
  rw [pf_low] at h
  exact h
theorem pf_all {c : List HC} {p : Int} (hf : fineB ⟨c, 0⟩ p 60 = true) (hn : c.length = 30) : AllR c ∧ c.length ≤ 2000 ∧ rightR ⟨c, 0⟩ p = true := by
  obtain ⟨h1, h2, _⟩ := fine_may hf
  exact ⟨allR_of (may_iff h1).2.2, by omega, h2⟩
theorem pfRight_any {c : List HC} {p : Int} (hf : fineB ⟨c, 0⟩ p 60 = true) (hn : c.length = 30) (S : Option Addr) (d : Nat) (w : World) (hA : HcSl w S 30 d c) :
    Calls Try.prog 21 #[.agg #[.slice S 30 d, .int .i64 0], .int .i64 p] w fun e w' => e = .returned (.bool true) ∧ Ext w w' := by
  obtain ⟨h1, h2, h3⟩ := pf_all hf hn
  have h := ref07Right_any S c 30 d 0 p w h1 h2 hA
  rw [h3] at h
  exact h
theorem pfList_any {c : List HC} {p : Int} {L : List It} {k : Nat} (hf : fineB ⟨c, 0⟩ p 60 = true) (hn : c.length = 30) (hL : listT c p = L) (hk : L.length = k) (S : Option Addr) (d : Nat) (w : World) (hA : HcSl w S 30 d c) :
    Calls Try.prog 15 #[.agg #[.slice S 30 d, .int .i64 0], .int .i64 p] w fun e w' => ∃ S d, e = .returned (.slice S k d) ∧ Sl w' S k d (ivs L) ∧ Ext w w' := by
  obtain ⟨h1, h2, h3⟩ := pf_all hf hn
  refine (ref07List_any S c 30 d 0 0 p w h1 h2 h3 hA).mono ?_
  rintro e w2 ⟨T, s, c, rfl, rfl, h1, h2⟩
  subst hL
  subst hk
  exact ⟨T, c, rfl, h1, h2⟩
theorem pfItems_any (S T : Option Addr) (d c : Nat) (w : World) (h1 : Sl w S 3 d (ivs [(1, 0), (2, 0), (3, 0)])) (h2 : Sl w T 3 c (ivs [(1, 0), (2, 0), (3, 0)])) :
    Calls Try.prog 17 #[.slice S 3 d, .slice T 3 c] w fun e w' => e = .returned (.bool true) ∧ Ext w w' := by
  have h := ref04Items_any S T [(1, 0), (2, 0), (3, 0)] [(1, 0), (2, 0), (3, 0)] 3 3 d c w rfl rfl h1 h2
  rw [show sameI [(1, 0), (2, 0), (3, 0)] [(1, 0), (2, 0), (3, 0)] = true from by unfold sameI; simp] at h
  exact h
theorem pf_leaf {w : World} {bs off d : Nat} (h : HcSl w (some ⟨bs, off, none⟩) 30 d pfB) : w.cell? ⟨bs, off + 4 * 4 + 2, none⟩ = some (.bool true) := by
  obtain ⟨b, o, e, -, A, c, -, -, r2, -⟩ := h.cell (k := 4) (by decide)
  cases e
  exact r2
theorem pf_pre {w : World} {k : Nat} (h : Bx w k #[.int .i64 1, .int .i64 0, .int .i64 2, .int .i64 0, .int .i64 3, .int .i64 0, .int .i64 4, .int .i64 0, .int .i64 5, .int .i64 0]) : Sl w (some ⟨k, 0, none⟩) 3 5 (ivs [(1, 0), (2, 0), (3, 0)]) :=
  (show Sl w (some ⟨k, 0, none⟩) 5 5 (ivs [(1, 0), (2, 0), (3, 0), (4, 0), (5, 0)]) from h.slQ 5 (by unfold maxLen; omega)).pre rfl 3 (by decide)
attribute [local go_sem] beq_self_eq_true bne_self_eq_false
set_option maxRecDepth 100000 in
set_option maxHeartbeats 4000000 in
theorem shown_any (w : World) : Calls Try.prog 6 #[] w fun e w' => e = .returned (.bool true) ∧ Ext w w' := by
  have X_1 := Lib.hid (Ext.refl w)
  go_enter Try.func6, Try.ntmps6
  go_wp2_with (go_at_call 19; refine stop_here ?_)
  refine stop_on ?_
  refine (pfNew_any _).mono ?_
  rintro e w2 ⟨S0, d0, rfl, h0, hx⟩
  have X_3 := Lib.hid (X_1.out.ext hx)
  clear X_1
  have H0_4 := Lib.hid h0
  clear hx h0
  go_wp2_with (go_at_call 20; refine stop_here ?_)
  refine stop_on ?_
  generalize hW : (World.alloc (World.alloc w2 _) _) = W5
  obtain ⟨hx, hb0, hb1⟩ := allocs2 hW
  clear hW
  have X_6 := Lib.hid (X_3.out.ext hx)
  have H0_6 := Lib.hid (H0_4.out.ext hx)
  clear X_3 H0_4
  have bh_7 := Lib.hid hb0
  have bl_8 := Lib.hid hb1
  clear hx hb0 hb1
  refine (pfFill_any S0 _ d0 _ H0_6.out (bl_8.out.slQ 5 (by unfold maxLen; omega))).mono ?_
  rintro e w9 ⟨S1, d1, rfl, h1, hx⟩
  have X_10 := Lib.hid (X_6.out.ext hx)
  have H0_10 := Lib.hid (H0_6.out.ext hx)
  have bh_10 := Lib.hid (bh_7.out.ext hx)
  have bl_10 := Lib.hid (bl_8.out.ext hx)
  clear X_6 H0_6 bh_7 bl_8
  have H1_11 := Lib.hid h1
  clear hx h1
  have qbh0 : w9.cell? ⟨w2.heap.size, 0, none⟩ = some (.slice S0 30 d0) := bh_10.out.at 0 _ rfl
  have qbh1 : w9.cell? ⟨w2.heap.size, 1, none⟩ = some (.int .i64 0) := bh_10.out.at 1 _ rfl
  have zbh := bh_10.out.lt
  have qbl0 : w9.cell? ⟨w2.heap.size + 1, 0, none⟩ = some (.int .i64 1) := bl_10.out.at 0 _ rfl
  have qbl1 : w9.cell? ⟨w2.heap.size + 1, 1, none⟩ = some (.int .i64 0) := bl_10.out.at 1 _ rfl
  have qbl2 : w9.cell? ⟨w2.heap.size + 1, 2, none⟩ = some (.int .i64 2) := bl_10.out.at 2 _ rfl
  have qbl3 : w9.cell? ⟨w2.heap.size + 1, 3, none⟩ = some (.int .i64 0) := bl_10.out.at 3 _ rfl
  have qbl4 : w9.cell? ⟨w2.heap.size + 1, 4, none⟩ = some (.int .i64 3) := bl_10.out.at 4 _ rfl
  have qbl5 : w9.cell? ⟨w2.heap.size + 1, 5, none⟩ = some (.int .i64 0) := bl_10.out.at 5 _ rfl
  have qbl6 : w9.cell? ⟨w2.heap.size + 1, 6, none⟩ = some (.int .i64 4) := bl_10.out.at 6 _ rfl
  have qbl7 : w9.cell? ⟨w2.heap.size + 1, 7, none⟩ = some (.int .i64 0) := bl_10.out.at 7 _ rfl
  have qbl8 : w9.cell? ⟨w2.heap.size + 1, 8, none⟩ = some (.int .i64 5) := bl_10.out.at 8 _ rfl
  have qbl9 : w9.cell? ⟨w2.heap.size + 1, 9, none⟩ = some (.int .i64 0) := bl_10.out.at 9 _ rfl
  have zbl := bl_10.out.lt
  go_wp2_with (go_at_call 12; refine stop_here ?_)
  refine stop_on ?_
  clear qbh0 qbh1 zbh qbl0 qbl1 qbl2 qbl3 qbl4 qbl5 qbl6 qbl7 qbl8 qbl9 zbl
  generalize hW : (World.alloc w9 _) = W12
  obtain ⟨hx, hb0⟩ := allocs1 hW
  clear hW
  have X_13 := Lib.hid (X_10.out.ext hx)
  have H0_13 := Lib.hid (H0_10.out.ext hx)
  have bh_13 := Lib.hid (bh_10.out.ext hx)
  have bl_13 := Lib.hid (bl_10.out.ext hx)
  have H1_13 := Lib.hid (H1_11.out.ext hx)
  clear X_10 H0_10 bh_10 bl_10 H1_11
  have bg_14 := Lib.hid hb0
  clear hx hb0
  refine (pfCut_any S1 d1 _ H1_13.out).mono ?_
  rintro e w15 ⟨S2, d2, rfl, h2, hx⟩
  have X_16 := Lib.hid (X_13.out.ext hx)
  have H0_16 := Lib.hid (H0_13.out.ext hx)
  have bh_16 := Lib.hid (bh_13.out.ext hx)
  have bl_16 := Lib.hid (bl_13.out.ext hx)
  have H1_16 := Lib.hid (H1_13.out.ext hx)
  have bg_16 := Lib.hid (bg_14.out.ext hx)
  clear X_13 H0_13 bh_13 bl_13 H1_13 bg_14
  have H2_17 := Lib.hid h2
  clear hx h2
  have zbh := bh_16.out.lt
  have qbl0 : w15.cell? ⟨w2.heap.size + 1, 0, none⟩ = some (.int .i64 1) := bl_16.out.at 0 _ rfl
  have qbl1 : w15.cell? ⟨w2.heap.size + 1, 1, none⟩ = some (.int .i64 0) := bl_16.out.at 1 _ rfl
  have qbl2 : w15.cell? ⟨w2.heap.size + 1, 2, none⟩ = some (.int .i64 2) := bl_16.out.at 2 _ rfl
  have qbl3 : w15.cell? ⟨w2.heap.size + 1, 3, none⟩ = some (.int .i64 0) := bl_16.out.at 3 _ rfl
  have qbl4 : w15.cell? ⟨w2.heap.size + 1, 4, none⟩ = some (.int .i64 3) := bl_16.out.at 4 _ rfl
  have qbl5 : w15.cell? ⟨w2.heap.size + 1, 5, none⟩ = some (.int .i64 0) := bl_16.out.at 5 _ rfl
  have qbl6 : w15.cell? ⟨w2.heap.size + 1, 6, none⟩ = some (.int .i64 4) := bl_16.out.at 6 _ rfl
  have qbl7 : w15.cell? ⟨w2.heap.size + 1, 7, none⟩ = some (.int .i64 0) := bl_16.out.at 7 _ rfl
  have qbl8 : w15.cell? ⟨w2.heap.size + 1, 8, none⟩ = some (.int .i64 5) := bl_16.out.at 8 _ rfl
  have qbl9 : w15.cell? ⟨w2.heap.size + 1, 9, none⟩ = some (.int .i64 0) := bl_16.out.at 9 _ rfl
  have zbl := bl_16.out.lt
  have qbg0 : w15.cell? ⟨w9.heap.size, 0, none⟩ = some (.slice S1 30 d1) := bg_16.out.at 0 _ rfl
  have qbg1 : w15.cell? ⟨w9.heap.size, 1, none⟩ = some (.int .i64 0) := bg_16.out.at 1 _ rfl
  have zbg := bg_16.out.lt
  go_wp2_with (go_at_call 9; refine stop_here ?_)
  refine stop_on ?_
  clear zbh qbl0 qbl1 qbl2 qbl3 qbl4 qbl5 qbl6 qbl7 qbl8 qbl9 zbl qbg0 qbg1 zbg
  generalize hW : (World.alloc w15 _) = W18
  obtain ⟨hx, hb0⟩ := allocs1 hW
  clear hW
  have X_19 := Lib.hid (X_16.out.ext hx)
  have H0_19 := Lib.hid (H0_16.out.ext hx)
  have bh_19 := Lib.hid (bh_16.out.ext hx)
  have bl_19 := Lib.hid (bl_16.out.ext hx)
  have H1_19 := Lib.hid (H1_16.out.ext hx)
  have bg_19 := Lib.hid (bg_16.out.ext hx)
  have H2_19 := Lib.hid (H2_17.out.ext hx)
  clear X_16 H0_16 bh_16 bl_16 H1_16 bg_16 H2_17
  have ba_20 := Lib.hid hb0
  clear hx hb0
  refine (pfNone_any S1 d1 _ H1_19.out).mono ?_
  rintro e w21 ⟨S3, d3, rfl, h3, hx⟩
  have X_22 := Lib.hid (X_19.out.ext hx)
  have H0_22 := Lib.hid (H0_19.out.ext hx)
  have bh_22 := Lib.hid (bh_19.out.ext hx)
  have bl_22 := Lib.hid (bl_19.out.ext hx)
  have H1_22 := Lib.hid (H1_19.out.ext hx)
  have bg_22 := Lib.hid (bg_19.out.ext hx)
  have H2_22 := Lib.hid (H2_19.out.ext hx)
  have ba_22 := Lib.hid (ba_20.out.ext hx)
  clear X_19 H0_19 bh_19 bl_19 H1_19 bg_19 H2_19 ba_20
  have H3_23 := Lib.hid h3
  clear hx h3
  have zbh := bh_22.out.lt
  have qbl0 : w21.cell? ⟨w2.heap.size + 1, 0, none⟩ = some (.int .i64 1) := bl_22.out.at 0 _ rfl
  have qbl1 : w21.cell? ⟨w2.heap.size + 1, 1, none⟩ = some (.int .i64 0) := bl_22.out.at 1 _ rfl
  have qbl2 : w21.cell? ⟨w2.heap.size + 1, 2, none⟩ = some (.int .i64 2) := bl_22.out.at 2 _ rfl
  have qbl3 : w21.cell? ⟨w2.heap.size + 1, 3, none⟩ = some (.int .i64 0) := bl_22.out.at 3 _ rfl
  have qbl4 : w21.cell? ⟨w2.heap.size + 1, 4, none⟩ = some (.int .i64 3) := bl_22.out.at 4 _ rfl
  have qbl5 : w21.cell? ⟨w2.heap.size + 1, 5, none⟩ = some (.int .i64 0) := bl_22.out.at 5 _ rfl
  have qbl6 : w21.cell? ⟨w2.heap.size + 1, 6, none⟩ = some (.int .i64 4) := bl_22.out.at 6 _ rfl
  have qbl7 : w21.cell? ⟨w2.heap.size + 1, 7, none⟩ = some (.int .i64 0) := bl_22.out.at 7 _ rfl
  have qbl8 : w21.cell? ⟨w2.heap.size + 1, 8, none⟩ = some (.int .i64 5) := bl_22.out.at 8 _ rfl
  have qbl9 : w21.cell? ⟨w2.heap.size + 1, 9, none⟩ = some (.int .i64 0) := bl_22.out.at 9 _ rfl
  have zbl := bl_22.out.lt
  have qbg0 : w21.cell? ⟨w9.heap.size, 0, none⟩ = some (.slice S1 30 d1) := bg_22.out.at 0 _ rfl
  have qbg1 : w21.cell? ⟨w9.heap.size, 1, none⟩ = some (.int .i64 0) := bg_22.out.at 1 _ rfl
  have zbg := bg_22.out.lt
  have qba0 : w21.cell? ⟨w15.heap.size, 0, none⟩ = some (.slice S2 30 d2) := ba_22.out.at 0 _ rfl
  have qba1 : w21.cell? ⟨w15.heap.size, 1, none⟩ = some (.int .i64 0) := ba_22.out.at 1 _ rfl
  have zba := ba_22.out.lt
  go_wp2_with (go_at_call 9; refine stop_here ?_)
  refine stop_on ?_
  clear zbh qbl0 qbl1 qbl2 qbl3 qbl4 qbl5 qbl6 qbl7 qbl8 qbl9 zbl qbg0 qbg1 zbg qba0 qba1 zba
  generalize hW : (World.alloc w21 _) = W24
  obtain ⟨hx, hb0⟩ := allocs1 hW
  clear hW
  have X_25 := Lib.hid (X_22.out.ext hx)
  have H0_25 := Lib.hid (H0_22.out.ext hx)
  have bh_25 := Lib.hid (bh_22.out.ext hx)
  have bl_25 := Lib.hid (bl_22.out.ext hx)
  have H1_25 := Lib.hid (H1_22.out.ext hx)
  have bg_25 := Lib.hid (bg_22.out.ext hx)
  have H2_25 := Lib.hid (H2_22.out.ext hx)
  have ba_25 := Lib.hid (ba_22.out.ext hx)
  have H3_25 := Lib.hid (H3_23.out.ext hx)
  clear X_22 H0_22 bh_22 bl_22 H1_22 bg_22 H2_22 ba_22 H3_23
  clear hx hb0
  refine (pfTwo_any S1 d1 _ H1_25.out).mono ?_
  rintro e w26 ⟨S4, d4, rfl, h4, hx⟩
  have X_27 := Lib.hid (X_25.out.ext hx)
  have H0_27 := Lib.hid (H0_25.out.ext hx)
  have bh_27 := Lib.hid (bh_25.out.ext hx)
  have bl_27 := Lib.hid (bl_25.out.ext hx)
  have H1_27 := Lib.hid (H1_25.out.ext hx)
  have bg_27 := Lib.hid (bg_25.out.ext hx)
  have H2_27 := Lib.hid (H2_25.out.ext hx)
  have ba_27 := Lib.hid (ba_25.out.ext hx)
  have H3_27 := Lib.hid (H3_25.out.ext hx)
  clear X_25 H0_25 bh_25 bl_25 H1_25 bg_25 H2_25 ba_25 H3_25
  have H4_28 := Lib.hid h4
  clear hx h4
  have zbh := bh_27.out.lt
  have qbl0 : w26.cell? ⟨w2.heap.size + 1, 0, none⟩ = some (.int .i64 1) := bl_27.out.at 0 _ rfl
  have qbl1 : w26.cell? ⟨w2.heap.size + 1, 1, none⟩ = some (.int .i64 0) := bl_27.out.at 1 _ rfl
  have qbl2 : w26.cell? ⟨w2.heap.size + 1, 2, none⟩ = some (.int .i64 2) := bl_27.out.at 2 _ rfl
  have qbl3 : w26.cell? ⟨w2.heap.size + 1, 3, none⟩ = some (.int .i64 0) := bl_27.out.at 3 _ rfl
  have qbl4 : w26.cell? ⟨w2.heap.size + 1, 4, none⟩ = some (.int .i64 3) := bl_27.out.at 4 _ rfl
  have qbl5 : w26.cell? ⟨w2.heap.size + 1, 5, none⟩ = some (.int .i64 0) := bl_27.out.at 5 _ rfl
  have qbl6 : w26.cell? ⟨w2.heap.size + 1, 6, none⟩ = some (.int .i64 4) := bl_27.out.at 6 _ rfl
  have qbl7 : w26.cell? ⟨w2.heap.size + 1, 7, none⟩ = some (.int .i64 0) := bl_27.out.at 7 _ rfl
  have qbl8 : w26.cell? ⟨w2.heap.size + 1, 8, none⟩ = some (.int .i64 5) := bl_27.out.at 8 _ rfl
  have qbl9 : w26.cell? ⟨w2.heap.size + 1, 9, none⟩ = some (.int .i64 0) := bl_27.out.at 9 _ rfl
  have zbl := bl_27.out.lt
  have qbg0 : w26.cell? ⟨w9.heap.size, 0, none⟩ = some (.slice S1 30 d1) := bg_27.out.at 0 _ rfl
  have qbg1 : w26.cell? ⟨w9.heap.size, 1, none⟩ = some (.int .i64 0) := bg_27.out.at 1 _ rfl
  have zbg := bg_27.out.lt
  have qba0 : w26.cell? ⟨w15.heap.size, 0, none⟩ = some (.slice S2 30 d2) := ba_27.out.at 0 _ rfl
  have qba1 : w26.cell? ⟨w15.heap.size, 1, none⟩ = some (.int .i64 0) := ba_27.out.at 1 _ rfl
  have zba := ba_27.out.lt
  go_wp2_with (go_at_call 21; refine stop_here ?_)
  refine stop_on ?_
  clear zbh qbl0 qbl1 qbl2 qbl3 qbl4 qbl5 qbl6 qbl7 qbl8 qbl9 zbl qbg0 qbg1 zbg qba0 qba1 zba
  generalize hW : (World.alloc w26 _) = W29
  obtain ⟨hx, hb0⟩ := allocs1 hW
  clear hW
  have X_30 := Lib.hid (X_27.out.ext hx)
  have H0_30 := Lib.hid (H0_27.out.ext hx)
  have bh_30 := Lib.hid (bh_27.out.ext hx)
  have bl_30 := Lib.hid (bl_27.out.ext hx)
  have H1_30 := Lib.hid (H1_27.out.ext hx)
  have bg_30 := Lib.hid (bg_27.out.ext hx)
  have H2_30 := Lib.hid (H2_27.out.ext hx)
  have ba_30 := Lib.hid (ba_27.out.ext hx)
  have H3_30 := Lib.hid (H3_27.out.ext hx)
  have H4_30 := Lib.hid (H4_28.out.ext hx)
  clear X_27 H0_27 bh_27 bl_27 H1_27 bg_27 H2_27 ba_27 H3_27 H4_28
  have bb_31 := Lib.hid hb0
  clear hx hb0
  refine (pfRight_any pfB_fine rfl S2 d2 _ H2_30.out).mono ?_
  rintro e w32 ⟨rfl, hx⟩
  have X_33 := Lib.hid (X_30.out.ext hx)
  have H0_33 := Lib.hid (H0_30.out.ext hx)
  have bh_33 := Lib.hid (bh_30.out.ext hx)
  have bl_33 := Lib.hid (bl_30.out.ext hx)
  have H1_33 := Lib.hid (H1_30.out.ext hx)
  have bg_33 := Lib.hid (bg_30.out.ext hx)
  have H2_33 := Lib.hid (H2_30.out.ext hx)
  have ba_33 := Lib.hid (ba_30.out.ext hx)
  have H3_33 := Lib.hid (H3_30.out.ext hx)
  have H4_33 := Lib.hid (H4_30.out.ext hx)
  have bb_33 := Lib.hid (bb_31.out.ext hx)
  clear X_30 H0_30 bh_30 bl_30 H1_30 bg_30 H2_30 ba_30 H3_30 H4_30 bb_31
  clear hx
  have zbh := bh_33.out.lt
  have qbl0 : w32.cell? ⟨w2.heap.size + 1, 0, none⟩ = some (.int .i64 1) := bl_33.out.at 0 _ rfl
  have qbl1 : w32.cell? ⟨w2.heap.size + 1, 1, none⟩ = some (.int .i64 0) := bl_33.out.at 1 _ rfl
  have qbl2 : w32.cell? ⟨w2.heap.size + 1, 2, none⟩ = some (.int .i64 2) := bl_33.out.at 2 _ rfl
  have qbl3 : w32.cell? ⟨w2.heap.size + 1, 3, none⟩ = some (.int .i64 0) := bl_33.out.at 3 _ rfl
  have qbl4 : w32.cell? ⟨w2.heap.size + 1, 4, none⟩ = some (.int .i64 3) := bl_33.out.at 4 _ rfl
  have qbl5 : w32.cell? ⟨w2.heap.size + 1, 5, none⟩ = some (.int .i64 0) := bl_33.out.at 5 _ rfl
  have qbl6 : w32.cell? ⟨w2.heap.size + 1, 6, none⟩ = some (.int .i64 4) := bl_33.out.at 6 _ rfl
  have qbl7 : w32.cell? ⟨w2.heap.size + 1, 7, none⟩ = some (.int .i64 0) := bl_33.out.at 7 _ rfl
  have qbl8 : w32.cell? ⟨w2.heap.size + 1, 8, none⟩ = some (.int .i64 5) := bl_33.out.at 8 _ rfl
  have qbl9 : w32.cell? ⟨w2.heap.size + 1, 9, none⟩ = some (.int .i64 0) := bl_33.out.at 9 _ rfl
  have zbl := bl_33.out.lt
  have zbg := bg_33.out.lt
  have qba0 : w32.cell? ⟨w15.heap.size, 0, none⟩ = some (.slice S2 30 d2) := ba_33.out.at 0 _ rfl
  have qba1 : w32.cell? ⟨w15.heap.size, 1, none⟩ = some (.int .i64 0) := ba_33.out.at 1 _ rfl
  have zba := ba_33.out.lt
  have qbb0 : w32.cell? ⟨w26.heap.size, 0, none⟩ = some (.slice S4 30 d4) := bb_33.out.at 0 _ rfl
  have qbb1 : w32.cell? ⟨w26.heap.size, 1, none⟩ = some (.int .i64 0) := bb_33.out.at 1 _ rfl
  have zbb := bb_33.out.lt
  go_wp2_with (go_at_call 21; refine stop_here ?_)
  refine stop_on ?_
  clear zbh qbl0 qbl1 qbl2 qbl3 qbl4 qbl5 qbl6 qbl7 qbl8 qbl9 zbl zbg qba0 qba1 zba qbb0 qbb1 zbb
  refine (pfRight_any pfC_fine rfl S4 d4 _ H4_33.out).mono ?_
  rintro e w34 ⟨rfl, hx⟩
  have X_35 := Lib.hid (X_33.out.ext hx)
  have H0_35 := Lib.hid (H0_33.out.ext hx)
  have bh_35 := Lib.hid (bh_33.out.ext hx)
  have bl_35 := Lib.hid (bl_33.out.ext hx)
  have H1_35 := Lib.hid (H1_33.out.ext hx)
  have bg_35 := Lib.hid (bg_33.out.ext hx)
  have H2_35 := Lib.hid (H2_33.out.ext hx)
  have ba_35 := Lib.hid (ba_33.out.ext hx)
  have H3_35 := Lib.hid (H3_33.out.ext hx)
  have H4_35 := Lib.hid (H4_33.out.ext hx)
  have bb_35 := Lib.hid (bb_33.out.ext hx)
  clear X_33 H0_33 bh_33 bl_33 H1_33 bg_33 H2_33 ba_33 H3_33 H4_33 bb_33
  clear hx
  have zbh := bh_35.out.lt
  have qbl0 : w34.cell? ⟨w2.heap.size + 1, 0, none⟩ = some (.int .i64 1) := bl_35.out.at 0 _ rfl
  have qbl1 : w34.cell? ⟨w2.heap.size + 1, 1, none⟩ = some (.int .i64 0) := bl_35.out.at 1 _ rfl
  have qbl2 : w34.cell? ⟨w2.heap.size + 1, 2, none⟩ = some (.int .i64 2) := bl_35.out.at 2 _ rfl
  have qbl3 : w34.cell? ⟨w2.heap.size + 1, 3, none⟩ = some (.int .i64 0) := bl_35.out.at 3 _ rfl
  have qbl4 : w34.cell? ⟨w2.heap.size + 1, 4, none⟩ = some (.int .i64 3) := bl_35.out.at 4 _ rfl
  have qbl5 : w34.cell? ⟨w2.heap.size + 1, 5, none⟩ = some (.int .i64 0) := bl_35.out.at 5 _ rfl
  have qbl6 : w34.cell? ⟨w2.heap.size + 1, 6, none⟩ = some (.int .i64 4) := bl_35.out.at 6 _ rfl
  have qbl7 : w34.cell? ⟨w2.heap.size + 1, 7, none⟩ = some (.int .i64 0) := bl_35.out.at 7 _ rfl
  have qbl8 : w34.cell? ⟨w2.heap.size + 1, 8, none⟩ = some (.int .i64 5) := bl_35.out.at 8 _ rfl
  have qbl9 : w34.cell? ⟨w2.heap.size + 1, 9, none⟩ = some (.int .i64 0) := bl_35.out.at 9 _ rfl
  have zbl := bl_35.out.lt
  have zbg := bg_35.out.lt
  have qba0 : w34.cell? ⟨w15.heap.size, 0, none⟩ = some (.slice S2 30 d2) := ba_35.out.at 0 _ rfl
  have qba1 : w34.cell? ⟨w15.heap.size, 1, none⟩ = some (.int .i64 0) := ba_35.out.at 1 _ rfl
  have zba := ba_35.out.lt
  have qbb0 : w34.cell? ⟨w26.heap.size, 0, none⟩ = some (.slice S4 30 d4) := bb_35.out.at 0 _ rfl
  have qbb1 : w34.cell? ⟨w26.heap.size, 1, none⟩ = some (.int .i64 0) := bb_35.out.at 1 _ rfl
  have zbb := bb_35.out.lt
  go_wp2_with (go_at_call 22; refine stop_here ?_)
  refine stop_on ?_
  clear zbh qbl0 qbl1 qbl2 qbl3 qbl4 qbl5 qbl6 qbl7 qbl8 qbl9 zbl zbg qba0 qba1 zba qbb0 qbb1 zbb
  refine (pfLow_any S2 d2 _ H2_35.out).mono ?_
  rintro e w36 ⟨S5, d5, rfl, h5, hx⟩
  have X_37 := Lib.hid (X_35.out.ext hx)
  have H0_37 := Lib.hid (H0_35.out.ext hx)
  have bh_37 := Lib.hid (bh_35.out.ext hx)
  have bl_37 := Lib.hid (bl_35.out.ext hx)
  have H1_37 := Lib.hid (H1_35.out.ext hx)
  have bg_37 := Lib.hid (bg_35.out.ext hx)
  have H2_37 := Lib.hid (H2_35.out.ext hx)
  have ba_37 := Lib.hid (ba_35.out.ext hx)
  have H3_37 := Lib.hid (H3_35.out.ext hx)
  have H4_37 := Lib.hid (H4_35.out.ext hx)
  have bb_37 := Lib.hid (bb_35.out.ext hx)
  clear X_35 H0_35 bh_35 bl_35 H1_35 bg_35 H2_35 ba_35 H3_35 H4_35 bb_35
  have H5_38 := Lib.hid h5
  clear hx h5
  have zbh := bh_37.out.lt
  have qbl0 : w36.cell? ⟨w2.heap.size + 1, 0, none⟩ = some (.int .i64 1) := bl_37.out.at 0 _ rfl
  have qbl1 : w36.cell? ⟨w2.heap.size + 1, 1, none⟩ = some (.int .i64 0) := bl_37.out.at 1 _ rfl
  have qbl2 : w36.cell? ⟨w2.heap.size + 1, 2, none⟩ = some (.int .i64 2) := bl_37.out.at 2 _ rfl
  have qbl3 : w36.cell? ⟨w2.heap.size + 1, 3, none⟩ = some (.int .i64 0) := bl_37.out.at 3 _ rfl
  have qbl4 : w36.cell? ⟨w2.heap.size + 1, 4, none⟩ = some (.int .i64 3) := bl_37.out.at 4 _ rfl
  have qbl5 : w36.cell? ⟨w2.heap.size + 1, 5, none⟩ = some (.int .i64 0) := bl_37.out.at 5 _ rfl
  have qbl6 : w36.cell? ⟨w2.heap.size + 1, 6, none⟩ = some (.int .i64 4) := bl_37.out.at 6 _ rfl
  have qbl7 : w36.cell? ⟨w2.heap.size + 1, 7, none⟩ = some (.int .i64 0) := bl_37.out.at 7 _ rfl
  have qbl8 : w36.cell? ⟨w2.heap.size + 1, 8, none⟩ = some (.int .i64 5) := bl_37.out.at 8 _ rfl
  have qbl9 : w36.cell? ⟨w2.heap.size + 1, 9, none⟩ = some (.int .i64 0) := bl_37.out.at 9 _ rfl
  have zbl := bl_37.out.lt
  have zbg := bg_37.out.lt
  have qba0 : w36.cell? ⟨w15.heap.size, 0, none⟩ = some (.slice S2 30 d2) := ba_37.out.at 0 _ rfl
  have qba1 : w36.cell? ⟨w15.heap.size, 1, none⟩ = some (.int .i64 0) := ba_37.out.at 1 _ rfl
  have zba := ba_37.out.lt
  have qbb0 : w36.cell? ⟨w26.heap.size, 0, none⟩ = some (.slice S4 30 d4) := bb_37.out.at 0 _ rfl
  have qbb1 : w36.cell? ⟨w26.heap.size, 1, none⟩ = some (.int .i64 0) := bb_37.out.at 1 _ rfl
  have zbb := bb_37.out.lt
  obtain ⟨bs, off, rfl, -⟩ := H2_37.out.cell (k := 4) (by decide)
  clear zbh qbl0 qbl1 qbl2 qbl3 qbl4 qbl5 qbl6 qbl7 qbl8 qbl9 zbl zbg qba0 qba1 zba qbb0 qbb1 zbb
  have zbh := bh_37.out.lt
  have qbl0 : w36.cell? ⟨w2.heap.size + 1, 0, none⟩ = some (.int .i64 1) := bl_37.out.at 0 _ rfl
  have qbl1 : w36.cell? ⟨w2.heap.size + 1, 1, none⟩ = some (.int .i64 0) := bl_37.out.at 1 _ rfl
  have qbl2 : w36.cell? ⟨w2.heap.size + 1, 2, none⟩ = some (.int .i64 2) := bl_37.out.at 2 _ rfl
  have qbl3 : w36.cell? ⟨w2.heap.size + 1, 3, none⟩ = some (.int .i64 0) := bl_37.out.at 3 _ rfl
  have qbl4 : w36.cell? ⟨w2.heap.size + 1, 4, none⟩ = some (.int .i64 3) := bl_37.out.at 4 _ rfl
  have qbl5 : w36.cell? ⟨w2.heap.size + 1, 5, none⟩ = some (.int .i64 0) := bl_37.out.at 5 _ rfl
  have qbl6 : w36.cell? ⟨w2.heap.size + 1, 6, none⟩ = some (.int .i64 4) := bl_37.out.at 6 _ rfl
  have qbl7 : w36.cell? ⟨w2.heap.size + 1, 7, none⟩ = some (.int .i64 0) := bl_37.out.at 7 _ rfl
  have qbl8 : w36.cell? ⟨w2.heap.size + 1, 8, none⟩ = some (.int .i64 5) := bl_37.out.at 8 _ rfl
  have qbl9 : w36.cell? ⟨w2.heap.size + 1, 9, none⟩ = some (.int .i64 0) := bl_37.out.at 9 _ rfl
  have zbl := bl_37.out.lt
  have zbg := bg_37.out.lt
  have qba0 : w36.cell? ⟨w15.heap.size, 0, none⟩ = some (.slice (some ⟨bs, off, none⟩) 30 d2) := ba_37.out.at 0 _ rfl
  have qba1 : w36.cell? ⟨w15.heap.size, 1, none⟩ = some (.int .i64 0) := ba_37.out.at 1 _ rfl
  have zba := ba_37.out.lt
  have qbb0 : w36.cell? ⟨w26.heap.size, 0, none⟩ = some (.slice S4 30 d4) := bb_37.out.at 0 _ rfl
  have qbb1 : w36.cell? ⟨w26.heap.size, 1, none⟩ = some (.int .i64 0) := bb_37.out.at 1 _ rfl
  have zbb := bb_37.out.lt
  go_wp2_with fail
  clear zbh qbl0 qbl1 qbl2 qbl3 qbl4 qbl5 qbl6 qbl7 qbl8 qbl9 zbl zbg qba0 qba1 zba qbb0 qbb1 zbb
  generalize hW : (World.alloc w36 _) = W39
  obtain ⟨hx, hb0⟩ := allocs1 hW
  clear hW
  have X_40 := Lib.hid (X_37.out.ext hx)
  have H0_40 := Lib.hid (H0_37.out.ext hx)
  have bh_40 := Lib.hid (bh_37.out.ext hx)
  have bl_40 := Lib.hid (bl_37.out.ext hx)
  have H1_40 := Lib.hid (H1_37.out.ext hx)
  have bg_40 := Lib.hid (bg_37.out.ext hx)
  have H2_40 := Lib.hid (H2_37.out.ext hx)
  have ba_40 := Lib.hid (ba_37.out.ext hx)
  have H3_40 := Lib.hid (H3_37.out.ext hx)
  have H4_40 := Lib.hid (H4_37.out.ext hx)
  have bb_40 := Lib.hid (bb_37.out.ext hx)
  have H5_40 := Lib.hid (H5_38.out.ext hx)
  clear X_37 H0_37 bh_37 bl_37 H1_37 bg_37 H2_37 ba_37 H3_37 H4_37 bb_37 H5_38
  have bc_41 := Lib.hid hb0
  clear hx hb0
  have HK42 := Lib.hid (fun w' (hx : Ext W39 w') => (show w'.cell? ⟨w15.heap.size, 0, none⟩ = some (.slice (some ⟨bs, off, none⟩) 30 d2) ∧ w'.cell? ⟨w15.heap.size, 1, none⟩ = some (.int .i64 0) ∧ w'.cell? ⟨w26.heap.size, 0, none⟩ = some (.slice S4 30 d4) ∧ w'.cell? ⟨w26.heap.size, 1, none⟩ = some (.int .i64 0) ∧ w'.cell? ⟨w36.heap.size, 0, none⟩ = some (.slice S5 30 d5) ∧ w'.cell? ⟨w36.heap.size, 1, none⟩ = some (.int .i64 0) ∧ w'.cell? ⟨bs, off + 4 * 4 + 2, none⟩ = some (.bool true) from ⟨(ba_40.out.ext hx).at 0 _ rfl, (ba_40.out.ext hx).at 1 _ rfl, (bb_40.out.ext hx).at 0 _ rfl, (bb_40.out.ext hx).at 1 _ rfl, (bc_41.out.ext hx).at 0 _ rfl, (bc_41.out.ext hx).at 1 _ rfl, pf_leaf (H2_40.out.ext hx)⟩))
  have G42_0 := Lib.hid (fun w' (hx : Ext W39 w') => pfList_any pfB_fine rfl pf_listB rfl _ d2 _ (H2_40.out.ext hx))
  have G42_2 := Lib.hid (fun w' (hx : Ext W39 w') => pfList_any pfC_fine rfl rfl pf_listC S4 d4 _ (H4_40.out.ext hx))
  have qba0 : W39.cell? ⟨w15.heap.size, 0, none⟩ = some (.slice (some ⟨bs, off, none⟩) 30 d2) := ba_40.out.at 0 _ rfl
  have qba1 : W39.cell? ⟨w15.heap.size, 1, none⟩ = some (.int .i64 0) := ba_40.out.at 1 _ rfl
  have zba := ba_40.out.lt
  have qbb0 : W39.cell? ⟨w26.heap.size, 0, none⟩ = some (.slice S4 30 d4) := bb_40.out.at 0 _ rfl
  have qbb1 : W39.cell? ⟨w26.heap.size, 1, none⟩ = some (.int .i64 0) := bb_40.out.at 1 _ rfl
  have zbb := bb_40.out.lt
  have qbc0 : W39.cell? ⟨w36.heap.size, 0, none⟩ = some (.slice S5 30 d5) := bc_41.out.at 0 _ rfl
  have qbc1 : W39.cell? ⟨w36.heap.size, 1, none⟩ = some (.int .i64 0) := bc_41.out.at 1 _ rfl
  have zbc := bc_41.out.lt
  go_region_held3 (fun w' => w'.cell? ⟨w15.heap.size, 0, none⟩ = some (.slice (some ⟨bs, off, none⟩) 30 d2) ∧ w'.cell? ⟨w15.heap.size, 1, none⟩ = some (.int .i64 0) ∧ w'.cell? ⟨w26.heap.size, 0, none⟩ = some (.slice S4 30 d4) ∧ w'.cell? ⟨w26.heap.size, 1, none⟩ = some (.int .i64 0) ∧ w'.cell? ⟨w36.heap.size, 0, none⟩ = some (.slice S5 30 d5) ∧ w'.cell? ⟨w36.heap.size, 1, none⟩ = some (.int .i64 0) ∧ w'.cell? ⟨bs, off + 4 * 4 + 2, none⟩ = some (.bool true))
    (first | exact HK42.out _ E42_2.out | exact HK42.out _ E42_1.out | exact HK42.out _ E42_0.out | exact HK42.out _ (Ext.refl W39).drew | exact HK42.out _ (Ext.refl W39))
    (first
      | ((go_at_call 15
          with_reducible refine (G42_2.out _ E42_1.out).mono ?_
          rintro e v42_2 ⟨S7, d7, rfl, h7, hx⟩
          have E42_2 := Lib.hid (E42_1.out.trans hx)
          have P6_42_2 := Lib.hid (P6_42_1.out.ext hx)
          have P7_42_2 := Lib.hid h7
          clear hx h7))
      | ((go_at_call 17
          have hc := pfItems_any S6 _ d6 5 _ P6_42_0.out (pf_pre (bl_40.out.ext E42_0.out))
          with_reducible refine hc.mono ?_
          clear hc
          rintro e v42_1 ⟨rfl, hx⟩
          have E42_1 := Lib.hid (E42_0.out.trans hx)
          have P6_42_1 := Lib.hid (P6_42_0.out.ext hx)
          clear hx))
      | ((go_at_call 15
          with_reducible refine (G42_0.out _ ?_).mono ?_
          (first | exact Ext.refl _ | exact (Ext.refl _).drew)
          rintro e v42_0 ⟨S6, d6, rfl, h6, hx⟩
          have E42_0 := Lib.hid (show Ext W39 v42_0 from by first | exact hx | exact (Ext.refl W39).drew.trans hx)
          have P6_42_0 := Lib.hid h6
          clear hx h6)))
  clear qba0 qba1 zba qbb0 qbb1 zbb qbc0 qbc1 zbc
  go_wp2
  go_ret
  exact ⟨rfl, X_40.out.trans E42_2.out⟩
end Go.Proofs.Ytbfbpddfcakieaa
namespace Go.Proofs.Ytbfbpddfcakieaa
open Go.RowKit
attribute [local go_sem ↓] Go.wp_at_zero Go.wp_at_succ

end Go.Proofs.Ytbfbpddfcakieaa
namespace Go.Proofs.Ytbfbpddfcakieaa
open Go.RowKit

end Go.Proofs.Ytbfbpddfcakieaa
namespace Go.Proofs.Ytbfbpddfcakieaa
open Go.RowKit
attribute [local go_sem ↓] Go.wp_at_zero Go.wp_at_succ

set_option maxRecDepth 100000 in
set_option maxHeartbeats 3200000 in
theorem ref10Without_any (S : Option Addr) (t : List It) (s d : Nat) (key : Int) (w : World) (hs : s = t.length) (hsb : s ≤ 1099511627776) (hA : Sl w S s d (ivs t)) :
    Calls Try.prog 16 #[.slice S s d, .int .i64 key] w fun e w' => ∃ S u d, e = .returned (.slice S u d) ∧ u = (outK t key).length ∧ Sl w' S u d (ivs (outK t key)) ∧ Ext w w' := by
  have HS := Lib.hid hs
  have HSL := Lib.hid hA
  unfold outK
  obtain ⟨P, hP⟩ : ∃ P : It → Bool, (fun z : It => decide (z.1 ≠ key)) = P := ⟨_, rfl⟩
  rw [hP]
  have HP := Lib.hid (fun (x : It) => (show P x = decide (x.1 ≠ key) by rw [← hP]))
  clear hs hA hP
  go_enter Try.func16, Try.ntmps16
  go_wp2_with fail
  go_loopw [5, 6] (fun v i wr => ∃ (j u : Nat) (A : Option Addr) (c : Nat), j ≤ s ∧ i = .int .i64 j ∧ v = .slice A u c ∧ (u = ((t.take j).filter P).length ∧ u ≤ j) ∧ wr.ownsRow w.heap.size 45 2 (.slice A u c) u (ivs ((t.take j).filter P)) ∧ Ext w wr) (fun _ i _ => s - (intOf i).toNat)
  case atStart => exact ⟨0, 0, none, 0, Nat.zero_le _, rfl, rfl, ⟨by simp, by omega⟩, by rw [List.take_zero, List.filter_nil]; exact ⟨rfl, .inl ⟨rfl, rfl⟩⟩, Ext.refl _⟩
  case round =>
    obtain ⟨j, u, A, c, hj, rfl, rfl, ⟨hu, huj⟩, ho, hx⟩ := hrel
    have HU := Lib.hid hu
    have HO := Lib.hid ho
    have HXR := Lib.hid hx
    clear hu ho
    rcases Nat.lt_or_ge j s with hlt | hlt
    · have hjt : j < t.length := by rw [← HS.out]; exact hlt
      obtain ⟨b, off, rfl, hb, a0, a1⟩ := it_at HSL.out hjt
      have i0 := (hx.cell (p := ⟨b, off + j * 2, none⟩) hb).trans a0
      have i1 := (hx.cell (p := ⟨b, off + j * 2 + 1, none⟩) hb).trans a1
      have hji : (j : Int) < (s : Int) := by omega
      have HPJ := Lib.hid (HP.out t[j])
      have HFT := Lib.hid (filter_take P hjt)
      obtain ⟨⟨K, V⟩, hkv⟩ : ∃ x, t[j] = x := ⟨_, rfl⟩
      rw [hkv] at i0 i1 HPJ HFT
      simp only at i0 i1 HPJ
      clear hkv a0 a1 hjt hx hb
      by_cases h1 : K = key
      · have d0 : (K == key) = true := by rw [beq_iff_eq]; exact h1
        have d1 : (K != key) = false := by rw [bne, d0]; rfl
        rw [decide_eq_false (fun h => h h1)] at HPJ
        rw [HPJ.out] at HFT
        simp only [Bool.false_eq_true, if_false, List.append_nil] at HFT
        clear h1
        go_wp2
        go_roundw
        case rel => exact ⟨j + 1, u, A, c, by omega, by go_num, rfl, ⟨by rw [HFT.out]; exact HU.out, by omega⟩, by rw [HFT.out]; exact HO.out, HXR.out⟩
        case measure => simp [intOf]; omega
      · have d0 : (K == key) = false := by rw [beq_eq_false_iff_ne]; exact h1
        have d1 : (K != key) = true := by rw [bne, d0]; rfl
        rw [decide_eq_true h1] at HPJ
        rw [HPJ.out] at HFT
        simp only [if_true] at HFT
        clear h1
        go_wp2_with (at_builtin; refine stop_here ?_)
        refine stop_on ?_
        refine app_itemsW _ rfl _ _ rfl w.heap.size _ u ((t.take j).filter P) rfl (own_ext HO.out ((Ext.refl _).alloc _)) _ 1 1 [(K, V)] rfl rfl (sl_lit' rfl _ 1 _ (by unfold maxLen; omega)) (by omega) (by have := HXR.out.size; simp; omega) ?_
        intro A5 c5 w5 hown hg
        have HX5 := Lib.hid (Ext.app (HXR.out.alloc _) (own_ext HO.out ((Ext.refl _).alloc _)) (Nat.le_refl _) hg)
        rw [← HFT.out] at hown
        have HO5 := Lib.hid hown
        clear hown hg
        go_wp2_with fail
        go_roundw
        case rel => exact ⟨j + 1, u + 1, A5, c5, by omega, by go_num, rfl, ⟨by rw [HFT.out, List.length_append, ← HU.out]; rfl, by omega⟩, HO5.out, HX5.out⟩
        case measure => simp [intOf]; omega
    · obtain rfl : s = j := by omega
      have d0 : decide ((s : Int) < (s : Int)) = false := decide_eq_false (by omega)
      have HE := Lib.hid (show t.take s = t by rw [HS.out, List.take_length])
      rw [HE.out] at HU HO
      clear hlt hx
      go_wp2
      go_ret
      exact ⟨A, u, c, rfl, HU.out, own_sl HO.out, HXR.out⟩
end Go.Proofs.Ytbfbpddfcakieaa
namespace Go.Proofs.Ytbfbpddfcakieaa
open Go.RowKit

theorem high_boundsP (c : List HC) (root : Int) : 0 ≤ highT c root ∧ highT c root ≤ 20 := by
  unfold highT
  split
  · omega
  · exact bel_high c 20 root
theorem mayT_ofP {h : Hp} {root most : Int} (hf : fineB h root most = true) : mayT h root most = true := by unfold fineB at hf; rw [Bool.and_eq_true] at hf; exact hf.1
theorem fine_allP {c : List HC} {keep root most : Int} (hf : fineB ⟨c, keep⟩ root most = true) : AllR c ∧ c.length ≤ 2000 ∧ rightR ⟨c, keep⟩ root = true ∧ mayR ⟨c, keep⟩ root most = true := by
  obtain ⟨h1, h2, h3⟩ := fine_may hf
  have h4 := may_iff h1
  exact ⟨allR_of h4.2.2, by have := (rightH_iff h4.2.2).1.1.2; exact this, h2, mayT_ofP hf⟩
theorem get_someP {c : List HC} {root key : Int} (hg : getT c root key ≠ none) : ∃ z ∈ listT c root, z.1 = key := by
  unfold getT at hg
  cases h : (listT c root).find? (fun x => decide (x.1 = key)) with
  | none => rw [h] at hg; exact absurd rfl hg
  | some z => exact ⟨z, List.mem_of_find?_eq_some h, by simpa using List.find?_some h⟩
theorem get_noneP {c : List HC} {keep root key : Int} (hg : getT c root key = none) : delR ⟨c, keep⟩ root key = (c, root, 4) := by unfold delR; rw [if_pos hg]
section
variable {l : List HC} {R : Option Addr} {n q : Nat} {keep root : Int} {w : World}
theorem rFine_is {r : Bool} (A : Option Addr) (c : Nat) (most : Int) (h : fineB ⟨l, keep⟩ root most = r) (hA : HcSl w R n q l) (hR : Sl w A 1 c ([root].map iv)) :
    Calls Try.prog 7 #[.agg #[.slice R n q, .int .i64 keep], .slice A 1 c, .slice none 0 0, .int .i64 most] w fun e w' => e = .returned (.bool r) ∧ Ext w w' := by subst h; exact ref08Fine_one l R n q keep A c root most w hA hR
theorem pDel_is {most : Int} {key : Int} {c2 : List HC} {r2 e2 : Int} (hmost : most ≤ 60) (hm : mayT ⟨l, keep⟩ root most = true) (h : delR ⟨l, keep⟩ root key = (c2, r2, e2)) (hA : HcSl w R n q l) :
    Calls Try.prog 9 #[.agg #[.slice R n q, .int .i64 keep], .int .i64 root, .int .i64 key] w fun e w' => ∃ S d, e = .returned (.tuple #[.agg #[.slice S n d, .int .i64 keep], .int .i64 r2, .int .i64 e2]) ∧ HcSl w' S n d c2 ∧ Ext w w' := by
  have h1 := pruneDel_any R l n q keep root key most w hmost hm hA
  rw [h] at h1
  exact h1
theorem pLow_is {most : Int} {c2 : List HC} {r2 : Int} (hm : mayT ⟨l, keep⟩ root most = true) (h : lowS 20 l root = (c2, r2)) (hA : HcSl w R n q l) :
    Calls Try.prog 22 #[.agg #[.slice R n q, .int .i64 keep], .int .i64 root] w fun e w' => ∃ S d, e = .returned (.tuple #[.agg #[.slice S n d, .int .i64 keep], .int .i64 r2]) ∧ HcSl w' S n d c2 ∧ Ext w w' := by
  have h1 := pruneLow_any R l n q keep root most w hm hA
  rw [h] at h1
  exact h1
theorem pCut_is {most lo hi : Int} {m : Nat} {c2 : List HC} {r2 e2 : Int} {k : Nat} (hmost : most ≤ 60) (hm1 : m ≤ 1000) (hf : fineB ⟨l, keep⟩ root most = true) (h : cutS keep lo hi m l root = (c2, r2, k, e2)) (hA : HcSl w R n q l) :
    Calls Try.prog 12 #[.agg #[.slice R n q, .int .i64 keep], .int .i64 root, .int .i64 lo, .int .i64 hi, .int .i64 m] w fun e w' => ∃ S d, e = .returned (.tuple #[.agg #[.slice S n d, .int .i64 keep], .int .i64 r2, .int .i64 k, .int .i64 e2]) ∧ HcSl w' S n d c2 ∧ Ext w w' := by
  have h1 := pruneCut_any R l n q keep root lo hi most m w hmost hm1 hf hA
  rw [h] at h1
  exact h1
theorem rPut_is {most : Int} {key val : Int} {deep : Bool} {c2 : List HC} {r2 e2 : Int} (hmost : most ≤ 60) (hm : mayT ⟨l, keep⟩ root most = true) (h : putR ⟨l, keep⟩ root (key, val) deep = (c2, r2, e2)) (hA : HcSl w R n q l) :
    Calls Try.prog 18 #[.agg #[.slice R n q, .int .i64 keep], .int .i64 root, .int .i64 key, .int .i64 val, .bool deep] w fun e w' => ∃ S d, e = .returned (.tuple #[.agg #[.slice S n d, .int .i64 keep], .int .i64 r2, .int .i64 e2]) ∧ HcSl w' S n d c2 ∧ Ext w w' := by
  have h1 := ref09Put_any R l n q keep root most (key, val) deep w hmost hm hA
  rw [h] at h1
  exact h1
theorem rHigh_is {H : Int} (hl : AllR l) (hn : l.length ≤ 2000) (hr : rightR ⟨l, keep⟩ root = true) (h : highT l root = H) (hA : HcSl w R n q l) :
    Calls Try.prog 10 #[.agg #[.slice R n q, .int .i64 keep], .int .i64 root] w fun e w' => e = .returned (.int .i64 H) ∧ Ext w w' := by
  subst h
  exact (ref07High_any R l n q keep root w hl hn hr hA).mono (fun e w2 h => ⟨h.1, h.2.2⟩)
theorem rFree_is {f : Nat} (h : l.countP freeC = f) (hA : HcSl w R n q l) :
    Calls Try.prog 11 #[.agg #[.slice R n q, .int .i64 keep]] w fun e w' => e = .returned (.int .i64 f) ∧ Ext w w' := by subst h; exact ref05Free_any R l n q keep w hA
theorem rMay_is {r : Bool} (most : Int) (h : mayR ⟨l, keep⟩ root most = r) (hA : HcSl w R n q l) :
    Calls Try.prog 13 #[.agg #[.slice R n q, .int .i64 keep], .int .i64 root, .int .i64 most] w fun e w' => e = .returned (.bool r) ∧ Ext w w' := by subst h; exact ref07May_any R l n q keep root most w hA
theorem rList_is {L : List It} {s : Nat} (hl : AllR l) (hn : l.length ≤ 2000) (hr : rightR ⟨l, keep⟩ root = true) (h : listT l root = L) (hs : L.length = s) (hA : HcSl w R n q l) :
    Calls Try.prog 15 #[.agg #[.slice R n q, .int .i64 keep], .int .i64 root] w fun e w' => ∃ S d, e = .returned (.slice S s d) ∧ Sl w' S s d (ivs L) ∧ Ext w w' := by
  subst h; subst hs
  refine (ref07List_any R l n q keep keep root w hl hn hr hA).mono ?_
  rintro e w2 ⟨T, s, c, rfl, rfl, h1, h2⟩
  exact ⟨T, c, rfl, h1, h2⟩
theorem rScan_is {L : List It} {s : Nat} (lo hi : Int) (hl : AllR l) (hn : l.length ≤ 2000) (hr : rightR ⟨l, keep⟩ root = true) (h : scanT l root lo hi = L) (hs : L.length = s) (hA : HcSl w R n q l) :
    Calls Try.prog 14 #[.agg #[.slice R n q, .int .i64 keep], .int .i64 root, .int .i64 lo, .int .i64 hi] w fun e w' => ∃ S d, e = .returned (.slice S s d) ∧ Sl w' S s d (ivs L) ∧ Ext w w' := by
  subst h; subst hs
  refine (ref07Scan_any R l n q keep keep root lo hi w hl hn hr hA).mono ?_
  rintro e w2 ⟨T, s, c, rfl, rfl, h1, h2⟩
  exact ⟨T, c, rfl, h1, h2⟩
theorem rGet_is {v g : Int} (key : Int) (hl : AllR l) (hn : l.length ≤ 2000) (hr : rightR ⟨l, keep⟩ root = true) (h1 : getV (getT l root key) = v) (h2 : getE (getT l root key) = g) (hA : HcSl w R n q l) :
    Calls Try.prog 8 #[.agg #[.slice R n q, .int .i64 keep], .int .i64 root, .int .i64 key] w fun e w' => e = .returned (.tuple #[.int .i64 v, .int .i64 g]) ∧ Ext w w' := by
  subst h1; subst h2
  exact ref07Get_any R l n q keep keep root key w hl hn hr hA
theorem rItems_is (A B : Option Addr) (a : List It) (s c c' : Nat) (hs : a.length = s) (hA : Sl w A s c (ivs a)) (hB : Sl w B s c' (ivs a)) :
    Calls Try.prog 17 #[.slice A s c, .slice B s c'] w fun e w' => e = .returned (.bool true) ∧ Ext w w' := by
  have h := ref04Items_any A B a a s s c c' w hs.symm hs.symm hA hB
  rw [show sameI a a = true from by unfold sameI; simp] at h
  exact h
theorem rWithout_is {a b : List It} (A : Option Addr) (s c u : Nat) (key : Int) (hs : a.length = s) (hsb : s ≤ 1099511627776) (hb : outK a key = b) (hu : b.length = u) (hA : Sl w A s c (ivs a)) :
    Calls Try.prog 16 #[.slice A s c, .int .i64 key] w fun e w' => ∃ S d, e = .returned (.slice S u d) ∧ Sl w' S u d (ivs b) ∧ Ext w w' := by
  subst hb; subst hu
  refine (ref10Without_any A a s c key w hs.symm hsb hA).mono ?_
  rintro e w2 ⟨S, u, d, rfl, rfl, h1, h2⟩
  exact ⟨S, d, rfl, h1, h2⟩
end
end Go.Proofs.Ytbfbpddfcakieaa
