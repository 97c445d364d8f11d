/- The contract of Cut of package prune. The example of chapter 9: 1 to 5, put one by one. The example of chapter 10: 1 to 5, put one by one, and taken out again. Walks of the reference of layer 8, where there are no tasks: Given, Tells, outside. Walks of the reference of layer 8, where there are no tasks: Tells, Refs, Held. The walk of Refs of the reference of layer 8, where there are no tasks. -/
import Derived.Test.YtbfbpddfcakieaaK30
import Derived.Test.YtbfbpddfcakieaaK21
import Derived.Test.YtbfbpddfcakieaaK17
namespace Go.Proofs.Ytbfbpddfcakieaa
open Go.RowKit
attribute [local go_sem ↓] Go.wp_at_zero Go.wp_at_succ

theorem pruneScan_any (R : Option Addr) (l : List HC) (n q : Nat) (keep keep' p lo hi : Int) (w : World) (hl : AllR l) (hn : l.length ≤ 2000) (hr : rightR ⟨l, keep'⟩ p = true) (hA : HcSl w R n q l) :
    Calls Try.prog 30 #[.agg #[.slice R n q, .int .i64 keep], .int .i64 p, .int .i64 lo, .int .i64 hi] w fun e w' => ∃ S s d, e = .returned (.slice S s d) ∧ s = (scanT l p lo hi).length ∧ Sl w' S s d (ivs (scanT l p lo hi)) ∧ Ext w w' :=
  callsIn_wide.1 (scan_in R l n q keep keep' p lo hi w hl hn hr hA)
def cutP (r : List HC × Int × Nat × Int) (j : Nat) : List HC × Int × Nat × Int := (r.1, r.2.1, r.2.2.1 + j, r.2.2.2)
/-- A tree of which some items of a range are taken out already. -/
structure CutJ (keep lo hi most : Int) (m : Nat) (F : List HC × Int × Nat × Int) (L : List It) (j : Nat) (c : List HC) (p : Int) : Prop where
  fine : fineB ⟨c, keep⟩ p most = true
  le : j ≤ L.length ∧ j ≤ m
  scan : scanT c p lo hi = L.drop j
  same : F = cutP (cutS keep lo hi (m - j) c p) j
theorem CutJ.stop {keep lo hi most : Int} {m : Nat} {F : List HC × Int × Nat × Int} {L : List It} {j : Nat} {c : List HC} {p : Int} (J : CutJ keep lo hi most m F L j c p) (h : m ≤ j ∨ L.length ≤ j) : F = (c, p, j, 0) := by
  rw [J.same]
  have h1 := J.le
  have h2 := J.scan
  rcases Nat.eq_zero_or_pos (m - j) with h0 | h0
  · rw [h0]; unfold cutP cutS; simp
  · obtain ⟨m', hm'⟩ : ∃ m', m - j = m' + 1 := ⟨m - j - 1, by omega⟩
    rw [List.drop_of_length_le (by omega)] at h2
    rw [hm', cutS, h2]
    unfold cutP
    simp
theorem CutJ.step {keep lo hi most : Int} (hmost : most ≤ 60) {m : Nat} {F : List HC × Int × Nat × Int} {L : List It} {j : Nat} {c : List HC} {p : Int} (J : CutJ keep lo hi most m F L j c p) (hj : j < m) (hl : j < L.length) :
    ((delR ⟨c, keep⟩ p L[j].1).2.2 = 0 ∧ CutJ keep lo hi most m F L (j + 1) (delR ⟨c, keep⟩ p L[j].1).1 (delR ⟨c, keep⟩ p L[j].1).2.1) ∨ ((delR ⟨c, keep⟩ p L[j].1).2.2 = 3 ∧ (delR ⟨c, keep⟩ p L[j].1).1 = c ∧ (delR ⟨c, keep⟩ p L[j].1).2.1 = p ∧ F = (c, p, j, 3)) := by
  have hsc := J.scan
  rw [List.drop_eq_getElem_cons hl] at hsc
  obtain ⟨hm, hrr, _⟩ := fine_may J.fine
  have hasc := listT_rise (may_iff hm).2.2 hrr
  have hx : L[j] ∈ listT c p := by
    have : L[j] ∈ scanT c p lo hi := by rw [hsc]; exact List.mem_cons_self
    unfold scanT at this
    exact (List.mem_filter.1 this).1
  have hsame := J.same
  obtain ⟨m', hm'⟩ : ∃ m', m - j = m' + 1 := ⟨m - j - 1, by omega⟩
  rw [hm', cutS, hsc] at hsame
  simp only at hsame
  rcases del_when hmost J.fine ⟨L[j], hx, rfl⟩ with ⟨e0, D, _⟩ | ⟨e3, e1, e2, _⟩
  · left
    rw [if_pos e0] at hsame
    refine ⟨e0, D.fine, ⟨by omega, by omega⟩, ?_, ?_⟩
    · have hlq : listT (delR ⟨c, keep⟩ p L[j].1).1 (delR ⟨c, keep⟩ p L[j].1).2.1 = outK (listT c p) L[j].1 := D.list
      unfold scanT at hsc ⊢
      rw [hlq]
      exact out_scan hasc hsc
    · rw [hsame, show m - (j + 1) = m' by omega]
      unfold cutP
      simp only [Prod.mk.injEq, true_and, and_true]
      omega
  · right
    rw [if_neg (by rw [e3]; decide)] at hsame
    refine ⟨e3, e1, e2, ?_⟩
    rw [hsame, e3]
    unfold cutP
    simp

set_option maxRecDepth 100000 in
set_option maxHeartbeats 3200000 in
/-- P10.3, where all is sound. -/
theorem pruneCut_any (R : Option Addr) (l : List HC) (n q : Nat) (keep root lo hi most : Int) (m : Nat) (w : World) (hmost : most ≤ 60) (_hm1 : m ≤ 1000) (hf : fineB ⟨l, keep⟩ root most = true) (hA : HcSl w R n q l) :
    Calls Try.prog 12 #[.agg #[.slice R n q, .int .i64 keep], .int .i64 root, .int .i64 lo, .int .i64 hi, .int .i64 m] w fun e w' => ∃ S d, e = .returned (.tuple #[.agg #[.slice S n d, .int .i64 keep], .int .i64 (cutS keep lo hi m l root).2.1, .int .i64 ((cutS keep lo hi m l root).2.2.1 : Nat), .int .i64 (cutS keep lo hi m l root).2.2.2]) ∧ HcSl w' S n d (cutS keep lo hi m l root).1 ∧ Ext w w' := by
  obtain ⟨hm, hrr, _⟩ := fine_may hf
  have hri := (may_iff hm).2.2
  obtain ⟨W, hW⟩ : ∃ W, W = (w.alloc (.cells #[.slice R n q, .int .i64 keep] 24)).alloc (.cells #[.slice none 0 0, .int .i64 0] 24) := ⟨_, rfl⟩
  obtain ⟨hx, hb0, hb1⟩ := allocs2 hW.symm
  have HX := Lib.hid hx
  have HB0 := Lib.hid hb0
  have HB1 := Lib.hid hb1
  have HA := Lib.hid (hA.ext hx)
  have HSC := Lib.hid (fun w' (hx : Ext w w') => pruneScan_any R l n q keep keep root lo hi w' (allR_of hri) (rightH_iff hri).1.1.2 hrr (hA.ext hx))
  obtain ⟨F, hF⟩ : ∃ F, cutS keep lo hi m l root = F := ⟨_, rfl⟩
  have HJ0 := Lib.hid (show CutJ keep lo hi most m F (scanT l root lo hi) 0 l root from ⟨hf, ⟨Nat.zero_le _, Nat.zero_le _⟩, rfl, by rw [← hF]; rfl⟩)
  rw [hF]
  have hl60 : (scanT l root lo hi).length ≤ 1099511627776 := by
    have h1 := listT_len (allR_of hri) hrr
    have h2 : (scanT l root lo hi).length ≤ (listT l root).length := List.length_filter_le _ _
    omega
  have HL6 := Lib.hid hl60
  obtain ⟨p0, p1, p2⟩ := hb0.read2
  clear hx hb0 hb1 hA hf hm hrr hri hF hl60
  generalize scanT l root lo hi = it at *
  subst hW
  go_enter Try.func12, Try.ntmps12
  go_wp2_with (go_at_call 30; refine stop_here ?_)
  refine stop_on ?_
  generalize hW : World.alloc (World.alloc w _) _ = W at *
  clear hW
  refine (HSC.out _ HX.out).mono ?_
  rintro e w1 ⟨A, s, c, rfl, hs, hI, hx1⟩
  have HX1 := Lib.hid (HX.out.trans hx1)
  have HB2 := Lib.hid (HB0.out.ext hx1)
  have HB3 := Lib.hid (HB1.out.ext hx1)
  have HA1 := Lib.hid (HA.out.ext hx1)
  have HI := Lib.hid hI
  have HM := Lib.hid hs
  have hs9 : s ≤ 1099511627776 := by rw [hs]; exact HL6.out
  clear hx1 hI hs p0 p1 p2
  go_wp2_with fail
  go_loopw [1, 14, 24] (fun r g i wr => ∃ (j : Nat) (S : Option Addr) (d : Nat) (cj : List HC) (pj : Int), g = .int .i64 j ∧ i = .int .i64 j ∧ r = .int .i64 pj ∧ CutJ keep lo hi most m F it j cj pj ∧ Ext w wr ∧ Hx w.heap.size keep w1 wr ∧ Bx wr w.heap.size #[.slice S n d, .int .i64 keep] ∧ Bx wr (w.heap.size + 1) #[.slice none 0 0, .int .i64 0] ∧ HcSl wr S n d cj) (fun _ _ i _ => s - (intOf i).toNat)
  case atStart => exact ⟨0, R, q, l, root, rfl, rfl, rfl, HJ0.out, HX1.out, Hx.of_ext HB2.out (Ext.refl _), HB2.out, HB3.out, HA1.out⟩
  case round =>
    obtain ⟨j, S, d1, cj, pj, rfl, rfl, rfl, hj, hx, hx1, hb0, hb1, hs⟩ := hrel
    have HJ := Lib.hid hj
    have HXR := Lib.hid hx
    have HXS := Lib.hid hx1
    have HC0 := Lib.hid hb0
    have HC1 := Lib.hid hb1
    have HS := Lib.hid hs
    have hjm : j ≤ m := hj.le.2
    have hjs : j ≤ s := by rw [HM.out]; exact hj.le.1
    obtain ⟨p0, p1, p2⟩ := hb0.read2
    obtain ⟨f0, f1⟩ := hb0.free2
    obtain ⟨t0, t1, t2⟩ := hb1.read2
    obtain ⟨y0, y1⟩ := hb1.free2
    clear hb0 hb1 hs hx hj
    rcases Nat.lt_or_ge j s with hlt | hlt
    rotate_left
    · have hst := HJ.out.stop (.inr (by rw [← HM.out]; exact hlt))
      obtain rfl : s = j := by omega
      subst hst
      have d4 : decide ((s : Int) < (s : Int)) = false := decide_eq_false (by omega)
      clear HJ HJ0 hlt
      go_wp2_with fail
      refine ret2_cell (k := w.heap.size + 1) (x := .slice S n d1) (y := .int .i64 keep) (v := .tuple #[.agg #[.slice S n d1, .int .i64 keep], .int .i64 pj, .int .i64 s, .int .i64 0]) ?hb4 (fun r0 r1 => by simp [results, Try.results12, go_sem, r0, r1]) rfl ?hx4
      case hb4 => exact HC1.out.set2 _ _
      case hx4 => exact ⟨S, d1, rfl, HS.out.boxed2 HC1.out _ _, HXR.out.store2 (by omega) _ _⟩
    have hjl : j < it.length := by rw [← HM.out]; exact hlt
    have hji : (j : Int) < (s : Int) := by omega
    obtain ⟨b2, off2, rfl, hbl2, k0, k1⟩ := it_at (hx1.its HI.out) hjl
    clear hx1
    rcases Nat.lt_or_ge j m with hm | hm
    rotate_left
    · have hst := HJ.out.stop (.inl hm)
      obtain rfl : m = j := by omega
      subst hst
      have d4 : decide ((m : Int) ≤ (m : Int)) = true := decide_eq_true (by omega)
      clear HJ HJ0 hm
      go_wp2_with fail
      refine ret2_cell (k := w.heap.size + 1) (x := .slice S n d1) (y := .int .i64 keep) (v := .tuple #[.agg #[.slice S n d1, .int .i64 keep], .int .i64 pj, .int .i64 m, .int .i64 0]) ?hb4 (fun r0 r1 => by simp [results, Try.results12, go_sem, r0, r1]) rfl ?hx4
      case hb4 => exact (HC1.out.set2 _ _).ext ((Ext.refl _).alloc _)
      case hx4 => exact ⟨S, d1, rfl, (HS.out.boxed2 HC1.out _ _).ext ((Ext.refl _).alloc _), (HXR.out.store2 (by omega) _ _).alloc _⟩
    have d4 : decide ((m : Int) ≤ (j : Int)) = false := decide_eq_false (by omega)
    have d5 : decide (m ≤ j) = false := decide_eq_false (by omega)
    have HST := Lib.hid (HJ.out.step hmost hm hjl)
    have HDE := Lib.hid (fun w' (hx : Ext wr w') => pruneDel_any S cj n d1 keep pj it[j].1 most w' hmost (by have hfj := HJ.out.fine; unfold fineB at hfj; rw [Bool.and_eq_true] at hfj; exact hfj.1) (HS.out.ext hx))
    generalize it[j] = y at *
    obtain ⟨ky, vy⟩ := y
    simp only at k0 k1 HDE HST
    generalize (delR ⟨cj, keep⟩ pj ky) = pr at *
    obtain ⟨c2, r2, e2⟩ := pr
    simp only at HST HDE
    obtain ⟨W5, hW5⟩ : ∃ W5, wr.alloc (.cells #[.int .i64 ky, .int .i64 vy] 45) = W5 := ⟨_, rfl⟩
    obtain ⟨hy, hbx⟩ := allocs1 hW5
    have HY := Lib.hid hy
    obtain ⟨g0, g1, g2⟩ := hbx.read2
    obtain ⟨p5, p6, p7⟩ := (HC0.out.ext hy).read2
    clear hy hbx
    have HLT := Lib.hid (And.intro hm hlt)
    clear hm hlt hjl hjs hjm
    rcases HST.out with ⟨h0, hJ2⟩ | ⟨h0, hc, hr, hF⟩
    · have HJ2 := Lib.hid hJ2
      subst h0
      clear hJ2 HST
      go_wp2_with (go_at_call 9; refine stop_here ?_)
      refine stop_on ?_
      refine (HDE.out _ HY.out).mono ?_
      rintro e w6 ⟨S6, d6, rfl, hs6, hx6⟩
      have HX6 := Lib.hid (HY.out.trans hx6)
      have HS6 := Lib.hid hs6
      have HD0 := Lib.hid (HC0.out.ext HX6.out)
      have HD1 := Lib.hid (HC1.out.ext HX6.out)
      clear hs6 hx6 p0 p1 p2 f0 f1 t0 t1 t2 y0 y1 p5 p6 p7 g0 g1 g2 k0 k1
      obtain ⟨p0, p1, p2⟩ := HD0.out.read2
      obtain ⟨f0, f1⟩ := HD0.out.free2
      go_wp2_with fail
      go_roundw
      case rel =>
        exact ⟨j + 1, S6, d6, c2, r2, by go_num, by go_num, rfl, HJ2.out, (HXR.out.trans HX6.out).store2 (Nat.le_refl _) _ _, (HXS.out.ext HX6.out).trans (hx_store HD0.out S6 n d6).2, HD0.out.set2 _ _, (HD1.out.set_other (p := ⟨w.heap.size, 0, none⟩) (by simp) _).set_other (p := ⟨w.heap.size, 1, none⟩) (by simp) _, HS6.out.boxed2 HD0.out _ _⟩
      case measure => have := HLT.out; simp [intOf]; omega
    · subst h0
      subst hc
      subst hr
      subst hF
      clear HST HJ HJ0
      go_wp2_with (go_at_call 9; refine stop_here ?_)
      refine stop_on ?_
      refine (HDE.out _ HY.out).mono ?_
      rintro e w6 ⟨S6, d6, rfl, hs6, hx6⟩
      have HX6 := Lib.hid (HY.out.trans hx6)
      have HS6 := Lib.hid hs6
      have HD0 := Lib.hid (HC0.out.ext HX6.out)
      have HD1 := Lib.hid (HC1.out.ext HX6.out)
      clear hs6 hx6 p0 p1 p2 f0 f1 t0 t1 t2 y0 y1 p5 p6 p7 g0 g1 g2 k0 k1
      obtain ⟨p0, p1, p2⟩ := HD0.out.read2
      obtain ⟨f0, f1⟩ := HD0.out.free2
      obtain ⟨t0, t1, t2⟩ := HD1.out.read2
      obtain ⟨y0, y1⟩ := HD1.out.free2
      go_wp2_with fail
      refine ret2_cell (k := w.heap.size + 1) (x := .slice S6 n d6) (y := .int .i64 keep) (v := .tuple #[.agg #[.slice S6 n d6, .int .i64 keep], .int .i64 r2, .int .i64 j, .int .i64 3]) ?hb4 (fun r0 r1 => by simp [results, Try.results12, go_sem, r0, r1]) rfl ?hx4
      case hb4 => exact ((HD1.out.set_other (p := ⟨w.heap.size, 0, none⟩) (by simp) _).set_other (p := ⟨w.heap.size, 1, none⟩) (by simp) _).set2 _ _
      case hx4 =>
        have HQ1 := (HD1.out.set_other (p := ⟨w.heap.size, 0, none⟩) (by simp) (.slice S6 n d6)).set_other (p := ⟨w.heap.size, 1, none⟩) (by simp) (.int .i64 keep)
        exact ⟨S6, d6, rfl, (HS6.out.boxed2 HD0.out _ _).boxed2 HQ1 _ _, ((HXR.out.trans HX6.out).store2 (Nat.le_refl _) _ _).store2 (by omega) _ _⟩
end Go.Proofs.Ytbfbpddfcakieaa
namespace Go.Proofs.Ytbfbpddfcakieaa
open Go.RowKit

theorem put_leaf {c : List HC} {keep root : Int} {x : It} {deep : Bool} {xs : List It} {rows : List (List It)} (h1 : okIt x) (h2 : ¬ (highT c root = 20 ∨ fitsH ⟨c, keep⟩ (2 * highT c root + 1) deep = false)) (h0 : ¬ root < 0) (hl : (cellT c root).leaf = true)
    (hxs : withS (cellT c root).it (atI true (cellT c root).it x.1).toNat (if atB (cellT c root).it x.1 then 1 else 0) [x] = xs) (hsp : splitS xs = rows) :
    putR ⟨c, keep⟩ root x deep = (looseL (c.length + 1) (topS (layS true [] rows c).1 (layS true [] rows c).2).1 root, (topS (layS true [] rows c).1 (layS true [] rows c).2).2, 0) := by
  have ha : anewS 20 c root x = layS true [] rows c := by
    show anewS (19 + 1) c root x = _
    rw [anewS, if_pos hl, hxs, hsp]
  unfold putR
  rw [if_pos h1]
  simp only
  rw [if_neg h2]
  unfold putG aboveS
  rw [if_neg h0, if_neg h0, ha]
def exN (n : Nat) : List HC := List.replicate n HC.none
def exW : HC := ⟨0, true, false, []⟩
def exL (it : List It) : HC := ⟨1, false, true, it⟩
def ex1 : List HC := exL [(1, 1)] :: exN 19
def ex2 : List HC := exW :: exL [(1, 1), (2, 2)] :: exN 18
def ex3 : List HC := exW :: exW :: exL [(1, 1), (2, 2), (3, 3)] :: exN 17
def ex4 : List HC := exW :: exW :: exW :: exL [(1, 1), (2, 2), (3, 3), (4, 4)] :: exN 16
def ex5 : List HC := exW :: exW :: exW :: exW :: exL [(1, 1), (2, 2), (3, 3)] :: exL [(4, 4), (5, 5)] :: ⟨1, false, false, [(1, 4), (4, 5)]⟩ :: exN 13
set_option maxRecDepth 100000 in
theorem exP1 : putR ⟨exN 20, 0⟩ (-1) (1, 1) false = (ex1, 0, 0) := by rfl
set_option maxRecDepth 100000 in
theorem exP2 : putR ⟨ex1, 0⟩ 0 (2, 2) false = (ex2, 1, 0) := by
  rw [put_leaf (xs := [(1, 1), (2, 2)]) (rows := [[(1, 1), (2, 2)]]) (by decide) (by decide) (by decide) rfl rfl (splitS_few (by simp) (by simp))]
  rfl
set_option maxRecDepth 100000 in
theorem exP3 : putR ⟨ex2, 0⟩ 1 (3, 3) false = (ex3, 2, 0) := by
  rw [put_leaf (xs := [(1, 1), (2, 2), (3, 3)]) (rows := [[(1, 1), (2, 2), (3, 3)]]) (by decide) (by decide) (by decide) rfl rfl (splitS_few (by simp) (by simp))]
  rfl
set_option maxRecDepth 100000 in
theorem exP4 : putR ⟨ex3, 0⟩ 2 (4, 4) false = (ex4, 3, 0) := by
  rw [put_leaf (xs := [(1, 1), (2, 2), (3, 3), (4, 4)]) (rows := [[(1, 1), (2, 2), (3, 3), (4, 4)]]) (by decide) (by decide) (by decide) rfl rfl (splitS_few (by simp) (by simp))]
  rfl
set_option maxRecDepth 100000 in
theorem exP5 : putR ⟨ex4, 0⟩ 3 (5, 5) false = (ex5, 6, 0) := by
  rw [put_leaf (xs := [(1, 1), (2, 2), (3, 3), (4, 4), (5, 5)]) (rows := [[(1, 1), (2, 2), (3, 3)], [(4, 4), (5, 5)]]) (by decide) (by decide) (by decide) rfl rfl (by rw [splitS_more (by simp), splitS_few (by simp) (by simp)]; rfl)]
  rfl
theorem ex_fill : fillR 0 [(1, 1), (2, 2), (3, 3), (4, 4), (5, 5)] (exN 20) (-1) = (ex5, 6, 0) := by
  rw [fillR, exP1, if_pos rfl]
  rw [fillR, exP2, if_pos rfl]
  rw [fillR, exP3, if_pos rfl]
  rw [fillR, exP4, if_pos rfl]
  rw [fillR, exP5, if_pos rfl]
  rfl
theorem ex_arg : putR ⟨exN 20, 0⟩ (-1) (-1, 0) true = (exN 20, -1, 1) := by unfold putR; rw [if_neg (by decide)]
set_option maxRecDepth 100000 in
theorem ex_one : putR ⟨exN 20, 0⟩ (-1) (7, 8) false = (exL [(7, 8)] :: exN 19, 0, 0) := by rfl
set_option maxRecDepth 100000 in
theorem ex_list : listT ex5 6 = [(1, 1), (2, 2), (3, 3), (4, 4), (5, 5)] := by rfl
theorem ex_len : ex5.length = 20 := by rfl
end Go.Proofs.Ytbfbpddfcakieaa
namespace Go.Proofs.Ytbfbpddfcakieaa
open Go.RowKit

def pf1 : List HC := exL [(1, 0)] :: exN 29
def pf2 : List HC := exW :: exL [(1, 0), (2, 0)] :: exN 28
def pf3 : List HC := exW :: exW :: exL [(1, 0), (2, 0), (3, 0)] :: exN 27
def pf4 : List HC := exW :: exW :: exW :: exL [(1, 0), (2, 0), (3, 0), (4, 0)] :: exN 26
def pf5 : List HC := exW :: exW :: exW :: exW :: exL [(1, 0), (2, 0), (3, 0)] :: exL [(4, 0), (5, 0)] :: ⟨1, false, false, [(1, 4), (4, 5)]⟩ :: exN 23
def pfA : List HC := exW :: exW :: exW :: exW :: exL [(1, 0), (2, 0), (3, 0)] :: exW :: exW :: exL [(5, 0)] :: ⟨1, false, false, [(1, 4), (5, 7)]⟩ :: exN 21
def pfB : List HC := exW :: exW :: exW :: exW :: exL [(1, 0), (2, 0), (3, 0)] :: exW :: exW :: exW :: exW :: exW :: exN 20
def pfC : List HC := exW :: exW :: exW :: exW :: exW :: exL [(4, 0), (5, 0)] :: exW :: exL [(1, 0), (3, 0)] :: ⟨1, false, false, [(1, 7), (4, 5)]⟩ :: exN 21
set_option maxRecDepth 100000 in
theorem pfP1 : putR ⟨exN 30, 0⟩ (-1) (1, 0) false = (pf1, 0, 0) := by rfl
set_option maxRecDepth 100000 in
theorem pfP2 : putR ⟨pf1, 0⟩ 0 (2, 0) false = (pf2, 1, 0) := by
  rw [put_leaf (xs := [(1, 0), (2, 0)]) (rows := [[(1, 0), (2, 0)]]) (by decide) (by decide) (by decide) rfl rfl (splitS_few (by simp) (by simp))]
  rfl
set_option maxRecDepth 100000 in
theorem pfP3 : putR ⟨pf2, 0⟩ 1 (3, 0) false = (pf3, 2, 0) := by
  rw [put_leaf (xs := [(1, 0), (2, 0), (3, 0)]) (rows := [[(1, 0), (2, 0), (3, 0)]]) (by decide) (by decide) (by decide) rfl rfl (splitS_few (by simp) (by simp))]
  rfl
set_option maxRecDepth 100000 in
theorem pfP4 : putR ⟨pf3, 0⟩ 2 (4, 0) false = (pf4, 3, 0) := by
  rw [put_leaf (xs := [(1, 0), (2, 0), (3, 0), (4, 0)]) (rows := [[(1, 0), (2, 0), (3, 0), (4, 0)]]) (by decide) (by decide) (by decide) rfl rfl (splitS_few (by simp) (by simp))]
  rfl
set_option maxRecDepth 100000 in
theorem pfP5 : putR ⟨pf4, 0⟩ 3 (5, 0) false = (pf5, 6, 0) := by
  rw [put_leaf (xs := [(1, 0), (2, 0), (3, 0), (4, 0), (5, 0)]) (rows := [[(1, 0), (2, 0), (3, 0)], [(4, 0), (5, 0)]]) (by decide) (by decide) (by decide) rfl rfl (by rw [splitS_more (by simp), splitS_few (by simp) (by simp)]; rfl)]
  rfl
theorem pf_fill : fillR 0 [(1, 0), (2, 0), (3, 0), (4, 0), (5, 0)] (exN 30) (-1) = (pf5, 6, 0) := by
  rw [fillR, pfP1, if_pos rfl]
  rw [fillR, pfP2, if_pos rfl]
  rw [fillR, pfP3, if_pos rfl]
  rw [fillR, pfP4, if_pos rfl]
  rw [fillR, pfP5, if_pos rfl]
  rfl
set_option maxRecDepth 100000 in
theorem pf_out4 : delR ⟨pf5, 0⟩ 6 4 = (pfA, 8, 0) := by rfl
set_option maxRecDepth 100000 in
theorem pf_out5 : delR ⟨pfA, 0⟩ 8 5 = (pfB, 4, 0) := by rfl
set_option maxRecDepth 100000 in
theorem pf_scan4 : scanT pf5 6 4 9 = [(4, 0), (5, 0)] := by rfl
set_option maxRecDepth 100000 in
theorem pf_scan5 : scanT pfA 8 4 9 = [(5, 0)] := by rfl
set_option maxRecDepth 100000 in
theorem pf_scan6 : scanT pfB 4 4 9 = [] := by rfl
theorem pf_cut : cutS 0 4 9 5 pf5 6 = (pfB, 4, 2, 0) := by
  rw [cutS, pf_scan4]
  simp only
  rw [pf_out4, if_pos rfl]
  simp only
  rw [cutS, pf_scan5]
  simp only
  rw [pf_out5, if_pos rfl]
  simp only
  rw [cutS, pf_scan6]
set_option maxRecDepth 100000 in
theorem pf_none : delR ⟨pf5, 0⟩ 6 6 = (pf5, 6, 4) := by rfl
set_option maxRecDepth 100000 in
theorem pf_two : delR ⟨pf5, 0⟩ 6 2 = (pfC, 8, 0) := by rfl
set_option maxRecDepth 100000 in
theorem pf_low : lowS 20 pfB 4 = (pfB, 4) := by rfl
set_option maxRecDepth 100000 in
theorem pf_listB : listT pfB 4 = [(1, 0), (2, 0), (3, 0)] := by rfl
set_option maxRecDepth 100000 in
theorem pf_listC : (listT pfC 8).length = 4 := by rfl
end Go.Proofs.Ytbfbpddfcakieaa
namespace Go.Proofs.Ytbfbpddfcakieaa
open Go.RowKit

set_option maxHeartbeats 400000 in
theorem ref08Given_nil (p : Int) (w : World) : Calls Try.prog 70 #[.slice none 0 0, .int .i64 p] w fun e w' => e = .returned (.int .i64 0) ∧ w = w' := by
  go_enter Try.func70, Try.ntmps70
  go_wp2
  go_loopw [5, 6] (fun m v wr => m = .int .i64 0 ∧ v = .int .i64 0 ∧ wr = w) (fun _ _ _ => 0)
  case atStart => exact ⟨rfl, rfl, rfl⟩
  case round =>
    obtain ⟨rfl, rfl, rfl⟩ := hrel
    go_wp2
    go_ret
    exact ⟨rfl, rfl⟩
set_option maxHeartbeats 400000 in
theorem ref06Right_nil (n : Int) (w : World) : Calls Try.prog 67 #[.slice none 0 0, .int .i64 n] w fun e w' => e = .returned (.bool true) ∧ w = w' := by
  go_enter Try.func67, Try.ntmps67
  go_wp2
  go_loopw [5] (fun v wr => v = .int .i64 0 ∧ wr = w) (fun _ _ => 0)
  case atStart => exact ⟨rfl, rfl⟩
  case round =>
    obtain ⟨rfl, rfl⟩ := hrel
    go_wp2
    go_ret
    exact ⟨rfl, rfl⟩
def outR (root p : Int) : Int := if root = p then 1 else 0
set_option maxHeartbeats 800000 in
theorem ref08outside_one (A : Option Addr) (c : Nat) (root p : Int) (w : World) (hA : Sl w A 1 c ([root].map iv)) : Calls Try.prog 71 #[.slice A 1 c, .slice none 0 0, .int .i64 p] w fun e w' => e = .returned (.int .i64 (outR root p)) ∧ w = w' := by
  obtain ⟨b, off, rfl, _, hc⟩ := Cells.num hA.cells (k := 0) (by simp)
  have h0 := hc 0 (by simp)
  simp only [List.getElem_cons_zero, Nat.add_zero] at h0
  clear hc hA
  go_enter Try.func71, Try.ntmps71
  go_wp2
  go_loopw [7, 8] (fun m v wr => wr = w ∧ ((v = .int .i64 0 ∧ m = .int .i64 0) ∨ (v = .int .i64 1 ∧ m = .int .i64 (outR root p)))) (fun _ v _ => (1 - intOf v).toNat)
  case atStart => exact ⟨rfl, .inl ⟨rfl, rfl⟩⟩
  case round =>
    obtain ⟨rfl, (⟨rfl, rfl⟩ | ⟨rfl, rfl⟩)⟩ := hrel
    · by_cases h : root = p
      · have t0 : (root == p) = true := by rw [beq_iff_eq]; exact h
        have HO := Lib.hid (show outR root p = 1 from by unfold outR; rw [if_pos h])
        clear h
        go_wp2
        go_roundw
        case rel => exact ⟨trivial, .inr ⟨by go_num, by rw [HO.out]⟩⟩
        case measure => simp [intOf]
      · have t0 : (root == p) = false := by rw [beq_eq_false_iff_ne]; exact h
        have HO := Lib.hid (show outR root p = 0 from by unfold outR; rw [if_neg h])
        clear h
        go_wp2
        go_roundw
        case rel => exact ⟨trivial, .inr ⟨by go_num, by rw [HO.out]⟩⟩
        case measure => simp [intOf]
    · go_wp2
      go_loopw [7, 9] (fun m v wx => m = .int .i64 (outR root p) ∧ v = .int .i64 0 ∧ wx = wr) (fun _ _ _ => 0)
      case atStart => exact ⟨rfl, rfl, rfl⟩
      case round =>
        obtain ⟨rfl, rfl, rfl⟩ := hrel
        go_wp2
        go_ret
        exact ⟨rfl, rfl⟩
end Go.Proofs.Ytbfbpddfcakieaa
namespace Go.Proofs.Ytbfbpddfcakieaa
open Go.RowKit
attribute [local go_sem ↓] Go.wp_at_zero Go.wp_at_succ

theorem count_take {l : List It} {x : Int} {j : Nat} (hj : j < l.length) : ((l.take (j + 1)).map (·.2)).count x = ((l.take j).map (·.2)).count x + (if l[j].2 = x then 1 else 0) := by
  rw [List.take_succ_eq_append_getElem hj, List.map_append, List.count_append]
  congr 1
  by_cases h : l[j].2 = x
  · rw [if_pos h, List.map_cons, List.map_nil, h, List.count_singleton]; simp
  · rw [if_neg h, List.map_cons, List.map_nil, List.count_eq_zero]; simp; exact fun e => h e.symm
set_option maxRecDepth 100000 in
set_option maxHeartbeats 1600000 in
theorem ref08Tells_nil (l : List HC) (k : Nat) (hk : k < l.length) (hit : l[k].it.length ≤ 90000) (R : Option Addr) (n q : Nat) (keep x : Int) (w : World) (hA : HcSl w R n q l) :
    Calls Try.prog 72 #[.agg #[.slice R n q, .int .i64 keep], .slice none 0 0, .int .i64 k, .int .i64 x] w fun e w' => e = .returned (.int .i64 ((tellC l[k]).count x : Nat)) ∧ Ext w w' := by
  have hnl := hA.1
  have hkn : k < n := by omega
  have hx0 := (Ext.refl w).alloc (.cells #[.slice R n q, .int .i64 keep] 24)
  obtain ⟨b, off, rfl, hbl, A, c, r0, r1, r2, r3, hI⟩ := (hA.ext hx0).cell hk
  have hHB := Bx.new w #[.slice (some ⟨b, off, none⟩) n q, .int .i64 keep] 24
  obtain ⟨p0, p1, p2⟩ := hHB.read2
  obtain ⟨⟨rf, pn, lf, it⟩, hcc⟩ : ∃ x, l[k] = x := ⟨_, rfl⟩
  rw [hcc] at r0 r1 r2 r3 hI hit ⊢
  simp only at r0 r1 r2 r3 hI hit
  unfold tellC toldL
  simp only
  obtain ⟨li, hli⟩ : ∃ li, it.length = li := ⟨_, rfl⟩
  rw [hli] at hI r3 hit
  have HLI := Lib.hid hli
  have hst := (Ext.refl (w.alloc (.cells #[.slice (some ⟨b, off, none⟩) n q, .int .i64 keep] 24))).alloc (.cells #[.int .i64 rf, .bool pn, .bool lf, .slice A li c] 59)
  have hbn := Bx.new (w.alloc (.cells #[.slice (some ⟨b, off, none⟩) n q, .int .i64 keep] 24)) #[.int .i64 rf, .bool pn, .bool lf, .slice A li c] 59
  rw [World.size_alloc] at hbn
  obtain ⟨n0, n1, n2, n3⟩ := hbn.read4
  have HX := Lib.hid (hx0.trans hst)
  have HIW := Lib.hid (hI.ext hst)
  clear hcc hk hnl hA hHB hst hx0 hbn hI hli
  by_cases h : 0 < rf ∧ lf = false
  · obtain ⟨h0, rfl⟩ := h
    have d0 : decide (0 < rf) = true := decide_eq_true h0
    rw [if_pos h0]
    simp only [Bool.false_eq_true, if_false]
    go_enter Try.func72, Try.ntmps72
    go_wp2_with (go_at_call 70; refine (ref08Given_nil _ _).mono ?_; rintro e w1 ⟨rfl, rfl⟩)
    generalize World.alloc (World.alloc w _) _ = W at *
    clear p0 p1 p2 r0 r1 r2 r3 hbl
    go_loopw [10, 11] (fun v i wr => ∃ j : Nat, j ≤ li ∧ i = .int .i64 j ∧ v = .int .i64 (((it.take j).map (·.2)).count x : Nat) ∧ wr = W) (fun _ i _ => li - (intOf i).toNat)
    case atStart => exact ⟨0, Nat.zero_le _, rfl, by simp, rfl⟩
    case round =>
      obtain ⟨j, hj, rfl, rfl, rfl⟩ := hrel
      rcases Nat.lt_or_ge j li with hlt | hlt
      · have hjl : j < it.length := by rw [HLI.out]; exact hlt
        obtain ⟨b2, off2, rfl, hb2, a0, a1⟩ := it_at HIW.out hjl
        have hji : (j : Int) < (li : Int) := by omega
        have hcl : ((it.take j).map (·.2)).count x ≤ j := by
          refine Nat.le_trans List.count_le_length ?_
          rw [List.length_map, List.length_take]; omega
        have HCT := Lib.hid (count_take (x := x) hjl)
        generalize ((it.take j).map (·.2)).count x = u at *
        by_cases hx : it[j].2 = x
        · have t0 : (it[j].2 == x) = true := by rw [beq_iff_eq]; exact hx
          rw [if_pos hx] at HCT
          clear hx a0
          generalize it[j].2 = y at *
          go_wp2
          go_roundw
          case rel => exact ⟨j + 1, by omega, by go_num, by rw [HCT.out]; go_num, trivial⟩
          case measure => simp [intOf]; omega
        · have t0 : (it[j].2 == x) = false := by rw [beq_eq_false_iff_ne]; exact hx
          rw [if_neg hx] at HCT
          clear hx a0
          generalize it[j].2 = y at *
          go_wp2
          go_roundw
          case rel => exact ⟨j + 1, by omega, by go_num, by rw [HCT.out]; rfl, trivial⟩
          case measure => simp [intOf]; omega
      · obtain rfl : li = j := by omega
        have d1 : decide ((li : Int) < (li : Int)) = false := decide_eq_false (by omega)
        have HE := Lib.hid (show it.take li = it by rw [← HLI.out, List.take_length])
        rw [HE.out]
        clear hlt
        go_wp2
        go_ret
        exact ⟨rfl, HX.out⟩
  · have hz : (if 0 < rf then (if lf = true then ([] : List Int) else it.map (·.2)) else []).count x = 0 := by
      by_cases h0 : 0 < rf
      · cases lf with
        | false => exact absurd ⟨h0, rfl⟩ h
        | true => simp
      · rw [if_neg h0, List.count_nil]
    rw [hz]
    have hcase : li = 0 ∨ (0 < li ∧ rf ≤ 0) ∨ (0 < li ∧ 0 < rf ∧ lf = true) := by
      rcases Nat.eq_zero_or_pos li with h1 | h1
      · exact .inl h1
      · rcases Int.lt_or_le 0 rf with h0 | h0
        · cases lf with
          | false => exact absurd ⟨h0, rfl⟩ h
          | true => exact .inr (.inr ⟨h1, h0, rfl⟩)
        · exact .inr (.inl ⟨h1, h0⟩)
    clear hz h
    go_enter Try.func72, Try.ntmps72
    go_wp2_with (go_at_call 70; refine (ref08Given_nil _ _).mono ?_; rintro e w1 ⟨rfl, rfl⟩)
    generalize World.alloc (World.alloc w _) _ = W at *
    clear p0 p1 p2 r0 r1 r2 r3 hbl
    go_loopw [10, 11] (fun v i wr => i = .int .i64 0 ∧ v = .int .i64 0 ∧ wr = W) (fun _ _ _ => 0)
    case atStart => exact ⟨rfl, rfl, rfl⟩
    case round =>
      obtain ⟨rfl, rfl, rfl⟩ := hrel
      rcases hcase with rfl | ⟨h1, h2⟩ | ⟨h1, h2, rfl⟩
      · go_wp2
        go_ret
        exact ⟨rfl, HX.out⟩
      · have d0 : decide (0 < rf) = false := decide_eq_false (by omega)
        have d1 : decide ((0 : Int) < (li : Int)) = true := decide_eq_true (by omega)
        have d2 : decide (0 < li) = true := decide_eq_true h1
        go_wp2
        go_ret
        exact ⟨rfl, HX.out⟩
      · have d0 : decide (0 < rf) = true := decide_eq_true h2
        have d1 : decide ((0 : Int) < (li : Int)) = true := decide_eq_true (by omega)
        have d2 : decide (0 < li) = true := decide_eq_true h1
        go_wp2
        go_ret
        exact ⟨rfl, HX.out⟩
end Go.Proofs.Ytbfbpddfcakieaa
namespace Go.Proofs.Ytbfbpddfcakieaa
open Go.RowKit
attribute [local go_sem ↓] Go.wp_at_zero Go.wp_at_succ

theorem inn_take {l : List HC} {j : Nat} (hj : j < l.length) (x : Int) : inn (l.take (j + 1)) x = inn (l.take j) x + (tellC l[j]).count x := by
  unfold inn
  rw [List.take_succ_eq_append_getElem hj, List.map_append, List.sum_append]
  simp
theorem tell_le {c : HC} {b : Nat} (h : c.it.length ≤ b) (x : Int) : (tellC c).count x ≤ b := by
  refine Nat.le_trans List.count_le_length ?_
  unfold tellC toldL
  split
  · split
    · simp
    · simpa using h
  · simp
theorem inn_leB : ∀ {l : List HC} {b : Nat} (_ : ∀ c ∈ l, c.it.length ≤ b) (x : Int), inn l x ≤ l.length * b
  | [], b, _, x => by simp [inn]
  | c :: l, b, h, x => by
    have h1 := inn_leB (l := l) (fun d hd => h d (List.mem_cons_of_mem _ hd)) x
    have h2 := tell_le (h c List.mem_cons_self) x
    have h3 : inn (c :: l) x = (tellC c).count x + inn l x := by simp [inn]
    rw [h3, List.length_cons, Nat.succ_mul]
    omega
def refsL (l : List HC) (root : Int) : List Int := (List.range l.length).map (fun k : Nat => outR root (k : Int) + ((inn l (k : Int) : Nat) : Int))
theorem refs_len (l : List HC) (root : Int) : (refsL l root).length = l.length := by unfold refsL; simp
theorem refs_at {l : List HC} {root : Int} {k : Nat} (hk : k < l.length) : (refsL l root)[k]'(by rw [refs_len]; exact hk) = outR root (k : Int) + ((inn l (k : Int) : Nat) : Int) := by unfold refsL; simp
theorem refs_take {l : List HC} {root : Int} {j : Nat} (hj : j < l.length) : (refsL l root).take (j + 1) = (refsL l root).take j ++ [outR root (j : Int) + ((inn l (j : Int) : Nat) : Int)] := by
  rw [List.take_succ_eq_append_getElem (by rw [refs_len]; exact hj), refs_at hj]
theorem outR_le (root p : Int) : 0 ≤ outR root p ∧ outR root p ≤ 1 := by unfold outR; split <;> omega
set_option maxRecDepth 100000 in
set_option maxHeartbeats 3200000 in
theorem ref08Refs_one (l : List HC) (hit : ∀ c ∈ l, c.it.length ≤ 90000) (hn : l.length ≤ 90000) (R : Option Addr) (n q : Nat) (keep : Int) (A : Option Addr) (c : Nat) (root : Int) (w : World) (hA : HcSl w R n q l) (hR : Sl w A 1 c ([root].map iv)) :
    Calls Try.prog 43 #[.agg #[.slice R n q, .int .i64 keep], .slice A 1 c, .slice none 0 0] w fun e w' => ∃ S d, e = .returned (.slice S n d) ∧ Sl w' S n d ((refsL l root).map iv) ∧ Ext w w' := by
  have hnl := hA.1
  have hx0 := (Ext.refl w).alloc (.cells #[.slice R n q, .int .i64 keep] 24)
  have HX := Lib.hid hx0
  have HB := Lib.hid (Bx.new w #[.slice R n q, .int .i64 keep] 24)
  have HA := Lib.hid (hA.ext hx0)
  have HR := Lib.hid (hR.ext hx0)
  have HNL := Lib.hid hnl
  have HIT := Lib.hid hit
  obtain ⟨p0, p1, p2⟩ := HB.out.read2
  have hnn : n ≤ 90000 := by omega
  clear hx0 hA hR hnl hit hn
  go_enter Try.func43, Try.ntmps43
  go_wp2
  generalize hW : World.alloc w _ = W at *
  have HWS := Lib.hid (show W.heap.size = w.heap.size + 1 by rw [← hW, World.size_alloc])
  clear p0 p1 p2 hW
  go_loopw [7, 8] (fun v i wr => ∃ (j : Nat) (S : Option Addr) (d : Nat), j ≤ n ∧ i = .int .i64 j ∧ v = .slice S j d ∧ wr.ownsRow (w.heap.size + 1) 3 1 (.slice S j d) j (((refsL l root).take j).map iv) ∧ Ext W wr ∧ Bx wr w.heap.size #[.slice R n q, .int .i64 keep]) (fun _ i _ => n - (intOf i).toNat)
  case atStart => exact ⟨0, none, 0, Nat.zero_le _, rfl, rfl, ⟨rfl, .inl ⟨rfl, rfl⟩⟩, Ext.refl _, HB.out⟩
  case round =>
    obtain ⟨j, S, d, hj, rfl, rfl, ho, hx, hb⟩ := hrel
    have HO := Lib.hid ho
    have HXR := Lib.hid hx
    have HBR := Lib.hid hb
    obtain ⟨p0, p1, p2⟩ := hb.read2
    clear ho hx hb
    rcases Nat.lt_or_ge j n with hlt | hlt
    · have hjl : j < l.length := by rw [← HNL.out]; exact hlt
      have hji : (j : Int) < (n : Int) := by omega
      have HRJ := Lib.hid (refs_take (root := root) hjl)
      have HC1 := Lib.hid (ref08outside_one A c root (j : Int) wr (HR.out.ext HXR.out))
      clear hjl
      go_wp2_with (go_at_call 71; refine HC1.out.mono ?_; rintro e w1 ⟨rfl, rfl⟩)
      have hO2 := outR_le root (j : Int)
      have HOR := Lib.hid (show outR root (j : Int) + ((inn (l.take 0) (j : Int) : Nat) : Int) = outR root (j : Int) by simp [inn])
      go_loopw [9, 10] (fun m i wx => ∃ u : Nat, u ≤ n ∧ i = .int .i64 u ∧ m = .int .i64 (outR root (j : Int) + ((inn (l.take u) (j : Int) : Nat) : Int)) ∧ Ext wr wx ∧ Bx wx w.heap.size #[.slice R n q, .int .i64 keep]) (fun _ i _ => n - (intOf i).toNat)
      case atStart => exact ⟨0, Nat.zero_le _, rfl, by rw [HOR.out], Ext.refl _, HBR.out⟩
      case round =>
        obtain ⟨u, hu, rfl, rfl, hx, hb⟩ := hrel
        have HXX := Lib.hid hx
        have HBX := Lib.hid hb
        clear p0 p1 p2
        obtain ⟨p0, p1, p2⟩ := hb.read2
        clear hx hb
        have hle : inn (l.take u) (j : Int) ≤ 8100000000 := Nat.le_trans (inn_leB (b := 90000) (fun c hc => HIT.out c (List.mem_of_mem_take hc)) _) (Nat.le_trans (Nat.mul_le_mul_right _ (Nat.le_trans (by rw [List.length_take]; exact Nat.min_le_left _ _) (Nat.le_trans hu hnn))) (by decide))
        rcases Nat.lt_or_ge u n with hlu | hlu
        · have hul : u < l.length := by rw [← HNL.out]; exact hlu
          have hui : (u : Int) < (n : Int) := by omega
          have HIN := Lib.hid (inn_take hul (j : Int))
          have hct := tell_le (HIT.out l[u] (List.getElem_mem hul)) (j : Int)
          have HTE := Lib.hid (ref08Tells_nil l u hul (HIT.out l[u] (List.getElem_mem hul)) R n q keep (j : Int) wr (HA.out.ext (HXR.out.trans HXX.out)))
          generalize inn (l.take u) (j : Int) = a at *
          generalize (tellC l[u]).count (j : Int) = g at *
          generalize outR root (j : Int) = o at *
          clear hul
          go_wp2_with (go_at_call 72; refine HTE.out.mono ?_; rintro e w2 ⟨rfl, hx2⟩; have HX2 := Lib.hid (HXX.out.trans hx2); have HB2 := Lib.hid (HBX.out.ext hx2); clear hx2 p0 p1 p2)
          go_roundw
          case rel => exact ⟨u + 1, by omega, by go_num, by rw [HIN.out]; go_num, HX2.out, HB2.out⟩
          case measure => simp [intOf]; omega
        · obtain rfl : n = u := by omega
          have d1 : decide ((n : Int) < (n : Int)) = false := decide_eq_false (by omega)
          have HE := Lib.hid (show l.take n = l by rw [HNL.out, List.take_length])
          rw [HE.out] at hle ⊢
          generalize inn l (j : Int) = a at *
          generalize outR root (j : Int) = o at *
          go_wp2_with (at_builtin; refine stop_here ?_)
          refine stop_on ?_
          refine wpList_app_sl _ rfl _ _ 27 rfl (w.heap.size + 1) 3 (.int .i64 0) 1 8 Try.underlying27 infoI1 rfl (by omega) _ j _ rfl (own_ext HO.out (HXX.out.alloc _)) _ 1 1 [iv (o + (a : Int))] rfl (by simp) (sl_lit' rfl _ 1 _ (by unfold maxLen; omega)) (iv_one [o + (a : Int)]) (by unfold maxLen; omega) (by omega) (by have := HBX.out.read2.2.2; simp; omega) ?_
          intro A5 c5 w5 hown hg
          have HO4 := Lib.hid (own_ext HO.out (HXX.out.alloc (.cells #[.int .i64 (o + (a : Int))] 3)))
          have HX5 := Lib.hid (Ext.app (HXR.out.trans (HXX.out.alloc _)) (own_ext HO.out (HXX.out.alloc _)) (by have := HWS.out; omega) hg)
          have HB5 := Lib.hid ((HBX.out.ext ((Ext.refl _).alloc (.cells #[.int .i64 (o + (a : Int))] 3))).grown hg (own_old HO4.out (by omega)))
          have HO5 := Lib.hid (show w5.ownsRow (w.heap.size + 1) 3 1 (.slice A5 (j + 1) c5) (j + 1) (((refsL l root).take (j + 1)).map iv) by rw [HRJ.out, List.map_append]; exact hown)
          clear hown hg
          go_wp2_with fail
          go_roundw
          case rel => exact ⟨j + 1, A5, c5, by omega, by go_num, rfl, HO5.out, HX5.out, HB5.out⟩
          case measure => simp [intOf]; omega
    · obtain rfl : n = j := by omega
      have d1 : decide ((n : Int) < (n : Int)) = false := decide_eq_false (by omega)
      have HE := Lib.hid (show (refsL l root).take n = refsL l root by rw [HNL.out, ← refs_len l root, List.take_length])
      rw [HE.out] at HO
      clear hlt
      go_wp2
      go_ret
      exact ⟨S, d, rfl, own_sl HO.out, HX.out.trans HXR.out⟩
end Go.Proofs.Ytbfbpddfcakieaa
