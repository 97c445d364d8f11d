/- Walks of step and gone of package clean: any number of steps. Walks of Steps, Step, Left and Give of package clean, where all tasks are gone at the end. What CleanBound and CleanShared ask: the plain theory. What the laws CleanBound and CleanShared ask of package clean, and of the references. -/
import Derived.Test.YtlbhcakjcklmgaaK24
import Derived.Test.YtlbhcakjcklmgaaK20
import Derived.Test.YtlbhcakjcklmgaaK21
import Derived.Test.YtlbhcakjcklmgaaK06
import Derived.Test.YtlbhcakjcklmgaaK03
namespace Go.Proofs.Ytlbhcakjcklmgaa
open Go.RowKit
attribute [local go_sem ↓] Go.wp_at_zero Go.wp_at_succ

theorem cleanStep_any (v w : World) (g : Nat) (R : Option Addr) (n q : Nat) (keep : Int) (Y : Option Addr) (m cY : Nat) (c : List HC) (t : List Ts) (hI : InvC keep c t) (ht : t ≠ []) (hm2 : m ≤ 30000) (h : CR v w g R n q keep Y m cY c t) :
    Calls Try.prog 25 #[.pointer (some ⟨g, 0, none⟩)] w fun e w' => e = .returned (.tuple #[]) ∧ ∃ R' q' Y' m' cY', CR v w' g R' n q' keep Y' m' cY' (stepC c t).1 (stepC c t).2 := by
  obtain ⟨hr, htk⟩ := hI
  match t, ht with
  | (p, k) :: r, _ =>
    obtain ⟨p0, p1, hk5, hlf⟩ := htk (p, k) List.mem_cons_self
    simp only at p0 p1 hk5 hlf
    obtain ⟨j, rfl⟩ := Int.eq_ofNat_of_zero_le p0
    have hj : j < c.length := by omega
    rw [cellT_at hj] at hlf
    rw [stepC, cellT_at hj]
    by_cases a1 : k = 0 ∧ (c[j].ref ≠ 1 ∨ c[j].leaf = true)
    · rw [if_pos a1]
      exact cleanStep_L v w g R n q keep Y m cY c j k r hr hj hk5 hm2 a1 h
    · rw [if_neg a1]
      by_cases a2 : k = 0
      · rw [if_pos a2]
        exact cleanStep_B v w g R n q keep Y m cY c j k r hr hj hk5 hm2 ⟨a2, fun e => a1 ⟨a2, e⟩⟩ h
      · rw [if_neg a2]
        have hlj := hlf a2
        by_cases a3 : k ≤ c[j].it.length
        · rw [if_pos a3]
          have hcell := (rightH_iff hr).2 j hj
          have hrf : 0 < c[j].ref := by
            unfold cellR at hcell
            split at hcell
            · simp only [Bool.and_eq_true, decide_eq_true_eq] at hcell; omega
            · simp only [Bool.and_eq_true, decide_eq_true_eq] at hcell; exact hcell.1
          have hki : k - 1 < c[j].it.length := by omega
          have hget : c[j].it.getD (k - 1) (0, 0) = c[j].it[k - 1] := by rw [List.getD_eq_getElem?_getD, List.getElem?_eq_getElem hki]; rfl
          have hv := (cell_ok hcell hrf).2 hlj _ (List.getElem_mem hki)
          obtain ⟨z, hz⟩ := Int.eq_ofNat_of_zero_le hv.1
          rw [hget, hz]
          exact cleanStep_T v w g R n q keep Y m cY c j k r hr hj hk5 hm2 z (by rw [hget]; exact hz) ⟨a2, a3⟩ h
        · rw [if_neg a3, Int.toNat_natCast]
          exact cleanStep_E v w g R n q keep Y m cY c j k r hr hj hk5 hm2 ⟨a2, a3⟩ h
theorem own_box {w : World} {B n g : Nat} {V : Value} {xs : List Value} {cs : Array Value} (ho : w.ownsRow B 48 1 V n xs) (hb : TB w g cs 53) (i : Nat) (u : Value) : (w.setCell ⟨g, i, none⟩ u).ownsRow B 48 1 V n xs := by
  refine ownsRow_setCell_other ho ?_ u
  rcases ho.2 with ⟨rfl, _⟩ | ⟨y, cap, cur, rfl, _, hh, _⟩
  · simp [Value.ownBlock]
  · intro e
    have e : y = g := by simpa [Value.ownBlock] using e
    subst e
    unfold TB at hb
    rw [hh] at hb
    injection hb with hb
    injection hb with _ hb _
    exact ty_ne.2.1 hb.symm
theorem hcr_box {v w : World} {R : Option Addr} {n q g : Nat} {c : List HC} {cs : Array Value} (h : HcR v w R n q c) (hb : TB w g cs 53) (hk : v.heap.size ≤ g) (i : Nat) (u : Value) : HcR v (w.setCell ⟨g, i, none⟩ u) R n q c :=
  h.grown (grown_set _ _ _ _) hk ⟨_, _, _, hb, ty_ne.1⟩
/-- Rows of items, and of cells, lie in no box of a slice, a number and a slice. -/
theorem no_box3 {w : World} {b off k : Nat} {A1 A2 : Option Addr} {n1 c1 n2 c2 : Nat} {z : Int} (hb : Bx w k #[.slice A1 n1 c1, .int .i64 z, .slice A2 n2 c2]) {r : Int} {u : Value} (h0 : w.cell? ⟨b, off, none⟩ = some (.int .i64 r)) (h1 : w.cell? ⟨b, off + 1, none⟩ = some u) (hu : ∀ A n c, u ≠ .slice A n c) : k ≠ b := fun e => by
  subst e
  obtain ⟨t, hb⟩ := hb
  unfold World.cell? at h0 h1
  rw [show w.heap[(⟨k, off, none⟩ : Addr).block]? = _ from hb] at h0
  rw [show w.heap[(⟨k, off + 1, none⟩ : Addr).block]? = _ from hb] at h1
  match off, h0, h1 with
  | 0, h0, _ => simp at h0
  | 1, _, h1 => simp at h1; exact hu _ _ _ h1.symm
  | 2, h0, _ => simp at h0
  | n + 3, h0, _ => simp at h0
theorem grown_store3 (w : World) (k : Nat) (x y z : Value) : w.grownBy (((w.setCell ⟨k, 0, none⟩ x).setCell ⟨k, 1, none⟩ y).setCell ⟨k, 2, none⟩ z) (some k) :=
  grown_trans (grown_store2 w k x y) (grown_set _ _ _ _)
theorem HcSl.boxed3 {w : World} {R : Option Addr} {m q : Nat} {l : List HC} (h : HcSl w R m q l) {k : Nat} {A1 A2 : Option Addr} {n1 c1 n2 c2 : Nat} {z : Int} (hb : Bx w k #[.slice A1 n1 c1, .int .i64 z, .slice A2 n2 c2]) (x y u : Value) :
    HcSl (((w.setCell ⟨k, 0, none⟩ x).setCell ⟨k, 1, none⟩ y).setCell ⟨k, 2, none⟩ u) R m q l := by
  obtain ⟨h1, cs, h2, h3⟩ := h
  refine ⟨h1, cs, ?_, h3.1, fun i hi => ?_⟩
  · refine h2.grown (grown_store3 w k x y u) (fun hx p hp e => ?_)
    obtain ⟨b, off, e', hlt, hc⟩ := h2.cells hx
    rw [hp] at e'
    cases e'
    have hl := h3.1
    have hpos : 0 < l.length := by
      rcases Nat.eq_zero_or_pos l.length with h0 | h0
      · rw [h0] at hl; exact absurd (List.eq_nil_of_length_eq_zero hl) hx
      · exact h0
    obtain ⟨A, c, e1, e2, _⟩ := h3.2 0 hpos
    have g0 := hc _ _ e1
    have g1 := hc _ _ e2
    simp only [Nat.zero_mul, Nat.add_zero, Nat.zero_add] at g0 g1
    exact no_box3 hb g0 g1 (fun _ _ _ e => by cases e) (Option.some.inj e)
  · obtain ⟨A, c, e1, e2, e3, e4, h5⟩ := h3.2 i hi
    refine ⟨A, c, e1, e2, e3, e4, h5.grown (grown_store3 w k x y u) (fun hx p hp e => ?_)⟩
    obtain ⟨b, off, e', hlt, hc⟩ := h5.cells hx
    rw [hp] at e'
    cases e'
    cases hit : l[i].it with
    | nil => rw [hit] at hx; exact hx rfl
    | cons v r =>
      rw [hit] at hc
      have g0 := hc 0 _ rfl
      have g1 := hc 1 _ rfl
      rw [Nat.add_zero] at g0
      exact no_box3 hb g0 g1 (fun _ _ _ e => by cases e) (Option.some.inj e)
/-- A course is laid in its box. -/
theorem CR.make {v w : World} {g : Nat} {R : Option Addr} {n q : Nat} {keep : Int} {Y : Option Addr} {m cY : Nat} {c : List HC} {t : List Ts} {x y z : Value} (hx : Ext v w) (hg : v.heap.size ≤ g) (hb : TB w g #[x, y, z] 53) (hc : HcR v w R n q c) (ho : w.ownsRow v.heap.size 48 1 (.slice Y m cY) m ((tkR t).map cxv)) (hm : m = t.length) :
    CR v (((w.setCell ⟨g, 0, none⟩ (.slice R n q)).setCell ⟨g, 1, none⟩ (.int .i64 keep)).setCell ⟨g, 2, none⟩ (.slice Y m cY)) g R n q keep Y m cY c t := by
  have b1 := hb.set 0 (.slice R n q)
  have b2 := b1.set 1 (.int .i64 keep)
  have b3 := b2.set 2 (.slice Y m cY)
  exact ⟨((hx.set (p := ⟨g, 0, none⟩) hg _).set (p := ⟨g, 1, none⟩) hg _).set (p := ⟨g, 2, none⟩) hg _, hg, b3, hcr_box (hcr_box (hcr_box hc hb hg _ _) b1 hg _ _) b2 hg _ _, own_box (own_box (own_box ho hb _ _) b1 _ _) b2 _ _, hm⟩
theorem CR.new {v w : World} {R : Option Addr} {n q : Nat} {keep : Int} {Y : Option Addr} {m cY : Nat} {c : List HC} {t : List Ts} (hx : Ext v w) (hc : HcR v w R n q c) (ho : w.ownsRow v.heap.size 48 1 (.slice Y m cY) m ((tkR t).map cxv)) (hm : m = t.length) :
    CR v (w.alloc (.cells #[.slice R n q, .int .i64 keep, .slice Y m cY] 53)) w.heap.size R n q keep Y m cY c t :=
  ⟨hx.alloc _, hx.size, TB.new _ _ _, hc.ext ((Ext.refl w).alloc _), own_ext ho ((Ext.refl w).alloc _), hm⟩
theorem tkR_low {t : List Ts} (h : t.length ≤ 1) : tkR t = t.map (fun x => ofT x.1.toNat x.2) := by
  unfold tkR
  match t, h with
  | [], _ => rfl
  | [_], _ => rfl
def tkF (t : List Ts) : List Tk := t.map (fun x => ofT x.1.toNat x.2)
theorem ret3_cell {P : Program} {fn : Func} {R : Ending → World → Prop} {a : Act} {W : World} {v : Value} {k : Nat} {x y z : Value} (hb : Bx W k #[x, y, z])
    (h : W.cell? ⟨k, 0, none⟩ = some x → W.cell? ⟨k, 1, none⟩ = some y → W.cell? ⟨k, 2, none⟩ = some z → (results fn a.tmps).run P W = .ok v W) (hd : a.defers = []) (hR : R (.returned v) W) : bodyPost P fn R .ret a W :=
  bodyPost_ret (h (hb.at 0 _ rfl) (hb.at 1 _ rfl) (hb.at 2 _ rfl)) hd hR
set_option maxRecDepth 100000 in
set_option maxHeartbeats 3200000 in
theorem cleanGone_low (R A : Option Addr) (c : List HC) (n q s d N : Nat) (keep : Int) (t : List Ts) (w : World) (hI : InvC keep c t) (hs : s = t.length) (ht1 : s ≤ 1) (hN : N ≤ 20000) (hA : HcSl w R n q c) (hL : Sl w A s d ((tkF t).map cxv)) :
    Calls Try.prog 18 #[.agg #[.slice R n q, .int .i64 keep], .slice A s d, .int .i64 N] w fun e w' => ∃ k R' q' Y m cY, e = .returned (.tuple #[.agg #[.slice R' n q', .int .i64 keep, .slice Y m cY], .int .i64 (k : Nat)]) ∧ k ≤ N ∧ (∀ j, j < k → (stepsC j c t).2 ≠ []) ∧ (k = N ∨ (stepsC k c t).2 = []) ∧ m = (stepsC k c t).2.length ∧ HcSl w' R' n q' (stepsC k c t).1 ∧ Sl w' Y m cY ((tkR (stepsC k c t).2).map cxv) ∧ Ext w w' := by
  have hn := hA.1
  have hc0 : 0 < c.length := (rightH_iff hI.1).1.1.1
  obtain ⟨W, hW⟩ : ∃ W, (w.alloc (.cells #[.slice R n q, .int .i64 keep] 24)).alloc (.cells #[.slice none 0 0, .int .i64 0, .slice none 0 0] 53) = W := ⟨_, rfl⟩
  obtain ⟨hx0, hb0, hb1⟩ := allocs2 hW
  have hsz : W.heap.size = w.heap.size + 1 + 1 := by rw [← hW]; simp
  have HX := Lib.hid hx0
  have HB0 := Lib.hid hb0
  have HB1 := Lib.hid (show TB W (w.heap.size + 1) #[.slice none 0 0, .int .i64 0, .slice none 0 0] 53 from by rw [← hW]; exact TB.new' (by simp) _ _)
  have HSZ := Lib.hid hsz
  have HH := Lib.hid (HcR.start (hA.ext hx0) hc0)
  have HR := Lib.hid (fun w' (hx : Ext W w') => cleanReversed_low A (tkF t) s d w' (by rw [hs]; unfold tkF; simp) ht1 (hL.ext (hx0.trans hx)))
  have HTK := Lib.hid (show tkF t = tkR t from (tkR_low (by omega)).symm)
  rw [HTK.out] at HR
  have HS := Lib.hid hs
  have HI := Lib.hid hI
  obtain ⟨p0, p1, p2⟩ := hb0.read2
  clear hx0 hb0 hb1 hsz hA hL hs hI hn HTK
  subst hW
  go_enter Try.func18, Try.ntmps18
  go_upto_region 1 with fail
  generalize hW : World.alloc (World.alloc w _) _ = W at *
  clear hW
  go_cut [8] from 10 to 13 (fun s8 wx => ∃ g Y cY, s8 = .pointer (some ⟨g, 0, none⟩) ∧ CR W wx g R n q keep Y s cY c t)
  case first =>
    have q0 := ((HB0.out.ext ((Ext.refl W).alloc (.cells #[.slice none 0 0, .int .i64 0, .slice none 0 0] 53))).read2).1
    have q1 := ((HB0.out.ext ((Ext.refl W).alloc (.cells #[.slice none 0 0, .int .i64 0, .slice none 0 0] 53))).read2).2.1
    go_wp2_with fail
    go_region_law
      (first
        | ((go_simp
            go_at_call 19
            refine (HR.out _ ?_).mono ?_
            (first | exact ((Ext.refl _).alloc _).drew | exact ((Ext.refl _).drew).alloc _)
            rintro e w1 ⟨Y, d1, rfl, ho, hx⟩
            have HBE := Lib.hid (show TB w1 W.heap.size #[.slice none 0 0, .int .i64 0, .slice none 0 0] 53 from by
              first
              | exact ((TB.new W _ _).ext (Ext.refl _).drew).ext hx
              | exact (TB.new W.drew _ _).ext hx)
            have HX1 := Lib.hid (show Ext W w1 from by first | exact (((Ext.refl _).alloc _).drew).trans hx | exact (((Ext.refl _).drew).alloc _).trans hx)
            have HO1 := Lib.hid (own_base ho (show W.heap.size ≤ _ from by simp))
            obtain ⟨g0, g1, g2⟩ := (HB0.out.ext HX1.out).read2
            have f0 := HBE.out.bx.at 0 _ rfl
            have f1 := HBE.out.bx.at 1 _ rfl
            have f2 := HBE.out.bx.at 2 _ rfl
            have f3 := HBE.out.bx.free 0
            have f4 := HBE.out.bx.free 1
            have f5 := HBE.out.bx.free 2
            have HC1 := Lib.hid (CR.make (keep := keep) HX1.out (Nat.le_refl _) HBE.out (HH.out.ext HX1.out) HO1.out HS.out)
            clear ho hx))
        | ((go_simp
            go_at_call 19
            refine (HR.out _ ?_).mono ?_
            (first | exact (Ext.refl _).drew | exact Ext.refl _)
            rintro e w1 ⟨Y, d1, rfl, ho, hx⟩
            have HX1 := Lib.hid (show Ext W w1 from by first | exact (Ext.refl _).drew.trans hx | exact hx)
            have HO1 := Lib.hid (own_base ho (show W.heap.size ≤ _ from Nat.le_refl _))
            obtain ⟨g0, g1, g2⟩ := (HB0.out.ext HX1.out).read2
            clear ho hx))
        | fail)
    all_goals
      go_wp2_with fail
      go_meet
      first
      | exact ⟨_, _, _, rfl, HC1.out⟩
      | exact ⟨_, _, _, rfl, CR.new HX1.out (HH.out.ext HX1.out) HO1.out HS.out⟩
  case rest =>
    obtain ⟨g, Y, cY, rfl, hcr⟩ := hcut
    have HCR := Lib.hid hcr
    have hmin : min (N : Int) 20000 = (N : Int) := by omega
    clear p0 p1 p2 hcr
    go_wp2_with fail
    go_loopw [9] (fun i wr => ∃ k R' q' Y' m' cY', i = .int .i64 (k : Nat) ∧ k ≤ N ∧ (∀ j, j < k → (stepsC j c t).2 ≠ []) ∧ CR W wr g R' n q' keep Y' m' cY' (stepsC k c t).1 (stepsC k c t).2) (fun i _ => N - (intOf i).toNat)
    case atStart => exact ⟨0, R, q, Y, s, cY, rfl, Nat.zero_le _, fun j h => by omega, HCR.out⟩
    case round =>
      obtain ⟨k, R', q', Y', m', cY', rfl, hk, hb, hcr⟩ := hrel
      have HB := Lib.hid hb
      have HCK := Lib.hid hcr
      obtain ⟨a0, a1, a2, e0, e1, e2⟩ := hcr.read
      have hml := hcr.len
      have hst := (steps_len k c t).2
      rw [← hml] at hst
      have hs0 := HS.out
      have hm9 : m' ≤ 30000 := by omega
      have HIK := Lib.hid (inv_steps k HI.out)
      clear hb hcr hst hs0
      rcases Nat.lt_or_ge k N with hlt | hlt
      · rcases Nat.eq_zero_or_pos m' with hm0 | hm0
        · subst hm0
          have d1 : decide ((k : Int) < (N : Int)) = true := decide_eq_true (by omega)
          have d2 : decide (k < N) = true := decide_eq_true hlt
          have HE := Lib.hid (show (stepsC k c t).2 = [] from List.eq_nil_of_length_eq_zero hml.symm)
          clear hml
          have HBR := Lib.hid (HB1.out.ext HCK.out.ex)
          have y0 := HBR.out.bx.at 0 _ rfl
          have y1 := HBR.out.bx.at 1 _ rfl
          have y2 := HBR.out.bx.at 2 _ rfl
          have y3 := HBR.out.bx.free 0
          have y4 := HBR.out.bx.free 1
          have y5 := HBR.out.bx.free 2
          have HF1 := HBR.out.set 0 (.slice R' n q')
          have HF2 := HF1.set 1 (.int .i64 keep)
          have HF := Lib.hid (HF2.set 2 (.slice Y' 0 cY'))
          have HFO := Lib.hid (own_sl (own_box (own_box (own_box HCK.out.own HBR.out 0 (.slice R' n q')) HF1 1 (.int .i64 keep)) HF2 2 (.slice Y' 0 cY')))
          have HFH := Lib.hid ((HCK.out.hc.sl HCK.out.ex).boxed3 HBR.out.bx (.slice R' n q') (.int .i64 keep) (.slice Y' 0 cY'))
          have HFX := Lib.hid ((((HX.out.trans HCK.out.ex).set (p := ⟨w.heap.size + 1, 0, none⟩) (by simp) (.slice R' n q')).set (p := ⟨w.heap.size + 1, 1, none⟩) (by simp) (.int .i64 keep)).set (p := ⟨w.heap.size + 1, 2, none⟩) (by simp) (.slice Y' 0 cY'))
          clear HF1 HF2
          go_wp2_with fail
          refine ret3_cell (k := w.heap.size + 1) (x := .slice R' n q') (y := .int .i64 keep) (z := .slice Y' 0 cY') (v := .tuple #[.agg #[.slice R' n q', .int .i64 keep, .slice Y' 0 cY'], .int .i64 (k : Nat)]) ?hb4 (fun r0 r1 r2 => by simp [results, Try.results18, go_sem, r0, r1, r2]) rfl ?hx4
          case hb4 => exact HF.out.bx
          case hx4 => exact ⟨k, R', q', Y', 0, cY', rfl, by omega, HB.out, .inr HE.out, HCK.out.len, HFH.out, HFO.out, HFX.out⟩
        · have d1 : decide ((k : Int) < (N : Int)) = true := decide_eq_true (by omega)
          have d2 : decide (k < N) = true := decide_eq_true hlt
          have d3 : decide (0 < m') = true := decide_eq_true hm0
          have d4 : decide ((0 : Int) < (m' : Int)) = true := decide_eq_true (by omega)
          have hne : (stepsC k c t).2 ≠ [] := fun e => by rw [e] at hml; simp at hml; omega
          have HNE := Lib.hid hne
          have HST := Lib.hid (cleanStep_any W wr g R' n q' keep Y' m' cY' _ _ HIK.out hne hm9 HCK.out)
          rw [← steps_one] at HST
          clear hml hne
          go_wp2_with (go_at_call 25; refine stop_here ?_)
          refine stop_on ?_
          refine HST.out.mono ?_
          rintro e w5 ⟨rfl, R5, q5, Y5, m5, c5, h5⟩
          have HC5 := Lib.hid h5
          clear h5 a0 a1 a2 e0 e1 e2
          go_wp2_with fail
          go_roundw
          case rel => exact ⟨k + 1, R5, q5, Y5, m5, c5, by go_num, by omega, fun j hj => by
            rcases Nat.lt_or_ge j k with h | h
            · exact HB.out j h
            · obtain rfl : j = k := by omega
              exact HNE.out, HC5.out⟩
          case measure => simp [intOf]; omega
      · obtain rfl : k = N := by omega
        have d1 : decide ((k : Int) < (k : Int)) = false := decide_eq_false (by omega)
        have d2 : decide (k < k) = false := decide_eq_false (by omega)
        clear hml
        have HBR := Lib.hid (HB1.out.ext HCK.out.ex)
        have y0 := HBR.out.bx.at 0 _ rfl
        have y1 := HBR.out.bx.at 1 _ rfl
        have y2 := HBR.out.bx.at 2 _ rfl
        have y3 := HBR.out.bx.free 0
        have y4 := HBR.out.bx.free 1
        have y5 := HBR.out.bx.free 2
        have HF1 := HBR.out.set 0 (.slice R' n q')
        have HF2 := HF1.set 1 (.int .i64 keep)
        have HF := Lib.hid (HF2.set 2 (.slice Y' m' cY'))
        have HFO := Lib.hid (own_sl (own_box (own_box (own_box HCK.out.own HBR.out 0 (.slice R' n q')) HF1 1 (.int .i64 keep)) HF2 2 (.slice Y' m' cY')))
        have HFH := Lib.hid ((HCK.out.hc.sl HCK.out.ex).boxed3 HBR.out.bx (.slice R' n q') (.int .i64 keep) (.slice Y' m' cY'))
        have HFX := Lib.hid ((((HX.out.trans HCK.out.ex).set (p := ⟨w.heap.size + 1, 0, none⟩) (by simp) (.slice R' n q')).set (p := ⟨w.heap.size + 1, 1, none⟩) (by simp) (.int .i64 keep)).set (p := ⟨w.heap.size + 1, 2, none⟩) (by simp) (.slice Y' m' cY'))
        clear HF1 HF2
        go_wp2_with fail
        refine ret3_cell (k := w.heap.size + 1) (x := .slice R' n q') (y := .int .i64 keep) (z := .slice Y' m' cY') (v := .tuple #[.agg #[.slice R' n q', .int .i64 keep, .slice Y' m' cY'], .int .i64 (k : Nat)]) ?hb4 (fun r0 r1 r2 => by simp [results, Try.results18, go_sem, r0, r1, r2]) rfl ?hx4
        case hb4 => exact HF.out.bx
        case hx4 => exact ⟨k, R', q', Y', m', cY', rfl, by omega, HB.out, .inl rfl, HCK.out.len, HFH.out, HFO.out, HFX.out⟩
end Go.Proofs.Ytlbhcakjcklmgaa
namespace Go.Proofs.Ytlbhcakjcklmgaa
open Go.RowKit
attribute [local go_sem ↓] Go.wp_at_zero Go.wp_at_succ

theorem steps_end {c : List HC} {t : List Ts} {K N k : Nat} (hK : K ≤ N) (hf : (stepsC K c t).2 = []) (hb : ∀ j, j < K → (stepsC j c t).2 ≠ []) (_hk : k ≤ N) (h1 : ∀ j, j < k → (stepsC j c t).2 ≠ []) (h2 : k = N ∨ (stepsC k c t).2 = []) : k = K := by
  rcases Nat.lt_trichotomy k K with h | h | h
  · rcases h2 with h2 | h2
    · omega
    · exact absurd h2 (hb k h)
  · exact h
  · exact absurd hf (h1 K h)
set_option maxRecDepth 100000 in
set_option maxHeartbeats 1600000 in
theorem cleanGone_is (R A : Option Addr) (c : List HC) (n q s d N K : Nat) (keep : Int) (t : List Ts) (w : World) (hI : InvC keep c t) (hs : s = t.length) (ht1 : s ≤ 1) (hN : N ≤ 20000) (hK : K ≤ N) (hf : (stepsC K c t).2 = []) (hb : ∀ j, j < K → (stepsC j c t).2 ≠ []) (hA : HcSl w R n q c) (hL : Sl w A s d ((tkF t).map cxv)) :
    Calls Try.prog 18 #[.agg #[.slice R n q, .int .i64 keep], .slice A s d, .int .i64 N] w fun e w' => ∃ R' q' Y cY, e = .returned (.tuple #[.agg #[.slice R' n q', .int .i64 keep, .slice Y 0 cY], .int .i64 K]) ∧ HcSl w' R' n q' (stepsC K c t).1 ∧ Sl w' Y 0 cY ([].map cxv) ∧ Ext w w' := by
  refine (cleanGone_low R A c n q s d N keep t w hI hs ht1 hN hA hL).mono ?_
  rintro e w' ⟨k, R', q', Y, m, cY, rfl, h1, h2, h3, h4, h5, h6, h7⟩
  obtain rfl := steps_end hK hf hb h1 h2 h3
  rw [hf] at h4 h6
  subst h4
  exact ⟨R', q', Y, cY, rfl, h5, h6, h7⟩
set_option maxRecDepth 100000 in
set_option maxHeartbeats 1600000 in
theorem cleanLeft_is (R A : Option Addr) (c : List HC) (n q s d K : Nat) (keep : Int) (t : List Ts) (w : World) (hI : InvC keep c t) (hs : s = t.length) (ht1 : s ≤ 1) (hK : K ≤ 20000) (hf : (stepsC K c t).2 = []) (hb : ∀ j, j < K → (stepsC j c t).2 ≠ []) (hA : HcSl w R n q c) (hL : Sl w A s d ((tkF t).map cxv)) :
    Calls Try.prog 8 #[.agg #[.slice R n q, .int .i64 keep], .slice A s d] w fun e w' => e = .returned (.int .i64 K) ∧ Ext w w' := by
  have hx0 := (Ext.refl w).alloc (.cells #[.slice R n q, .int .i64 keep] 24)
  have HX := Lib.hid hx0
  have HC := Lib.hid (cleanGone_is R A c n q s d 20000 K keep t _ hI hs ht1 (Nat.le_refl _) hK hf hb (hA.ext hx0) (hL.ext hx0))
  obtain ⟨p0, p1, p2⟩ := (Bx.new w #[.slice R n q, .int .i64 keep] 24).read2
  clear hI hs hK hf hb hA hL hx0
  go_enter Try.func8, Try.ntmps8
  go_wp2_with (go_at_call 18; refine stop_here ?_)
  refine stop_on ?_
  refine HC.out.mono ?_
  rintro e w1 ⟨R', q', Y, cY, rfl, h1, h2, h3⟩
  have HX1 := Lib.hid ((HX.out.trans h3).alloc (.cells #[.slice R' n q', .int .i64 keep, .slice Y 0 cY] 53))
  clear h1 h2 h3 p0 p1 p2
  go_wp2_with fail
  go_ret
  exact ⟨rfl, HX1.out⟩
set_option maxRecDepth 100000 in
set_option maxHeartbeats 3200000 in
theorem cleanSteps_is (R A : Option Addr) (c : List HC) (n q s d N K : Nat) (keep : Int) (t : List Ts) (w : World) (hI : InvC keep c t) (hs : s = t.length) (ht1 : s ≤ 1) (hN : N ≤ 20000) (hK : K ≤ N) (hf : (stepsC K c t).2 = []) (hb : ∀ j, j < K → (stepsC j c t).2 ≠ []) (hA : HcSl w R n q c) (hL : Sl w A s d ((tkF t).map cxv)) :
    Calls Try.prog 13 #[.agg #[.slice R n q, .int .i64 keep], .slice A s d, .int .i64 N] w fun e w' => ∃ S z B y, e = .returned (.tuple #[.agg #[.slice S n z, .int .i64 keep], .slice B 0 y]) ∧ HcSl w' S n z (stepsC K c t).1 ∧ Ext w w' := by
  obtain ⟨W, hW⟩ : ∃ W, (w.alloc (.cells #[.slice R n q, .int .i64 keep] 24)).alloc (.cells #[.slice none 0 0, .int .i64 0] 24) = W := ⟨_, rfl⟩
  obtain ⟨hx0, hb0, hb1⟩ := allocs2 hW
  have HX := Lib.hid hx0
  have HB1 := Lib.hid hb1
  have HC := Lib.hid (cleanGone_is R A c n q s d N K keep t W hI hs ht1 hN hK hf hb (hA.ext hx0) (hL.ext hx0))
  obtain ⟨p0, p1, p2⟩ := hb0.read2
  clear hI hs hK hf hb hA hL hx0 hb0 hb1
  subst hW
  go_enter Try.func13, Try.ntmps13
  go_wp2_with (go_at_call 18; refine stop_here ?_)
  refine stop_on ?_
  generalize hW : World.alloc (World.alloc w _) _ = W at *
  clear hW
  refine HC.out.mono ?_
  rintro e w1 ⟨R', q', Y, cY, rfl, h1, h2, h3⟩
  have hx4 := (Ext.refl w1).alloc (.cells #[.slice R' n q', .int .i64 keep, .slice Y 0 cY] 53)
  have HB2 := Lib.hid (Bx.new w1 #[.slice R' n q', .int .i64 keep, .slice Y 0 cY] 53)
  have HX1 := Lib.hid (HX.out.trans (h3.trans hx4))
  have HBR := Lib.hid (HB1.out.ext (h3.trans hx4))
  have HH := Lib.hid (h1.ext hx4)
  have HY := Lib.hid (h2.ext hx4)
  clear h1 h2 h3 hx4 p0 p1 p2
  go_wp2_with fail
  generalize hW4 : World.alloc w1 _ = w4 at *
  clear hW4
  have HR := Lib.hid (fun w' (hx : Ext w4 w') => cleanReversed_low Y [] 0 cY w' rfl (by omega) (HY.out.ext hx))
  have p0 := HB2.out.at 0 _ rfl
  have p1 := HB2.out.at 1 _ rfl
  have p2 := HB2.out.at 2 _ rfl
  go_region_law
    (first
      | ((go_simp
          go_at_call 19
          refine (HR.out _ ?_).mono ?_
          (first | exact (Ext.refl _).drew | exact Ext.refl _)
          rintro e w5 ⟨B, y, rfl, ho, hx⟩
          have HX5 := Lib.hid (show Ext w4 w5 from by first | exact (Ext.refl _).drew.trans hx | exact hx)
          have g0 := (HB2.out.ext HX5.out).at 0 _ rfl
          have g1 := (HB2.out.ext HX5.out).at 1 _ rfl
          have g2 := (HB2.out.ext HX5.out).at 2 _ rfl
          have HB5 := Lib.hid (HBR.out.ext HX5.out)
          obtain ⟨u0, u1, u2⟩ := HB5.out.read2
          obtain ⟨u3, u4⟩ := HB5.out.free2
          have HF5 := Lib.hid (HB5.out.set2 (.slice R' n q') (.int .i64 keep))
          have HH5 := Lib.hid ((HH.out.ext HX5.out).boxed2 HB5.out (.slice R' n q') (.int .i64 keep))
          have HX6 := Lib.hid ((HX1.out.trans HX5.out).store2 (k := w.heap.size + 1) (by omega) (.slice R' n q') (.int .i64 keep))
          clear ho hx))
      | fail)
  all_goals
    go_wp2_with fail
    refine ret2_cell (k := w.heap.size + 1) (x := .slice R' n q') (y := .int .i64 keep) (v := .tuple #[.agg #[.slice R' n q', .int .i64 keep], .slice B 0 y]) ?hb4 (fun r0 r1 => by simp [results, Try.results13, go_sem, r0, r1]) rfl ?hx4
    case hb4 => exact HF5.out
    case hx4 => exact ⟨_, _, _, _, rfl, HH5.out, HX6.out⟩
set_option maxRecDepth 100000 in
set_option maxHeartbeats 1600000 in
theorem cleanStep1_is (R A : Option Addr) (c : List HC) (n q s d K : Nat) (keep : Int) (t : List Ts) (w : World) (hI : InvC keep c t) (hs : s = t.length) (ht1 : s ≤ 1) (hK : K ≤ 1) (hf : (stepsC K c t).2 = []) (hb : ∀ j, j < K → (stepsC j c t).2 ≠ []) (hA : HcSl w R n q c) (hL : Sl w A s d ((tkF t).map cxv)) :
    Calls Try.prog 10 #[.agg #[.slice R n q, .int .i64 keep], .slice A s d] w fun e w' => ∃ S z B y, e = .returned (.tuple #[.agg #[.slice S n z, .int .i64 keep], .slice B 0 y]) ∧ HcSl w' S n z (stepsC K c t).1 ∧ Ext w w' := by
  obtain ⟨W, hW⟩ : ∃ W, (w.alloc (.cells #[.slice R n q, .int .i64 keep] 24)).alloc (.cells #[.slice none 0 0, .int .i64 0] 24) = W := ⟨_, rfl⟩
  obtain ⟨hx0, hb0, hb1⟩ := allocs2 hW
  have HX := Lib.hid hx0
  have HB1 := Lib.hid hb1
  have HC := Lib.hid (cleanSteps_is R A c n q s d 1 K keep t W hI hs ht1 (by omega) hK hf hb (hA.ext hx0) (hL.ext hx0))
  obtain ⟨p0, p1, p2⟩ := hb0.read2
  clear hI hs hK hf hb hA hL hx0 hb0 hb1
  subst hW
  go_enter Try.func10, Try.ntmps10
  go_wp2_with (go_at_call 13; refine stop_here ?_)
  refine stop_on ?_
  generalize hW : World.alloc (World.alloc w _) _ = W at *
  clear hW
  refine HC.out.mono ?_
  rintro e w1 ⟨S, z, B, y, rfl, h1, h3⟩
  have HB5 := Lib.hid (HB1.out.ext h3)
  obtain ⟨u0, u1, u2⟩ := HB5.out.read2
  obtain ⟨u3, u4⟩ := HB5.out.free2
  have HF5 := Lib.hid (HB5.out.set2 (.slice S n z) (.int .i64 keep))
  have HH5 := Lib.hid (h1.boxed2 HB5.out (.slice S n z) (.int .i64 keep))
  have HX6 := Lib.hid ((HX.out.trans h3).store2 (k := w.heap.size + 1) (by omega) (.slice S n z) (.int .i64 keep))
  clear h1 h3 p0 p1 p2
  go_wp2_with fail
  refine ret2_cell (k := w.heap.size + 1) (x := .slice S n z) (y := .int .i64 keep) (v := .tuple #[.agg #[.slice S n z, .int .i64 keep], .slice B 0 y]) ?hb4 (fun r0 r1 => by simp [results, Try.results10, go_sem, r0, r1]) rfl ?hx4
  case hb4 => exact HF5.out
  case hx4 => exact ⟨_, _, _, _, rfl, HH5.out, HX6.out⟩
set_option maxRecDepth 100000 in
set_option maxHeartbeats 1600000 in
theorem cleanGive_nil (p : Nat) (w : World) : Calls Try.prog 7 #[.slice none 0 0, .int .i64 p] w fun e w' => ∃ A t, e = .returned (.tuple #[.slice A 1 t, .int .i64 0]) ∧ Sl w' A 1 t ([ofT p 0].map cxv) ∧ Ext w w' := by
  have d0 : ((p : Int) == -1) = false := by rw [beq_eq_false_iff_ne]; omega
  have HOF := Lib.hid (fun w' => todoOf_any p 0 w')
  have HC := Lib.hid (fun (A : Option Addr) w' (hA : TrowsSl w' A 2 2 [[], [ofT p 0]]) => concatT_any A [[], [ofT p 0]] 2 2 w' (by simp) hA)
  go_enter Try.func7, Try.ntmps7
  go_wp2_with (first | (go_at_call 17; refine (HOF.out _).mono ?_; rintro e w4 ⟨rfl, rfl⟩) | (go_at_call 16; refine stop_here ?_))
  refine stop_on ?_
  refine (HC.out _ _ ⟨rfl, [.slice none 0 0, .slice (some ⟨w.heap.size, 0, none⟩) 1 1], sl_lit' (by simp) _ 2 _ (by unfold maxLen; omega), TrowsAt.cons rfl (Sl.nil _) (TrowsAt.cons rfl ((sl_lit w 48 1 [cxv (ofT p 0)] (by unfold maxLen; omega)).ext ((Ext.refl _).alloc _)) (TrowsAt.nil _))⟩).mono ?_
  rintro e w1 ⟨A, c, rfl, h1, h2⟩
  have HS := Lib.hid h1
  have HX := Lib.hid ((((Ext.refl w).alloc (.cells #[.complex .f64 (fN p) (fN 0)] 48)).alloc _).trans h2)
  clear h1 h2
  go_wp2_with fail
  go_ret2
  exact ⟨A, c, rfl, HS.out, HX.out⟩
end Go.Proofs.Ytlbhcakjcklmgaa
namespace Go.Proofs.Ytlbhcakjcklmgaa
open Go.RowKit

theorem outs_one (root p : Int) : outs [root] p = rootE root p := by
  unfold outs rootE
  by_cases h : p = root
  · subst h; simp
  · have h2 : ¬ root = p := fun e => h e.symm
    simp [h, h2]
theorem held_one (c : List HC) (root : Int) : ∀ d k, heldS c [root] d k = heldB c root d k
  | 0, k => by
    unfold heldS heldB
    rw [outs_one]
    unfold rootE
    by_cases h : (k : Int) = root
    · rw [if_pos h]; simp [h]
    · rw [if_neg h]; simp [h]
  | d + 1, k => by
    unfold heldS heldB
    rw [held_one c root d k]
    congr 1
    congr 1
    funext p
    rw [held_one c root d p]
theorem fine_one (c : List HC) (keep root most : Int) : fineS ⟨c, keep⟩ [root] most = fineB ⟨c, keep⟩ root most := by
  unfold fineS fineB mayS mayT anyS mayH
  have h1 : soundS c [root] = soundB c root := by
    rw [soundS_eq, soundB_eq]
    congr 1
    funext k
    unfold soundKS soundK
    rw [outs_one, held_one]
  rw [h1]
  simp [Bool.and_assoc]
/-- P11.3: a tree that is given back. -/
theorem bound_facts {c : List HC} {keep root most : Int} {rs : List Int} (h : fineS ⟨c, keep⟩ (rs ++ [root]) most = true) (h0 : 0 ≤ root) :
    ∃ (k : Nat) (hk : k < c.length), root = (k : Int) ∧ rightH ⟨c, keep⟩ = true ∧ rightR ⟨c, keep⟩ root = true ∧ (bel c 20 root).is = true ∧ (c.length : Int) ≤ most ∧ (∀ j (hj : j < c.length), c[j].ref ≤ 1000000) ∧ 0 < c[k].ref ∧
      ((1 < c[k].ref ∨ c[k].leaf = true) → cntC c 20 root = 1) ∧ (¬ (1 < c[k].ref ∨ c[k].leaf = true) → 3 ≤ cntC c 20 root) ∧ cntC c 20 root ≤ 4 * (nodesT c root).length + 1 := by
  unfold fineS mayS anyS at h
  simp only [Bool.and_eq_true, List.all_append, List.all_cons, List.all_nil, and_true, decide_eq_true_eq] at h
  obtain ⟨⟨s1, -, s2, -, s3⟩, -⟩ := h
  have hM := may_of s1 s2
  obtain ⟨m1, m2, m3⟩ := may_iff hM
  obtain ⟨-, hp, hb⟩ := (rightR_iff s3).resolve_left (by omega)
  obtain ⟨k, rfl⟩ := Int.eq_ofNat_of_zero_le h0
  have hk : k < c.length := by have hp' : (k : Int) < c.length := hp; omega
  obtain ⟨hrf, hcc⟩ := bel_is (m := 19) hb
  rw [cellT_at hk] at hrf hcc
  have hle := cnt_le c 20 (k : Int) hb
  refine ⟨k, hk, rfl, m3, s3, hb, m1, fun j hj => (m2 j hj).2, hrf, fun hc => ?_, fun hc => ?_, ?_⟩
  · rw [cntC, cellT_at hk, if_pos]
    rcases hc with hc | hc
    · exact .inl (by omega)
    · exact .inr hc
  · refine cnt_ge (m := 19) ?_ ?_
    · rw [cellT_at hk]
      rintro (h1 | h1)
      · exact hc (.inl (by omega))
      · exact hc (.inr h1)
    · rw [cellT_at hk]
      intro e
      have hok := (cell_ok ((rightH_iff m3).2 k hk) hrf).1
      have h1 := hok.1.1
      rw [e] at h1
      simp at h1
  · unfold nodesT
    rw [if_neg (by omega)]
    omega
end Go.Proofs.Ytlbhcakjcklmgaa
namespace Go.Proofs.Ytlbhcakjcklmgaa
open Go.RowKit

/-- What the calls of package clean answer, where the laws ask it. -/
structure CleanOk : Prop where
  shown : ∀ w, Calls Try.prog 5 #[] w fun e w' => e = .returned (.bool true) ∧ Ext w w'
  give : ∀ (p : Nat) (w : World), p < 2000 → Calls Try.prog 7 #[.slice none 0 0, .int .i64 p] w fun e w' => ∃ A t, e = .returned (.tuple #[.slice A 1 t, .int .i64 0]) ∧ Sl w' A 1 t ([ofT p 0].map cxv) ∧ Ext w w'
  left : ∀ (l : List HC) (R A : Option Addr) (n q t p : Nat) (keep : Int) (w : World), rightH ⟨l, keep⟩ = true → rightR ⟨l, keep⟩ (p : Int) = true → l.length ≤ 40 → (∀ j (hj : j < l.length), l[j].ref ≤ 1000000) → HcSl w R n q l → Sl w A 1 t ([ofT p 0].map cxv) →
    Calls Try.prog 8 #[.agg #[.slice R n q, .int .i64 keep], .slice A 1 t] w fun e w' => e = .returned (.int .i64 (cntC l 20 (p : Int) : Nat)) ∧ Ext w w'
  step : ∀ (l : List HC) (R A : Option Addr) (n q t p : Nat) (keep : Int) (w : World) (hp : p < l.length), rightH ⟨l, keep⟩ = true → 2 ≤ l[p].ref → l.length ≤ 40 → (∀ j (hj : j < l.length), l[j].ref ≤ 1000000) → HcSl w R n q l → Sl w A 1 t ([ofT p 0].map cxv) →
    Calls Try.prog 10 #[.agg #[.slice R n q, .int .i64 keep], .slice A 1 t] w fun e w' => ∃ S d B z, e = .returned (.tuple #[.agg #[.slice S n d, .int .i64 keep], .slice B 0 z]) ∧ HcSl w' S n d (looseL (l.length + 1) l (p : Int)) ∧ Ext w w'
theorem Bx.slS {w : World} {k : Nat} {cs : Array Value} (h : Bx w k cs) (n : Nat) (hn : n ≤ maxLen) : Sl w (some ⟨k, 0, none⟩) n n cs.toList :=
  ⟨(fun e => by cases e), Nat.le_refl _, hn, fun _ => ⟨k, 0, rfl, h.lt, fun j u hu => by rw [Nat.zero_add]; exact h.at j u (by simpa using hu)⟩⟩
section
variable {l : List HC} {R : Option Addr} {n q : Nat} {keep root : Int} {w : World}
theorem cFine_is {r : Bool} (rs : List Int) (A : Option Addr) (c m : Nat) (most : Int) (hm : m = rs.length) (h : fineS ⟨l, keep⟩ rs most = r) (hA : HcSl w R n q l) (hR : Sl w A m c (rs.map iv)) :
    Calls Try.prog 6 #[.agg #[.slice R n q, .int .i64 keep], .slice A m c, .slice none 0 0, .int .i64 most] w fun e w' => e = .returned (.bool r) ∧ Ext w w' := by subst h; exact ref08Fine_many l R n q keep A c m rs most w hm hA hR
theorem cList_is {L : List It} {s : Nat} (hl : AllR l) (hn : l.length ≤ 2000) (hr : rightR ⟨l, keep⟩ root = true) (h : listT l root = L) (hs : L.length = s) (hA : HcSl w R n q l) :
    Calls Try.prog 12 #[.agg #[.slice R n q, .int .i64 keep], .int .i64 root] w fun e w' => ∃ S d, e = .returned (.slice S s d) ∧ Sl w' S s d (ivs L) ∧ Ext w w' := by
  subst h; subst hs
  refine (ref07List_any R l n q keep keep root w hl hn hr hA).mono ?_
  rintro e w2 ⟨T, s, c, rfl, rfl, h1, h2⟩
  exact ⟨T, c, rfl, h1, h2⟩
theorem cItems_is (A B : Option Addr) (a : List It) (s c c' : Nat) (hs : a.length = s) (hA : Sl w A s c (ivs a)) (hB : Sl w B s c' (ivs a)) :
    Calls Try.prog 11 #[.slice A s c, .slice B s c'] w fun e w' => e = .returned (.bool true) ∧ Ext w w' := by
  have h := ref04Items_any A B a a s s c c' w hs.symm hs.symm hA hB
  rw [show sameI a a = true from by unfold sameI; simp] at h
  exact h
theorem cNodes_is {s : Nat} (hl : AllR l) (hn : l.length ≤ 2000) (hr : rightR ⟨l, keep⟩ root = true) (h : (nodesT l root).length = s) (hA : HcSl w R n q l) :
    Calls Try.prog 9 #[.agg #[.slice R n q, .int .i64 keep], .int .i64 root] w fun e w' => ∃ S d, e = .returned (.slice S s d) ∧ Ext w w' := by
  subst h
  refine (ref07Nodes_any R l n q keep keep root w hl hn hr hA).mono ?_
  rintro e w2 ⟨T, s, c, rfl, rfl, h1, h2⟩
  exact ⟨T, c, rfl, h2⟩
end
end Go.Proofs.Ytlbhcakjcklmgaa
