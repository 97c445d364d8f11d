/- Walks of Same, New and Settle of the reference. Walks of New and Settle of the reference. Loosing on plain lists; the walk of Loose of the reference. The walk of Loose of the reference. The walk of Alloc of the reference. The walk of Alloc of the reference, where the node may be laid. Walks of isNumber, Right and Same of package node. -/
import Derived.Test.YtkoomcbiddanfaaK03
import Derived.Test.YtkoomcbiddanfaaK02
namespace Go.Proofs.Ytkoomcbiddanfaa
open Go.RowKit
attribute [local go_sem ↓] Go.wp_at_zero Go.wp_at_succ

def sameH (a b : Hp) : Bool := decide (a = b)
theorem sameN_iff {f g : Bool} {a b : List It} : sameN f a g b = true ↔ f = g ∧ a = b := by unfold sameN sameI; simp
theorem hc_same {x y : HC} (h1 : sameN x.leaf x.it y.leaf y.it = true) (h2 : x.ref = y.ref) (h3 : x.pin = y.pin) : x = y := by
  obtain ⟨e1, e2⟩ := sameN_iff.1 h1
  cases x; cases y; simp_all
theorem hc_node {x y : HC} (h1 : sameN x.leaf x.it y.leaf y.it = false) : x ≠ y := fun e => by
  subst e; unfold sameN sameI at h1; simp at h1
set_option maxRecDepth 100000 in
set_option maxHeartbeats 3200000 in
theorem ref05Same_any (R S : Option Addr) (a b : List HC) (n m q q' : Nat) (ka kb : Int) (w : World) (hA : HcSl w R n q a) (hB : HcSl w S m q' b) :
    Calls Try.prog 17 #[.agg #[.slice R n q, .int .i64 ka], .agg #[.slice S m q', .int .i64 kb]] w fun e w' => e = .returned (.bool (sameH ⟨a, ka⟩ ⟨b, kb⟩)) ∧ Ext w w' := by
  have hn := hA.1
  have hm := hB.1
  have hml : n ≤ maxLen := by obtain ⟨_, cs, h, _⟩ := hA; exact h.len
  unfold maxLen at hml
  obtain ⟨W, hW⟩ : ∃ W, W = (w.alloc (.cells #[.slice R n q, .int .i64 ka] 24)).alloc (.cells #[.slice S m q', .int .i64 kb] 24) := ⟨_, rfl⟩
  obtain ⟨hx, hb0, hb1⟩ := allocs2 hW.symm
  have HX := Lib.hid hx
  have HB0 := Lib.hid hb0
  have HB1 := Lib.hid hb1
  have HA := Lib.hid (hA.ext hx)
  have HB := Lib.hid (hB.ext hx)
  have HNA := Lib.hid hn
  have HNB := Lib.hid hm
  obtain ⟨p0, p1, p2⟩ := hb0.read2
  obtain ⟨q0, q1, q2⟩ := hb1.read2
  clear hx hb0 hb1 hA hB hn hm
  by_cases hk : ka = kb
  rotate_left
  · have HE := Lib.hid (show sameH ⟨a, ka⟩ ⟨b, kb⟩ = false from decide_eq_false (fun e => hk (congrArg Hp.keep e)))
    have e1 : (ka != kb) = true := bne_iff_ne.2 hk
    clear hk
    subst hW
    go_enter Try.func17, Try.ntmps17
    go_wp2_with fail
    go_ret
    exact ⟨ret_bool HE.out.symm, HX.out⟩
  subst hk
  by_cases hl : n = m
  rotate_left
  · have HE := Lib.hid (show sameH ⟨a, ka⟩ ⟨b, ka⟩ = false from decide_eq_false (fun e => hl (by rw [HNA.out, HNB.out, show a = b from congrArg Hp.c e])))
    have e2 : ((n : Int) != (m : Int)) = true := bne_iff_ne.2 (by omega)
    clear hl
    subst hW
    go_enter Try.func17, Try.ntmps17
    go_wp2_with fail
    go_ret
    exact ⟨ret_bool HE.out.symm, HX.out⟩
  subst hl
  have HLL := Lib.hid (show a.length = b.length by rw [← HNA.out, ← HNB.out])
  subst hW
  go_enter Try.func17, Try.ntmps17
  go_wp2_with fail
  generalize hW : World.alloc (World.alloc w _) _ = W at *
  clear hW
  go_loopw [5] (fun i wr => ∃ k : Nat, k ≤ n ∧ i = .int .i64 k ∧ Ext W wr ∧ a.take k = b.take k) (fun i _ => n - (intOf i).toNat)
  case atStart => exact ⟨0, Nat.zero_le _, rfl, Ext.refl _, rfl⟩
  case round =>
    obtain ⟨k, hk, rfl, hx, ht⟩ := hrel
    have HT := Lib.hid ht
    have HXR := Lib.hid hx
    clear ht p0 p1 p2 q0 q1 q2
    obtain ⟨p0, p1, p2⟩ := (HB0.out.ext hx).read2
    obtain ⟨q0, q1, q2⟩ := (HB1.out.ext hx).read2
    rcases Nat.lt_or_ge k n with hlt | hlt
    · have hka : k < a.length := by rw [← HNA.out]; exact hlt
      have hkb : k < b.length := by rw [← HNB.out]; exact hlt
      obtain ⟨ba, oa, rfl, hba, Aa, ca, r0, r1, r2, r3, hI⟩ := (HA.out.ext hx).cell hka
      obtain ⟨bb, ob, rfl, hbb, Ab, cb, s0, s1, s2, s3, hJ⟩ := (HB.out.ext hx).cell hkb
      have hki : (k : Int) < (n : Int) := by omega
      have HF := Lib.hid (ne_at (a := a) (b := b) k hka hkb)
      have HS := Lib.hid (eq_step (a := a) (b := b) k hka hkb HT.out)
      have HCX := Lib.hid (fun w' (hx : Ext wr w') => ref04Same_any a[k].leaf b[k].leaf Aa Ab a[k].it b[k].it a[k].it.length b[k].it.length ca cb w' rfl rfl (hI.ext hx) (hJ.ext hx))
      have HKA := Lib.hid (fun w' (hx : Ext wr w') => (show w'.cell? ⟨ba, oa + k * 4, none⟩ = some (.int .i64 a[k].ref) ∧ w'.cell? ⟨ba, oa + k * 4 + 1, none⟩ = some (.bool a[k].pin) from ⟨(hx.cell (p := ⟨ba, oa + k * 4, none⟩) hba).trans r0, (hx.cell (p := ⟨ba, oa + k * 4 + 1, none⟩) hba).trans r1⟩))
      have HKB := Lib.hid (fun w' (hx : Ext wr w') => (show w'.cell? ⟨bb, ob + k * 4, none⟩ = some (.int .i64 b[k].ref) ∧ w'.cell? ⟨bb, ob + k * 4 + 1, none⟩ = some (.bool b[k].pin) from ⟨(hx.cell (p := ⟨bb, ob + k * 4, none⟩) hbb).trans s0, (hx.cell (p := ⟨bb, ob + k * 4 + 1, none⟩) hbb).trans s1⟩))
      have HBB := Lib.hid (fun w' (hx : Ext wr w') => (show Bx w' w.heap.size #[.slice (some ⟨ba, oa, none⟩) n q, .int .i64 ka] ∧ Bx w' (w.heap.size + 1) #[.slice (some ⟨bb, ob, none⟩) n q', .int .i64 ka] from ⟨HB0.out.ext (HXR.out.trans hx), HB1.out.ext (HXR.out.trans hx)⟩))
      have HSM := Lib.hid (fun (h1 : sameN a[k].leaf a[k].it b[k].leaf b[k].it = true) (h2 : a[k].ref = b[k].ref) (h3 : a[k].pin = b[k].pin) => hc_same h1 h2 h3)
      have HN1 := Lib.hid (fun (h : sameN a[k].leaf a[k].it b[k].leaf b[k].it = false) => hc_node h)
      have HN2 := Lib.hid (fun (h : a[k].ref ≠ b[k].ref) => (show a[k] ≠ b[k] from fun e => h (congrArg HC.ref e)))
      have HN3 := Lib.hid (fun (h : a[k].pin ≠ b[k].pin) => (show a[k] ≠ b[k] from fun e => h (congrArg HC.pin e)))
      have HE0 := Lib.hid (fun (h : a ≠ b) => (show sameH ⟨a, ka⟩ ⟨b, ka⟩ = false from decide_eq_false (fun e => h (congrArg Hp.c e))))
      clear HT hI hJ hx r0 r1 s0 s1
      generalize a[k] = x at *
      generalize b[k] = y at *
      obtain ⟨u, hu⟩ : ∃ u, sameN x.leaf x.it y.leaf y.it = u := ⟨_, rfl⟩
      rw [hu] at HCX HSM HN1
      clear hu
      generalize x.leaf = lf at *
      generalize y.leaf = lf2 at *
      generalize x.it.length = m1 at *
      generalize y.it.length = m2 at *
      obtain ⟨rf, hrf⟩ : ∃ r, x.ref = r := ⟨_, rfl⟩
      obtain ⟨rf2, hrf2⟩ : ∃ r, y.ref = r := ⟨_, rfl⟩
      obtain ⟨pn, hpn⟩ : ∃ r, x.pin = r := ⟨_, rfl⟩
      obtain ⟨pn2, hpn2⟩ : ∃ r, y.pin = r := ⟨_, rfl⟩
      rw [hrf, hpn] at HKA
      rw [hrf2, hpn2] at HKB
      rw [hrf, hrf2] at HSM HN2
      rw [hpn, hpn2] at HSM HN3
      clear hrf hrf2 hpn hpn2
      go_wp2_with fail
      go_cut [6] from 28 to 41 (fun v wx => v = .bool u ∧ Ext wr wx)
      case first =>
        go_region_law
          (first
            | ((go_simp
                go_at_call 29
                refine (HCX.out _ ?_).mono ?_
                (first | exact (Ext.refl _).drew | exact Ext.refl _)
                rintro e w1 ⟨rfl, hx⟩
                have HX1 := Lib.hid (show Ext wr w1 from by first | exact (Ext.refl _).drew.trans hx | exact hx)
                clear hx)))
        all_goals
          go_wp2_with fail
          go_meet
          exact ⟨rfl, HX1.out⟩
      case rest =>
        obtain ⟨rfl, hx⟩ := hcut
        have HX1 := Lib.hid hx
        obtain ⟨k0, k1⟩ := HKA.out _ hx
        obtain ⟨k2, k3⟩ := HKB.out _ hx
        obtain ⟨g0, g1⟩ := HBB.out _ hx
        clear p0 p1 p2 q0 q1 q2 r2 r3 s2 s3 hx
        obtain ⟨p0, p1, p2⟩ := g0.read2
        obtain ⟨q0, q1, q2⟩ := g1.read2
        clear g0 g1
        cases u
        · have HE := Lib.hid (HE0.out (HF.out (HN1.out rfl)))
          go_wp2_with fail
          go_quiet (fail)
          go_wp2
          go_ret
          exact ⟨ret_bool HE.out.symm, HX.out.trans (HXR.out.trans (HX1.out.drewN _))⟩
        by_cases h1 : rf = rf2
        rotate_left
        · have HE := Lib.hid (HE0.out (HF.out (HN2.out h1)))
          have e3 : (rf != rf2) = true := bne_iff_ne.2 h1
          clear h1
          go_wp2_with fail
          go_quiet (fail)
          go_wp2
          go_ret
          exact ⟨ret_bool HE.out.symm, HX.out.trans (HXR.out.trans (HX1.out.drewN _))⟩
        subst h1
        by_cases h2 : pn = pn2
        rotate_left
        · have HE := Lib.hid (HE0.out (HF.out (HN3.out h2)))
          cases pn <;> cases pn2 <;> first | (exact absurd rfl h2) | skip
          all_goals
            clear h2
            go_wp2_with fail
            go_quiet (fail)
            go_wp2
            go_ret
            exact ⟨ret_bool HE.out.symm, HX.out.trans (HXR.out.trans (HX1.out.drewN _))⟩
        subst h2
        have HE := Lib.hid (HS.out (HSM.out rfl rfl rfl))
        cases pn
        all_goals
          go_wp2_with fail
          go_quiet (fail)
          go_wp2
          go_roundw
          case rel => exact ⟨k + 1, by omega, by go_num, HXR.out.trans (HX1.out.drewN _), HE.out⟩
          case measure => simp [intOf]; omega
    · obtain rfl : k = n := by omega
      have HE := Lib.hid (show a = b from by
        have h := HT.out
        rw [HNA.out] at h
        exact eq_end HLL.out h)
      have HE2 := Lib.hid (show sameH ⟨a, ka⟩ ⟨b, ka⟩ = true from decide_eq_true (by rw [HE.out]))
      clear hlt hx
      go_wp2_with fail
      go_ret
      exact ⟨ret_bool HE2.out.symm, HX.out.trans HXR.out⟩
end Go.Proofs.Ytkoomcbiddanfaa
namespace Go.Proofs.Ytkoomcbiddanfaa
open Go.RowKit
attribute [local go_sem ↓] Go.wp_at_zero Go.wp_at_succ

def newOk (n keep : Int) : Prop := (1 ≤ n ∧ n ≤ 2000) ∧ 0 ≤ keep ∧ keep ≤ n
instance (n keep : Int) : Decidable (newOk n keep) := by unfold newOk; infer_instance
def newH (n keep : Int) : Hp := if newOk n keep then ⟨List.replicate n.toNat HC.none, keep⟩ else ⟨[], 0⟩
def newHE (n keep : Int) : Int := if newOk n keep then 0 else 1
theorem hc_zeros (w : World) (n : Nat) : HcAt w (madeCells (Value.agg #[.int .i64 0, .bool false, .bool false, .slice none 0 0]).cells (n * 4)).toList (List.replicate n HC.none) := by
  have hz : (Value.agg #[.int .i64 0, .bool false, .bool false, .slice none 0 0]).cells = #[.int .i64 0, .bool false, .bool false, .slice none 0 0] := by simp [Value.cells]
  rw [hz]
  refine ⟨by simp [size_madeCells], fun i hi => ?_⟩
  simp only [List.length_replicate] at hi
  have hg : ∀ j, j < n * 4 → (madeCells #[.int .i64 0, .bool false, .bool false, .slice none 0 0] (n * 4)).toList[j]? = some ((#[.int .i64 0, .bool false, .bool false, .slice none 0 0] : Array Value)[j % 4]!) := fun j hj => by
    simp [madeCells, hj]
  refine ⟨none, 0, ?_, ?_, ?_, ?_, ?_⟩
  · rw [hg _ (by omega), show i * 4 % 4 = 0 by omega]; simp [HC.none]
  · rw [hg _ (by omega), show (i * 4 + 1) % 4 = 1 by omega]; simp [HC.none]
  · rw [hg _ (by omega), show (i * 4 + 2) % 4 = 2 by omega]; simp [HC.none]
  · rw [hg _ (by omega), show (i * 4 + 3) % 4 = 3 by omega]; simp [HC.none]
  · simp only [List.getElem_replicate]
    exact Sl.nil _
set_option maxRecDepth 100000 in
set_option maxHeartbeats 1600000 in
theorem ref05New_any (n keep : Int) (w : World) :
    Calls Try.prog 15 #[.int .i64 n, .int .i64 keep] w fun e w' => ∃ S d, e = .returned (.tuple #[.agg #[.slice S (newH n keep).c.length d, .int .i64 (newH n keep).keep], .int .i64 (newHE n keep)]) ∧ HcSl w' S (newH n keep).c.length d (newH n keep).c ∧ Ext w w' := by
  have hb := Bx.new w #[.slice none 0 0, .int .i64 0] 24
  have HB := Lib.hid hb
  have HX := Lib.hid ((Ext.refl w).alloc (.cells #[.slice none 0 0, .int .i64 0] 24))
  obtain ⟨t0, t1, t2⟩ := hb.read2
  obtain ⟨y0, y1⟩ := hb.free2
  clear hb
  by_cases hok : newOk n keep
  rotate_left
  · have e1 : newH n keep = ⟨[], 0⟩ := by unfold newH; rw [if_neg hok]
    have e2 : newHE n keep = 1 := by unfold newHE; rw [if_neg hok]
    rw [e1, e2]
    clear e1 e2
    unfold newOk at hok
    have hc : n < 1 ∨ (1 ≤ n ∧ 2000 < n) ∨ (1 ≤ n ∧ n ≤ 2000 ∧ keep < 0) ∨ (1 ≤ n ∧ n ≤ 2000 ∧ 0 ≤ keep ∧ n < keep) := by omega
    clear hok
    rcases hc with h | ⟨h, h1⟩ | ⟨h, h1, h2⟩ | ⟨h, h1, h2, h3⟩
    · have d0 : decide (n < 1) = true := decide_eq_true h
      go_enter Try.func15, Try.ntmps15
      go_wp2_with fail
      refine ret2_cell (k := w.heap.size) (x := .slice none 0 0) (y := .int .i64 0) (v := .tuple #[.agg #[.slice none 0 0, .int .i64 0], .int .i64 1]) HB.out (fun r0 r1 => by simp [results, Try.results15, go_sem, r0, r1]) rfl ⟨none, 0, rfl, ⟨rfl, [], Sl.nil _, HcAt.nil _⟩, HX.out⟩
    · have d0 : decide (n < 1) = false := decide_eq_false (by omega)
      have d1 : decide (2000 < n) = true := decide_eq_true h1
      go_enter Try.func15, Try.ntmps15
      go_wp2_with fail
      refine ret2_cell (k := w.heap.size) (x := .slice none 0 0) (y := .int .i64 0) (v := .tuple #[.agg #[.slice none 0 0, .int .i64 0], .int .i64 1]) HB.out (fun r0 r1 => by simp [results, Try.results15, go_sem, r0, r1]) rfl ⟨none, 0, rfl, ⟨rfl, [], Sl.nil _, HcAt.nil _⟩, HX.out⟩
    · have d0 : decide (n < 1) = false := decide_eq_false (by omega)
      have d1 : decide (2000 < n) = false := decide_eq_false (by omega)
      have d2 : decide (keep < 0) = true := decide_eq_true h2
      go_enter Try.func15, Try.ntmps15
      go_wp2_with fail
      refine ret2_cell (k := w.heap.size) (x := .slice none 0 0) (y := .int .i64 0) (v := .tuple #[.agg #[.slice none 0 0, .int .i64 0], .int .i64 1]) HB.out (fun r0 r1 => by simp [results, Try.results15, go_sem, r0, r1]) rfl ⟨none, 0, rfl, ⟨rfl, [], Sl.nil _, HcAt.nil _⟩, HX.out⟩
    · have d0 : decide (n < 1) = false := decide_eq_false (by omega)
      have d1 : decide (2000 < n) = false := decide_eq_false (by omega)
      have d2 : decide (keep < 0) = false := decide_eq_false (by omega)
      have d3 : decide (n < keep) = true := decide_eq_true h3
      go_enter Try.func15, Try.ntmps15
      go_wp2_with fail
      refine ret2_cell (k := w.heap.size) (x := .slice none 0 0) (y := .int .i64 0) (v := .tuple #[.agg #[.slice none 0 0, .int .i64 0], .int .i64 1]) HB.out (fun r0 r1 => by simp [results, Try.results15, go_sem, r0, r1]) rfl ⟨none, 0, rfl, ⟨rfl, [], Sl.nil _, HcAt.nil _⟩, HX.out⟩
  · have e1 : newH n keep = ⟨List.replicate n.toNat HC.none, keep⟩ := by unfold newH; rw [if_pos hok]
    have e2 : newHE n keep = 0 := by unfold newHE; rw [if_pos hok]
    rw [e1, e2]
    clear e1 e2
    obtain ⟨⟨h0, h1⟩, h2, h3⟩ := hok
    obtain ⟨m, rfl⟩ := Int.eq_ofNat_of_zero_le (show 0 ≤ n by omega)
    simp only [Int.toNat_natCast, List.length_replicate]
    have d0 : decide ((m : Int) < 1) = false := decide_eq_false (by omega)
    have d0' : decide (m < 1) = false := decide_eq_false (by omega)
    have d0'' : decide (m = 0) = false := decide_eq_false (by omega)
    have d1 : decide ((2000 : Int) < (m : Int)) = false := decide_eq_false (by omega)
    have d1' : decide (2000 < m) = false := decide_eq_false (by omega)
    have d2 : decide (keep < 0) = false := decide_eq_false (by omega)
    have d3 : decide ((m : Int) < keep) = false := decide_eq_false (by omega)
    obtain ⟨i0, hi, hz0, hz1, hz2⟩ := info_parts infoHc
    have HI := Lib.hid hi
    have HZ0 := Lib.hid hz0
    have HZ1 := Lib.hid hz1
    have HZ2 := Lib.hid hz2
    clear hi hz0 hz1 hz2
    have hm : m ≤ 2000 := by omega
    go_enter Try.func15, Try.ntmps15
    go_wp2_with (at_make; refine stop_here ?_)
    refine stop_on ?_
    refine wpList_make_cap _ rfl _ _ 22 rfl 55 i0 _ Try.underlying22 HI.out HZ0.out _ _ _ _ m m rfl rfl (by omega) (by omega) (by omega) (by rw [HZ2.out]; omega) (by unfold maxLen; omega) ?_
    rw [HZ1.out]
    have HZ := Lib.hid (fun w' => hc_zeros w' m)
    have hcs : (madeCells (Value.agg #[.int .i64 0, .bool false, .bool false, .slice none 0 0]).cells (m * 4)).size = m * 4 := size_madeCells _ _
    have HCS := Lib.hid hcs
    generalize madeCells (Value.agg #[.int .i64 0, .bool false, .bool false, .slice none 0 0]).cells (m * 4) = cs at *
    clear hcs
    have hsl := sl_lit (w.alloc (.cells #[.slice (some ⟨w.heap.size + 1, 0, none⟩) m m, .int .i64 keep] 24)) 55 m cs.toList (by unfold maxLen; omega)
    rw [Array.toArray_toList, show (w.alloc (.cells #[.slice (some ⟨w.heap.size + 1, 0, none⟩) m m, .int .i64 keep] 24)).heap.size = w.heap.size + 1 by simp] at hsl
    have HSL := Lib.hid (show HcSl ((w.alloc (.cells #[.slice (some ⟨w.heap.size + 1, 0, none⟩) m m, .int .i64 keep] 24)).alloc (.cells cs 55)) (some ⟨w.heap.size + 1, 0, none⟩) m m (List.replicate m HC.none) from ⟨by simp, _, hsl, HZ.out _⟩)
    clear hsl
    go_wp2_with fail
    refine ret2_cell (k := w.heap.size) (x := .slice (some ⟨w.heap.size + 1, 0, none⟩) m m) (y := .int .i64 keep) (v := .tuple #[.agg #[.slice (some ⟨w.heap.size + 1, 0, none⟩) m m, .int .i64 keep], .int .i64 0]) ?hb4 (fun r0 r1 => by simp [results, Try.results15, go_sem, r0, r1]) rfl ?hx4
    case hb4 => exact (Bx.new w _ _).ext ((Ext.refl _).alloc _)
    case hx4 => exact ⟨_, _, rfl, HSL.out, ((Ext.refl w).alloc _).alloc _⟩

def stC (c : HC) : HC := ⟨c.ref, false, c.leaf, c.it⟩
def stK (l : List HC) (k : Nat) : List HC := (l.take k).map stC ++ l.drop k
theorem stK_len (l : List HC) (k : Nat) : (stK l k).length = l.length := by unfold stK; simp; omega
theorem stK_at {l : List HC} {k : Nat} (hk : k < l.length) : (stK l k)[k]'(by rw [stK_len]; exact hk) = l[k] := by
  unfold stK
  rw [List.getElem_append_right (by rw [List.length_map, List.length_take]; omega)]
  simp [Nat.min_eq_left (Nat.le_of_lt hk)]
theorem stK_succ {l : List HC} {k : Nat} (hk : k < l.length) : stK l (k + 1) = (stK l k).set k (stC l[k]) := by
  unfold stK
  have h : (List.map stC (l.take k)).length = k := by rw [List.length_map, List.length_take]; omega
  rw [List.take_succ_eq_append_getElem hk, List.map_append, List.set_append, if_neg (by omega), h, Nat.sub_self, List.append_assoc]
  rw [show l.drop k = l[k] :: l.drop (k + 1) from List.drop_eq_getElem_cons hk]
  rfl
theorem stK_zero (l : List HC) : stK l 0 = l := by unfold stK; simp
theorem stK_all (l : List HC) : stK l l.length = l.map stC := by unfold stK; simp
theorem stK_same {l : List HC} {k : Nat} (hk : k < l.length) (h : l[k].pin = false) : stK l (k + 1) = stK l k := by
  rw [stK_succ hk]
  have e : stC l[k] = (stK l k)[k]'(by rw [stK_len]; exact hk) := by rw [stK_at hk]; unfold stC; rw [← h]
  rw [e, List.set_getElem_self]
end Go.Proofs.Ytkoomcbiddanfaa
namespace Go.Proofs.Ytkoomcbiddanfaa
open Go.RowKit
attribute [local go_sem ↓] Go.wp_at_zero Go.wp_at_succ

theorem looseL_no {l : List HC} {p : Int} (f : Nat) (h : usedC l p = false) : looseL f l p = l := by
  cases f with
  | zero => rfl
  | succ f => unfold looseL; rw [h]; rfl
theorem looseL_at {l : List HC} {k : Nat} (f : Nat) (hk : k < l.length) (h : usedC l (k : Int) = true) :
    looseL (f + 1) l (k : Int) = if 1 < l[k].ref then l.set k ⟨l[k].ref - 1, false, l[k].leaf, l[k].it⟩ else if l[k].leaf then l.set k ⟨0, true, false, []⟩ else l[k].it.foldl (fun g x => looseL f g x.2) (l.set k ⟨0, true, false, []⟩) := by
  rw [looseL]
  simp only [h, if_true, Int.toNat_natCast, List.getD_eq_getElem?_getD, List.getElem?_eq_getElem hk, Option.getD_some]
theorem foldl_inv {α β : Type} {P : β → Prop} {g : β → α → β} (hg : ∀ b a, P b → P (g b a)) : ∀ (l : List α) (b : β), P b → P (l.foldl g b)
  | [], _, h => h
  | x :: l, b, h => foldl_inv hg l (g b x) (hg b x h)
theorem loose_len : ∀ (f : Nat) (l : List HC) (p : Int), (looseL f l p).length = l.length
  | 0, _, _ => rfl
  | f + 1, l, p => by
    cases h : usedC l p
    · rw [looseL_no _ h]
    · obtain ⟨k, hk, rfl, _⟩ := usedC_iff h
      rw [looseL_at f hk h]
      split
      · simp
      · split
        · simp
        · exact foldl_inv (P := fun g : List HC => g.length = l.length) (g := fun g (x : It) => looseL f g x.2) (fun b a hb => (loose_len f b a.2).trans hb) _ _ (List.length_set ..)
def Bd (l : List HC) : Prop := ∀ k (hk : k < l.length), l[k].ref ≤ 9000000000000000000
theorem Bd.set {l : List HC} (h : Bd l) (k : Nat) (x : HC) (hx : x.ref ≤ 9000000000000000000) : Bd (l.set k x) := fun j hj => by
  rw [List.length_set] at hj
  rw [List.getElem_set]
  split
  · exact hx
  · exact h j hj
theorem loose_bd : ∀ (f : Nat) (l : List HC) (p : Int), Bd l → Bd (looseL f l p)
  | 0, _, _, h => h
  | f + 1, l, p, hb => by
    cases h : usedC l p
    · rw [looseL_no _ h]; exact hb
    · obtain ⟨k, hk, rfl, _⟩ := usedC_iff h
      rw [looseL_at f hk h]
      split
      · exact hb.set _ _ (by have := hb k hk; simp only; omega)
      · split
        · exact hb.set _ _ (by simp only; omega)
        · exact foldl_inv (P := Bd) (g := fun g (x : It) => looseL f g x.2) (fun b a hb => loose_bd f b a.2 hb) _ _ (hb.set _ _ (by simp only; omega))
theorem usedN_set {l : List HC} {k : Nat} (hk : k < l.length) (x : HC) (hx : ¬ 0 < x.ref) (h : 0 < l[k].ref) : usedN (l.set k x) + 1 = usedN l := by
  unfold usedN
  have e : l = l.take k ++ l[k] :: l.drop (k + 1) := by
    conv => lhs; rw [← List.take_append_drop k l]
    rw [← List.drop_eq_getElem_cons hk]
  have e2 : l.set k x = l.take k ++ x :: l.drop (k + 1) := by rw [List.set_eq_take_append_cons_drop, if_pos hk]
  rw [e2]
  conv => rhs; rw [e]
  rw [List.countP_append, List.countP_append, List.countP_cons, List.countP_cons, decide_eq_false hx, decide_eq_true h]
  simp
  omega
theorem usedN_keep {l : List HC} {k : Nat} (hk : k < l.length) (x : HC) (h : 0 < l[k].ref) : usedN (l.set k x) ≤ usedN l := by
  unfold usedN
  have e : l = l.take k ++ l[k] :: l.drop (k + 1) := by
    conv => lhs; rw [← List.take_append_drop k l]
    rw [← List.drop_eq_getElem_cons hk]
  have e2 : l.set k x = l.take k ++ x :: l.drop (k + 1) := by rw [List.set_eq_take_append_cons_drop, if_pos hk]
  rw [e2]
  conv => rhs; rw [e]
  rw [List.countP_append, List.countP_append, List.countP_cons, List.countP_cons, decide_eq_true h]
  split <;> simp
theorem loose_used : ∀ (f : Nat) (l : List HC) (p : Int), usedN (looseL f l p) ≤ usedN l
  | 0, _, _ => Nat.le_refl _
  | f + 1, l, p => by
    cases h : usedC l p
    · rw [looseL_no _ h]; exact Nat.le_refl _
    · obtain ⟨k, hk, rfl, hp⟩ := usedC_iff h
      rw [looseL_at f hk h]
      split
      · exact usedN_keep hk _ hp
      · split
        · exact usedN_keep hk _ hp
        · exact foldl_inv (P := fun g => usedN g ≤ usedN l) (g := fun g (x : It) => looseL f g x.2) (fun b a hb => Nat.le_trans (loose_used f b a.2) hb) _ _ (usedN_keep hk _ hp)
theorem foldl_take {β : Type} (g : β → It → β) (b : β) {it : List It} {k : Nat} (hk : k < it.length) : (it.take (k + 1)).foldl g b = g ((it.take k).foldl g b) it[k] := by
  rw [List.take_succ_eq_append_getElem hk, List.foldl_append]; rfl
end Go.Proofs.Ytkoomcbiddanfaa
namespace Go.Proofs.Ytkoomcbiddanfaa
open Go.RowKit
attribute [local go_sem ↓] Go.wp_at_zero Go.wp_at_succ

end Go.Proofs.Ytkoomcbiddanfaa
namespace Go.Proofs.Ytkoomcbiddanfaa
open Go.RowKit
attribute [local go_sem ↓] Go.wp_at_zero Go.wp_at_succ

/-- Refs of the same cells, up to so many more. -/
def Up (l g : List HC) (j : Nat) : Prop := g.length = l.length ∧ ∀ k (hk : k < l.length) (hg : k < g.length), l[k].ref ≤ g[k].ref ∧ g[k].ref ≤ l[k].ref + j
theorem Up.refl (l : List HC) : Up l l 0 := ⟨rfl, fun k hk hg => by omega⟩
theorem Up.keep {l g : List HC} {j : Nat} (h : Up l g j) : Up l g (j + 1) := ⟨h.1, fun k hk hg => by have := h.2 k hk hg; omega⟩
theorem Up.more {l g : List HC} {j k : Nat} (h : Up l g j) (hk : k < g.length) : Up l (g.set k g[k].more) (j + 1) := by
  refine ⟨by rw [List.length_set]; exact h.1, fun i hi hg => ?_⟩
  rw [List.length_set] at hg
  have h1 := h.2 i hi hg
  rw [List.getElem_set]
  split
  · rename_i e; subst e; unfold HC.more; simp only; omega
  · omega
theorem first_at {l : List HC} {k : Nat} (hk : k < l.length) (h : ∀ j (hj : j < l.length), j < k → stopC l[j] = false) (h1 : stopC l[k] = true) : firstF l = k := by
  unfold firstF
  rw [List.findIdx_eq hk]
  exact ⟨h1, fun j hj => h j (by omega) hj⟩
theorem first_no {l : List HC} (h : ∀ j (hj : j < l.length), stopC l[j] = false) : firstF l = l.length := by
  unfold firstF
  rw [List.findIdx_eq_length]
  intro x hx
  obtain ⟨j, hj, rfl⟩ := List.mem_iff_getElem.1 hx
  exact h j hj
theorem alloc_bad {l : List HC} {leaf : Bool} {it : List It} {held : List Int} (h : (ndR it && leadsC l leaf it) = false) : allocE l leaf it = 1 ∧ allocP l leaf it = 0 ∧ allocL l leaf it held = l := by
  have e : allocE l leaf it = 1 := by unfold allocE; rw [h]; rfl
  exact ⟨e, by unfold allocP; rw [e]; rfl, by unfold allocL; rw [e]; rfl⟩
theorem alloc_full {l : List HC} {leaf : Bool} {it : List It} {held : List Int} (h : (ndR it && leadsC l leaf it) = true) (h2 : firstF l = l.length) : allocE l leaf it = 3 ∧ allocP l leaf it = 0 ∧ allocL l leaf it held = l := by
  have e : allocE l leaf it = 3 := by unfold allocE; rw [h, if_pos rfl, if_neg (by omega)]
  exact ⟨e, by unfold allocP; rw [e]; rfl, by unfold allocL; rw [e]; rfl⟩
theorem alloc_ok {l : List HC} {leaf : Bool} {it : List It} {held : List Int} {k : Nat} (h : (ndR it && leadsC l leaf it) = true) (hk : k < l.length) (h2 : firstF l = k) : allocE l leaf it = 0 ∧ allocP l leaf it = k ∧ allocL l leaf it held = (if leaf then l else moreL held l it).set k ⟨1, false, leaf, it⟩ := by
  have e : allocE l leaf it = 0 := by unfold allocE; rw [h, if_pos rfl, if_pos (by omega)]
  exact ⟨e, by unfold allocP; rw [e, h2]; rfl, by unfold allocL; rw [e, h2]; rfl⟩
theorem leads_used {l : List HC} {it : List It} (h : leadsC l false it = true) {j : Nat} (hj : j < it.length) : usedC l it[j].2 = true := by
  unfold leadsC at h
  simp only [Bool.false_or, List.all_eq_true] at h
  exact h _ (List.getElem_mem hj)
def moreS (held : List Int) (g : List HC) (x : It) : List HC := if inL held x.2 then g else g.set x.2.toNat (g.getD x.2.toNat HC.none).more
theorem moreL_eq (held : List Int) (l : List HC) (it : List It) : moreL held l it = it.foldl (moreS held) l := rfl

end Go.Proofs.Ytkoomcbiddanfaa
namespace Go.Proofs.Ytkoomcbiddanfaa
open Go.RowKit
attribute [local go_sem ↓] Go.wp_at_zero Go.wp_at_succ

end Go.Proofs.Ytkoomcbiddanfaa
namespace Go.Proofs.Ytkoomcbiddanfaa
open Go.RowKit

def isNum (x : Int) : Bool := decide (0 ≤ x) && decide (x ≤ 2147483647)
set_option maxHeartbeats 400000 in
theorem nodeIsNumber_any (x : Int) (w : World) :
    Calls Try.prog 68 #[.int .i64 x] w fun e w' => e = .returned (.bool (isNum x)) ∧ w = w' := by
  unfold isNum
  by_cases h0 : 0 ≤ x
  · by_cases h1 : x ≤ 2147483647
    · have d0 : decide (0 ≤ x) = true := decide_eq_true h0
      have d1 : decide (x ≤ 2147483647) = true := decide_eq_true h1
      go_enter Try.func68, Try.ntmps68
      go_wp2
      go_ret
      exact ⟨ret_bool (by first | rfl | (rw [d0, d1]; rfl)), rfl⟩
    · have d0 : decide (0 ≤ x) = true := decide_eq_true h0
      have d1 : decide (x ≤ 2147483647) = false := decide_eq_false h1
      go_enter Try.func68, Try.ntmps68
      go_wp2
      go_ret
      exact ⟨ret_bool (by first | rfl | (rw [d0, d1]; rfl)), rfl⟩
  · have d0 : decide (0 ≤ x) = false := decide_eq_false h0
    go_enter Try.func68, Try.ntmps68
    go_wp2
    go_ret
    exact ⟨ret_bool (by first | rfl | (rw [d0]; rfl)), rfl⟩
theorem isNum_iff (x : Int) : isNum x = true ↔ 0 ≤ x ∧ x ≤ 2147483647 := by unfold isNum; simp
theorem isNum_ok {x : It} (h1 : isNum x.1 = true) (h2 : isNum x.2 = true) : okIt x := ⟨(isNum_iff _).1 h1, (isNum_iff _).1 h2⟩
theorem isNum_no {x : It} (h : isNum x.1 = false ∨ isNum x.2 = false) : ¬ okIt x := fun e => by
  have h1 := (isNum_iff _).2 e.1
  have h2 := (isNum_iff _).2 e.2
  rw [h1, h2] at h
  simp at h
set_option maxRecDepth 100000 in
set_option maxHeartbeats 800000 in
theorem nodeRight_any (leaf : Bool) (A : Option Addr) (l : List It) (n c : Nat) (w : World) (hn : n = l.length) (hA : Sl w A n c (ivs l)) :
    Calls Try.prog 57 #[.agg #[.bool leaf, .slice A n c]] w fun e w' => e = .returned (.bool (ndR l)) ∧ Ext w w' := by
  subst hn
  have hl := hA.len
  unfold maxLen at hl
  have HX := Lib.hid ((Ext.refl w).alloc (.cells #[.bool leaf, .slice A l.length c] 53))
  have HB := Lib.hid (Bx.new w #[.bool leaf, .slice A l.length c] 53)
  have HA := Lib.hid (hA.cells.ext HX.out)
  clear hA
  by_cases h1 : l.length < 1
  · go_enter Try.func57, Try.ntmps57
    go_wp2
    go_ret
    exact ⟨ret_bool (ndR_no (fun h => by have := h.1; omega)).symm, HX.out⟩
  by_cases h4 : 4 < l.length
  · go_enter Try.func57, Try.ntmps57
    go_wp2
    go_ret
    exact ⟨ret_bool (ndR_no (fun h => by have := h.1; omega)).symm, HX.out⟩
  go_enter Try.func57, Try.ntmps57
  go_wp2
  generalize hW : World.alloc w _ = W at *
  clear hW
  go_loopw [18] (fun i wr => ∃ k : Nat, k ≤ l.length ∧ i = .int .i64 k ∧ NdK l k ∧ Ext W wr) (fun i _ => l.length - (intOf i).toNat)
  case atStart => exact ⟨0, Nat.zero_le _, rfl, NdK.zero l, Ext.refl _⟩
  case round =>
    obtain ⟨k, hk, rfl, hnk, hx⟩ := hrel
    have HK := Lib.hid hnk
    have HXR := Lib.hid hx
    obtain ⟨b0, b1, b2⟩ := (HB.out.ext hx).read2
    clear hnk
    by_cases hlt : k < l.length
    · obtain ⟨bb, off, rfl, hbb, hc⟩ := (HA.out.ext hx).it hlt
      obtain ⟨hck, hcv⟩ := hc k hlt
      have HNO := Lib.hid (fun (h : ¬ okIt l[k]) => ndR_no (l := l) (fun e => h (e.2 k hlt).1))
      have HS := Lib.hid (fun h h2 => HK.out.succ hlt h h2)
      have HNR := Lib.hid (fun (h0 : 0 < k) (h : ¬ l[k - 1].1 < l[k].1) => ndR_no (l := l) (fun e => h ((e.2 k hlt).2 h0)))
      have HPV := Lib.hid (fun (h0 : 0 < k) (h : k - 1 < l.length) => (hc (k - 1) h).1)
      have hki : (k : Int) < (l.length : Int) := by omega
      clear hc
      generalize hq : l[k] = q at *
      clear hq
      obtain ⟨K, V⟩ := q
      simp only at hck hcv
      have HXA := Lib.hid (hx.alloc (.cells #[.int .i64 K, .int .i64 V] 26))
      have HBI := Lib.hid (Bx.new wr #[.int .i64 K, .int .i64 V] 26)
      obtain ⟨x0, x1, x2⟩ := HBI.out.read2
      have HN1 := Lib.hid (nodeIsNumber_any K)
      have HN2 := Lib.hid (nodeIsNumber_any V)
      clear hx
      cases h0 : isNum K
      · rw [h0] at HN1
        go_wp2_with (go_at_call 68; refine (HN1.out _).mono ?_; rintro e w' ⟨rfl, rfl⟩)
        go_ret
        exact ⟨ret_bool (HNO.out (isNum_no (.inl h0))).symm, HX.out.trans HXA.out⟩
      rw [h0] at HN1
      cases h5 : isNum V
      · rw [h5] at HN2
        go_wp2_with (go_at_call 68; (first | (with_reducible refine (HN1.out _).mono ?_) | (with_reducible refine (HN2.out _).mono ?_)); rintro e w' ⟨rfl, rfl⟩)
        go_ret
        exact ⟨ret_bool (HNO.out (isNum_no (.inr h5))).symm, HX.out.trans HXA.out⟩
      rw [h5] at HN2
      have HOK := Lib.hid (isNum_ok (x := (K, V)) h0 h5)
      clear h0 h5
      rcases Nat.eq_zero_or_pos k with h0 | h0
      · subst h0
        simp only [Nat.zero_mul, Nat.add_zero] at hck hcv
        have HS1 := Lib.hid (HS.out HOK.out (fun h => absurd h (by omega)))
        have d0 : decide ((0 : Int) < ((0 : Nat) : Int)) = false := decide_eq_false (by omega)
        clear HS HK HNR HPV
        go_wp2_with (go_at_call 68; (first | (with_reducible refine (HN1.out _).mono ?_) | (with_reducible refine (HN2.out _).mono ?_)); rintro e w' ⟨rfl, rfl⟩)
        go_quiet (fail)
        go_wp2
        go_roundw
        case rel => exact ⟨1, by omega, by go_num, HS1.out, HXA.out.drewN _⟩
        case measure => simp [intOf]; omega
      · obtain ⟨j, rfl⟩ : ∃ j, k = j + 1 := ⟨k - 1, by omega⟩
        have hj := HPV.out h0 (by omega)
        have HNR2 := Lib.hid (HNR.out h0)
        simp only [Nat.add_sub_cancel] at hj HNR2
        have hj9 : j < l.length := by omega
        have HS2 := Lib.hid (show l[j].1 < K → NdK l (j + 1 + 1) from fun h => HS.out HOK.out (fun _ => h))
        clear HS HK HNR HPV
        have hj1 : (wr.alloc (.cells #[.int .i64 K, .int .i64 V] 26)).cell? ⟨bb, off + j * 2, none⟩ = some (.int .i64 l[j].1) := by
          exact (((Ext.refl wr).alloc _).cell (p := ⟨bb, off + j * 2, none⟩) (World.block_lt_of_cell? _ _ hj)).trans hj
        generalize l[j].1 = PK at *
        have hk0 : decide ((0 : Int) < ((j + 1 : Nat) : Int)) = true := decide_eq_true (by omega)
        have e1 : ((j + 1 : Nat) : Int) - 1 = (j : Int) := by omega
        have e2 : (j : Int) < (l.length : Int) := by omega
        rcases Decidable.em (K ≤ PK) with hp | hp
        · have HE := Lib.hid (HNR2.out (by omega))
          have hp' : decide (K ≤ PK) = true := decide_eq_true hp
          clear hp
          go_wp2_with (go_at_call 68; (first | (with_reducible refine (HN1.out _).mono ?_) | (with_reducible refine (HN2.out _).mono ?_)); rintro e w' ⟨rfl, rfl⟩)
          go_quiet (fail)
          go_wp2
          go_ret
          exact ⟨ret_bool HE.out.symm, HX.out.trans (HXA.out.drewN _)⟩
        · have hp' : decide (K ≤ PK) = false := decide_eq_false hp
          have HE := Lib.hid (HS2.out (by omega))
          clear hp
          go_wp2_with (go_at_call 68; (first | (with_reducible refine (HN1.out _).mono ?_) | (with_reducible refine (HN2.out _).mono ?_)); rintro e w' ⟨rfl, rfl⟩)
          go_quiet (fail)
          go_wp2
          go_roundw
          case rel => exact ⟨j + 1 + 1, by omega, by go_num, HE.out, HXA.out.drewN _⟩
          case measure => simp [intOf]; omega
    · obtain rfl : k = l.length := by omega
      have HE := Lib.hid ((ndR_iff l).2 (HK.out.all (by omega)))
      clear hx
      go_wp2
      go_ret
      exact ⟨ret_bool HE.out.symm, HX.out.trans HXR.out⟩
end Go.Proofs.Ytkoomcbiddanfaa
