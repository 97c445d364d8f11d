/- Loose of package heap, where the cells lie in a world, and their items in an elder one. Whole numbers among floats of 64 bits, and which floats are the same as they; no program in sight. Walks of the small functions of package num and of the reference: isWidth, limit (for seats without sums). Walks of Take. Rows of bytes that are compared. Walks of Put. Tasks, as plain pairs of floats; which are right; rows of tasks. No program in sight. -/
import Derived.Test.YtlbhcakjcklmgaaK05
import Derived.Test.YtlbhcakjcklmgaaK01
import Derived.Laws.FloatArith
import Derived.Laws.ComplexArith
import Derived.Laws.Cover3
import Derived.Test.YtlbhcakjcklmgaaRows
import Derived.WalkKit
import Derived.WalkSpells
import Derived.WalkLawsBesides
import Derived.Lib.Hide
import Derived.Deep.QuietTactic
import Derived.BigQuiet
namespace Go.Proofs.Ytlbhcakjcklmgaa
open Go.RowKit
attribute [local go_sem ↓] Go.wp_at_zero Go.wp_at_succ

/-- A slice of cells of w, whose items lie in the elder world v. -/
def HcV (v w : World) (R : Option Addr) (n q : Nat) (l : List HC) : Prop := n = l.length ∧ ∃ cs, Sl w R n q cs ∧ HcAt v cs l
theorem HcV.ext {v w w' : World} {R : Option Addr} {n q : Nat} {l : List HC} (h : HcV v w R n q l) (hx : Ext w w') : HcV v w' R n q l := by
  obtain ⟨h1, cs, h2, h3⟩ := h
  exact ⟨h1, cs, h2.ext hx, h3⟩
theorem HcV.sl {v w : World} {R : Option Addr} {n q : Nat} {l : List HC} (h : HcV v w R n q l) (hx : Ext v w) : HcSl w R n q l := by
  obtain ⟨h1, cs, h2, h3⟩ := h
  exact ⟨h1, cs, h2, h3.ext hx⟩
theorem Own.hx {v w : World} {g cap : Nat} {l : List HC} (h : Own v w g cap l) {n : Nat} (hn : n = l.length) : HcV v w (some ⟨g, 0, none⟩) n cap l := by
  obtain ⟨cs, h1, h2, _⟩ := h
  subst hn
  exact ⟨rfl, cs, own_sl h1, h2⟩
theorem hpCopied_x (v : World) (R : Option Addr) (l : List HC) (n q : Nat) (w : World) (hx : Ext v w) (hb : n ≤ 90000) (hA : HcV v w R n q l) :
    Calls Try.prog 56 #[.slice R n q] w fun e w' => ∃ g, e = .returned (.slice (some ⟨g, 0, none⟩) n n) ∧ w.heap.size ≤ g ∧ Own v w' g n l ∧ Ext w w' := by
  obtain ⟨hn, cs, hsl, hat⟩ := hA
  refine (hpCopiedC_cs R l n q w cs hn hb hsl (hat.ext hx)).mono ?_
  rintro e w' ⟨g, rfl, h1, h2⟩
  exact ⟨g, rfl, (h1.lt g rfl).1, ⟨cs, own_base h1 hx.size, hat, hx.trans h2⟩, h2⟩
set_option maxRecDepth 100000 in
set_option maxHeartbeats 3200000 in
theorem hpChangedLoose_x (v : World) (R : Option Addr) (l : List HC) (n q : Nat) (keep : Int) (S : Option Addr) (ps : List Int) (t d : Nat) (F : List HC → Int → List HC) (w : World) (hx : Ext v w) (hb : n ≤ 90000) (hA : HcV v w R n q l) (ht : t = ps.length) (hS : Sl w S t d (ps.map iv))
    (hD : ∀ (lj : List HC) (j : Nat) (hj : j < ps.length) (g : Nat) (wr : World), lj = (ps.take j).foldl F l → Own v wr g n lj → Calls Try.prog 48 #[.slice (some ⟨g, 0, none⟩) n n, .int .i64 ps[j]] wr fun e w' => e = .returned (.tuple #[]) ∧ Own v w' g n (F lj ps[j]) ∧ wr.grownBy w' (some g)) :
    Calls Try.prog 53 #[.agg #[.slice R n q, .int .i64 keep], .func (.func 48) #[] #[], .slice S t d] w fun e w' => ∃ g, e = .returned (.agg #[.slice (some ⟨g, 0, none⟩) n n, .int .i64 keep]) ∧ w.heap.size ≤ g ∧ Own v w' g n (ps.foldl F l) ∧ Ext w w' := by
  obtain ⟨W, hW⟩ : ∃ W, (w.alloc (.cells #[.slice R n q, .int .i64 keep] 24)).alloc (.cells #[.slice none 0 0, .int .i64 0] 24) = W := ⟨_, rfl⟩
  obtain ⟨hx0, hb0, hb1⟩ := allocs2 hW
  have hsz : W.heap.size = w.heap.size + 1 + 1 := by rw [← hW]; simp
  have HX := Lib.hid hx0
  have HXV := Lib.hid hx
  have HB0 := Lib.hid hb0
  have HB1 := Lib.hid hb1
  have HSZ := Lib.hid hsz
  have HT := Lib.hid ht
  have HS := Lib.hid hS
  have HD := Lib.hid hD
  have HC := Lib.hid (hpCopied_x v R l n q W (hx.trans hx0) hb (hA.ext hx0))
  have htl := hS.len
  unfold maxLen at htl
  obtain ⟨p0, p1, p2⟩ := hb0.read2
  clear hx hx0 hb0 hb1 hsz hA ht hS hD
  subst hW
  go_enter Try.func53, Try.ntmps53
  go_wp2_with (go_at_call 56; refine stop_here ?_)
  refine stop_on ?_
  generalize hW : World.alloc (World.alloc w _) _ = W at *
  clear hW
  refine HC.out.mono ?_
  rintro e w1 ⟨g, rfl, hg, ho, hx1⟩
  have hgw : w.heap.size + 1 + 1 ≤ g := by have := HSZ.out; omega
  have HO := Lib.hid ho
  have HX1 := Lib.hid (HX.out.trans hx1)
  have HC0 := Lib.hid (HB0.out.ext hx1)
  have HC1 := Lib.hid (HB1.out.ext hx1)
  have HS1 := Lib.hid (HS.out.ext HX1.out)
  have HAP := Lib.hid (HS.out.cells.apart (g := g) (by omega))
  clear ho hx1 p0 p1 p2 hg
  go_wp2_with fail
  go_loopw [15] (fun i wr => ∃ j : Nat, j ≤ t ∧ i = .int .i64 j ∧ Own v wr g n ((ps.take j).foldl F l) ∧ w1.grownBy wr (some g)) (fun i _ => t - (intOf i).toNat)
  case atStart => exact ⟨0, Nat.zero_le _, rfl, HO.out, World.grownBy.refl _ _⟩
  case round =>
    obtain ⟨j, hj, rfl, ho, hgr⟩ := hrel
    have HOR := Lib.hid ho
    have HGR := Lib.hid hgr
    rcases Nat.lt_or_ge j t with hlt | hlt
    · have hjl : j < ps.length := by rw [← HT.out]; exact hlt
      obtain ⟨bi, oi, rfl, hbi, hc⟩ := (HS1.out.grown hgr HAP.out).cells.num hjl
      have hcj := hc j hjl
      have hji : (j : Int) < (t : Int) := by omega
      have HST := Lib.hid (foldl_takeI F l hjl)
      have HCL := Lib.hid (HD.out _ j hjl g wr rfl ho)
      rw [← HST.out] at HCL
      clear hc ho hgr
      generalize ps[j] = p at *
      go_wp2_with (go_at_call 48; refine stop_here ?_)
      refine stop_on ?_
      refine HCL.out.mono ?_
      rintro e w4 ⟨rfl, ho4, hg4⟩
      have HO5 := Lib.hid ho4
      have HG5 := Lib.hid (grown_trans HGR.out hg4)
      clear ho4 hg4
      go_wp2_with fail
      go_roundw
      case rel => exact ⟨j + 1, by omega, by go_num, HO5.out, HG5.out⟩
      case measure => simp [intOf]; omega
    · obtain rfl : j = t := by omega
      have hE : ps.take j = ps := by rw [HT.out, List.take_length]
      rw [hE] at HOR
      have HE0 := Lib.hid (HC0.out.grown hgr (fun e => by have := Option.some.inj e; omega))
      have HE1 := Lib.hid (HC1.out.grown hgr (fun e => by have := Option.some.inj e; omega))
      have HXR := Lib.hid (Ext.row' HX1.out hgr (by omega))
      have hvs := HXV.out.size
      obtain ⟨t0, t1, t2⟩ := HE0.out.read2
      obtain ⟨y0, y1⟩ := HE0.out.free2
      obtain ⟨s0, s1, s2⟩ := HE1.out.read2
      obtain ⟨x0, x1⟩ := HE1.out.free2
      clear ho hgr hlt hE
      have HF1 := Lib.hid (HE1.out.set_other (p := ⟨w.heap.size, 0, none⟩) (by simp) (.slice (some ⟨g, 0, none⟩) n n))
      have HF2 := Lib.hid (HF1.out.set2 (.slice (some ⟨g, 0, none⟩) n n) (.int .i64 keep))
      have HFO := Lib.hid (((HOR.out.other (p := ⟨w.heap.size, 0, none⟩) (by simp; omega) (by simpa using hvs) (.slice (some ⟨g, 0, none⟩) n n)).other (p := ⟨w.heap.size + 1, 0, none⟩) (by simp; omega) (by simp; omega) (.slice (some ⟨g, 0, none⟩) n n)).other (p := ⟨w.heap.size + 1, 1, none⟩) (by simp; omega) (by simp; omega) (.int .i64 keep))
      have HFX := Lib.hid (((HXR.out.set (p := ⟨w.heap.size, 0, none⟩) (by simp) (.slice (some ⟨g, 0, none⟩) n n)).set (p := ⟨w.heap.size + 1, 0, none⟩) (by simp) (.slice (some ⟨g, 0, none⟩) n n)).set (p := ⟨w.heap.size + 1, 1, none⟩) (by simp) (.int .i64 keep))
      go_wp2_with fail
      refine ret2_cell (k := w.heap.size + 1) (x := .slice (some ⟨g, 0, none⟩) n n) (y := .int .i64 keep) (v := .agg #[.slice (some ⟨g, 0, none⟩) n n, .int .i64 keep]) ?hb4 (fun r0 r1 => by simp [results, Try.results53, go_sem, r0, r1]) rfl ?hx4
      case hb4 => exact HF2.out
      case hx4 => exact ⟨g, rfl, by omega, HFO.out, HFX.out⟩
set_option maxRecDepth 100000 in
set_option maxHeartbeats 3200000 in
theorem hpUsedYesLoose_x (v : World) (R : Option Addr) (l : List HC) (n q : Nat) (keep p : Int) (l' : List HC) (w : World) (hx : Ext v w) (hb : n ≤ 90000) (hu : usedC l p = true) (hA : HcV v w R n q l)
    (hD : ∀ (g : Nat) (wr : World), Own v wr g n l → Calls Try.prog 48 #[.slice (some ⟨g, 0, none⟩) n n, .int .i64 p] wr fun e w' => e = .returned (.tuple #[]) ∧ Own v w' g n l' ∧ wr.grownBy w' (some g)) :
    Calls Try.prog 47 #[.agg #[.slice R n q, .int .i64 keep], .func (.func 48) #[] #[], .int .i64 p] w fun e w' => ∃ g, e = .returned (.tuple #[.agg #[.slice (some ⟨g, 0, none⟩) n n, .int .i64 keep], .int .i64 0]) ∧ w.heap.size ≤ g ∧ Own v w' g n l' ∧ Ext w w' := by
  obtain ⟨W, hW⟩ : ∃ W, (w.alloc (.cells #[.slice R n q, .int .i64 keep] 24)).alloc (.cells #[.slice none 0 0, .int .i64 0] 24) = W := ⟨_, rfl⟩
  obtain ⟨hx0, hb0, hb1⟩ := allocs2 hW
  have hsz : W.heap.size = w.heap.size + 1 + 1 := by rw [← hW]; simp
  have HX := Lib.hid hx0
  have HXV := Lib.hid hx
  have HB1 := Lib.hid hb1
  have HSZ := Lib.hid hsz
  have HU := Lib.hid (hpUsed_any R l n q p W ((hA.sl hx).ext hx0))
  rw [hu] at HU
  have HC := Lib.hid (fun w' S (hx' : Ext w w') (hS : Sl w' S 1 1 ([p].map iv)) => hpChangedLoose_x v R l n q keep S [p] 1 1 (fun _ _ => l') w' (hx.trans hx') hb (hA.ext hx') rfl hS (fun lj j hj g wr e ho => by
    have hj0 : j = 0 := by simpa using hj
    subst hj0
    subst e
    exact hD g wr ho))
  obtain ⟨p0, p1, p2⟩ := hb0.read2
  clear hx hx0 hb0 hb1 hA hu hsz hD
  subst hW
  go_enter Try.func47, Try.ntmps47
  go_wp2_with (first | (go_at_call 52; with_reducible refine HU.out.mono ?_; rintro e w4 ⟨rfl, rfl⟩) | (go_at_call 53; refine stop_here ?_))
  refine stop_on ?_
  generalize hW : World.alloc (World.alloc w _) _ = W at *
  clear hW
  refine (HC.out _ _ (HX.out.alloc _) ?hsl).mono ?_
  case hsl => exact hpl_lit' (by rw [HSZ.out]) _ 1 _ (by unfold maxLen; omega)
  rintro e w5 ⟨g, rfl, hg, ho, hx5⟩
  have hsz := HSZ.out
  have hgw : w.heap.size + 1 + 1 < g := by simp at hg; omega
  have hx6 : Ext W w5 := ((Ext.refl W).alloc _).trans hx5
  have HX6 := Lib.hid (HX.out.trans hx6)
  have hc1 := HB1.out.ext hx6
  have HC1 := Lib.hid hc1
  have hvs := HXV.out.size
  have HFO := Lib.hid ((ho.other (p := ⟨w.heap.size + 1, 0, none⟩) (by simp; omega) (by simp; omega) (.slice (some ⟨g, 0, none⟩) n n)).other (p := ⟨w.heap.size + 1, 1, none⟩) (by simp; omega) (by simp; omega) (.int .i64 keep))
  clear p0 p1 p2 hg ho hx5 hx6
  obtain ⟨t0, t1, t2⟩ := hc1.read2
  obtain ⟨y0, y1⟩ := hc1.free2
  clear hc1 hsz
  go_wp2_with fail
  refine ret2_cell (k := w.heap.size + 1) (x := .slice (some ⟨g, 0, none⟩) n n) (y := .int .i64 keep) (v := .tuple #[.agg #[.slice (some ⟨g, 0, none⟩) n n, .int .i64 keep], .int .i64 0]) ?hb4 (fun r0 r1 => by simp [results, Try.results47, go_sem, r0, r1]) rfl ?hx4
  case hb4 => exact HC1.out.set2 _ _
  case hx4 => exact ⟨g, rfl, by omega, HFO.out, HX6.out.store2 (by omega) _ _⟩
set_option maxRecDepth 100000 in
set_option maxHeartbeats 1600000 in
theorem hpLooseYes_x (v : World) (R : Option Addr) (l : List HC) (n q : Nat) (keep : Int) (w : World) (p : Int) (l' : List HC) (hb : n ≤ 90000) (hu : usedC l p = true) (hx : Ext v w) (hA : HcV v w R n q l)
    (hD : ∀ (g : Nat) (wr : World), Own v wr g n l → Calls Try.prog 48 #[.slice (some ⟨g, 0, none⟩) n n, .int .i64 p] wr fun e w' => e = .returned (.tuple #[]) ∧ Own v w' g n l' ∧ wr.grownBy w' (some g)) :
    Calls Try.prog 37 #[.agg #[.slice R n q, .int .i64 keep], .int .i64 p] w fun e w' => ∃ g, e = .returned (.tuple #[.agg #[.slice (some ⟨g, 0, none⟩) n n, .int .i64 keep], .int .i64 0]) ∧ w.heap.size ≤ g ∧ Own v w' g n l' ∧ Ext w w' := by
  obtain ⟨W, hW⟩ : ∃ W, (w.alloc (.cells #[.slice R n q, .int .i64 keep] 24)).alloc (.cells #[.slice none 0 0, .int .i64 0] 24) = W := ⟨_, rfl⟩
  obtain ⟨hx0, hb0, hb1⟩ := allocs2 hW
  have hsz : W.heap.size = w.heap.size + 1 + 1 := by rw [← hW]; simp
  have HX := Lib.hid hx0
  have HB1 := Lib.hid hb1
  have HSZ := Lib.hid hsz
  have HU := Lib.hid (hpUsedYesLoose_x v R l n q keep p l' W (hx.trans hx0) hb hu (hA.ext hx0) hD)
  obtain ⟨p0, p1, p2⟩ := hb0.read2
  have HXV := Lib.hid hx
  clear hx hx0 hb0 hb1 hA hu hD hsz
  subst hW
  go_enter Try.func37, Try.ntmps37
  go_wp2_with (go_at_call 47; refine stop_here ?_)
  refine stop_on ?_
  generalize hW : World.alloc (World.alloc w _) _ = W at *
  clear hW
  refine HU.out.mono ?_
  rintro e w4 ⟨g, rfl, hg, ho, hx⟩
  have hsz := HSZ.out
  have hvs := HXV.out.size
  have HX4 := Lib.hid (HX.out.trans hx)
  have hb4 := HB1.out.ext hx
  have HB4 := Lib.hid hb4
  have HO := Lib.hid ((ho.other (p := ⟨w.heap.size + 1, 0, none⟩) (by simp; omega) (by simp; omega) (.slice (some ⟨g, 0, none⟩) n n)).other (p := ⟨w.heap.size + 1, 1, none⟩) (by simp; omega) (by simp; omega) (.int .i64 keep))
  obtain ⟨t0, t1, t2⟩ := hb4.read2
  obtain ⟨y0, y1⟩ := hb4.free2
  have hgw : w.heap.size ≤ g := by omega
  clear hx hb4 p0 p1 p2 ho hg hsz
  go_wp2_with fail
  refine ret2_cell (k := w.heap.size + 1) (x := .slice (some ⟨g, 0, none⟩) n n) (y := .int .i64 keep) (v := .tuple #[.agg #[.slice (some ⟨g, 0, none⟩) n n, .int .i64 keep], .int .i64 0]) ?hb4 (fun r0 r1 => by simp [results, Try.results37, go_sem, r0, r1]) rfl ?hx4
  case hb4 => exact HB4.out.set2 _ _
  case hx4 => exact ⟨g, rfl, hgw, HO.out, HX4.out.store2 (by omega) _ _⟩

theorem heapLoose_x (v : World) (R : Option Addr) (l : List HC) (n q : Nat) (keep : Int) (w : World) (p : Int) (hx : Ext v w) (hM : rightH ⟨l, keep⟩ = true) (hA : HcV v w R n q l) :
    Calls Try.prog 37 #[.agg #[.slice R n q, .int .i64 keep], .int .i64 p] w fun e w' => ∃ S d, e = .returned (.tuple #[.agg #[.slice S n d, .int .i64 keep], .int .i64 (looseE ⟨l, keep⟩ p)]) ∧ HcV v w' S n d (looseL (l.length + 1) l p) ∧ (S = R ∨ ∃ g, S = some ⟨g, 0, none⟩ ∧ w.heap.size ≤ g ∧ Own v w' g d (looseL (l.length + 1) l p)) ∧ Ext w w' := by
  have hn := hA.1
  have hn2 := (rightH_iff hM).1.1.2
  have hul : usedN l ≤ l.length := List.countP_le_length
  cases hu : usedC l p
  · have e2 : looseE ⟨l, keep⟩ p = 4 := by unfold looseE usedH; simp only [hu]; rfl
    rw [e2, looseL_no _ hu]
    refine (hpLooseNo_any R l n q keep w p hu (hA.sl hx)).mono ?_
    rintro e w' ⟨rfl, hx2⟩
    exact ⟨R, q, rfl, hA.ext hx2, .inl rfl, hx2⟩
  · obtain ⟨k, hk, rfl, hp⟩ := usedC_iff hu
    have e2 : looseE ⟨l, keep⟩ (k : Int) = 0 := by unfold looseE usedH; simp only [hu]; rfl
    rw [e2]
    refine (hpLooseYes_x v R l n q keep w k (looseL (l.length + 1) l (k : Int)) (by omega) hu hx hA (fun g wr ho => hpLoose_at (usedN l) (l.length + 1) v wr g n l n k (Nat.le_refl _) (by omega) hn (by omega) (right_okL hM) hu ho)).mono ?_
    rintro e w' ⟨g, rfl, hg, ho, hx2⟩
    exact ⟨_, _, rfl, ho.hx (by rw [loose_len]; exact hn), .inr ⟨g, rfl, hg, ho⟩, hx2⟩
end Go.Proofs.Ytlbhcakjcklmgaa
namespace Go.Proofs.Ytlbhcakjcklmgaa
open Go.RowKit

/-- A number's float. -/
def fN (n : Nat) : Nat := floatOfInt .f64 (n : Int)
def feq (x y : Nat) : Bool := FloatKind.f64.format.order x y == some .eq
/-- A finite float's number, in units of 2 ^ -1074. -/
def fV (x : Nat) : Option Int :=
  match FloatKind.f64.format.read x with
  | .number s m e => some (Ieee.signed s m (e + 1074).toNat)
  | _ => none
theorem signed_add (s : Bool) (m u v : Nat) : Ieee.signed s m (u + v) = Ieee.signed s m u * ((2 ^ v : Nat) : Int) := by
  unfold Ieee.signed
  cases s <;> simp [Nat.shiftLeft_eq, Nat.pow_add, Int.mul_assoc, Int.neg_mul]
theorem cmp_eq_iff (a b : Int) : (compare a b = .eq) ↔ a = b := by
  rw [show compare a b = compareOfLessAndEq a b from rfl]
  unfold compareOfLessAndEq
  constructor
  · intro h
    split at h
    · cases h
    · split at h
      · assumption
      · cases h
  · rintro rfl
    simp
theorem read_place {x : Nat} {s : Bool} {m : Nat} {e : Int} (h : FloatKind.f64.format.read x = .number s m e) : -1074 ≤ e := by
  have hl : (FloatKind.f64.format).leastPlace = -1074 := by decide
  unfold Ieee.Format.read at h
  simp only at h
  split at h
  · cases h; omega
  · split at h
    · cases h; omega
    · split at h <;> cases h
theorem order_num {x y : Nat} {a b : Int} (hx : fV x = some a) (hy : fV y = some b) : feq x y = decide (a = b) := by
  unfold fV at hx hy
  unfold feq Ieee.Format.order
  split at hx
  · rename_i s m i h1
    split at hy
    · rename_i t n j h2
      have hi := read_place h1
      have hj := read_place h2
      rw [h1, h2]
      simp only [Ieee.Datum.order]
      have e1 : (i + 1074).toNat = (i - min i j).toNat + (min i j + 1074).toNat := by omega
      have e2 : (j + 1074).toNat = (j - min i j).toNat + (min i j + 1074).toNat := by omega
      rw [e1, signed_add] at hx
      rw [e2, signed_add] at hy
      cases hx
      cases hy
      have hp : ((2 ^ (min i j + 1074).toNat : Nat) : Int) ≠ 0 := by
        have : 0 < 2 ^ (min i j + 1074).toNat := Nat.pow_pos (by omega)
        omega
      rw [Bool.eq_iff_iff]
      simp only [beq_iff_eq, Option.some.injEq, decide_eq_true_eq]
      rw [cmp_eq_iff]
      exact ⟨fun h => by rw [h], fun h => Int.eq_of_mul_eq_mul_right hp h⟩
    · cases hy
  · cases hx
theorem order_none {x y : Nat} {b : Int} (hx : fV x = none) (hy : fV y = some b) : feq x y = false := by
  unfold fV at hx hy
  unfold feq Ieee.Format.order
  split at hy
  · rename_i t n j h2
    rw [h2]
    split at hx
    · cases hx
    · rename_i h9
      cases hd : FloatKind.f64.format.read x with
      | number s m e => exact absurd hd (h9 s m e)
      | infinity s => cases s <;> rfl
      | nan s f => rfl
  · cases hy
/-- What is reckoned for each number, one by one. -/
def chkN (n : Nat) : Bool := fV (fN n) == some ((n : Int) * 2 ^ 1074) && (floatToIntVal .f64 (fN n) .i64 == some (n : Int)) && (floatBits .add .f64 (fN n) (fN 1) == some (fN (n + 1))) && decide (fN n < 2 ^ 64)
def chkAll : Nat → Bool
  | 0 => true
  | n + 1 => chkN n && chkAll n
theorem chk_all : chkAll 2600 = true := by decide +kernel
theorem chk_of : ∀ (m n : Nat), n < m → chkAll m = true → chkN n = true
  | 0, n, h, _ => by omega
  | m + 1, n, h, hc => by
    unfold chkAll at hc
    rw [Bool.and_eq_true] at hc
    rcases Nat.lt_or_ge n m with h' | h'
    · exact chk_of m n h' hc.2
    · obtain rfl : n = m := by omega
      exact hc.1
theorem fN_all {n : Nat} (h : n < 2600) : fV (fN n) = some ((n : Int) * 2 ^ 1074) ∧ floatToIntVal .f64 (fN n) .i64 = some (n : Int) ∧ floatBits .add .f64 (fN n) (fN 1) = some (fN (n + 1)) ∧ fN n < 2 ^ 64 := by
  have h1 := chk_of 2600 n h chk_all
  unfold chkN at h1
  simp only [Bool.and_eq_true, beq_iff_eq, decide_eq_true_eq] at h1
  exact ⟨h1.1.1.1, h1.1.1.2, h1.1.2, h1.2⟩

/-- The number of a rung, in units of 2 ^ -1074. -/
def rv (r : Nat) : Nat := if r < 2 ^ 52 then r else (2 ^ 52 + r % 2 ^ 52) * 2 ^ (r / 2 ^ 52 - 1)
theorem rv_range {r : Nat} (h : 2 ^ 52 ≤ r) : 2 ^ (r / 2 ^ 52 + 51) ≤ rv r ∧ rv r < 2 ^ (r / 2 ^ 52 + 52) := by
  unfold rv
  rw [if_neg (by omega)]
  have hq : 1 ≤ r / 2 ^ 52 := by omega
  obtain ⟨q, hq'⟩ : ∃ q, r / 2 ^ 52 = q + 1 := ⟨r / 2 ^ 52 - 1, by omega⟩
  rw [hq']
  have ht : r % 2 ^ 52 < 2 ^ 52 := Nat.mod_lt _ (by omega)
  generalize r % 2 ^ 52 = t at *
  have hp : 0 < 2 ^ q := Nat.pow_pos (by omega)
  rw [show q + 1 + 51 = 52 + q by omega, show q + 1 + 52 = 53 + q by omega, Nat.pow_add 2 52 q, Nat.pow_add 2 53 q, show q + 1 - 1 = q by omega]
  exact ⟨Nat.mul_le_mul_right _ (by omega), Nat.mul_lt_mul_of_pos_right (by omega) hp⟩
theorem pow_lt_of {a b : Nat} (h : 2 ^ a < 2 ^ b) : a < b := (Nat.pow_lt_pow_iff_right (by omega)).1 h
theorem rv_inj {r t : Nat} (h : rv r = rv t) : r = t := by
  rcases Nat.lt_or_ge r (2 ^ 52) with hr | hr <;> rcases Nat.lt_or_ge t (2 ^ 52) with ht | ht
  · unfold rv at h
    rw [if_pos hr, if_pos ht] at h
    exact h
  · exfalso
    have h1 := rv_range ht
    have h2 : rv r = r := by unfold rv; rw [if_pos hr]
    have h3 : (2 : Nat) ^ 52 ≤ 2 ^ (t / 2 ^ 52 + 51) := Nat.pow_le_pow_right (by omega) (by omega)
    omega
  · exfalso
    have h1 := rv_range hr
    have h2 : rv t = t := by unfold rv; rw [if_pos ht]
    have h3 : (2 : Nat) ^ 52 ≤ 2 ^ (r / 2 ^ 52 + 51) := Nat.pow_le_pow_right (by omega) (by omega)
    omega
  · have h1 := rv_range hr
    have h2 := rv_range ht
    have h3 : r / 2 ^ 52 + 51 < t / 2 ^ 52 + 52 := pow_lt_of (Nat.lt_of_le_of_lt h1.1 (by rw [h]; exact h2.2))
    have h4 : t / 2 ^ 52 + 51 < r / 2 ^ 52 + 52 := pow_lt_of (Nat.lt_of_le_of_lt h2.1 (by rw [← h]; exact h1.2))
    have hq : r / 2 ^ 52 = t / 2 ^ 52 := by omega
    unfold rv at h
    rw [if_neg (by omega), if_neg (by omega), hq] at h
    have h5 := Nat.eq_of_mul_eq_mul_right (Nat.pow_pos (by omega)) h
    have e1 := Nat.div_add_mod r (2 ^ 52)
    have e2 := Nat.div_add_mod t (2 ^ 52)
    rw [hq] at e1
    omega
theorem fV_rung {x : Nat} {a : Int} (h : fV x = some a) : a = if x / 2 ^ 63 % 2 = 1 then -(rv (x % 2 ^ 63) : Int) else (rv (x % 2 ^ 63) : Int) := by
  have hl : (FloatKind.f64.format).leastPlace = -1074 := by decide
  have hb : (FloatKind.f64.format).binade = 2 ^ 52 := by decide
  have hw : (FloatKind.f64.format).signWeight = 2 ^ 63 := by decide
  unfold fV at h
  split at h
  · rename_i s m e h1
    cases h
    unfold Ieee.Format.read at h1
    simp only [hl, hb, hw] at h1
    unfold rv
    split at h1
    · rename_i hr
      cases h1
      rw [if_pos hr]
      unfold Ieee.signed
      simp
    · rename_i hr
      split at h1
      · cases h1
        rw [if_neg hr]
        unfold Ieee.signed
        have e9 : ((-1074 : Int) + ((x % 2 ^ 63 / 2 ^ 52 - 1 : Nat) : Int) + 1074).toNat = x % 2 ^ 63 / 2 ^ 52 - 1 := by omega
        rw [e9]
        simp only [Nat.shiftLeft_eq, beq_iff_eq]
      · split at h1 <;> cases h1
  · cases h
/-- A float that is a whole number. -/
def isWh (x n : Nat) : Prop := x = fN n ∨ (n = 0 ∧ x = 2 ^ 63)
theorem fN_zero : fN 0 = 0 := by decide +kernel
theorem isWh_of {x n : Nat} (hx : x < 2 ^ 64) (hn : n < 2600) (h : fV x = some ((n : Int) * 2 ^ 1074)) : isWh x n := by
  have hf := fN_all hn
  have h1 := fV_rung h
  have h2 := fV_rung hf.1
  have hfl := hf.2.2.2
  have hx2 : x / 2 ^ 63 % 2 = x / 2 ^ 63 := Nat.mod_eq_of_lt (by omega)
  have hf2 : fN n / 2 ^ 63 % 2 = fN n / 2 ^ 63 := Nat.mod_eq_of_lt (by omega)
  rw [hx2] at h1
  rw [hf2] at h2
  have hp : (0 : Int) < 2 ^ 1074 := by decide +kernel
  rcases Nat.eq_zero_or_pos n with h0 | h0
  · subst h0
    have h3 : rv (x % 2 ^ 63) = 0 := by
      simp only [Int.natCast_zero, Int.zero_mul] at h1
      split at h1 <;> omega
    have h4 : x % 2 ^ 63 = 0 := rv_inj (t := 0) (by rw [h3]; rfl)
    unfold isWh
    rw [fN_zero]
    omega
  · left
    have hpos : (0 : Int) < (n : Int) * 2 ^ 1074 := Int.mul_pos (by omega) hp
    generalize (n : Int) * 2 ^ 1074 = v at *
    split at h1 <;> split at h2
    · omega
    · omega
    · omega
    · have h5 : rv (x % 2 ^ 63) = rv (fN n % 2 ^ 63) := by omega
      have h6 := rv_inj h5
      omega
theorem isWh_V {x n : Nat} (hn : n < 2600) (h : isWh x n) : fV x = some ((n : Int) * 2 ^ 1074) := by
  rcases h with rfl | ⟨rfl, rfl⟩
  · exact (fN_all hn).1
  · decide +kernel
theorem isWh_lt {x n : Nat} (hn : n < 2600) (h : isWh x n) : x < 2 ^ 64 := by
  rcases h with rfl | ⟨rfl, rfl⟩
  · exact (fN_all hn).2.2.2
  · omega
theorem isWh_int {x n : Nat} (hn : n < 2600) (h : isWh x n) : floatToIntVal .f64 x .i64 = some (n : Int) := by
  rcases h with rfl | ⟨rfl, rfl⟩
  · exact (fN_all hn).2.1
  · decide +kernel
theorem isWh_on {x n : Nat} (hn : n < 2600) (h : isWh x n) : floatBits .add .f64 x (fN 1) = some (fN (n + 1)) := by
  rcases h with rfl | ⟨rfl, rfl⟩
  · exact (fN_all hn).2.2.1
  · decide +kernel
theorem isWh_fN (n : Nat) : isWh (fN n) n := .inl rfl
theorem scaled_inj {a b : Nat} (h : (a : Int) * 2 ^ 1074 = (b : Int) * 2 ^ 1074) : a = b := by
  have hp : (2 : Int) ^ 1074 ≠ 0 := by decide +kernel
  have := Int.eq_of_mul_eq_mul_right hp h
  omega
/-- Which float is the same as a whole number. -/
theorem feq_whole {x n : Nat} (hx : x < 2 ^ 64) (hn : n < 2600) : feq x (fN n) = true ↔ isWh x n := by
  have hf := (fN_all hn).1
  cases hv : fV x with
  | none =>
    rw [order_none hv hf]
    constructor
    · intro h; cases h
    · intro h; rw [isWh_V hn h] at hv; cases hv
  | some a =>
    rw [order_num hv hf, decide_eq_true_eq]
    constructor
    · rintro rfl; exact isWh_of hx hn hv
    · intro h; rw [isWh_V hn h] at hv; cases hv; rfl
theorem feq_two {x y a b : Nat} (ha : a < 2600) (hb : b < 2600) (hx : isWh x a) (hy : isWh y b) : feq x y = decide (a = b) := by
  rw [order_num (isWh_V ha hx) (isWh_V hb hy), Bool.eq_iff_iff, decide_eq_true_eq, decide_eq_true_eq]
  exact ⟨scaled_inj, fun h => by rw [h]⟩
theorem isWh_inj {x a b : Nat} (ha : a < 2600) (hb : b < 2600) (h : isWh x a) (k : isWh x b) : a = b := by
  have h1 := isWh_V ha h
  rw [isWh_V hb k] at h1
  exact (scaled_inj (Option.some.inj h1)).symm
end Go.Proofs.Ytlbhcakjcklmgaa
namespace Go.Proofs.Ytlbhcakjcklmgaa
open Go.RowKit

def isW (w : Int) : Bool := decide (1 ≤ w) && decide (w ≤ 4)

def lim : Nat → Int
  | 0 => 1
  | n+1 => lim n * 256
theorem lim_pow (n : Nat) : lim n = 256 ^ n := by
  induction n with
  | zero => rfl
  | succ n ih => rw [lim, ih, Int.pow_succ]
theorem lim_bd (n : Nat) (h : n ≤ 4) : 1 ≤ lim n ∧ lim n ≤ 4294967296 := by
  match n, h with
  | 0, _ => decide
  | 1, _ => decide
  | 2, _ => decide
  | 3, _ => decide
  | 4, _ => decide

def takeV (l : List UInt8) (at_ w : Int) (none_ : Int) : Value := match takeS l at_ w with
  | some n => .tuple #[.int .i64 (n : Int), .int .i64 (at_ + w), .int .i64 0]
  | none => .tuple #[.int .i64 0, .int .i64 0, .int .i64 none_]

end Go.Proofs.Ytlbhcakjcklmgaa
namespace Go.Proofs.Ytlbhcakjcklmgaa
open Go.RowKit

theorem take_drop_succ (l : List UInt8) (a k : Nat) (h : a + k < l.length) : (l.drop a).take (k + 1) = (l.drop a).take k ++ [l[a + k]] := by
  rw [List.take_succ_eq_append_getElem (by simp; omega), List.getElem_drop]
theorem leNat_take_succ (l : List UInt8) (a k : Nat) (h : a + k < l.length) : leNat ((l.drop a).take (k + 1)) = leNat ((l.drop a).take k) + 256 ^ k * (l[a + k]).toNat := by
  rw [take_drop_succ l a k h, leNat_snoc, List.length_take, List.length_drop, Nat.min_eq_left (by omega)]
theorem leNat_take_lt (l : List UInt8) (a k : Nat) : leNat ((l.drop a).take k) < 256 ^ k :=
  Nat.lt_of_lt_of_le (leNat_lt _) (Nat.pow_le_pow_right (by omega) (by simp; omega))

theorem i64_or (a b : Nat) (ha : a < 9223372036854775808) (hb : b < 9223372036854775808) : bits .or .i64 (a : Int) (b : Int) = ((a ||| b : Nat) : Int) := by
  have hx : a ||| b < 2 ^ 63 := Nat.or_lt_two_pow (by omega) (by omega)
  have e : ∀ n : Nat, n < 9223372036854775808 → (BitVec.ofInt 64 (n : Int)).toNat = n := fun n hn => by
    rw [BitVec.ofInt_natCast, BitVec.toNat_ofNat]; exact Nat.mod_eq_of_lt (by omega)
  show IntKind.i64.wrap ((BitVec.ofInt 64 (a : Int) ||| BitVec.ofInt 64 (b : Int)).toNat : Int) = _
  rw [BitVec.toNat_or, e a ha, e b hb, IntKind.wrap_i64]
  omega
theorem or_byte (x k u : Nat) (hk : k < 4) (hx : x < 256 ^ k) (hu : u < 256) : bits BinOp.or .i64 (x : Int) (wrap64 ((u : Int) * 2 ^ (8 * k))) = ((x + 256 ^ k * u : Nat) : Int) := by
  have hp : (256 : Nat) ^ k = 2 ^ (8 * k) := by rw [show (256 : Nat) = 2 ^ 8 from rfl, ← Nat.pow_mul]
  have hle : (256 : Nat) ^ k ≤ 256 ^ 3 := Nat.pow_le_pow_right (by omega) (by omega)
  have hmul : 256 ^ k * u ≤ 256 ^ 3 * 255 := Nat.mul_le_mul hle (by omega)
  have e : ((u : Int) * 2 ^ (8 * k)) = ((256 ^ k * u : Nat) : Int) := by
    rw [hp, Int.natCast_mul, Int.natCast_pow, Int.mul_comm]; rfl
  have e2 : wrap64 ((256 ^ k * u : Nat) : Int) = ((256 ^ k * u : Nat) : Int) := by unfold wrap64; omega
  rw [e, e2, i64_or _ _ (by omega) (by omega)]
  congr 1
  rw [Nat.or_comm, nat_join (8 * k) _ _ (by rw [← hp]; exact Nat.mul_mod_right _ _) (by rw [← hp]; exact hx)]
  omega

theorem takeV_some {l : List UInt8} {a m : Nat} {z : Int} (h1 : 1 ≤ m) (h2 : m ≤ 4) (h3 : a + m ≤ l.length) :
    takeV l a m z = .tuple #[.int .i64 (leNat ((l.drop a).take m) : Nat), .int .i64 ((a : Int) + m), .int .i64 0] := by
  unfold takeV takeS; rw [if_pos (by omega)]; rfl
theorem takeV_none {l : List UInt8} {a m z : Int} (h : ¬ (1 ≤ m ∧ m ≤ 4 ∧ 0 ≤ a ∧ a + m ≤ l.length)) :
    takeV l a m z = .tuple #[.int .i64 0, .int .i64 0, .int .i64 z] := by
  unfold takeV takeS; rw [if_neg h]

theorem leNat_from (l : List UInt8) (a m i : Nat) (h : a + m ≤ l.length) (hi : i < m) :
    leNat ((l.drop (a + i)).take (m - i)) = leNat ((l.drop (a + (i + 1))).take (m - (i + 1))) * 256 + l[a + i].toNat := by
  rw [List.drop_eq_getElem_cons (by omega : a + i < l.length), show m - i = (m - (i + 1)) + 1 by omega, List.take_succ_cons, leNat]
  rw [show a + (i + 1) = a + i + 1 by omega]; omega

/-- Are two lists of bytes one? -/
def rowB (a b : List UInt8) : Bool := a == b
theorem take_succ_eq (a b : List UInt8) (k : Nat) (ha : k < a.length) (hb : k < b.length) (h : a.take k = b.take k) (he : a[k] = b[k]) : a.take (k + 1) = b.take (k + 1) := by
  rw [List.take_succ_eq_append_getElem ha, List.take_succ_eq_append_getElem hb, h, he]

end Go.Proofs.Ytlbhcakjcklmgaa
namespace Go.Proofs.Ytlbhcakjcklmgaa
open Go.RowKit

theorem rowB_false (a b : List UInt8) (h : a ≠ b) : rowB a b = false := by unfold rowB; simpa using h
theorem rowB_true (a b : List UInt8) (h : a = b) : rowB a b = true := by unfold rowB; simpa using h
theorem Cells.drewN {w : World} {A : Option Addr} {xs : List Value} (h : Cells w A xs) (n : Nat) : Cells (w.drewN n) A xs := h

end Go.Proofs.Ytlbhcakjcklmgaa
namespace Go.Proofs.Ytlbhcakjcklmgaa
open Go.RowKit

theorem info5 : (Try.prog.info? 5).map (fun i => (i.zero, i.size, i.bytes)) = some (some (.int .u8 0), 1, 1) := by kernel_rfl

/-- A slice value that tells the bytes l. -/
def Got (w : World) (v : Value) (l : List UInt8) : Prop := ∃ A cap, v = .slice A l.length cap ∧ l.length ≤ cap ∧ cap ≤ maxLen ∧ (A = none → cap = 0) ∧ Cells w A (l.map bv)

theorem got_nil (w : World) : Got w (.slice none 0 0) [] := ⟨none, 0, rfl, Nat.le_refl _, by unfold maxLen; omega, fun _ => rfl, fun h => absurd rfl h⟩
theorem got_own {w : World} {B n : Nat} {v : Value} {l : List UInt8} (h : w.ownsRow B 5 1 v n (l.map bv)) : Got w v l := by
  have hn : l.length = n := by have := h.1; simpa using this
  subst hn
  rcases h.2 with ⟨rfl, hl⟩ | ⟨g, cap, cur, rfl, _, hg, hc, hm, _, _⟩
  · rw [List.eq_nil_of_length_eq_zero hl]; exact got_nil w
  · refine ⟨_, cap, rfl, hc, hm, (fun h => by cases h), fun _ => ⟨g, 0, rfl, (Array.getElem?_eq_some_iff.1 hg).1, fun j u hu => ?_⟩⟩
    have := h.cellAt j (by have := (List.getElem?_eq_some_iff.1 hu).1; simpa using this)
    rw [Nat.zero_add, this, hu]
theorem Got.below {w w' : World} {v : Value} {l : List UInt8} (h : Got w v l) (hb : Below w.heap.size w w') : Got w' v l := by
  obtain ⟨A, cap, rfl, h1, h2, h4, h3⟩ := h
  exact ⟨A, cap, rfl, h1, h2, h4, h3.below hb⟩
theorem below_grown {w w' w'' : World} {row : Option Nat} (h : Below w.heap.size w w') (hg : w'.grownBy w'' row) (hr : ∀ k, row = some k → w.heap.size ≤ k) : Below w.heap.size w w'' := h.grown hg h.size hr

theorem putS_some {n m : Nat} (h1 : 1 ≤ m) (h2 : m ≤ 4) (h3 : n < 256 ^ m) : putS n m = putL n m := by
  unfold putS
  have : (n : Int) < 256 ^ (m : Int).toNat := by
    rw [Int.toNat_natCast]
    have e : ((256 ^ m : Nat) : Int) = (256 : Int) ^ m := by simp
    rw [← e]; omega
  rw [if_pos ⟨by omega, by omega, by omega, this⟩]; rfl
theorem putS_none {n w : Int} (h : ¬ (1 ≤ w ∧ w ≤ 4 ∧ 0 ≤ n ∧ n < 256 ^ w.toNat)) : putS n w = [] := by
  unfold putS; rw [if_neg h]
theorem pow8 (k : Nat) : (2 : Nat) ^ (8 * k) = 256 ^ k := by rw [show (256 : Nat) = 2 ^ 8 from rfl, ← Nat.pow_mul]
theorem shr_byte (n k : Nat) : (n : Int) / 2 ^ (8 * k) = ((n / 256 ^ k : Nat) : Int) := by
  rw [← pow8]; simp
theorem shr_zero (n m : Nat) (h : n < 256 ^ m) : ((n : Int) / 2 ^ (8 * m) != 0) = false := by
  rw [shr_byte, Nat.div_eq_of_lt h]; rfl
theorem shr_pos (n m : Nat) (h : ¬ n < 256 ^ m) : ((n : Int) / 2 ^ (8 * m) != 0) = true := by
  rw [shr_byte]
  have : 0 < n / 256 ^ m := Nat.div_pos (by omega) (Nat.pow_pos (by omega))
  generalize n / 256 ^ m = z at *
  simp; omega
theorem bv_ofNat (n : Nat) : Value.int .u8 ((n : Int) % 256) = bv (UInt8.ofNat n) := by
  unfold bv; simp
/-- What the new row holds behind k rounds. -/
def putCells (n m k : Nat) : List Value := (putL n k).map bv ++ List.replicate (m - k) (.int .u8 0)
theorem putCells_set (n m k : Nat) (h : k < m) : (putCells n m k).set k (bv (UInt8.ofNat (n / 256 ^ k))) = putCells n m (k + 1) := by
  unfold putCells
  rw [List.set_append_right _ _ (by simp [putL_length])]
  simp only [List.length_map, putL_length, Nat.sub_self]
  rw [show m - k = (m - (k + 1)) + 1 by omega, List.replicate_succ, List.set_cons_zero, putL_snoc]
  simp

theorem own_nil (w : World) : w.ownsRow w.heap.size 5 1 (.slice none 0 0) ([] : List UInt8).length (([] : List UInt8).map bv) := ⟨rfl, .inl ⟨rfl, rfl⟩⟩
end Go.Proofs.Ytlbhcakjcklmgaa
namespace Go.Proofs.Ytlbhcakjcklmgaa
open Go.RowKit

/-- A task: the bits of its parts. -/
abbrev Tk := Nat × Nat
def cxv (t : Tk) : Value := .complex .f64 t.1 t.2
theorem cxv_one (l : List Tk) : ∀ u ∈ l.map cxv, u.oneCell' = true := by
  intro u hu
  obtain ⟨_, _, rfl⟩ := List.mem_map.1 hu
  rfl
theorem Cells.tk {w : World} {A : Option Addr} {l : List Tk} (h : Cells w A (l.map cxv)) {k : Nat} (hk : k < l.length) :
    ∃ b off, A = some ⟨b, off, none⟩ ∧ b < w.heap.size ∧ ∀ j (hj : j < l.length), w.cell? ⟨b, off + j, none⟩ = some (.complex .f64 l[j].1 l[j].2) := by
  obtain ⟨b, off, rfl, hlt, hc⟩ := h (by intro e; rw [List.map_eq_nil_iff] at e; subst e; simp at hk)
  exact ⟨b, off, rfl, hlt, fun j hj => hc j _ (by simp [hj, cxv])⟩
/-- Is a float one of the whole numbers from 0 to most? -/
def wholeB (x : Nat) (most : Int) : Bool := (List.range (most + 1).toNat).any (fun i => feq x (fN i))
theorem wholeB_iff {x : Nat} {most : Int} (hx : x < 2 ^ 64) (hm : most < 2600) : wholeB x most = true ↔ ∃ i : Nat, (i : Int) ≤ most ∧ isWh x i := by
  unfold wholeB
  rw [List.any_eq_true]
  constructor
  · rintro ⟨i, hi, he⟩
    have h1 : i < (most + 1).toNat := List.mem_range.1 hi
    exact ⟨i, by omega, (feq_whole hx (by omega)).1 he⟩
  · rintro ⟨i, hi, he⟩
    exact ⟨i, List.mem_range.2 (by omega), (feq_whole hx (by omega)).2 he⟩
/-- P6.1: which are right. -/
def okT (n : Int) (t : Tk) : Bool := wholeB t.1 (n - 1) && wholeB t.2 5
def rightT (l : List Tk) (n : Int) : Bool := l.all (okT n) && decide (l.length ≤ 500)
/-- The task of a place, of which so many steps are done. -/
def ofT (p k : Nat) : Tk := (fN p, fN k)
/-- The whole number that a float is. -/
def plN (x : Nat) : Nat := ((List.range 2600).find? (fun i => feq x (fN i))).getD 0
theorem plN_is {x i : Nat} (hi : i < 2600) (h : isWh x i) : plN x = i := by
  have hx := isWh_lt hi h
  unfold plN
  cases hf : (List.range 2600).find? (fun i => feq x (fN i)) with
  | none =>
    have := List.find?_eq_none.1 hf i (List.mem_range.2 hi)
    exact absurd ((feq_whole hx hi).2 h) this
  | some j =>
    have h1 := List.find?_some hf
    have h2 := List.mem_range.1 (List.mem_of_find?_eq_some hf)
    exact isWh_inj h2 hi ((feq_whole hx h2).1 h1) h
/-- What a right task is: a whole place, and whole steps. -/
theorem okT_iff {n : Int} {t : Tk} (h1 : t.1 < 2 ^ 64) (h2 : t.2 < 2 ^ 64) (hn : n ≤ 2000) : okT n t = true ↔ ∃ p k : Nat, (p : Int) < n ∧ k ≤ 5 ∧ isWh t.1 p ∧ isWh t.2 k := by
  unfold okT
  rw [Bool.and_eq_true, wholeB_iff h1 (by omega), wholeB_iff h2 (by omega)]
  constructor
  · rintro ⟨⟨p, hp, h3⟩, k, hk, h4⟩
    exact ⟨p, k, by omega, by omega, h3, h4⟩
  · rintro ⟨p, k, hp, hk, h3, h4⟩
    exact ⟨⟨p, by omega, h3⟩, k, by omega, h4⟩
end Go.Proofs.Ytlbhcakjcklmgaa
