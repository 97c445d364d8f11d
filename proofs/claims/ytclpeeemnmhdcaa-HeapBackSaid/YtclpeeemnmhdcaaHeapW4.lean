/- Walks of set, more and Hold of the reference. -/
import Derived.Test.YtclpeeemnmhdcaaHeapW3
namespace Go.Proofs.Ytclpeeemnmhdcaa
open Go.RowKit
attribute [local go_sem ↓] Go.wp_at_zero Go.wp_at_succ

theorem infoHc : (Try.prog.info? 54).map (fun i => (i.zero, i.size, i.bytes)) = some (some (.agg #[.int .i64 0, .bool false, .bool false, .slice none 0 0]), 4, 48) := by kernel_rfl
/-- append of cells onto a row of the call's own. -/
theorem app_hcs (w : World) {ops : Array Oper} {rest : List Oper} {o : Oper} {a : Act} {Q : Exit → Act → World → Prop} (hgd : o.guard = none) (s x : Operand)
    (ho : o.op = .call { callee := .builtin .append, args := #[s, x], argTypes := #[22, 22] })
    (B : Nat) (v : Value) (n : Nat) (xs : List Value) (hs : a.eval s = v) (hown : w.ownsRow B 54 4 v n xs)
    (A : Option Addr) (m c : Nat) (ys : List Value) (hx : a.eval x = .slice A m c) (hl : ys.length = m * 4) (hS : Sl w A m c ys) (h1 : ∀ u ∈ ys, u.oneCell' = true)
    (hsz : n + m ≤ 100000) (hB : B ≤ w.heap.size)
    (h : ∀ A' c' w', w'.ownsRow B 54 4 (.slice A' (n + m) c') (n + m) (xs ++ ys) → w.grownBy w' v.ownBlock → wpList Try.prog ops Q rest (a.put o.dst (.slice A' (n + m) c')) w') : wpList Try.prog ops Q (o :: rest) a w :=
  wpList_app_sl w hgd s x 22 ho B 54 (.agg #[.int .i64 0, .bool false, .bool false, .slice none 0 0]) 4 48 Try.underlying22 infoHc rfl (by omega) v n xs hs hown A m c ys hx hl hS h1 (by unfold maxLen; omega) (by omega) hB h

theorem own_hc_read {w : World} {B e g n cap : Nat} {cs : List Value} {l : List HC} (h : w.ownsRow B e 4 (.slice (some ⟨g, 0, none⟩) n cap) n cs) (hn : n = l.length) {w0 : World} (ha : HcAt w0 cs l) {k : Nat} (hk : k < n) :
    ∃ a b c d, w.cell? ⟨g, k * 4, none⟩ = some a ∧ w.cell? ⟨g, k * 4 + 1, none⟩ = some b ∧ w.cell? ⟨g, k * 4 + 2, none⟩ = some c ∧ w.cell? ⟨g, k * 4 + 3, none⟩ = some d := by
  obtain ⟨A, c, e1, e2, e3, e4, _⟩ := ha.2 k (by omega)
  have hl := h.1
  exact ⟨_, _, _, _, (h.cellAt (k * 4) (by omega)).trans e1, (h.cellAt (k * 4 + 1) (by omega)).trans e2, (h.cellAt (k * 4 + 2) (by omega)).trans e3, (h.cellAt (k * 4 + 3) (by omega)).trans e4⟩
set_option maxRecDepth 100000 in
set_option maxHeartbeats 1600000 in
theorem ref05set_any (R : Option Addr) (l : List HC) (n q k : Nat) (keep : Int) (x : HC) (A : Option Addr) (m c : Nat) (w : World) (hk : k < n) (hb : n ≤ 90000) (hA : HcSl w R n q l) (hm : m = x.it.length) (hI : Sl w A m c (ivs x.it)) :
    Calls Try.prog 50 #[.agg #[.slice R n q, .int .i64 keep], .int .i64 k, .agg #[.int .i64 x.ref, .bool x.pin, .bool x.leaf, .slice A m c]] w fun e w' => ∃ S d, e = .returned (.agg #[.slice S n d, .int .i64 keep]) ∧ HcSl w' S n d (l.set k x) ∧ Ext w w' := by
  obtain ⟨hn, cs, hsl, hat⟩ := hA
  have HX3 := Lib.hid ((((Ext.refl w).alloc (.cells #[.slice R n q, .int .i64 keep] 24)).alloc (.cells #[.int .i64 x.ref, .bool x.pin, .bool x.leaf, .slice A m c] 54)).alloc (.cells #[.slice none 0 0, .int .i64 0] 24))
  obtain ⟨W, hW⟩ : ∃ W, W = ((w.alloc (.cells #[.slice R n q, .int .i64 keep] 24)).alloc (.cells #[.int .i64 x.ref, .bool x.pin, .bool x.leaf, .slice A m c] 54)).alloc (.cells #[.slice none 0 0, .int .i64 0] 24) := ⟨_, rfl⟩
  obtain ⟨_, hb0, hb1, hb2⟩ := allocs3 hW.symm
  have hsz : W.heap.size = w.heap.size + 1 + 1 + 1 := by rw [hW]; simp
  rw [← hW] at HX3
  have HB0 := Lib.hid hb0
  have HB1 := Lib.hid hb1
  have HB2 := Lib.hid hb2
  have HSZ := Lib.hid hsz
  have HN := Lib.hid hn
  have HAT := Lib.hid hat
  have HSL := Lib.hid hsl
  have HSET := Lib.hid (hat.set (p := k) (by omega) x (A := A) (c := c) (by rw [← hm]; exact hI))
  rw [← hm] at HSET
  have h1 := hc_one hat
  have H1 := Lib.hid h1
  have hcl := hat.1
  have HCL := Lib.hid hcl
  obtain ⟨rf, pn, lf, it⟩ := x
  simp only at HB1 HSET ⊢
  clear hb0 hb1 hb2 hsz hn hat hsl h1 hcl hm hI
  obtain ⟨p0, p1, p2⟩ := HB0.out.read2
  subst hW
  go_enter Try.func50, Try.ntmps50
  go_wp2_with (at_builtin; refine stop_here ?_)
  refine stop_on ?_
  generalize hW : World.alloc (World.alloc (World.alloc w _) _) _ = W at *
  clear hW
  have hoe := own_empty W 54 4
  rw [HSZ.out] at hoe
  refine app_hcs _ rfl _ _ rfl (w.heap.size + 1 + 1 + 1) _ 0 [] rfl hoe R n q cs rfl (by rw [HCL.out, ← HN.out]) (HSL.out.ext (HX3.out.alloc _)) H1.out (by omega) (by have := HSZ.out; simp; omega) ?_
  clear hoe
  intro A1 c1 w1 hown hg
  rw [List.nil_append, Nat.zero_add] at hown
  rw [Nat.zero_add]
  have HX1 := Lib.hid (show Ext W w1 from Below.grown ((Ext.refl W).alloc _) hg (by simp) (by intro q hq; cases hq; exact Nat.le_of_eq HSZ.out))
  obtain ⟨g, rfl, hgB⟩ := own_some hown (by omega)
  have HO1 := Lib.hid hown
  clear hown hg p0 p1 p2
  obtain ⟨p0, p1, p2⟩ := (HB0.out.ext HX1.out).read2
  obtain ⟨q0, q1, q2, q3⟩ := (HB1.out.ext HX1.out).read4
  have q4 := (HB1.out.ext HX1.out).lt
  obtain ⟨v0, v1, v2, v3, z0, z1, z2, z3⟩ := own_hc_read HO1.out HN.out HAT.out hk
  have f0 := own_free HO1.out (k * 4)
  have f1 := own_free HO1.out (k * 4 + 1)
  have f2 := own_free HO1.out (k * 4 + 2)
  have f3 := own_free HO1.out (k * 4 + 3)
  have hki : (k : Int) < (n : Int) := by omega
  have hne : ¬ g = w.heap.size := by omega
  have hne1 : ¬ g = w.heap.size + 1 := by omega
  have hne2 : ¬ w.heap.size = g := by omega
  have hne3 : ¬ w.heap.size + 1 = g := by omega
  have hne4 : ¬ w.heap.size + 1 + 1 = g := by omega
  have hne5 : ¬ g = w.heap.size + 1 + 1 := by omega
  obtain ⟨t0, t1, t2⟩ := (HB2.out.ext HX1.out).read2
  obtain ⟨y0, y1⟩ := (HB2.out.ext HX1.out).free2
  go_wp2_with fail
  have HXA := Lib.hid (HX3.out.trans HX1.out)
  have hgw : w.heap.size ≤ g := by omega
  have HO5 := Lib.hid (own_hc HO1.out hk (.int .i64 rf) (.bool pn) (.bool lf) (.slice A m c))
  have HX5 := Lib.hid ((((HXA.out.set (p := ⟨g, k * 4, none⟩) hgw (.int .i64 rf)).set (p := ⟨g, k * 4 + 1, none⟩) hgw (.bool pn)).set (p := ⟨g, k * 4 + 2, none⟩) hgw (.bool lf)).set (p := ⟨g, k * 4 + 3, none⟩) hgw (.slice A m c))
  have HB5 := Lib.hid (((((HB2.out.ext HX1.out).set_other (p := ⟨g, k * 4, none⟩) hne5 (.int .i64 rf)).set_other (p := ⟨g, k * 4 + 1, none⟩) hne5 (.bool pn)).set_other (p := ⟨g, k * 4 + 2, none⟩) hne5 (.bool lf)).set_other (p := ⟨g, k * 4 + 3, none⟩) hne5 (.slice A m c))
  clear p0 p1 p2 q0 q1 q2 q3 q4 z0 z1 z2 z3 f0 f1 f2 f3 t0 t1 t2 y0 y1
  generalize World.setCell (World.setCell (World.setCell (World.setCell w1 _ _) _ _) _ _) _ _ = w5 at *
  refine ret2_cell (k := w.heap.size + 1 + 1) (x := .slice (some ⟨g, 0, none⟩) n c1) (y := .int .i64 keep) (v := .agg #[.slice (some ⟨g, 0, none⟩) n c1, .int .i64 keep]) ?hb3 (fun r0 r1 => by simp [results, Try.results50, go_sem, r0, r1]) rfl ?hx3
  case hb3 => exact HB5.out.set2 _ _
  case hx3 =>
    have hx6 := (HX5.out.set (p := ⟨w.heap.size + 1 + 1, 0, none⟩) (by simp; omega) (.slice (some ⟨g, 0, none⟩) n c1)).set (p := ⟨w.heap.size + 1 + 1, 1, none⟩) (by simp; omega) (.int .i64 keep)
    refine ⟨_, _, rfl, ⟨by rw [List.length_set]; exact HN.out, _, own_sl (ownsRow_setCell_other (ownsRow_setCell_other HO5.out (a := ⟨w.heap.size + 1 + 1, 0, none⟩) ?_ _) (a := ⟨w.heap.size + 1 + 1, 1, none⟩) ?_ _), HSET.out.ext hx6⟩, hx6⟩
    · simp [Value.ownBlock, hne5]
    · simp [Value.ownBlock, hne5]

set_option maxRecDepth 100000 in
set_option maxHeartbeats 1600000 in
theorem ref05more_any (R : Option Addr) (l : List HC) (n q k : Nat) (keep : Int) (w : World) (hk : k < l.length) (hb : n ≤ 90000) (hr : -9000000000000000000 ≤ l[k].ref ∧ l[k].ref ≤ 9000000000000000000) (hA : HcSl w R n q l) :
    Calls Try.prog 49 #[.agg #[.slice R n q, .int .i64 keep], .int .i64 k] w fun e w' => ∃ S d, e = .returned (.agg #[.slice S n d, .int .i64 keep]) ∧ HcSl w' S n d (l.set k l[k].more) ∧ Ext w w' := by
  have hn := hA.1
  obtain ⟨b, off, rfl, hbl, A, c, r0, r1, r2, r3, hI⟩ := hA.cell hk
  have HS := Lib.hid (show ∀ w', Ext w w' → Calls Try.prog 50 #[.agg #[.slice (some ⟨b, off, none⟩) n q, .int .i64 keep], .int .i64 k, .agg #[.int .i64 (l[k].ref + 1), .bool l[k].pin, .bool l[k].leaf, .slice A l[k].it.length c]] w' fun e w2 => ∃ S d, e = .returned (.agg #[.slice S n d, .int .i64 keep]) ∧ HcSl w2 S n d (l.set k l[k].more) ∧ Ext w' w2 from fun w' hx => ref05set_any (some ⟨b, off, none⟩) l n q k keep l[k].more A l[k].it.length c w' (by omega) hb (hA.ext hx) rfl (hI.ext hx))
  have HX := Lib.hid (((Ext.refl w).alloc (.cells #[.slice (some ⟨b, off, none⟩) n q, .int .i64 keep] 24)).alloc (.cells #[.slice none 0 0, .int .i64 0] 24))
  obtain ⟨W, hW⟩ : ∃ W, W = (w.alloc (.cells #[.slice (some ⟨b, off, none⟩) n q, .int .i64 keep] 24)).alloc (.cells #[.slice none 0 0, .int .i64 0] 24) := ⟨_, rfl⟩
  obtain ⟨_, hb0, hb1⟩ := allocs2 hW.symm
  have hsz : W.heap.size = w.heap.size + 1 + 1 := by rw [hW]; simp
  rw [← hW] at HX
  have HB0 := Lib.hid hb0
  have HB1 := Lib.hid hb1
  have HSZ := Lib.hid hsz
  have hki : (k : Int) < (n : Int) := by omega
  generalize l.set k l[k].more = l' at *
  clear hA hI hb0 hb1 hsz hn
  subst hW
  generalize l[k].it.length = m at *
  generalize l[k].ref = rf at *
  generalize l[k].pin = pn at *
  generalize l[k].leaf = lf at *
  obtain ⟨p0, p1, p2⟩ := HB0.out.read2
  go_enter Try.func49, Try.ntmps49
  go_wp2_with (go_at_call 50; refine stop_here ?_)
  refine stop_on ?_
  generalize hW : World.alloc (World.alloc w _) _ = W at *
  clear hW
  refine (HS.out _ (HX.out.alloc _)).mono ?_
  rintro e w1 ⟨S, d, rfl, hs, hx⟩
  have HX1 := Lib.hid ((HX.out.alloc (.cells #[.int .i64 rf, .bool pn, .bool lf, .slice A m c] 54)).trans hx)
  have HB2 := Lib.hid (HB1.out.ext (((Ext.refl W).alloc (.cells #[.int .i64 rf, .bool pn, .bool lf, .slice A m c] 54)).trans hx))
  have HSL := Lib.hid hs
  clear hs hx p0 p1 p2 r0 r1 r2 r3
  obtain ⟨t0, t1, t2⟩ := HB2.out.read2
  obtain ⟨y0, y1⟩ := HB2.out.free2
  go_wp2_with fail
  refine ret2_cell (k := w.heap.size + 1) (x := .slice S n d) (y := .int .i64 keep) (v := .agg #[.slice S n d, .int .i64 keep]) ?hb4 (fun r0 r1 => by simp [results, Try.results49, go_sem, r0, r1]) rfl ?hx4
  case hb4 => exact HB2.out.set2 _ _
  case hx4 => exact ⟨S, d, rfl, HSL.out.boxed2 HB2.out _ _, HX1.out.store2 (by omega) _ _⟩

theorem holdH_at {l : List HC} {keep : Int} {k : Nat} (hk : k < l.length) (h : usedC l (k : Int) = true) : holdH ⟨l, keep⟩ (k : Int) = ⟨l.set k l[k].more, keep⟩ ∧ holdE ⟨l, keep⟩ (k : Int) = 0 := by
  unfold holdH holdE moreH setH usedH
  simp only [h, if_true, Int.toNat_natCast, List.getD_eq_getElem?_getD, List.getElem?_eq_getElem hk, Option.getD_some]
  first | exact ⟨rfl, rfl⟩ | exact ⟨rfl, trivial⟩ | trivial
theorem holdH_no {l : List HC} {keep p : Int} (h : usedC l p = false) : holdH ⟨l, keep⟩ p = ⟨l, keep⟩ ∧ holdE ⟨l, keep⟩ p = 4 := by
  unfold holdH holdE usedH
  simp only [h]
  first | exact ⟨rfl, rfl⟩ | trivial
theorem hold_len (h : Hp) (p : Int) : (holdH h p).c.length = h.c.length ∧ (holdH h p).keep = h.keep := by
  unfold holdH moreH setH; split <;> simp
set_option maxRecDepth 100000 in
set_option maxHeartbeats 1600000 in
theorem ref05Hold_any (R : Option Addr) (l : List HC) (n q : Nat) (keep p : Int) (w : World) (hb : n ≤ 90000) (hr : ∀ k (hk : k < l.length), l[k].ref ≤ 9000000000000000000) (hA : HcSl w R n q l) :
    Calls Try.prog 25 #[.agg #[.slice R n q, .int .i64 keep], .int .i64 p] w fun e w' => ∃ S d, e = .returned (.tuple #[.agg #[.slice S n d, .int .i64 keep], .int .i64 (holdE ⟨l, keep⟩ p)]) ∧ HcSl w' S n d (holdH ⟨l, keep⟩ p).c ∧ Ext w w' := by
  obtain ⟨W, hW⟩ : ∃ W, W = (w.alloc (.cells #[.slice R n q, .int .i64 keep] 24)).alloc (.cells #[.slice none 0 0, .int .i64 0] 24) := ⟨_, rfl⟩
  obtain ⟨hx, hb0, hb1⟩ := allocs2 hW.symm
  have HX := Lib.hid hx
  have HB0 := Lib.hid hb0
  have HB1 := Lib.hid hb1
  have HU := Lib.hid (ref05Used_any R l n q keep p W (hA.ext hx))
  have HA := Lib.hid (hA.ext hx)
  obtain ⟨p0, p1, p2⟩ := hb0.read2
  obtain ⟨u, hu⟩ : ∃ u, usedC l p = u := ⟨_, rfl⟩
  rw [hu] at HU
  cases u
  · obtain ⟨e1, e2⟩ := holdH_no (keep := keep) hu
    rw [e1, e2]
    clear hx hb0 hb1 hA hu e1 e2 hr
    subst hW
    go_enter Try.func25, Try.ntmps25
    go_wp2_with (go_at_call 30; refine stop_here ?_)
    refine stop_on ?_
    refine HU.out.mono ?_
    rintro e w1 ⟨rfl, hx⟩
    have HX1 := Lib.hid (HX.out.trans hx)
    have HA1 := Lib.hid (HA.out.ext hx)
    have HB2 := Lib.hid (HB1.out.ext hx)
    clear p0 p1 p2
    obtain ⟨p0, p1, p2⟩ := (HB0.out.ext hx).read2
    obtain ⟨t0, t1, t2⟩ := HB2.out.read2
    obtain ⟨y0, y1⟩ := HB2.out.free2
    clear hx
    go_wp2_with fail
    refine ret2_cell (k := w.heap.size + 1) (x := .slice R n q) (y := .int .i64 keep) (v := .tuple #[.agg #[.slice R n q, .int .i64 keep], .int .i64 4]) ?hb4 (fun r0 r1 => by simp [results, Try.results25, go_sem, r0, r1]) rfl ?hx4
    case hb4 => exact HB2.out.set2 _ _
    case hx4 => exact ⟨R, q, rfl, HA1.out.boxed2 HB2.out _ _, HX1.out.store2 (by omega) _ _⟩
  · obtain ⟨k, hk, rfl, hpos⟩ := usedC_iff hu
    obtain ⟨e1, e2⟩ := holdH_at (keep := keep) hk hu
    rw [e1, e2]
    have HM := Lib.hid (fun w' (hx : Ext W w') => ref05more_any R l n q k keep w' hk hb ⟨by omega, hr k hk⟩ (HA.out.ext hx))
    simp only
    generalize l.set k l[k].more = l' at *
    clear hx hb0 hb1 hA hu e1 e2 hr hpos hk HA
    subst hW
    go_enter Try.func25, Try.ntmps25
    go_wp2_with (go_at_call 30; refine stop_here ?_)
    refine stop_on ?_
    refine HU.out.mono ?_
    rintro e w1 ⟨rfl, hx⟩
    have HX1 := Lib.hid (HX.out.trans hx)
    have HXW := Lib.hid hx
    clear p0 p1 p2
    obtain ⟨p0, p1, p2⟩ := (HB0.out.ext hx).read2
    clear hx
    go_wp2_with (go_at_call 49; refine stop_here ?_)
    refine stop_on ?_
    refine (HM.out _ HXW.out).mono ?_
    rintro e w2 ⟨S, d, rfl, hs, hx⟩
    have HX2 := Lib.hid (HX1.out.trans hx)
    have HB2 := Lib.hid (HB1.out.ext (HXW.out.trans hx))
    have HSL := Lib.hid hs
    obtain ⟨t0, t1, t2⟩ := HB2.out.read2
    obtain ⟨y0, y1⟩ := HB2.out.free2
    clear hx hs p0 p1 p2
    go_wp2_with fail
    refine ret2_cell (k := w.heap.size + 1) (x := .slice S n d) (y := .int .i64 keep) (v := .tuple #[.agg #[.slice S n d, .int .i64 keep], .int .i64 0]) ?hb4 (fun r0 r1 => by simp [results, Try.results25, go_sem, r0, r1]) rfl ?hx4
    case hb4 => exact HB2.out.set2 _ _
    case hx4 => exact ⟨S, d, rfl, HSL.out.boxed2 HB2.out _ _, HX2.out.store2 (by omega) _ _⟩
end Go.Proofs.Ytclpeeemnmhdcaa
