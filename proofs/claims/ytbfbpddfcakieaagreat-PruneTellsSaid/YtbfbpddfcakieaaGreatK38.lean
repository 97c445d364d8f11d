/- The reference's set, more and Alloc, once more: where the new heap's cells and their items lie (cells: in a block of the call's own, or where they lay; items: in an elder world). -/
import Derived.Test.YtbfbpddfcakieaaGreatK06
namespace Go.Proofs.YtbfbpddfcakieaaGreat
open Go.RowKit
attribute [local go_sem ↓] Go.wp_at_zero Go.wp_at_succ

/-- A slice of cells whose items lie in the elder world w0; it is the one RE, or its block is none of wE's. -/
def HcO (w0 wE : World) (RE : Option Addr) (w : World) (S : Option Addr) (n d : Nat) (l : List HC) : Prop :=
  (n = l.length ∧ ∃ cs, Sl w S n d cs ∧ HcAt w0 cs l) ∧ (S = RE ∨ ∃ g, S = some ⟨g, 0, none⟩ ∧ wE.heap.size ≤ g)
theorem HcO.ext {w0 wE w w' : World} {RE S : Option Addr} {n d : Nat} {l : List HC} (h : HcO w0 wE RE w S n d l) (hx : Ext w w') : HcO w0 wE RE w' S n d l := by
  obtain ⟨⟨h1, cs, h2, h3⟩, h4⟩ := h
  exact ⟨⟨h1, cs, h2.ext hx, h3⟩, h4⟩
theorem HcO.sl {w0 wE w : World} {RE S : Option Addr} {n d : Nat} {l : List HC} (h : HcO w0 wE RE w S n d l) (hx : Ext w0 w) : HcSl w S n d l := by
  obtain ⟨⟨h1, cs, h2, h3⟩, h4⟩ := h
  exact ⟨h1, cs, h2, h3.ext hx⟩
theorem HcO.of {w : World} {S : Option Addr} {n d : Nat} {l : List HC} (h : HcSl w S n d l) : HcO w w S w S n d l := ⟨h, .inl rfl⟩
theorem HcO.again {w0 wE w : World} {RE S : Option Addr} {n d : Nat} {l : List HC} (h : HcO w0 wE RE w S n d l) (wF : World) : HcO w0 wF S w S n d l := ⟨h.1, .inl rfl⟩
theorem HcO.cell {w0 wE w : World} {RE R : Option Addr} {m q : Nat} {l : List HC} (h : HcO w0 wE RE w R m q l) {k : Nat} (hk : k < l.length) :
    ∃ b off, R = some ⟨b, off, none⟩ ∧ b < w.heap.size ∧ ∃ A c, w.cell? ⟨b, off + k * 4, none⟩ = some (.int .i64 l[k].ref) ∧ w.cell? ⟨b, off + k * 4 + 1, none⟩ = some (.bool l[k].pin) ∧ w.cell? ⟨b, off + k * 4 + 2, none⟩ = some (.bool l[k].leaf) ∧ w.cell? ⟨b, off + k * 4 + 3, none⟩ = some (.slice A l[k].it.length c) ∧ Sl w0 A l[k].it.length c (ivs l[k].it) := by
  obtain ⟨⟨h1, cs, h2, h3⟩, _⟩ := h
  obtain ⟨A, c, e1, e2, e3, e4, h5⟩ := h3.2 k hk
  have hne : cs ≠ [] := by intro e; subst e; simp at e1
  obtain ⟨b, off, rfl, hb, hc⟩ := h2.cells hne
  exact ⟨b, off, rfl, hb, A, c, hc _ _ e1, by rw [Nat.add_assoc]; exact hc _ _ e2, by rw [Nat.add_assoc]; exact hc _ _ e3, by rw [Nat.add_assoc]; exact hc _ _ e4, h5⟩
theorem HcO.grown {w0 wE w w' : World} {RE S : Option Addr} {n d : Nat} {l : List HC} (h : HcO w0 wE RE w S n d l) {row : Option Nat} (hg : w.grownBy w' row) (hne : 0 < l.length → ∀ p, S = some p → row ≠ some p.block) : HcO w0 wE RE w' S n d l := by
  obtain ⟨⟨h1, cs, h2, h3⟩, h4⟩ := h
  refine ⟨⟨h1, cs, h2.grown hg (fun hx p hp => hne ?_ p hp), h3⟩, h4⟩
  rcases Nat.eq_zero_or_pos l.length with h0 | h0
  · have := h3.1; rw [h0] at this; exact absurd (List.eq_nil_of_length_eq_zero this) hx
  · exact h0
theorem HcO.join {w0 wE wF w w' : World} {RE S S' : Option Addr} {n d n' d' : Nat} {l l' : List HC} (h : HcO w0 wE RE w S n d l) (h' : HcO w0 wF S w' S' n' d' l') (hx : wE.heap.size ≤ wF.heap.size) : HcO w0 wE RE w' S' n' d' l' := by
  refine ⟨h'.1, ?_⟩
  rcases h'.2 with rfl | ⟨g, e, hg⟩
  · exact h.2
  · exact .inr ⟨g, e, Nat.le_trans hx hg⟩
/-- A row of items of the call's own, and the cells of such a heap, lie apart. -/
theorem HcO.apart {w0 wE w : World} {RE S : Option Addr} {n d : Nat} {l : List HC} (h : HcO w0 wE RE w S n d l) {B : Nat} (hR : 0 < n → ∀ p, RE = some p → p.block < B) {e j z : Nat} {O : Option Addr} {oj : List It} (ho : w.ownsRow B e 2 (.slice O j z) j (ivs oj)) (hj : O = none ∨ 1 ≤ j) (hl : 0 < l.length) : ∀ p, S = some p → (Value.slice O j z).ownBlock ≠ some p.block := by
  rintro p rfl hb
  rcases hj with rfl | hj
  · simp [Value.ownBlock] at hb
  obtain ⟨g, rfl, hgB⟩ := own_some ho hj
  have hgp : g = p.block := by simpa [Value.ownBlock] using hb
  rcases h.2 with e1 | ⟨g', e1, _⟩
  · have := hR (by rw [h.1.1]; exact hl) p e1.symm
    omega
  · cases e1
    simp only at hgp
    subst hgp
    obtain ⟨⟨h1, cs, h2, h3⟩, _⟩ := h
    obtain ⟨A, c, e1, e2, _⟩ := h3.2 0 hl
    have hne : cs ≠ [] := by intro e; subst e; simp at e1
    obtain ⟨b, off, e3, hb2, hc⟩ := h2.cells hne
    cases e3
    have hk := hc 1 _ e2
    have hll := ho.1
    have hlj : oj.length = j := by rw [ivs_length] at hll; omega
    have hm := ho.cellAt (0 * 2 + 1) (by omega)
    rw [(ivs_at oj 0 (by omega)).2] at hm
    have hk2 : w.cell? ⟨g, 0 * 2 + 1, none⟩ = some (.bool l[0].pin) := by simpa using hk
    rw [hk2] at hm
    cases hm
theorem HcO.boxed2 {w0 wE w : World} {RE R : Option Addr} {m q : Nat} {l : List HC} (h : HcO w0 wE RE w R m q l) {k : Nat} {A1 : Option Addr} {n1 c1 : Nat} {z : Int} (hb : Bx w k #[.slice A1 n1 c1, .int .i64 z]) (x y : Value) :
    HcO w0 wE RE ((w.setCell ⟨k, 0, none⟩ x).setCell ⟨k, 1, none⟩ y) R m q l := by
  obtain ⟨⟨h1, cs, h2, h3⟩, h4⟩ := h
  refine ⟨⟨h1, cs, ?_, h3⟩, h4⟩
  refine h2.grown (grown_store2 w k x y) (fun hx p hp e => ?_)
  obtain ⟨b, off, e', hlt, hc⟩ := h2.cells hx
  rw [hp] at e'
  cases e'
  have hl := h3.1
  have hpos : 0 < l.length := by
    rcases Nat.eq_zero_or_pos l.length with h0 | h0
    · rw [h0] at hl; exact absurd (List.eq_nil_of_length_eq_zero hl) hx
    · exact h0
  obtain ⟨A, c, e1, e2, _⟩ := h3.2 0 hpos
  have g0 := hc _ _ e1
  have g1 := hc _ _ e2
  simp only [Nat.zero_mul, Nat.add_zero, Nat.zero_add] at g0 g1
  exact no_box hb g0 g1 (Option.some.inj e)

set_option maxRecDepth 100000 in
set_option maxHeartbeats 1600000 in
theorem ref05set_own (w0 wE : World) (RE R : Option Addr) (l : List HC) (n q k : Nat) (keep : Int) (x : HC) (A : Option Addr) (m c : Nat) (w : World) (hk : k < n) (hb : n ≤ 90000) (hE : wE.heap.size ≤ w.heap.size) (hA : HcO w0 wE RE w R n q l) (hm : m = x.it.length) (hI : Sl w0 A m c (ivs x.it)) :
    Calls Tryz.prog 57 #[.agg #[.slice R n q, .int .i64 keep], .int .i64 k, .agg #[.int .i64 x.ref, .bool x.pin, .bool x.leaf, .slice A m c]] w fun e w' => ∃ S d, e = .returned (.agg #[.slice S n d, .int .i64 keep]) ∧ HcO w0 wE RE w' S n d (l.set k x) ∧ Ext w w' := by
  obtain ⟨⟨hn, cs, hsl, hat⟩, -⟩ := hA
  have HX3 := Lib.hid ((((Ext.refl w).alloc (.cells #[.slice R n q, .int .i64 keep] 24)).alloc (.cells #[.int .i64 x.ref, .bool x.pin, .bool x.leaf, .slice A m c] 53)).alloc (.cells #[.slice none 0 0, .int .i64 0] 24))
  obtain ⟨W, hW⟩ : ∃ W, W = ((w.alloc (.cells #[.slice R n q, .int .i64 keep] 24)).alloc (.cells #[.int .i64 x.ref, .bool x.pin, .bool x.leaf, .slice A m c] 53)).alloc (.cells #[.slice none 0 0, .int .i64 0] 24) := ⟨_, rfl⟩
  obtain ⟨_, hb0, hb1, hb2⟩ := allocs3 hW.symm
  have hsz : W.heap.size = w.heap.size + 1 + 1 + 1 := by rw [hW]; simp
  rw [← hW] at HX3
  have HB0 := Lib.hid hb0
  have HB1 := Lib.hid hb1
  have HB2 := Lib.hid hb2
  have HSZ := Lib.hid hsz
  have HN := Lib.hid hn
  have HAT := Lib.hid hat
  have HSL := Lib.hid hsl
  have HSET := Lib.hid (hat.set (p := k) (by omega) x (A := A) (c := c) (by rw [← hm]; exact hI))
  rw [← hm] at HSET
  have h1 := hc_one hat
  have H1 := Lib.hid h1
  have hcl := hat.1
  have HCL := Lib.hid hcl
  obtain ⟨rf, pn, lf, it⟩ := x
  simp only at HB1 HSET ⊢
  clear hb0 hb1 hb2 hsz hn hat hsl h1 hcl hm hI
  obtain ⟨p0, p1, p2⟩ := HB0.out.read2
  subst hW
  go_enter Tryz.func57, Tryz.ntmps57
  go_wp2_with (at_builtin; refine stop_here ?_)
  refine stop_on ?_
  generalize hW : World.alloc (World.alloc (World.alloc w _) _) _ = W at *
  clear hW
  have hoe := own_empty W 53 4
  rw [HSZ.out] at hoe
  refine app_hcs _ rfl _ _ rfl (w.heap.size + 1 + 1 + 1) _ 0 [] rfl hoe R n q cs rfl (by rw [HCL.out, ← HN.out]) (HSL.out.ext (HX3.out.alloc _)) H1.out (by omega) (by have := HSZ.out; simp; omega) ?_
  clear hoe
  intro A1 c1 w1 hown hg
  rw [List.nil_append, Nat.zero_add] at hown
  rw [Nat.zero_add]
  have HX1 := Lib.hid (show Ext W w1 from Below.grown ((Ext.refl W).alloc _) hg (by simp) (by intro q hq; cases hq; exact Nat.le_of_eq HSZ.out))
  obtain ⟨g, rfl, hgB⟩ := own_some hown (by omega)
  have HO1 := Lib.hid hown
  clear hown hg p0 p1 p2
  obtain ⟨p0, p1, p2⟩ := (HB0.out.ext HX1.out).read2
  obtain ⟨q0, q1, q2, q3⟩ := (HB1.out.ext HX1.out).read4
  have q4 := (HB1.out.ext HX1.out).lt
  obtain ⟨v0, v1, v2, v3, z0, z1, z2, z3⟩ := own_hc_read HO1.out HN.out HAT.out hk
  have f0 := own_free HO1.out (k * 4)
  have f1 := own_free HO1.out (k * 4 + 1)
  have f2 := own_free HO1.out (k * 4 + 2)
  have f3 := own_free HO1.out (k * 4 + 3)
  have hki : (k : Int) < (n : Int) := by omega
  have hne : ¬ g = w.heap.size := by omega
  have hne1 : ¬ g = w.heap.size + 1 := by omega
  have hne2 : ¬ w.heap.size = g := by omega
  have hne3 : ¬ w.heap.size + 1 = g := by omega
  have hne4 : ¬ w.heap.size + 1 + 1 = g := by omega
  have hne5 : ¬ g = w.heap.size + 1 + 1 := by omega
  obtain ⟨t0, t1, t2⟩ := (HB2.out.ext HX1.out).read2
  obtain ⟨y0, y1⟩ := (HB2.out.ext HX1.out).free2
  go_wp2_with fail
  have HXA := Lib.hid (HX3.out.trans HX1.out)
  have hgw : w.heap.size ≤ g := by omega
  have HO5 := Lib.hid (own_hc HO1.out hk (.int .i64 rf) (.bool pn) (.bool lf) (.slice A m c))
  have HX5 := Lib.hid ((((HXA.out.set (p := ⟨g, k * 4, none⟩) hgw (.int .i64 rf)).set (p := ⟨g, k * 4 + 1, none⟩) hgw (.bool pn)).set (p := ⟨g, k * 4 + 2, none⟩) hgw (.bool lf)).set (p := ⟨g, k * 4 + 3, none⟩) hgw (.slice A m c))
  have HB5 := Lib.hid (((((HB2.out.ext HX1.out).set_other (p := ⟨g, k * 4, none⟩) hne5 (.int .i64 rf)).set_other (p := ⟨g, k * 4 + 1, none⟩) hne5 (.bool pn)).set_other (p := ⟨g, k * 4 + 2, none⟩) hne5 (.bool lf)).set_other (p := ⟨g, k * 4 + 3, none⟩) hne5 (.slice A m c))
  clear p0 p1 p2 q0 q1 q2 q3 q4 z0 z1 z2 z3 f0 f1 f2 f3 t0 t1 t2 y0 y1
  generalize World.setCell (World.setCell (World.setCell (World.setCell w1 _ _) _ _) _ _) _ _ = w5 at *
  refine ret2_cell (k := w.heap.size + 1 + 1) (x := .slice (some ⟨g, 0, none⟩) n c1) (y := .int .i64 keep) (v := .agg #[.slice (some ⟨g, 0, none⟩) n c1, .int .i64 keep]) ?hb3 (fun r0 r1 => by simp [results, Tryz.results57, go_sem, r0, r1]) rfl ?hx3
  case hb3 => exact HB5.out.set2 _ _
  case hx3 =>
    have hx6 := (HX5.out.set (p := ⟨w.heap.size + 1 + 1, 0, none⟩) (by simp; omega) (.slice (some ⟨g, 0, none⟩) n c1)).set (p := ⟨w.heap.size + 1 + 1, 1, none⟩) (by simp; omega) (.int .i64 keep)
    refine ⟨_, _, rfl, ⟨⟨by rw [List.length_set]; exact HN.out, _, own_sl (ownsRow_setCell_other (ownsRow_setCell_other HO5.out (a := ⟨w.heap.size + 1 + 1, 0, none⟩) ?_ _) (a := ⟨w.heap.size + 1 + 1, 1, none⟩) ?_ _), HSET.out⟩, .inr ⟨g, rfl, by omega⟩⟩, hx6⟩
    · simp [Value.ownBlock, hne5]
    · simp [Value.ownBlock, hne5]


set_option maxRecDepth 100000 in
set_option maxHeartbeats 1600000 in
theorem ref05more_own (w0 wE : World) (RE R : Option Addr) (l : List HC) (n q k : Nat) (keep : Int) (w : World) (hk : k < l.length) (hb : n ≤ 90000) (hr : -9000000000000000000 ≤ l[k].ref ∧ l[k].ref ≤ 9000000000000000000) (hE : wE.heap.size ≤ w.heap.size) (hA : HcO w0 wE RE w R n q l) :
    Calls Tryz.prog 59 #[.agg #[.slice R n q, .int .i64 keep], .int .i64 k] w fun e w' => ∃ S d, e = .returned (.agg #[.slice S n d, .int .i64 keep]) ∧ HcO w0 wE RE w' S n d (l.set k l[k].more) ∧ Ext w w' := by
  have hn := hA.1.1
  obtain ⟨b, off, rfl, hbl, A, c, r0, r1, r2, r3, hI⟩ := hA.cell hk
  have HS := Lib.hid (show ∀ w', Ext w w' → Calls Tryz.prog 57 #[.agg #[.slice (some ⟨b, off, none⟩) n q, .int .i64 keep], .int .i64 k, .agg #[.int .i64 (l[k].ref + 1), .bool l[k].pin, .bool l[k].leaf, .slice A l[k].it.length c]] w' fun e w2 => ∃ S d, e = .returned (.agg #[.slice S n d, .int .i64 keep]) ∧ HcO w0 wE RE w2 S n d (l.set k l[k].more) ∧ Ext w' w2 from fun w' hx => ref05set_own w0 wE RE (some ⟨b, off, none⟩) l n q k keep l[k].more A l[k].it.length c w' (by omega) hb (Nat.le_trans hE hx.size) (hA.ext hx) rfl hI)
  have HX := Lib.hid (((Ext.refl w).alloc (.cells #[.slice (some ⟨b, off, none⟩) n q, .int .i64 keep] 24)).alloc (.cells #[.slice none 0 0, .int .i64 0] 24))
  obtain ⟨W, hW⟩ : ∃ W, W = (w.alloc (.cells #[.slice (some ⟨b, off, none⟩) n q, .int .i64 keep] 24)).alloc (.cells #[.slice none 0 0, .int .i64 0] 24) := ⟨_, rfl⟩
  obtain ⟨_, hb0, hb1⟩ := allocs2 hW.symm
  have hsz : W.heap.size = w.heap.size + 1 + 1 := by rw [hW]; simp
  rw [← hW] at HX
  have HB0 := Lib.hid hb0
  have HB1 := Lib.hid hb1
  have HSZ := Lib.hid hsz
  have hki : (k : Int) < (n : Int) := by omega
  generalize l.set k l[k].more = l' at *
  clear hA hI hb0 hb1 hsz hn hE
  subst hW
  generalize l[k].it.length = m at *
  generalize l[k].ref = rf at *
  generalize l[k].pin = pn at *
  generalize l[k].leaf = lf at *
  obtain ⟨p0, p1, p2⟩ := HB0.out.read2
  go_enter Tryz.func59, Tryz.ntmps59
  go_wp2_with (go_at_call 57; refine stop_here ?_)
  refine stop_on ?_
  generalize hW : World.alloc (World.alloc w _) _ = W at *
  clear hW
  refine (HS.out _ (HX.out.alloc _)).mono ?_
  rintro e w1 ⟨S, d, rfl, hs, hx⟩
  have HX1 := Lib.hid ((HX.out.alloc (.cells #[.int .i64 rf, .bool pn, .bool lf, .slice A m c] 53)).trans hx)
  have HB2 := Lib.hid (HB1.out.ext (((Ext.refl W).alloc (.cells #[.int .i64 rf, .bool pn, .bool lf, .slice A m c] 53)).trans hx))
  have HSL := Lib.hid hs
  clear hs hx p0 p1 p2 r0 r1 r2 r3
  obtain ⟨t0, t1, t2⟩ := HB2.out.read2
  obtain ⟨y0, y1⟩ := HB2.out.free2
  go_wp2_with fail
  refine ret2_cell (k := w.heap.size + 1) (x := .slice S n d) (y := .int .i64 keep) (v := .agg #[.slice S n d, .int .i64 keep]) ?hb4 (fun r0 r1 => by simp [results, Tryz.results59, go_sem, r0, r1]) rfl ?hx4
  case hb4 => exact HB2.out.set2 _ _
  case hx4 => exact ⟨S, d, rfl, HSL.out.boxed2 HB2.out _ _, HX1.out.store2 (by omega) _ _⟩


set_option maxRecDepth 100000 in
set_option maxHeartbeats 1600000 in
theorem ref05Alloc_ownno (w0 : World) (R : Option Addr) (l : List HC) (n q : Nat) (keep : Int) (leaf : Bool) (A : Option Addr) (it : List It) (m c : Nat) (H : Option Addr) (_held : List Int) (t d : Nat) (w : World) (hbad : (ndR it && leadsC l leaf it) = false) (h0 : Ext w0 w) (hA : HcO w0 w R w R n q l) (hm : m = it.length) (hI0 : Sl w0 A m c (ivs it)) :
    Calls Tryz.prog 64 #[.agg #[.slice R n q, .int .i64 keep], .agg #[.bool leaf, .slice A m c], .slice H t d] w fun e w' => ∃ S d, e = .returned (.tuple #[.agg #[.slice S n d, .int .i64 keep], .int .i64 0, .int .i64 1]) ∧ HcO w0 w R w' S n d l ∧ Ext w w' := by
  have hI := hI0.ext h0
  have hAs := hA.sl h0
  clear h0 hI0
  have hx0 := (((Ext.refl w).alloc (.cells #[.slice R n q, .int .i64 keep] 24)).alloc (.cells #[.bool leaf, .slice A m c] 51)).alloc (.cells #[.slice none 0 0, .int .i64 0] 24)
  obtain ⟨W, hW⟩ : ∃ W, W = (((w.alloc (.cells #[.slice R n q, .int .i64 keep] 24)).alloc (.cells #[.bool leaf, .slice A m c] 51)).alloc (.cells #[.slice none 0 0, .int .i64 0] 24)) := ⟨_, rfl⟩
  obtain ⟨hx, hb0, hb1, hb2⟩ := allocs3 hW.symm
  clear hx0
  have HX := Lib.hid hx
  have HB0 := Lib.hid hb0
  have HB1 := Lib.hid hb1
  have HB2 := Lib.hid hb2
  have HA := Lib.hid (hA.ext hx)
  have HR := Lib.hid (fun w' (hx2 : Ext W w') => ref04Right_any leaf A it m c w' hm ((hI.ext hx).ext hx2))
  have HL := Lib.hid (fun w' (hx2 : Ext W w') => ref05leads_any R l n q keep leaf A it m c w' ((hAs.ext hx).ext hx2) hm ((hI.ext hx).ext hx2))
  clear hx hA hm hI hAs
  subst hW
  obtain ⟨p0, p1, p2⟩ := hb0.read2
  obtain ⟨q0, q1, q2⟩ := hb1.read2
  clear hb0 hb1 hb2
  cases hr : ndR it
  · rw [hr] at HR
    clear HL hbad hr
    go_enter Tryz.func64, Tryz.ntmps64
    go_wp2_with (go_at_call 91; refine stop_here ?_)
    refine stop_on ?_
    generalize hW : World.alloc (World.alloc (World.alloc w _) _) _ = W at *
    clear hW
    refine (HR.out _ (Ext.refl _)).mono ?_
    rintro e w1 ⟨rfl, hx⟩
    have HX1 := Lib.hid (HX.out.trans hx)
    have HA1 := Lib.hid (HA.out.ext hx)
    have HC2 := Lib.hid (HB2.out.ext hx)
    clear p0 p1 p2 q0 q1 q2
    obtain ⟨p0, p1, p2⟩ := (HB0.out.ext hx).read2
    obtain ⟨q0, q1, q2⟩ := (HB1.out.ext hx).read2
    obtain ⟨t0, t1, t2⟩ := HC2.out.read2
    obtain ⟨y0, y1⟩ := HC2.out.free2
    clear hx
    go_wp2_with fail
    refine ret2_cell (k := w.heap.size + 1 + 1) (x := .slice R n q) (y := .int .i64 keep) (v := .tuple #[.agg #[.slice R n q, .int .i64 keep], .int .i64 0, .int .i64 1]) ?hb4 (fun r0 r1 => by simp [results, Tryz.results64, go_sem, r0, r1]) rfl ?hx4
    case hb4 => exact HC2.out.set2 _ _
    case hx4 => exact ⟨R, q, rfl, HA1.out.boxed2 HC2.out _ _, HX1.out.store2 (by omega) _ _⟩
  · rw [hr] at HR hbad
    rw [Bool.true_and] at hbad
    rw [hbad] at HL
    clear hbad hr
    go_enter Tryz.func64, Tryz.ntmps64
    go_wp2_with (go_at_call 91; refine stop_here ?_)
    refine stop_on ?_
    generalize hW : World.alloc (World.alloc (World.alloc w _) _) _ = W at *
    clear hW
    refine (HR.out _ (Ext.refl _)).mono ?_
    rintro e w1 ⟨rfl, hx⟩
    have HXW := Lib.hid hx
    clear p0 p1 p2 q0 q1 q2
    obtain ⟨p0, p1, p2⟩ := (HB0.out.ext hx).read2
    obtain ⟨q0, q1, q2⟩ := (HB1.out.ext hx).read2
    clear hx
    go_wp2_with (go_at_call 92; refine stop_here ?_)
    refine stop_on ?_
    refine (HL.out _ HXW.out).mono ?_
    rintro e w2 ⟨rfl, hx2⟩
    have hx := HXW.out.trans hx2
    have HX1 := Lib.hid (HX.out.trans hx)
    have HA1 := Lib.hid (HA.out.ext hx)
    have HC2 := Lib.hid (HB2.out.ext hx)
    clear p0 p1 p2 q0 q1 q2
    obtain ⟨p0, p1, p2⟩ := (HB0.out.ext hx).read2
    obtain ⟨q0, q1, q2⟩ := (HB1.out.ext hx).read2
    obtain ⟨t0, t1, t2⟩ := HC2.out.read2
    obtain ⟨y0, y1⟩ := HC2.out.free2
    clear hx hx2
    go_wp2_with fail
    refine ret2_cell (k := w.heap.size + 1 + 1) (x := .slice R n q) (y := .int .i64 keep) (v := .tuple #[.agg #[.slice R n q, .int .i64 keep], .int .i64 0, .int .i64 1]) ?hb4 (fun r0 r1 => by simp [results, Tryz.results64, go_sem, r0, r1]) rfl ?hx4
    case hb4 => exact HC2.out.set2 _ _
    case hx4 => exact ⟨R, q, rfl, HA1.out.boxed2 HC2.out _ _, HX1.out.store2 (by omega) _ _⟩

set_option maxRecDepth 100000 in
set_option maxHeartbeats 3200000 in
theorem ref05Alloc_ownleaf (w0 : World) (R : Option Addr) (l : List HC) (n q : Nat) (keep : Int) (A : Option Addr) (it : List It) (m c : Nat) (H : Option Addr) (held : List Int) (t d : Nat) (w : World) (hg : (ndR it && leadsC l true it) = true) (hb : n ≤ 90000) (hbd : ∀ k (hk : k < l.length), l[k].ref ≤ 8000000000000000000) (h0 : Ext w0 w) (hA : HcO w0 w R w R n q l) (hm : m = it.length) (hI0 : Sl w0 A m c (ivs it)) (ht : t = held.length) (hH : Sl w H t d (held.map iv)) :
    Calls Tryz.prog 64 #[.agg #[.slice R n q, .int .i64 keep], .agg #[.bool true, .slice A m c], .slice H t d] w fun e w' => ∃ S d, e = .returned (.tuple #[.agg #[.slice S n d, .int .i64 keep], .int .i64 (allocP l true it : Nat), .int .i64 (allocE l true it)]) ∧ HcO w0 w R w' S n d (allocL l true it held) ∧ Ext w w' := by
  have hI := hI0.ext h0
  have hAs := hA.sl h0
  have HBD := Lib.hid hbd
  have HH := Lib.hid hH
  have HTT := Lib.hid ht
  clear hbd hH ht
  obtain ⟨W, hW⟩ : ∃ W, W = (((w.alloc (.cells #[.slice R n q, .int .i64 keep] 24)).alloc (.cells #[.bool true, .slice A m c] 51)).alloc (.cells #[.slice none 0 0, .int .i64 0] 24)) := ⟨_, rfl⟩
  obtain ⟨hx, hb0, hb1, hb2⟩ := allocs3 hW.symm
  have hn := hA.1.1
  have HN := Lib.hid hn
  have HM := Lib.hid hm
  have HX := Lib.hid hx
  have HB0 := Lib.hid hb0
  have HB1 := Lib.hid hb1
  have HB2 := Lib.hid hb2
  have HA0 := Lib.hid hA
  have HI0 := Lib.hid hI
  have HA := Lib.hid (hA.ext hx)
  have hgood := hg
  rw [Bool.and_eq_true] at hg
  have hm4 : m ≤ 4 := by have := ((ndR_iff it).1 hg.1).1; omega
  have HR := Lib.hid (fun w' (hx2 : Ext W w') => ref04Right_any true A it m c w' hm ((hI.ext hx).ext hx2))
  have HL := Lib.hid (fun w' (hx2 : Ext W w') => ref05leads_any R l n q keep true A it m c w' ((hAs.ext hx).ext hx2) hm ((hI.ext hx).ext hx2))
  have HSET := Lib.hid (fun (S : Option Addr) (g : List HC) (d k : Nat) w' (hk : k < n) (hg : HcO w0 w R w' S n d g) (hx : Ext w w') => ref05set_own w0 w R S g n d k keep ⟨1, false, true, it⟩ A m c w' hk hb hx.size hg hm hI0)
  rw [hg.1] at HR
  rw [hg.2] at HL
  have HLD := Lib.hid hg.2
  have HGOOD := Lib.hid hgood
  simp only at HSET
  clear hx hA hm hI hg hn hgood hAs hI0 h0
  subst hW
  obtain ⟨p0, p1, p2⟩ := hb0.read2
  obtain ⟨q0, q1, q2⟩ := hb1.read2
  clear hb0 hb1 hb2
  go_enter Tryz.func64, Tryz.ntmps64
  go_wp2_with (go_at_call 91; refine stop_here ?_)
  refine stop_on ?_
  generalize hW : World.alloc (World.alloc (World.alloc w _) _) _ = W at *
  clear hW
  refine (HR.out _ (Ext.refl _)).mono ?_
  rintro e w1 ⟨rfl, hx⟩
  have HXW := Lib.hid hx
  clear p0 p1 p2 q0 q1 q2
  obtain ⟨p0, p1, p2⟩ := (HB0.out.ext hx).read2
  obtain ⟨q0, q1, q2⟩ := (HB1.out.ext hx).read2
  clear hx
  go_wp2_with (go_at_call 92; refine stop_here ?_)
  refine stop_on ?_
  refine (HL.out _ HXW.out).mono ?_
  rintro e w2 ⟨rfl, hx2⟩
  have hx := HXW.out.trans hx2
  have HX1 := Lib.hid (HX.out.trans hx)
  have HA1 := Lib.hid (HA.out.ext hx)
  have HC0 := Lib.hid (HB0.out.ext hx)
  have HC1 := Lib.hid (HB1.out.ext hx)
  have HC2 := Lib.hid (HB2.out.ext hx)
  clear p0 p1 p2 q0 q1 q2 hx hx2 HXW HR HL HB0 HB1 HB2 HA HX
  obtain ⟨p0, p1, p2⟩ := HC0.out.read2
  obtain ⟨q0, q1, q2⟩ := HC1.out.read2
  go_wp2_with fail
  go_loop [10] (fun i => ∃ k : Nat, k ≤ n ∧ i = .int .i64 k ∧ ∀ j (hj : j < l.length), j < k → stopC l[j] = false) (fun i => n - (intOf i).toNat)
  case atStart => exact ⟨0, Nat.zero_le _, rfl, fun j hj h => by omega⟩
  case round =>
    obtain ⟨k, hk, rfl, hne⟩ := hrel
    have HNE := Lib.hid hne
    clear hne
    rcases Nat.lt_or_ge k n with hlt | hlt
    rotate_left
    · obtain rfl : n = k := by omega
      have hf := first_no (l := l) (fun j hj => HNE.out j hj (by rw [HN.out]; exact hj))
      obtain ⟨e1, e2, e3⟩ := alloc_full (held := held) HGOOD.out hf
      have HE := Lib.hid (And.intro e1 (And.intro e2 e3))
      have d0 : decide ((n : Int) < (n : Int)) = false := decide_eq_false (by omega)
      have d1 : ((n : Int) == (n : Int)) = true := by simp
      obtain ⟨t0, t1, t2⟩ := HC2.out.read2
      obtain ⟨y0, y1⟩ := HC2.out.free2
      clear hf e1 e2 e3 hlt
      go_wp2_with fail
      refine ret2_cell (k := w.heap.size + 1 + 1) (x := .slice R n q) (y := .int .i64 keep) (v := .tuple #[.agg #[.slice R n q, .int .i64 keep], .int .i64 0, .int .i64 3]) ?hb4 (fun r0 r1 => by simp [results, Tryz.results64, go_sem, r0, r1]) rfl ?hx4
      case hb4 => exact HC2.out.set2 _ _
      case hx4 => rw [HE.out.1, HE.out.2.1, HE.out.2.2]; exact ⟨R, q, rfl, HA1.out.boxed2 HC2.out _ _, HX1.out.store2 (by omega) _ _⟩
    have hkl : k < l.length := by rw [← HN.out]; exact hlt
    obtain ⟨b, off, rfl, hbl, Ac, cc, r0, r1, r2, r3, _⟩ := HA1.out.cell hkl
    have hki : (k : Int) < (n : Int) := by omega
    have d0 : decide ((k : Int) < (n : Int)) = true := decide_eq_true hki
    have d0' : decide (k < n) = true := decide_eq_true hlt
    have HK := Lib.hid (fun (h : stopC l[k] = false) => (show ∀ j (hj : j < l.length), j < k + 1 → stopC l[j] = false from fun j hj hjk => by
      rcases Nat.lt_or_ge j k with h' | h'
      · exact HNE.out j hj h'
      · obtain rfl : j = k := by omega
        exact h))
    have HFI := Lib.hid (fun (h : stopC l[k] = true) => first_at hkl HNE.out h)
    have HST := Lib.hid (show stopC l[k] = !(decide (0 < l[k].ref) || l[k].pin) from rfl)
    clear r2 r3 HNE
    generalize stopC l[k] = sc at *
    generalize l[k].ref = rf at *
    generalize l[k].pin = pn at *
    rcases Int.lt_or_le 0 rf with h1 | h1
    · have d1 : decide (0 < rf) = true := decide_eq_true h1
      have HE := Lib.hid (HK.out (by rw [HST.out, d1]; rfl))
      clear h1
      go_wp2_with fail
      go_round
      case rel => exact ⟨k + 1, by omega, by go_num, HE.out⟩
      case measure => simp [intOf]; omega
    have d1 : decide (0 < rf) = false := decide_eq_false (by omega)
    cases pn
    rotate_left
    · have HE := Lib.hid (HK.out (by rw [HST.out]; simp))
      clear h1
      go_wp2_with fail
      go_round
      case rel => exact ⟨k + 1, by omega, by go_num, HE.out⟩
      case measure => simp [intOf]; omega
    have hf := HFI.out (by rw [HST.out, d1]; rfl)
    obtain ⟨e1, e2, e3⟩ := alloc_ok (held := held) HGOOD.out hkl hf
    have HE := Lib.hid (And.intro e1 (And.intro e2 e3))
    have d2 : ((k : Int) == (n : Int)) = false := by
      have : ¬ (k : Int) = (n : Int) := by omega
      simpa using this
    clear hf e1 e2 e3 h1 HFI HK HST
    go_wp2_with fail
    have hx3 : Ext w2 (w2.alloc (.cells #[.slice (some ⟨b, off, none⟩) n q, .int .i64 keep] 24)) := (Ext.refl w2).alloc _
    have HX3 := Lib.hid (HX1.out.trans hx3)
    have HA3 := Lib.hid (HA1.out.ext hx3)
    have HD0 := Lib.hid (HC0.out.ext hx3)
    have HD1 := Lib.hid (HC1.out.ext hx3)
    have HD2 := Lib.hid (HC2.out.ext hx3)
    have HD3 := Lib.hid (Bx.new w2 #[.slice (some ⟨b, off, none⟩) n q, .int .i64 keep] 24)
    have hz : w.heap.size + 1 + 1 < w2.heap.size := HC2.out.lt
    clear hx3 p0 p1 p2 q0 q1 q2 r0 r1 HC0 HC1 HC2 HA1 HX1
    generalize World.alloc w2 _ = w3 at *
    generalize w2.heap.size = z at *
    simp only [if_true] at HE
    go_loop [12] (fun i => i = .int .i64 0) (fun _ => 0)
    case atStart => rfl
    case round =>
      obtain rfl := hrel
      obtain ⟨p0, p1, p2⟩ := HD0.out.read2
      obtain ⟨q0, q1, q2⟩ := HD1.out.read2
      obtain ⟨s0, s1, s2⟩ := HD3.out.read2
      have hj : m = 0 ∨ 0 < m := by omega
      rcases hj with rfl | hj
      · go_wp2_with (go_at_call 57; refine stop_here ?_)
        refine stop_on ?_
        refine (HSET.out _ l _ k _ hlt HA3.out HX3.out).mono ?_
        rintro e w9 ⟨S9, d9, rfl, hs9, hx9⟩
        have HX9 := Lib.hid (HX3.out.trans hx9)
        have HB9 := Lib.hid (HD2.out.ext hx9)
        have HS9 := Lib.hid hs9
        clear hs9 hx9 p0 p1 p2 q0 q1 q2 s0 s1 s2
        obtain ⟨t0, t1, t2⟩ := HB9.out.read2
        obtain ⟨y0, y1⟩ := HB9.out.free2
        go_wp2_with fail
        refine ret2_cell (k := w.heap.size + 1 + 1) (x := .slice S9 n d9) (y := .int .i64 keep) (v := .tuple #[.agg #[.slice S9 n d9, .int .i64 keep], .int .i64 k, .int .i64 0]) ?hb5 (fun r0 r1 => by simp [results, Tryz.results64, go_sem, r0, r1]) rfl ?hx5
        case hb5 => exact HB9.out.set2 _ _
        case hx5 => rw [HE.out.1, HE.out.2.1, HE.out.2.2]; exact ⟨S9, d9, rfl, HS9.out.boxed2 HB9.out _ _, HX9.out.store2 (by omega) _ _⟩
      · have d4 : decide ((0 : Int) < (m : Int)) = true := decide_eq_true (by omega)
        have d4' : decide (0 < m) = true := decide_eq_true hj
        go_wp2_with (go_at_call 57; refine stop_here ?_)
        refine stop_on ?_
        refine (HSET.out _ l _ k _ hlt HA3.out HX3.out).mono ?_
        rintro e w9 ⟨S9, d9, rfl, hs9, hx9⟩
        have HX9 := Lib.hid (HX3.out.trans hx9)
        have HB9 := Lib.hid (HD2.out.ext hx9)
        have HS9 := Lib.hid hs9
        clear hs9 hx9 p0 p1 p2 q0 q1 q2 s0 s1 s2
        obtain ⟨t0, t1, t2⟩ := HB9.out.read2
        obtain ⟨y0, y1⟩ := HB9.out.free2
        go_wp2_with fail
        refine ret2_cell (k := w.heap.size + 1 + 1) (x := .slice S9 n d9) (y := .int .i64 keep) (v := .tuple #[.agg #[.slice S9 n d9, .int .i64 keep], .int .i64 k, .int .i64 0]) ?hb6 (fun r0 r1 => by simp [results, Tryz.results64, go_sem, r0, r1]) rfl ?hx6
        case hb6 => exact HB9.out.set2 _ _
        case hx6 => rw [HE.out.1, HE.out.2.1, HE.out.2.2]; exact ⟨S9, d9, rfl, HS9.out.boxed2 HB9.out _ _, HX9.out.store2 (by omega) _ _⟩


set_option maxRecDepth 100000 in
set_option maxHeartbeats 3200000 in
theorem ref05Alloc_ownover (w0 : World) (R : Option Addr) (l : List HC) (n q : Nat) (keep : Int) (A : Option Addr) (it : List It) (m c : Nat) (H : Option Addr) (held : List Int) (t d : Nat) (w : World) (hg : (ndR it && leadsC l false it) = true) (hb : n ≤ 90000) (hbd : ∀ k (hk : k < l.length), l[k].ref ≤ 8000000000000000000) (h0 : Ext w0 w) (hA : HcO w0 w R w R n q l) (hm : m = it.length) (hI0 : Sl w0 A m c (ivs it)) (ht : t = held.length) (hH : Sl w H t d (held.map iv)) :
    Calls Tryz.prog 64 #[.agg #[.slice R n q, .int .i64 keep], .agg #[.bool false, .slice A m c], .slice H t d] w fun e w' => ∃ S d, e = .returned (.tuple #[.agg #[.slice S n d, .int .i64 keep], .int .i64 (allocP l false it : Nat), .int .i64 (allocE l false it)]) ∧ HcO w0 w R w' S n d (allocL l false it held) ∧ Ext w w' := by
  have hI := hI0.ext h0
  have hAs := hA.sl h0
  have HBD := Lib.hid hbd
  have HH := Lib.hid hH
  have HTT := Lib.hid ht
  clear hbd hH ht
  obtain ⟨W, hW⟩ : ∃ W, W = (((w.alloc (.cells #[.slice R n q, .int .i64 keep] 24)).alloc (.cells #[.bool false, .slice A m c] 51)).alloc (.cells #[.slice none 0 0, .int .i64 0] 24)) := ⟨_, rfl⟩
  obtain ⟨hx, hb0, hb1, hb2⟩ := allocs3 hW.symm
  have hn := hA.1.1
  have HN := Lib.hid hn
  have HM := Lib.hid hm
  have HX := Lib.hid hx
  have HB0 := Lib.hid hb0
  have HB1 := Lib.hid hb1
  have HB2 := Lib.hid hb2
  have HA0 := Lib.hid hA
  have HI0 := Lib.hid hI
  have HA := Lib.hid (hA.ext hx)
  have hgood := hg
  rw [Bool.and_eq_true] at hg
  have hm4 : m ≤ 4 := by have := ((ndR_iff it).1 hg.1).1; omega
  have HR := Lib.hid (fun w' (hx2 : Ext W w') => ref04Right_any false A it m c w' hm ((hI.ext hx).ext hx2))
  have HL := Lib.hid (fun w' (hx2 : Ext W w') => ref05leads_any R l n q keep false A it m c w' ((hAs.ext hx).ext hx2) hm ((hI.ext hx).ext hx2))
  have HSET := Lib.hid (fun (S : Option Addr) (g : List HC) (d k : Nat) w' (hk : k < n) (hg : HcO w0 w R w' S n d g) (hx : Ext w w') => ref05set_own w0 w R S g n d k keep ⟨1, false, false, it⟩ A m c w' hk hb hx.size hg hm hI0)
  rw [hg.1] at HR
  rw [hg.2] at HL
  have HLD := Lib.hid hg.2
  have HGOOD := Lib.hid hgood
  simp only at HSET
  clear hx hA hm hI hg hn hgood hAs hI0 h0
  subst hW
  obtain ⟨p0, p1, p2⟩ := hb0.read2
  obtain ⟨q0, q1, q2⟩ := hb1.read2
  clear hb0 hb1 hb2
  go_enter Tryz.func64, Tryz.ntmps64
  go_wp2_with (go_at_call 91; refine stop_here ?_)
  refine stop_on ?_
  generalize hW : World.alloc (World.alloc (World.alloc w _) _) _ = W at *
  clear hW
  refine (HR.out _ (Ext.refl _)).mono ?_
  rintro e w1 ⟨rfl, hx⟩
  have HXW := Lib.hid hx
  clear p0 p1 p2 q0 q1 q2
  obtain ⟨p0, p1, p2⟩ := (HB0.out.ext hx).read2
  obtain ⟨q0, q1, q2⟩ := (HB1.out.ext hx).read2
  clear hx
  go_wp2_with (go_at_call 92; refine stop_here ?_)
  refine stop_on ?_
  refine (HL.out _ HXW.out).mono ?_
  rintro e w2 ⟨rfl, hx2⟩
  have hx := HXW.out.trans hx2
  have HX1 := Lib.hid (HX.out.trans hx)
  have HA1 := Lib.hid (HA.out.ext hx)
  have HC0 := Lib.hid (HB0.out.ext hx)
  have HC1 := Lib.hid (HB1.out.ext hx)
  have HC2 := Lib.hid (HB2.out.ext hx)
  clear p0 p1 p2 q0 q1 q2 hx hx2 HXW HR HL HB0 HB1 HB2 HA HX
  obtain ⟨p0, p1, p2⟩ := HC0.out.read2
  obtain ⟨q0, q1, q2⟩ := HC1.out.read2
  go_wp2_with fail
  go_loop [10] (fun i => ∃ k : Nat, k ≤ n ∧ i = .int .i64 k ∧ ∀ j (hj : j < l.length), j < k → stopC l[j] = false) (fun i => n - (intOf i).toNat)
  case atStart => exact ⟨0, Nat.zero_le _, rfl, fun j hj h => by omega⟩
  case round =>
    obtain ⟨k, hk, rfl, hne⟩ := hrel
    have HNE := Lib.hid hne
    clear hne
    rcases Nat.lt_or_ge k n with hlt | hlt
    rotate_left
    · obtain rfl : n = k := by omega
      have hf := first_no (l := l) (fun j hj => HNE.out j hj (by rw [HN.out]; exact hj))
      obtain ⟨e1, e2, e3⟩ := alloc_full (held := held) HGOOD.out hf
      have HE := Lib.hid (And.intro e1 (And.intro e2 e3))
      have d0 : decide ((n : Int) < (n : Int)) = false := decide_eq_false (by omega)
      have d1 : ((n : Int) == (n : Int)) = true := by simp
      obtain ⟨t0, t1, t2⟩ := HC2.out.read2
      obtain ⟨y0, y1⟩ := HC2.out.free2
      clear hf e1 e2 e3 hlt
      go_wp2_with fail
      refine ret2_cell (k := w.heap.size + 1 + 1) (x := .slice R n q) (y := .int .i64 keep) (v := .tuple #[.agg #[.slice R n q, .int .i64 keep], .int .i64 0, .int .i64 3]) ?hb4 (fun r0 r1 => by simp [results, Tryz.results64, go_sem, r0, r1]) rfl ?hx4
      case hb4 => exact HC2.out.set2 _ _
      case hx4 => rw [HE.out.1, HE.out.2.1, HE.out.2.2]; exact ⟨R, q, rfl, HA1.out.boxed2 HC2.out _ _, HX1.out.store2 (by omega) _ _⟩
    have hkl : k < l.length := by rw [← HN.out]; exact hlt
    obtain ⟨b, off, rfl, hbl, Ac, cc, r0, r1, r2, r3, _⟩ := HA1.out.cell hkl
    have hki : (k : Int) < (n : Int) := by omega
    have d0 : decide ((k : Int) < (n : Int)) = true := decide_eq_true hki
    have d0' : decide (k < n) = true := decide_eq_true hlt
    have HK := Lib.hid (fun (h : stopC l[k] = false) => (show ∀ j (hj : j < l.length), j < k + 1 → stopC l[j] = false from fun j hj hjk => by
      rcases Nat.lt_or_ge j k with h' | h'
      · exact HNE.out j hj h'
      · obtain rfl : j = k := by omega
        exact h))
    have HFI := Lib.hid (fun (h : stopC l[k] = true) => first_at hkl HNE.out h)
    have HST := Lib.hid (show stopC l[k] = !(decide (0 < l[k].ref) || l[k].pin) from rfl)
    clear r2 r3 HNE
    generalize stopC l[k] = sc at *
    generalize l[k].ref = rf at *
    generalize l[k].pin = pn at *
    rcases Int.lt_or_le 0 rf with h1 | h1
    · have d1 : decide (0 < rf) = true := decide_eq_true h1
      have HE := Lib.hid (HK.out (by rw [HST.out, d1]; rfl))
      clear h1
      go_wp2_with fail
      go_round
      case rel => exact ⟨k + 1, by omega, by go_num, HE.out⟩
      case measure => simp [intOf]; omega
    have d1 : decide (0 < rf) = false := decide_eq_false (by omega)
    cases pn
    rotate_left
    · have HE := Lib.hid (HK.out (by rw [HST.out]; simp))
      clear h1
      go_wp2_with fail
      go_round
      case rel => exact ⟨k + 1, by omega, by go_num, HE.out⟩
      case measure => simp [intOf]; omega
    have hf := HFI.out (by rw [HST.out, d1]; rfl)
    obtain ⟨e1, e2, e3⟩ := alloc_ok (held := held) HGOOD.out hkl hf
    have HE := Lib.hid (And.intro e1 (And.intro e2 e3))
    have d2 : ((k : Int) == (n : Int)) = false := by
      have : ¬ (k : Int) = (n : Int) := by omega
      simpa using this
    clear hf e1 e2 e3 h1 HFI HK HST
    go_wp2_with fail
    have hx3 : Ext w2 (w2.alloc (.cells #[.slice (some ⟨b, off, none⟩) n q, .int .i64 keep] 24)) := (Ext.refl w2).alloc _
    have HX3 := Lib.hid (HX1.out.trans hx3)
    have HA3 := Lib.hid (HA1.out.ext hx3)
    have HD0 := Lib.hid (HC0.out.ext hx3)
    have HD1 := Lib.hid (HC1.out.ext hx3)
    have HD2 := Lib.hid (HC2.out.ext hx3)
    have HD3 := Lib.hid (Bx.new w2 #[.slice (some ⟨b, off, none⟩) n q, .int .i64 keep] 24)
    have hz : w.heap.size + 1 + 1 < w2.heap.size := HC2.out.lt
    clear hx3 p0 p1 p2 q0 q1 q2 r0 r1 HC0 HC1 HC2 HA1 HX1
    generalize World.alloc w2 _ = w3 at *
    generalize w2.heap.size = z at *
    rw [if_neg (by simp), moreL_eq] at HE
    go_loopw [12] (fun i wr => ∃ j : Nat, j ≤ m ∧ i = .int .i64 j ∧ ∃ S d, HcO w0 w (some ⟨b, off, none⟩) wr S n d ((it.take j).foldl (moreS held) l) ∧ Up l ((it.take j).foldl (moreS held) l) j ∧ Ext w wr ∧ Bx wr w.heap.size #[.slice (some ⟨b, off, none⟩) n q, .int .i64 keep] ∧ Bx wr (w.heap.size + 1) #[.bool false, .slice A m c] ∧ Bx wr (w.heap.size + 1 + 1) #[.slice none 0 0, .int .i64 0] ∧ Bx wr z #[.slice S n d, .int .i64 keep]) (fun i _ => m - (intOf i).toNat)
    case atStart => exact ⟨0, Nat.zero_le _, rfl, _, _, HA3.out, Up.refl l, HX3.out, HD0.out, HD1.out, HD2.out, HD3.out⟩
    case round =>
      obtain ⟨j, hj, rfl, S1, d1', hs, hup, hx, hb0, hb1, hb2, hb3⟩ := hrel
      have HS := Lib.hid hs
      have HUP := Lib.hid hup
      have HXR := Lib.hid hx
      have HE0 := Lib.hid hb0
      have HE1 := Lib.hid hb1
      have HE2 := Lib.hid hb2
      have HE3 := Lib.hid hb3
      obtain ⟨q0, q1, q2⟩ := hb1.read2
      obtain ⟨s0, s1, s2⟩ := hb3.read2
      rcases Nat.lt_or_ge j m with hlj | hlj
      · have hjl : j < it.length := by rw [← HM.out]; exact hlj
        obtain ⟨bi, oi, rfl, hbi, hc⟩ := (HI0.out.ext hx).cells.it hjl
        have hcj := (hc j hjl).2
        have hji : (j : Int) < (m : Int) := by omega
        have d4 : decide ((j : Int) < (m : Int)) = true := decide_eq_true hji
        have d4' : decide (j < m) = true := decide_eq_true hlj
        obtain ⟨kv, hkv, hVk, hpos⟩ := usedC_iff (leads_used HLD.out hjl)
        have HF := Lib.hid (foldl_take (moreS held) l hjl)
        have HIN := Lib.hid (fun w' (hx : Ext w w') => ref05In_any H held t d it[j].2 w' HTT.out (HH.out.ext hx))
        obtain ⟨g, hg⟩ : ∃ g, (it.take j).foldl (moreS held) l = g := ⟨_, rfl⟩
        rw [hg] at hup hs
        have hkg : kv < g.length := by rw [hup.1]; exact hkv
        have hrf := hup.2 kv hkv hkg
        have hbk := HBD.out kv hkv
        have HMS := Lib.hid (show ∀ h : inL held it[j].2 = false, moreS held g it[j] = g.set kv g[kv].more from fun h => by
          unfold moreS
          rw [h, hVk, Int.toNat_natCast, List.getD_eq_getElem?_getD, List.getElem?_eq_getElem hkg]; rfl)
        have HMT := Lib.hid (show ∀ h : inL held it[j].2 = true, moreS held g it[j] = g from fun h => by unfold moreS; rw [h]; rfl)
        have HMO := Lib.hid (fun w' (hx : Ext wr w') => ref05more_own w0 w (some ⟨b, off, none⟩) S1 g n d1' kv keep w' hkg hb ⟨by omega, by omega⟩ (Nat.le_trans HXR.out.size hx.size) (hs.ext hx))
        have HUM := Lib.hid (hup.more hkg)
        have HUK := Lib.hid hup.keep
        rw [hg] at HF HS
        rw [hVk] at hcj HIN
        obtain ⟨u, hu⟩ : ∃ u, inL held (kv : Int) = u := ⟨_, rfl⟩
        have hu2 : inL held it[j].2 = u := by rw [hVk]; exact hu
        rw [hu] at HIN
        cases u
        · have HNX := Lib.hid (HF.out.trans (HMS.out hu2))
          clear hs hup hx hb0 hb1 hb2 hb3 hc hu hu2 hg HMS HMT HF HUK hVk
          go_wp2_with (go_at_call 93; refine (HIN.out _ HXR.out).mono ?_; rintro e w' ⟨rfl, rfl⟩)
          go_still_tail 7, (by kernel_rfl)
          change wpList _ _ _ _ _ wr.drew
          go_wp2_with (go_at_call 59; refine stop_here ?_)
          refine stop_on ?_
          refine (HMO.out _ (Ext.refl wr).drew).mono ?_
          rintro e w4 ⟨S4, d4s, rfl, hs4, hx4⟩
          have hx5 : Ext wr w4 := (Ext.refl wr).drew.trans hx4
          have HX5 := Lib.hid (HXR.out.trans hx5)
          have HS4 := Lib.hid hs4
          have HF0 := Lib.hid (HE0.out.ext hx5)
          have HF1 := Lib.hid (HE1.out.ext hx5)
          have HF2 := Lib.hid (HE2.out.ext hx5)
          have HF3 := Lib.hid (HE3.out.ext hx5)
          clear hs4 hx4 hx5 q0 q1 q2 s0 s1 s2
          obtain ⟨s0, s1, s2⟩ := HF3.out.read2
          obtain ⟨y0, y1⟩ := HF3.out.free2
          go_wp2_with fail
          go_roundw
          case rel => exact ⟨j + 1, by omega, by go_num, S4, d4s, by rw [HNX.out]; exact HS4.out.boxed2 HF3.out _ _, by rw [HNX.out]; exact HUM.out, HX5.out.store2 (by omega) _ _, (HF0.out.set_other (p := ⟨z, 0, none⟩) (by simp; omega) _).set_other (p := ⟨z, 1, none⟩) (by simp; omega) _, (HF1.out.set_other (p := ⟨z, 0, none⟩) (by simp; omega) _).set_other (p := ⟨z, 1, none⟩) (by simp; omega) _, (HF2.out.set_other (p := ⟨z, 0, none⟩) (by simp; omega) _).set_other (p := ⟨z, 1, none⟩) (by simp; omega) _, HF3.out.set2 _ _⟩
          case measure => simp [intOf]; omega
        · have HNX := Lib.hid (HF.out.trans (HMT.out hu2))
          clear hs hup hx hb0 hb1 hb2 hb3 hc hu hu2 hg HMS HMT HF HUM HMO hVk
          go_wp2_with (go_at_call 93; refine (HIN.out _ HXR.out).mono ?_; rintro e w' ⟨rfl, rfl⟩)
          go_roundw
          case rel => exact ⟨j + 1, by omega, by go_num, S1, d1', by rw [HNX.out]; exact HS.out, by rw [HNX.out]; exact HUK.out, HXR.out, HE0.out, HE1.out, HE2.out, HE3.out⟩
          case measure => simp [intOf]; omega
      · obtain rfl : m = j := by omega
        have hfl : it.take m = it := by rw [HM.out, List.take_length]
        rw [hfl] at HS
        have d4 : decide ((m : Int) < (m : Int)) = false := decide_eq_false (by omega)
        clear hs hup hx hb0 hb1 hb2 hb3 hlj hfl
        go_wp2_with (go_at_call 57; refine stop_here ?_)
        refine stop_on ?_
        refine (HSET.out _ _ _ k _ hlt HS.out HXR.out).mono ?_
        rintro e w9 ⟨S9, d9, rfl, hs9, hx9⟩
        have HX9 := Lib.hid (HXR.out.trans hx9)
        have HB9 := Lib.hid (HE2.out.ext hx9)
        have HS9 := Lib.hid hs9
        clear hs9 hx9 q0 q1 q2 s0 s1 s2
        obtain ⟨t0, t1, t2⟩ := HB9.out.read2
        obtain ⟨y0, y1⟩ := HB9.out.free2
        go_wp2_with fail
        refine ret2_cell (k := w.heap.size + 1 + 1) (x := .slice S9 n d9) (y := .int .i64 keep) (v := .tuple #[.agg #[.slice S9 n d9, .int .i64 keep], .int .i64 k, .int .i64 0]) ?hb5 (fun r0 r1 => by simp [results, Tryz.results64, go_sem, r0, r1]) rfl ?hx5
        case hb5 => exact HB9.out.set2 _ _
        case hx5 => rw [HE.out.1, HE.out.2.1, HE.out.2.2]; exact ⟨S9, d9, rfl, HS9.out.boxed2 HB9.out _ _, HX9.out.store2 (by omega) _ _⟩

theorem ref05Alloc_own (w0 : World) (R : Option Addr) (l : List HC) (n q : Nat) (keep : Int) (leaf : Bool) (A : Option Addr) (it : List It) (m c : Nat) (H : Option Addr) (held : List Int) (t d : Nat) (w : World) (hb : n ≤ 90000) (hbd : ∀ k (hk : k < l.length), l[k].ref ≤ 8000000000000000000) (h0 : Ext w0 w) (hA : HcO w0 w R w R n q l) (hm : m = it.length) (hI0 : Sl w0 A m c (ivs it)) (ht : t = held.length) (hH : Sl w H t d (held.map iv)) :
    Calls Tryz.prog 64 #[.agg #[.slice R n q, .int .i64 keep], .agg #[.bool leaf, .slice A m c], .slice H t d] w fun e w' => ∃ S d, e = .returned (.tuple #[.agg #[.slice S n d, .int .i64 keep], .int .i64 (allocP l leaf it : Nat), .int .i64 (allocE l leaf it)]) ∧ HcO w0 w R w' S n d (allocL l leaf it held) ∧ Ext w w' := by
  cases hg : (ndR it && leadsC l leaf it)
  · obtain ⟨e1, e2, e3⟩ := alloc_bad (held := held) hg
    rw [e1, e2, e3]
    exact ref05Alloc_ownno w0 R l n q keep leaf A it m c H held t d w hg h0 hA hm hI0
  · cases leaf
    · exact ref05Alloc_ownover w0 R l n q keep A it m c H held t d w hg hb hbd h0 hA hm hI0 ht hH
    · exact ref05Alloc_ownleaf w0 R l n q keep A it m c H held t d w hg hb hbd h0 hA hm hI0 ht hH
end Go.Proofs.YtbfbpddfcakieaaGreat
