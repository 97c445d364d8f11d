/- Mount of package mount, as it landed. Check of package mount, as it landed; so package mount answers as the document says. -/
import Derived.Test.YtjbfopnkeclfgaaGreatK44
import Derived.Test.YtjbfopnkeclfgaaGreatK46
import Derived.Test.YtjbfopnkeclfgaaGreatK47
namespace Go.Proofs.YtjbfopnkeclfgaaGreat
set_option maxRecDepth 20000
open Go.RowKit Go.Shelf
attribute [local go_sem] Oper.semAt_some

theorem mtNodes_in (d : Nat) (A A' R : Option Addr) (n c c' m q : Nat) (w : World) : CallsIn Fence.wide d Tryz.prog 18 #[.agg #[.slice A n c, .slice A' 0 c'], .slice R m q] w fun e w' => e = .returned (.func (.func 44) #[] #[.pointer (some ⟨w.heap.size + 1, 0, none⟩), .pointer (some ⟨w.heap.size, 0, none⟩)]) ∧ w' = (w.alloc (.cells #[.slice A n c, .slice A' 0 c'] 25)).alloc (.cells #[.slice R m q] 28) := by
  refine (callsIn_wide (n := d)).2 (callsIn_wide.1 (?_ : CallsIn Fence.wide 3 _ _ _ _ _))
  refine callsIn_of_wp Tryz.func18 rfl trivial ?_ rfl
  simp only [Tryz.ntmps18, List.size_toArray, List.length_cons, List.length_nil, Nat.reduceAdd, Nat.reduceSub, Array.replicate_succ, Array.replicate_zero, List.push_toArray, List.append_toArray, List.nil_append, List.cons_append]
  gi_wp2
  refine bodyPost_ret (results_tmp rfl _ _ _) rfl ?_
  exact ⟨rfl, rfl⟩
theorem bts2V {w W : World} {c0 c1 : Array Value} {t0 t1 : TypeId} (h : (w.alloc (.cells c0 t0)).alloc (.cells c1 t1) = W) : Ext w W ∧ W.heap.size = w.heap.size + 2 ∧ Bt W w.heap.size t0 c0 ∧ Bt W (w.heap.size + 1) t1 c1 := by
  subst h
  have b0 := Bt.new w c0 t0
  have b1 := Bt.new (w.alloc (.cells c0 t0)) c1 t1
  rw [World.size_alloc] at b1
  exact ⟨((Ext.refl w).alloc _).alloc _, by simp, b0.below ((Ext.refl _).alloc _), b1⟩
theorem bts1V {w W : World} {c0 : Array Value} {t0 : TypeId} (h : w.alloc (.cells c0 t0) = W) : Ext w W ∧ W.heap.size = w.heap.size + 1 ∧ Bt W w.heap.size t0 c0 := by
  subst h
  exact ⟨(Ext.refl w).alloc _, by simp, Bt.new w c0 t0⟩
/-- What each round keeps. -/
structure MJ (B : List ByteArray) (rs : List Int) (w w5 : World) (b0 b1 g0 q k6 : Nat) (S6 : Array Value) (V L : Option Addr) (cv cl : Nat) (vs : List It) (ts : List (Nat × Nat)) (pre : List Nat) (W : World) : Prop where
  hc : MHc W b0 w5.heap.size g0 q (cellsL B (baseP rs.length) rs pre)
  ext : Ext w W
  st : Bt W k6 34 S6
  res : Bx W (w.heap.size + 1) #[.slice none 0 0, .int .i64 0, .slice none 0 0, .slice none 0 0, .int .i64 0, .int .i64 0]
  v : W.ownsRow b1 103 2 (.slice V vs.length cv) vs.length (ivs vs)
  l : Sl W L ts.length cl ((ts.map tkB2).map cxv)
theorem ext_outC {w W W' : World} {n : Nat} (h : Ext w W) (hn : w.heap.size ≤ n) (ho : OutC n W W') : Ext w W' :=
  Below.trans h (⟨ho.os, ho.tape, ho.output, ho.size, fun k hk => ho.low k (by omega) (by have := h.size; omega)⟩ : Below w.heap.size W W')
theorem bx_outC {W W' : World} {k n : Nat} {cs : Array Value} (h : Bx W k cs) (ho : OutC n W W') : Bx W' k cs := by
  obtain ⟨t, ht⟩ := h
  exact ⟨t, ho.cells _ _ _ _ ht⟩
section
variable {B : List ByteArray} {rs : List Int} {w w5 : World} {b0 b1 g0 q k6 : Nat} {S6 : Array Value} {V L : Option Addr} {cv cl : Nat} {vs : List It} {ts : List (Nat × Nat)} {pre : List Nat} {W W' : World}
theorem MJ.outC (h : MJ B rs w w5 b0 b1 g0 q k6 S6 V L cv cl vs ts pre W) {n : Nat} (hn : w.heap.size ≤ n) (ho : OutC n W W') : MJ B rs w w5 b0 b1 g0 q k6 S6 V L cv cl vs ts pre W' := by
  refine ⟨h.hc.outC ho, ext_outC h.ext hn ho, bt_outC h.st ho, ?_, own_outC h.v ho, sl_outC h.l ho⟩
  obtain ⟨t, ht⟩ := h.res
  exact ⟨t, ho.cells _ _ _ _ ht⟩
theorem MJ.ext' (h : MJ B rs w w5 b0 b1 g0 q k6 S6 V L cv cl vs ts pre W) (hx : Ext W W') : MJ B rs w w5 b0 b1 g0 q k6 S6 V L cv cl vs ts pre W' := h.outC (Nat.le_refl _) (.ext hx)
theorem MJ.step (h : MJ B rs w w5 b0 b1 g0 q k6 S6 V L cv cl vs ts pre W) {p : Nat} (hp : p < rs.length) (h6 : k6 ≠ g0) (h1 : w.heap.size + 1 < g0) {A : Option Addr} {c m : Nat} {lf : Bool} (hlf : ndPL (blk B (baseP rs.length + p)) = lf) (hm : (ndPI (blk B (baseP rs.length + p))).length = m) (hI : W.ownsRow w5.heap.size 146 2 (.slice A m c) m (ivs (ndPI (blk B (baseP rs.length + p))))) :
    MJ B rs w w5 b0 b1 g0 q k6 S6 V L cv cl vs ts (pre ++ [p]) ((W.setCell ⟨g0, p * 4 + 2, none⟩ (.bool lf)).setCell ⟨g0, p * 4 + 3, none⟩ (.slice A m c)) := by
  subst hm
  subst hlf
  have hl : p < (cellsL B (baseP rs.length) rs pre).length := by rw [cellsL_len]; exact hp
  obtain ⟨pin, leaf, Ai, mi, ci, ⟨_, _⟩, c2, c3⟩ := h.hc.cells (cellsL_ref B (baseP rs.length) rs pre) p hp
  obtain ⟨cs, ho, _⟩ := h.hc
  obtain ⟨cur, hg⟩ := own_obj ho
  have hnv : (Value.slice V vs.length cv).ownBlock ≠ some g0 := own_neV h.v hg (by decide)
  have hcx : ∀ old : Value, (∀ a b, old ≠ .complex .f64 a b) → old ∉ (ts.map tkB2).map cxv := fun old ho hm => by
    obtain ⟨t, _, rfl⟩ := List.mem_map.1 hm
    exact ho _ _ rfl
  have hge := h.ext.size
  refine ⟨?_, ?_, ?_, ?_, ?_, ?_⟩
  · rw [cellsL_snoc]
    have h2 := h.hc.node hl (ndPL (blk B (baseP rs.length + p))) (ndPI (blk B (baseP rs.length + p))) hI
    unfold fillN
    rw [List.getD_eq_getElem?_getD, List.getElem?_eq_getElem hl]
    exact h2
  · exact (h.ext.set (p := ⟨g0, p * 4 + 2, none⟩) (by show w.heap.size ≤ g0; omega) _).set (p := ⟨g0, p * 4 + 3, none⟩) (by show w.heap.size ≤ g0; omega) _
  · exact (h.st.other (p := ⟨g0, p * 4 + 2, none⟩) (by show g0 ≠ k6; omega) _).other (p := ⟨g0, p * 4 + 3, none⟩) (by show g0 ≠ k6; omega) _
  · exact (h.res.set_other (p := ⟨g0, p * 4 + 2, none⟩) (by show g0 ≠ w.heap.size + 1; omega) _).set_other (p := ⟨g0, p * 4 + 3, none⟩) (by show g0 ≠ w.heap.size + 1; omega) _
  · exact own_cellset (own_cellset h.v hnv _) hnv _
  · refine sl_setv (sl_setv h.l c2 rfl (hcx _ (fun a b e => by cases e)) _) (old := .slice Ai mi ci) (cell_set_ne c3 rfl (fun e => by have := congrArg Addr.off e; simp at this)) rfl (hcx _ (fun a b e => by cases e)) _
/-- The call's result is written, and what was put off is taken. -/
theorem MJ.fin (h : MJ B rs w w5 b0 b1 g0 q k6 S6 V L cv cl vs ts pre W) (hb0 : w.heap.size + 1 < b0) (hb1 : w.heap.size + 1 < b1) (h5 : w.heap.size + 1 < w5.heap.size) (hx : Rx (w.heap.size + 1) W W') {D : Nat} (hD : w.heap.size ≤ D) {o : Obj} (hd : W'.heap[D]? = some (.deferred (some []))) :
    MHc (W'.putObj D o) b0 w5.heap.size g0 q (cellsL B (baseP rs.length) rs pre) ∧ (W'.putObj D o).ownsRow b1 103 2 (.slice V vs.length cv) vs.length (ivs vs) ∧ Sl (W'.putObj D o) L ts.length cl ((ts.map tkB2).map cxv) ∧ Ext w (W'.putObj D o) := by
  have ho : OutC (n := w.heap.size) W' (W'.putObj D o) := OutC.put hD hd (fun _ _ _ e => by cases e)
  have hm : MHc W' b0 w5.heap.size g0 q (cellsL B (baseP rs.length) rs pre) := by
    obtain ⟨cs, k1, k2, k3⟩ := h.hc
    refine ⟨cs, hx.own k1 hb0, k2, fun i hi => ?_⟩
    obtain ⟨A, c, j1, j2, j3, j4, j5⟩ := k3 i hi
    exact ⟨A, c, j1, j2, j3, j4, hx.own j5 h5⟩
  exact ⟨hm.outC ho, own_outC (hx.own h.v hb1) ho, sl_outC (rd_row h.res (numBox6 _ _ _ _ _ _ _ _ _ _ _ _) hx h.l (cxv_apart _)) ho, ext_outC (hx.over h.ext (Nat.le_succ _)) (Nat.le_refl _) ho⟩
end
/-- What Mount answers of a disk without writes that wait. -/
def MountAns (B : List ByteArray) (w : World) (e : Ending) (w' : World) : Prop :=
  ((e = .returned (.tuple #[.agg #[.slice none 0 0, .int .i64 0, .slice none 0 0, .slice none 0 0, .int .i64 0, .int .i64 0], .int .i64 (erM B)]) ∧ stM B = st0) ∨ ∃ R V L q cv cl, e = .returned (.tuple #[(stM B).val R V L q cv cl, .int .i64 0]) ∧ erM B = 0 ∧ (stM B).at w' R V L q cv cl) ∧ Ext w w'
set_option maxRecDepth 100000 in
set_option maxHeartbeats 3200000 in
theorem mtMount_ans (A A' : Option Addr) (b : List ByteArray) (l : List Wr) (c c' : Nat) (w : World) (hr : rightS b l = true) (hb : b.length ≤ 135) (hl : l.length ≤ 200) (hA : Sl w A b.length c (b.map sv)) (hA' : Sl w A' l.length c' (wvs l)) :
    Calls Tryz.prog 6 #[.agg #[.slice A b.length c, .slice A' l.length c']] w (MountAns (writeL b l) w) := by
  refine (callsIn_wide.1 (?_ : CallsIn Fence.wide 9 _ _ _ _ _))
  have hok := okD_of hr hb
  have RS := Lib.hid (fun w' (hx : Ext w w') => mtSuper_any A A' b l c c' w' hr hb hl (hA.ext hx) (hA'.ext hx))
  have RF := Lib.hid (fun w' (hx : Ext w w') => flushD_any A A' b l c c' w' (by omega) (by omega) (hA.ext hx) (hA'.ext hx))
  have HBL := Lib.hid (show (writeL b l).length = b.length from by rw [writeL_length])
  obtain ⟨B, hB⟩ : ∃ B, writeL b l = B := ⟨_, rfl⟩
  rw [hB] at hok RS RF HBL ⊢
  obtain ⟨-, hB135, hBok⟩ := hok
  generalize b.length = bn at *
  generalize l.length = ln at *
  obtain ⟨W1, hW1⟩ : ∃ W, (w.alloc (.cells #[.slice A bn c, .slice A' ln c'] 25)).alloc (.cells #[.slice none 0 0, .int .i64 0, .slice none 0 0, .slice none 0 0, .int .i64 0, .int .i64 0] 34) = W := ⟨_, rfl⟩
  obtain ⟨hx1, hb0, hb1⟩ := allocs2 hW1
  have HX1 := Lib.hid hx1
  have HB0 := Lib.hid hb0
  have HB1 := Lib.hid hb1
  have HW1 := Lib.hid hW1
  obtain ⟨p0, p1, z2⟩ := hb0.read2
  clear hA hA' hx1 hb0 hb1 hW1 hr hb hl hB
  refine callsIn_of_wp_marks Tryz.func6 rfl trivial ?_ rfl
  simp only [Tryz.ntmps6, List.size_toArray, List.length_cons, List.length_nil, Nat.reduceAdd, Nat.reduceSub, Array.replicate_succ, Array.replicate_zero, List.push_toArray, List.append_toArray, List.nil_append, List.cons_append]
  gi_wp2_with (refine ⟨trivial, ?_⟩; gi_at_call 8; refine stop_here ?_)
  refine stop_on ?_
  rw [HW1.out]
  refine (callsIn_wide.2 (RS.out _ HX1.out)).mono ?_
  rintro e w2 ⟨rfl, hx2⟩
  have X2 := Lib.hid (HX1.out.trans hx2)
  have D2 := Lib.hid (HB0.out.ext hx2)
  have C2 := Lib.hid (HB1.out.ext hx2)
  clear p0 p1 z2 hx2
  have hnz : supME B ≠ 0 → supME B = 4 := fun h => by
    unfold supME pickE at h ⊢
    split at h
    · next h2 =>
      rw [if_pos h2]
      split at h
      · rfl
      · exact absurd rfl h
    · next h2 => rw [if_neg h2]
  have HANS := Lib.hid (fun h : supME B ≠ 0 => (show erM B = supME B ∧ stM B = st0 from ⟨by unfold erM; rw [if_neg h, hnz h], by unfold stM; rw [if_neg h]⟩))
  clear hnz
  have hyb := Bx.new w2 #[.int .i64 0, .int .i64 0, .int .i64 0] 40
  obtain ⟨y0, y1, y2⟩ : _ ∧ _ ∧ _ := ⟨hyb.at 0 _ rfl, hyb.at 1 _ rfl, hyb.at 2 _ rfl⟩
  have g0 := hyb.free 0
  have g1 := hyb.free 1
  have g2 := hyb.free 2
  have yl := hyb.lt
  by_cases hse : supME B = 0
  rotate_left
  · have HAN := Lib.hid (HANS.out hse)
    have e1 : (supME B != 0) = true := by rw [bne_iff_ne]; exact hse
    generalize supME B = se at *
    generalize (supM B).g = sg at *
    generalize (supM B).z = sz at *
    generalize (supM B).s = ss at *
    obtain ⟨W3, hW3⟩ : ∃ W, w2.alloc (.cells #[.int .i64 sg, .int .i64 sz, .int .i64 ss] 40) = W := ⟨_, rfl⟩
    obtain ⟨hx3, hb3⟩ := allocs1 hW3
    have X3 := Lib.hid (X2.out.trans hx3)
    have C3 := Lib.hid (C2.out.ext hx3)
    obtain ⟨c0, c1, c2, c3, c4, c5⟩ := st_at6 C3.out
    obtain ⟨f0, f1, f2, f3, f4, f5⟩ := st_free6 C3.out
    have HW3 := Lib.hid hW3
    clear hse HANS hyb hx3 hb3
    gi_wp2
    try rw [HW3.out]
    have HB9 := st_set6 C3.out (.slice none 0 0) (.int .i64 0) (.slice none 0 0) (.slice none 0 0) (.int .i64 0) (.int .i64 0)
    obtain ⟨d0, d1, d2, d3, d4, d5⟩ := st_at6 HB9
    exact ⟨.tuple #[.agg #[.slice none 0 0, .int .i64 0, .slice none 0 0, .slice none 0 0, .int .i64 0, .int .i64 0], .int .i64 se], by simp [results, Tryz.f6, go_sem, d0, d1, d2, d3, d4, d5], .inl ⟨by rw [HAN.out.1], HAN.out.2⟩, (((((((Rx.refl (w.heap.size + 1) W3).set 0 (.slice none 0 0)).set 1 (.int .i64 0)).set 2 (.slice none 0 0)).set 3 (.slice none 0 0)).set 4 (.int .i64 0)).set 5 (.int .i64 0)).over X3.out (by omega)⟩
  obtain ⟨g, z, hsm, hg, hz⟩ := supM_nat hse
  generalize (supM B).s = s at *
  rw [hse, hsm]
  simp only
  have HSM := Lib.hid hsm
  have HSE := Lib.hid hse
  obtain ⟨W3, hW3⟩ : ∃ W, w2.alloc (.cells #[.int .i64 g, .int .i64 z, .int .i64 s] 40) = W := ⟨_, rfl⟩
  obtain ⟨hx3, hb3⟩ := allocs1 hW3
  have X3 := Lib.hid (X2.out.trans hx3)
  have C3 := Lib.hid (C2.out.ext hx3)
  have D3 := Lib.hid (D2.out.ext hx3)
  have T3 := Lib.hid hb3
  have HW3 := Lib.hid hW3
  obtain ⟨p0, p1, z2⟩ := D3.out.read2
  clear hse hsm HANS hyb hx3 hb3
  gi_wp2_with (refine ⟨trivial, ?_⟩; gi_at_call 16; refine stop_here ?_)
  refine stop_on ?_
  try rw [HW3.out]
  refine (callsIn_wide.2 (RF.out _ X3.out)).mono ?_
  rintro e w4 ⟨v, rfl, ⟨DA, dc, DA', dc', rfl, hdA, hdA'⟩, hx4⟩
  simp only [List.length_nil] at hdA' ⊢
  have D4 := Lib.hid (D3.out.ext hx4)
  have hk3 : w.heap.size + 1 < w2.heap.size := by have := C2.out.lt; omega
  obtain ⟨p0', p1', _⟩ := D4.out.read2
  obtain ⟨f0', f1'⟩ := D4.out.free2
  have hy5 := ((Rx.refl w.heap.size w4).set 0 (.slice DA B.length dc)).set 1 (.slice DA' 0 dc')
  obtain ⟨w5, hw5⟩ : ∃ W, (w4.setCell ⟨w.heap.size, 0, none⟩ (.slice DA B.length dc)).setCell ⟨w.heap.size, 1, none⟩ (.slice DA' 0 dc') = W := ⟨_, rfl⟩
  have D5 := Lib.hid (show Bx w5 w.heap.size #[.slice DA B.length dc, .slice DA' 0 dc'] from by rw [← hw5]; exact D4.out.set2 _ _)
  rw [hw5] at hy5
  have HY5 := Lib.hid hy5
  have X5 := Lib.hid (hy5.over (X3.out.trans hx4) (Nat.le_refl _))
  have C5 := Lib.hid (show Bx w5 (w.heap.size + 1) _ from by rw [← hw5]; exact ((C3.out.ext hx4).set_other (p := ⟨w.heap.size, 0, none⟩) (by simp) _).set_other (p := ⟨w.heap.size, 1, none⟩) (by simp) _)
  have T5 := Lib.hid (show Bx w5 w2.heap.size _ from by rw [← hw5]; exact ((T3.out.ext hx4).set_other (p := ⟨w.heap.size, 0, none⟩) (by simp; omega) _).set_other (p := ⟨w.heap.size, 1, none⟩) (by simp; omega) _)
  have HDA := Lib.hid (rd_row D4.out (fun v hv => by simp only [List.mem_cons, List.not_mem_nil, or_false] at hv; rcases hv with h | h <;> exact .inl ⟨_, _, _, h⟩) hy5 hdA (fun u hu => by
      obtain ⟨s, _, rfl⟩ := List.mem_map.1 hu
      exact ⟨fun _ _ _ e => by simp [sv] at e, fun _ e => by simp [sv] at e⟩))
  have HDB := Lib.hid (show Sl w5 DA' 0 dc' [] from ⟨hdA'.1, hdA'.2.1, hdA'.2.2.1, Cells.nil _ _⟩)
  have HW5 := Lib.hid hw5
  obtain ⟨u0, u1, u2⟩ := D5.out.read2
  obtain ⟨t0, t1, t2⟩ : _ ∧ _ ∧ _ := ⟨T5.out.at 0 _ rfl, T5.out.at 1 _ rfl, T5.out.at 2 _ rfl⟩
  have RB := Lib.hid (mtBare_any DA DA' B dc dc' g z s w5 hBok (by omega) hg hz HDA.out HDB.out)
  clear hdA hdA' hx4 hy5 p0 p1 z2 y0 y1 y2 g0 g1 g2 yl
  gi_wp2_with (refine ⟨trivial, ?_⟩; gi_at_call 17; refine stop_here ?_)
  refine stop_on ?_
  try rw [HW5.out]
  refine (callsIn_wide.2 RB.out).mono ?_
  unfold BareAns
  rintro e w6 ⟨(⟨rs, keep, vs, ts, next, Q, q, V, cv, L, cl, hq, rfl, ⟨b0, hb0, ho⟩, ⟨b1, hb1, hv⟩, hl⟩ | ⟨hq, rfl⟩), hx6⟩
  rotate_left
  · have HM := Lib.hid (show mountM B = none from by rw [mountM_bare HSM.out, hq])
    have HAN := Lib.hid (show erM B = 2 ∧ stM B = st0 from ⟨by unfold erM; rw [if_pos HSE.out, HM.out]; rfl, by unfold stM; rw [if_pos HSE.out, HM.out]; rfl⟩)
    have hyb := Bx.new w6 #[.slice none 0 0, .int .i64 0, .slice none 0 0, .slice none 0 0, .int .i64 0, .int .i64 0] 34
    obtain ⟨y0, y1, y2, y3, y4, y5⟩ := st_at6 hyb
    obtain ⟨z0, z1, z2, z3, z4, z5⟩ := st_free6 hyb
    have zl := hyb.lt
    have hx7 := (Ext.refl w6).alloc (.cells #[.slice none 0 0, .int .i64 0, .slice none 0 0, .slice none 0 0, .int .i64 0, .int .i64 0] 34)
    have X7 := Lib.hid (X5.out.trans (hx6.trans hx7))
    have C7 := Lib.hid (C5.out.ext (hx6.trans hx7))
    obtain ⟨c0, c1, c2, c3, c4, c5⟩ := st_at6 C7.out
    obtain ⟨f0, f1, f2, f3, f4, f5⟩ := st_free6 C7.out
    clear hyb hx6 hx7 hq u0 u1 u2 t0 t1 t2 hw5
    unfold stZ
    gi_wp2
    have HB9 := st_set6 C7.out (.slice none 0 0) (.int .i64 0) (.slice none 0 0) (.slice none 0 0) (.int .i64 0) (.int .i64 0)
    obtain ⟨d0, d1, d2, d3, d4, d5⟩ := st_at6 HB9
    exact ⟨.tuple #[.agg #[.slice none 0 0, .int .i64 0, .slice none 0 0, .slice none 0 0, .int .i64 0, .int .i64 0], .int .i64 2], by simp [results, Tryz.f6, go_sem, d0, d1, d2, d3, d4, d5], .inl ⟨by rw [HAN.out.1], HAN.out.2⟩, (((((((Rx.refl (w.heap.size + 1) (w6.alloc (.cells #[.slice none 0 0, .int .i64 0, .slice none 0 0, .slice none 0 0, .int .i64 0, .int .i64 0] 34))).set 0 (.slice none 0 0)).set 1 (.int .i64 0)).set 2 (.slice none 0 0)).set 3 (.slice none 0 0)).set 4 (.int .i64 0)).set 5 (.int .i64 0)).over X7.out (by omega)⟩
  obtain ⟨hrl, hn0, tx, htx⟩ := bareN_ok hq
  obtain ⟨cf1, cf2, cf3⟩ := cells_facts B.length
  rw [← hrl] at hn0 cf2
  have hbn := cf2 hn0
  have hn60 : rs.length ≤ 60 := by unfold baseP areaP at hbn; omega
  obtain ⟨g0, hQ, hg0⟩ := own_some ho hn0
  subst hQ
  obtain ⟨HOK, hnn⟩ := msOk_cells (B := B) (base := baseP rs.length) htx hn60
  have HMO := Lib.hid HOK
  have HND := Lib.hid (cellsL_nodes (B := B) (base := baseP rs.length) (rs := rs) hbn hnn)
  have HMB := Lib.hid (mountM_bare HSM.out)
  rw [hq, ← hrl] at HMB
  simp only at HMB
  have hg0l := (ho.lt g0 rfl).2
  have hyb := Bx.new w6 #[.slice none 0 0, .int .i64 0, .slice none 0 0, .slice none 0 0, .int .i64 0, .int .i64 0] 34
  obtain ⟨y0, y1, y2, y3, y4, y5⟩ := st_at6 hyb
  obtain ⟨z0, z1, z2, z3, z4, z5⟩ := st_free6 hyb
  have zl := hyb.lt
  obtain ⟨W7, hW7⟩ : ∃ W, w6.alloc (.cells #[.slice (some ⟨g0, 0, none⟩) rs.length q, .int .i64 keep, .slice V vs.length cv, .slice L ts.length cl, .int .i64 next, .int .i64 g] 34) = W := ⟨_, rfl⟩
  obtain ⟨hx7, hz7, b7⟩ := bts1V hW7
  have S7 := Lib.hid b7
  have C7 := Lib.hid (C5.out.ext (hx6.trans hx7))
  have X7 := Lib.hid (X5.out.trans (hx6.trans hx7))
  have X57 := Lib.hid (hx6.trans hx7)
  have HO7 := Lib.hid (own_ext ho hx7)
  have HV7 := Lib.hid (own_ext hv hx7)
  have HL7 := Lib.hid (hl.ext hx7)
  obtain ⟨p0, p1, _⟩ := (D5.out.ext X57.out).read2
  obtain ⟨s0, s1, s2, s3, s4, s5⟩ := st_at6 b7.bx
  have HW7 := Lib.hid hW7
  have hsz : w.heap.size + 1 < w5.heap.size ∧ w5.heap.size ≤ w6.heap.size := ⟨by have := C5.out.lt; omega, hx6.size⟩
  clear hyb hx6 hx7 b7 hq ho hv hl u0 u1 u2 t0 t1 t2 hw5 htx cf1 cf2 cf3 hrl HOK
  gi_wp2_with (refine ⟨trivial, ?_⟩; gi_at_call 18; refine (mtNodes_in _ _ _ _ _ _ _ _ _ _).mono ?_; rintro e w' ⟨rfl, rfl⟩)
  try rw [HW7.out]
  obtain ⟨W8, hW8⟩ : ∃ W, (W7.alloc (.cells #[.slice DA B.length dc, .slice DA' 0 dc'] 25)).alloc (.cells #[.slice (some ⟨g0, 0, none⟩) rs.length q] 28) = W := ⟨_, rfl⟩
  obtain ⟨hx8, hz8, b8, b9⟩ := bts2V hW8
  try rw [hW8]
  have X8 := Lib.hid (X7.out.trans hx8)
  have X58 := Lib.hid (X57.out.trans hx8)
  have S8 := Lib.hid (S7.out.below hx8)
  have C8 := Lib.hid (C7.out.ext hx8)
  have HO8 := Lib.hid (own_ext HO7.out hx8)
  have HV8 := Lib.hid (own_ext HV7.out hx8)
  have HL8 := Lib.hid (HL7.out.ext hx8)
  have HB8 := Lib.hid b8
  have HB9 := Lib.hid b9
  clear hx8 p0 p1 s0 s1 s2 s3 s4 s5 y0 y1 y2 y3 y4 y5 z0 z1 z2 z3 z4 z5 zl hW7 hW8
  rw [hz7] at HB8 HB9 hz8
  have HJ8 := Lib.hid (show (MJ B rs w w5 b0 b1 g0 q w6.heap.size #[.slice (some ⟨g0, 0, none⟩) rs.length q, .int .i64 keep, .slice V vs.length cv, .slice L ts.length cl, .int .i64 next, .int .i64 g] V L cv cl vs ts) [] W8 from ⟨MHc.start HO8.out _, X8.out, S8.out, C8.out, HV8.out, HL8.out⟩)
  have hk8 : w6.heap.size + 1 + 2 = W8.heap.size := hz8.symm
  have hgw : w.heap.size + 1 < g0 := by omega
  have hNP := Lib.hid (fun (pre : List Nat) (x : Nat) (h : pre ++ [x] <+: placesK rs rs.length) => (show x < rs.length from by
    have h2 : x ∈ placesK rs rs.length := h.subset (by simp)
    unfold placesK at h2
    exact List.mem_range.1 (List.mem_filter.1 h2).1))
  refine range_ownV rfl (m := 3) (gf := 44) (lb := #[.pointer (some ⟨w6.heap.size + 1 + 1, 0, none⟩), .pointer (some ⟨w6.heap.size + 1, 0, none⟩)]) rfl (enters_of Tryz.func44 (by kernel_rfl) rfl)
    (mtNodes_seq w5 W8 B rs DA DA' dc dc' g0 rs.length q (w6.heap.size + 1 + 1) (w6.heap.size + 1) hBok hB135 rfl hn60 hbn X58.out HDA.out HDB.out HB9.out HB8.out) (Ext.refl _) X58.out.size (fun k hk => by omega) (fun x args W h => by obtain ⟨_, _, rfl, _⟩ := h; rfl)
    ((MJ B rs w w5 b0 b1 g0 q w6.heap.size #[.slice (some ⟨g0, 0, none⟩) rs.length q, .int .i64 keep, .slice V vs.length cv, .slice L ts.length cl, .int .i64 next, .int .i64 g] V L cv cl vs ts)) (fun _ _ _ => False) (fun s X Y h ho => h.outC X8.out.size ho) (fun _ _ _ _ h _ => h) (fun pre X h => h.hc.cells (cellsL_ref _ _ _ _)) (fun X hx => HJ8.out.ext' hx)
    (fun x a' X => ∃ Bn A5 m5 c5 lf, Bt X Bn 59 #[.bool lf, .slice A5 m5 c5] ∧ (ndPL (blk B (baseP rs.length + x)) = lf ∧ (ndPI (blk B (baseP rs.length + x))).length = m5) ∧ X.ownsRow w5.heap.size 146 2 (.slice A5 m5 c5) m5 (ivs (ndPI (blk B (baseP rs.length + x)))) ∧ a' = { tmps := #[Value.agg #[Value.slice A bn c, Value.slice A' ln c'], Value.pointer (some { block := w.heap.size, off := 0 }), Value.pointer (some { block := w.heap.size + 1, off := 0 }), Value.int IntKind.i64 0, Value.pointer (some { block := w2.heap.size, off := 0 }), Value.int IntKind.i64 0, Value.pointer (some { block := w6.heap.size, off := 0 }), .int .i64 x, .pointer (some ⟨Bn, 0, none⟩), Value.tuple #[Value.agg #[Value.int IntKind.i64 (g : Int), Value.int IntKind.i64 (z : Int), Value.int IntKind.i64 s], Value.int IntKind.i64 0], Value.agg #[Value.slice A bn c, Value.slice A' ln c'], Value.tuple #[Value.agg #[Value.int IntKind.i64 (g : Int), Value.int IntKind.i64 (z : Int), Value.int IntKind.i64 s], Value.int IntKind.i64 0], Value.agg #[Value.int IntKind.i64 (g : Int), Value.int IntKind.i64 (z : Int), Value.int IntKind.i64 s], Value.int IntKind.i64 0, Value.int IntKind.i64 0, Value.bool false, undef, undef, Value.agg #[Value.slice A bn c, Value.slice A' ln c'], Value.agg #[Value.slice DA B.length dc, Value.slice DA' 0 dc'], Value.tuple #[Value.agg #[Value.slice (some { block := g0, off := 0 }) rs.length q, Value.int IntKind.i64 keep, Value.slice V vs.length cv, Value.slice L ts.length cl, Value.int IntKind.i64 next, Value.int IntKind.i64 (g : Int)], Value.int IntKind.i64 0], Value.agg #[Value.slice DA B.length dc, Value.slice DA' 0 dc'], Value.agg #[Value.int IntKind.i64 (g : Int), Value.int IntKind.i64 (z : Int), Value.int IntKind.i64 s], Value.tuple #[Value.agg #[Value.slice (some { block := g0, off := 0 }) rs.length q, Value.int IntKind.i64 keep, Value.slice V vs.length cv, Value.slice L ts.length cl, Value.int IntKind.i64 next, Value.int IntKind.i64 (g : Int)], Value.int IntKind.i64 0], Value.agg #[Value.slice (some { block := g0, off := 0 }) rs.length q, Value.int IntKind.i64 keep, Value.slice V vs.length cv, Value.slice L ts.length cl, Value.int IntKind.i64 next, Value.int IntKind.i64 (g : Int)], Value.int IntKind.i64 0, Value.int IntKind.i64 0, Value.bool false, undef, undef, Value.agg #[Value.slice DA B.length dc, Value.slice DA' 0 dc'], Value.pointer (some { block := w6.heap.size, off := 0 }), Value.pointer (some { block := w6.heap.size, off := 0 }), Value.slice (some { block := g0, off := 0 }) rs.length q, Value.func (Fn.func 44) #[] #[Value.pointer (some { block := w6.heap.size + 1 + 1, off := 0 }), Value.pointer (some { block := w6.heap.size + 1, off := 0 })], .int .i64 x, .agg #[.bool lf, .slice A5 m5 c5], undef, undef, undef, undef, undef, undef, undef, undef, undef, undef, undef, undef], defers := [] })
    (fun x a' _ X Y ⟨Bn, A, m, c, lf, h1, h2, h3, h4⟩ ho => ⟨Bn, A, m, c, lf, bt_outC h1 ho, h2, own_outC h3 ho, h4⟩)
    ?assign ?body ?done ?stop
  case assign =>
    rintro l2 pre x args X K hj hz hp ⟨A9, c9, rfl, ho9⟩ hK
    have HOW := Lib.hid ho9
    obtain ⟨m9, hm9⟩ : ∃ m, (ndPI (blk B (baseP rs.length + x))).length = m := ⟨_, rfl⟩
    obtain ⟨lf, hlf⟩ : ∃ m, ndPL (blk B (baseP rs.length + x)) = m := ⟨_, rfl⟩
    rw [hm9] at HOW
    simp only [hm9, hlf]
    have HE := Lib.hid (And.intro hlf hm9)
    have hyb := Bx.new X #[.bool false, .slice none 0 0] 59
    obtain ⟨y0, y1⟩ : _ ∧ _ := ⟨hyb.at 0 _ rfl, hyb.at 1 _ rfl⟩
    have z0 := hyb.free 0
    have z1 := hyb.free 1
    have zl := hyb.lt
    have HX := Lib.hid (show Ext X (X.alloc (.cells #[.bool lf, .slice A9 m9 c9] 59)) from (Ext.refl X).alloc _)
    have HJ := Lib.hid (hj.ext' HX.out)
    have HKX := Lib.hid hK
    have HS0 := Lib.hid (Nat.le_trans X58.out.size hz)
    clear hj hK ho9 hm9 hlf hyb
    show Code.wpIn _ _ _ _ _ _ _
    gi_wp2
    exact HKX.out _ _ (Kp.ext _ HX.out HS0.out) HJ.out ⟨X.heap.size, A9, m9, c9, lf, Bt.new X _ _, HE.out, own_ext HOW.out HX.out, rfl⟩
  case body =>
    rintro l2 pre x a' X hj ⟨Bn, A9, m9, c9, lf, hbn9, he, ho9, rfl⟩ hz hp
    have hxl := hNP.out pre x hp
    have hxi : (x : Int) < (rs.length : Int) := by omega
    obtain ⟨pin, leaf, Ai, mi, ci, ⟨c0, c1⟩, c2, c3⟩ := hj.hc.cells (cellsL_ref B (baseP rs.length) rs pre) x hxl
    have f2 := hj.hc.free (x * 4 + 2)
    have f3 := hj.hc.free (x * 4 + 3)
    obtain ⟨x0, x1, _⟩ := hbn9.bx.read2
    have s0 := hj.st.bx.at 0 _ rfl
    have HJN := Lib.hid (hj.step hxl (by omega) hgw he.1 he.2 ho9)
    have HKP := Lib.hid (((Kp.refl w5.heap.size (fun k => (k = w6.heap.size + 1 + 1 ∨ k = w6.heap.size + 1) ∨ (W8.heap.size ≤ k ∧ k < W8.heap.size + 2)) X).trans (Kp.set X (k := g0) (by omega) (by omega) (x * 4 + 2) (.bool lf))).trans (Kp.set _ (k := g0) (by omega) (by omega) (x * 4 + 3) (.slice A9 m9 c9)))
    clear hj he ho9 hp hbn9 c0 c1
    gi_wp2
    exact ⟨HKP.out, HJN.out⟩
  case stop =>
    rintro D cd u X rfl hu h hK
    exact h.elim
  case done =>
    rintro D X rfl hj hK
    have HJ := Lib.hid hj
    have HK := Lib.hid hK
    obtain ⟨s0, s1, s2, s3, s4, s5⟩ := st_at6 hj.st.bx
    have HRT := Lib.hid (mtRight_any (some ⟨g0, 0, none⟩) V L (cellsL B (baseP rs.length) rs (placesK rs rs.length)) keep next (g : Int) vs ts q cv cl X HMO.out hj.hc.sl (own_sl hj.v) hj.l)
    rw [cellsL_len] at HRT
    have HQ : (wholeM (cellsL B (baseP rs.length) rs (placesK rs rs.length)) keep vs ts next g = true ∧ mountM B = some ⟨cellsL B (baseP rs.length) rs (placesK rs rs.length), keep, vs, ts.map tkB2, next, g⟩) ∨ (wholeM (cellsL B (baseP rs.length) rs (placesK rs rs.length)) keep vs ts next g = false ∧ mountM B = none) := by
      rcases HND.out with ⟨cc, h1, h2⟩ | ⟨h1, h2⟩
      · rw [HMB.out, h1, ← h2]
        simp only
        cases hw : wholeM (cellsL B (baseP rs.length) rs (placesK rs rs.length)) keep vs ts next g
        · exact .inr ⟨rfl, rfl⟩
        · exact .inl ⟨rfl, rfl⟩
      · right
        rw [HMB.out, h1]
        exact ⟨by rw [whole_chain, h2 keep]; rfl, rfl⟩
    clear hj hK
    rcases HQ with ⟨hw, hm⟩ | ⟨hw, hm⟩
    · rw [hw] at HRT
      have hst : stM B = ⟨cellsL B (baseP rs.length) rs (placesK rs rs.length), keep, vs, ts.map tkB2, next, g⟩ := by unfold stM; rw [if_pos HSE.out, hm]; rfl
      have her : erM B = 0 := by unfold erM; rw [if_pos HSE.out, hm]; rfl
      have HST := Lib.hid hst
      have HER := Lib.hid her
      clear hw hm hst her
      gi_wp2_with (refine ⟨trivial, ?_⟩; gi_at_call 12; refine stop_here ?_)
      refine stop_on ?_
      refine (callsIn_wide.2 HRT.out).mono ?_
      rintro e w9 ⟨rfl, hx9⟩
      have J9 := Lib.hid (HJ.out.ext' hx9)
      have K9 := Lib.hid ((hx9.block _ (Array.getElem?_eq_some_iff.1 HK.out).1).trans HK.out)
      have K9L := Lib.hid (Nat.lt_of_lt_of_le (Array.getElem?_eq_some_iff.1 HK.out).1 hx9.size)
      clear hx9 s0 s1 s2 s3 s4 s5
      obtain ⟨s0, s1, s2, s3, s4, s5⟩ := st_at6 J9.out.st.bx
      obtain ⟨c0, c1, c2, c3, c4, c5⟩ := st_at6 J9.out.res
      obtain ⟨f0, f1, f2, f3, f4, f5⟩ := st_free6 J9.out.res
      dsimp only
      gi_wp2
      have HY := Lib.hid (((((((Rx.refl (w.heap.size + 1) w9).set 0 (.slice (some ⟨g0, 0, none⟩) rs.length q)).set 1 (.int .i64 keep)).set 2 (.slice V vs.length cv)).set 3 (.slice L ts.length cl)).set 4 (.int .i64 next)).set 5 (.int .i64 g))
      have hD := (HY.out.block W8.heap.size K9L.out (by omega)).trans K9.out
      have F := J9.out.fin (by omega) (by omega) hsz.1 HY.out (D := W8.heap.size) X8.out.size (o := .deferred none) hD
      have HB9 := st_set6 J9.out.res (.slice (some ⟨g0, 0, none⟩) rs.length q) (.int .i64 keep) (.slice V vs.length cv) (.slice L ts.length cl) (.int .i64 next) (.int .i64 g)
      have HB10 := fun o' => bx_outC HB9 (OutC.put (n := w.heap.size) (o' := o') X8.out.size hD (fun _ _ _ e => by cases e))
      obtain ⟨d0, d1, d2, d3, d4, d5⟩ := st_at6 (HB10 (.deferred none))
      refine ⟨by simp, .inl ⟨_, _, rfl, run_takeDeferred hD, ?_⟩⟩
      exact ⟨.tuple #[.agg #[.slice (some ⟨g0, 0, none⟩) rs.length q, .int .i64 keep, .slice V vs.length cv, .slice L ts.length cl, .int .i64 next, .int .i64 g], .int .i64 0], by simp [results, Tryz.f6, go_sem, d0, d1, d2, d3, d4, d5], .inr ⟨some ⟨g0, 0, none⟩, V, L, q, cv, cl, by rw [HST.out]; unfold MSt.val; simp only [cellsL_len, List.length_map], HER.out, by rw [HST.out]; exact ⟨F.1.sl, own_sl F.2.1, by simp only [List.length_map]; exact F.2.2.1⟩⟩, F.2.2.2⟩
    · rw [hw] at HRT
      have HAN := Lib.hid (show erM B = 2 ∧ stM B = st0 from ⟨by unfold erM; rw [if_pos HSE.out, hm]; rfl, by unfold stM; rw [if_pos HSE.out, hm]; rfl⟩)
      clear hw hm
      gi_wp2_with (refine ⟨trivial, ?_⟩; gi_at_call 12; refine stop_here ?_)
      refine stop_on ?_
      refine (callsIn_wide.2 HRT.out).mono ?_
      rintro e w9 ⟨rfl, hx9⟩
      have J9 := Lib.hid (HJ.out.ext' hx9)
      have K9 := Lib.hid ((hx9.block _ (Array.getElem?_eq_some_iff.1 HK.out).1).trans HK.out)
      have K9L := Lib.hid (Nat.lt_of_lt_of_le (Array.getElem?_eq_some_iff.1 HK.out).1 hx9.size)
      clear hx9 s0 s1 s2 s3 s4 s5
      obtain ⟨s0, s1, s2, s3, s4, s5⟩ := st_at6 J9.out.st.bx
      obtain ⟨c0, c1, c2, c3, c4, c5⟩ := st_at6 J9.out.res
      obtain ⟨f0, f1, f2, f3, f4, f5⟩ := st_free6 J9.out.res
      dsimp only
      gi_wp2
      have HY := Lib.hid (((((((Rx.refl (w.heap.size + 1) w9).set 0 (.slice none 0 0)).set 1 (.int .i64 0)).set 2 (.slice none 0 0)).set 3 (.slice none 0 0)).set 4 (.int .i64 0)).set 5 (.int .i64 0))
      have hD := (HY.out.block W8.heap.size K9L.out (by omega)).trans K9.out
      have F := J9.out.fin (by omega) (by omega) hsz.1 HY.out (D := W8.heap.size) X8.out.size (o := .deferred none) hD
      have HB9 := st_set6 J9.out.res (.slice none 0 0) (.int .i64 0) (.slice none 0 0) (.slice none 0 0) (.int .i64 0) (.int .i64 0)
      have HB10 := fun o' => bx_outC HB9 (OutC.put (n := w.heap.size) (o' := o') X8.out.size hD (fun _ _ _ e => by cases e))
      obtain ⟨d0, d1, d2, d3, d4, d5⟩ := st_at6 (HB10 (.deferred none))
      refine ⟨by simp, .inl ⟨_, _, rfl, run_takeDeferred hD, ?_⟩⟩
      exact ⟨.tuple #[.agg #[.slice none 0 0, .int .i64 0, .slice none 0 0, .slice none 0 0, .int .i64 0, .int .i64 0], .int .i64 2], by simp [results, Tryz.f6, go_sem, d0, d1, d2, d3, d4, d5], .inl ⟨by rw [HAN.out.1], HAN.out.2⟩, F.2.2.2⟩
end Go.Proofs.YtjbfopnkeclfgaaGreat
namespace Go.Proofs.YtjbfopnkeclfgaaGreat
set_option maxRecDepth 20000
open Go.RowKit
attribute [local go_sem ↓] Go.wp_at_zero Go.wp_at_succ

theorem st0_at (w : World) : st0.at w none none none 0 0 0 := ⟨⟨rfl, [], Sl.nil w, HcAt.nil w⟩, Sl.nil w, Sl.nil w⟩
theorem mtMount_any (A A' : Option Addr) (b : List ByteArray) (l : List Wr) (c c' : Nat) (w : World) (hr : rightS b l = true) (hb : b.length ≤ 135) (hl : l.length ≤ 200) (hA : Sl w A b.length c (b.map sv)) (hA' : Sl w A' l.length c' (wvs l)) :
    Calls Tryz.prog 6 #[.agg #[.slice A b.length c, .slice A' l.length c']] w fun e w' => ∃ R V L q cv cl, e = .returned (.tuple #[(stM (writeL b l)).val R V L q cv cl, .int .i64 (erM (writeL b l))]) ∧ (stM (writeL b l)).at w' R V L q cv cl ∧ Ext w w' := by
  refine (mtMount_ans A A' b l c c' w hr hb hl hA hA').mono ?_
  rintro e w' ⟨(⟨rfl, hs⟩ | ⟨R, V, L, q, cv, cl, rfl, he, hat⟩), hx⟩
  · rw [hs]
    exact ⟨none, none, none, 0, 0, 0, rfl, st0_at w', hx⟩
  · exact ⟨R, V, L, q, cv, cl, by rw [he], hat, hx⟩
theorem mountM_ok {B : List ByteArray} {c : List HC} {kp : Int} {v : List It} {l : List Tk} {next gen : Int} (h : mountM B = some ⟨c, kp, v, l, next, gen⟩) (hB : B.length ≤ 135) : ∃ ts : List (Nat × Nat), l = ts.map tkB2 ∧ MsOk c v ts ∧ wholeM c kp v ts next gen = true := by
  have hn : cellsP B.length ≤ 60 := by
    obtain ⟨c1, c2, c3⟩ := cells_facts B.length
    by_cases h0 : cellsP B.length = 0
    · omega
    · have := c2 (by omega)
      unfold baseP areaP at this
      omega
  unfold mountM at h
  split at h
  · cases h
  · split at h
    · cases h
    · next hb =>
      split at h
      · cases h
      · next hr =>
        split at h
        · cases h
        · next hc =>
          split at h
          · next hw =>
            cases h
            exact ⟨_, rfl, msOk_of hb hc (by
              have : ¬ _ := fun hq => hr (.inr hq)
              omega), hw⟩
          · cases h
/-- How many of the first cells are used. -/
def usedK (c : List HC) (k : Nat) : Nat := ((c.take k).filter (fun c => decide (0 < c.ref))).length
theorem usedK_yes {c : List HC} {k : Nat} (hk : k < c.length) (h : 0 < c[k].ref) : usedK c (k + 1) = usedK c k + 1 := by
  unfold usedK
  rw [List.take_succ_eq_append_getElem hk, List.filter_append, List.filter_cons, if_pos (decide_eq_true h)]
  simp
theorem usedK_no {c : List HC} {k : Nat} (hk : k < c.length) (h : ¬ 0 < c[k].ref) : usedK c (k + 1) = usedK c k := by
  unfold usedK
  rw [List.take_succ_eq_append_getElem hk, List.filter_append, List.filter_cons, if_neg (by simpa using h)]
  simp
theorem usedK_le (c : List HC) (k : Nat) : usedK c k ≤ k := by
  unfold usedK
  exact Nat.le_trans (List.length_filter_le _ _) (by rw [List.length_take]; omega)
set_option maxRecDepth 100000 in
set_option maxHeartbeats 1600000 in
theorem mtCheck_any (A A' : Option Addr) (b : List ByteArray) (l : List Wr) (c c' : Nat) (w : World) (hr : rightS b l = true) (hb : b.length ≤ 135) (hl : l.length ≤ 200) (hA : Sl w A b.length c (b.map sv)) (hA' : Sl w A' l.length c' (wvs l)) :
    Calls Tryz.prog 10 #[.agg #[.slice A b.length c, .slice A' l.length c']] w fun e w' => e = .returned (.tuple #[.int .i64 (usedM (stM (writeL b l))), .int .i64 (erM (writeL b l))]) ∧ Ext w w' := by
  have RM := Lib.hid (fun w' (hx : Ext w w') => mtMount_any A A' b l c c' w' hr hb hl (hA.ext hx) (hA'.ext hx))
  have HU := Lib.hid (show usedM (stM (writeL b l)) = usedK (stM (writeL b l)).c (stM (writeL b l)).c.length from by unfold usedM usedK; rw [List.take_length])
  rw [HU.out]
  generalize writeL b l = B at *
  generalize erM B = er at *
  clear HU
  generalize stM B = s at *
  obtain ⟨cs, keep, vs, ls, next, gen⟩ := s
  unfold MSt.val at RM
  simp only at RM ⊢
  obtain ⟨n, hn⟩ : ∃ n, cs.length = n := ⟨_, rfl⟩
  have HN := Lib.hid hn
  rw [hn] at RM ⊢
  generalize b.length = bn at *
  generalize l.length = ln at *
  obtain ⟨W1, hW1⟩ : ∃ W, w.alloc (.cells #[.slice A bn c, .slice A' ln c'] 25) = W := ⟨_, rfl⟩
  obtain ⟨hx1, hb0⟩ := allocs1 hW1
  have HX1 := Lib.hid hx1
  have HW1 := Lib.hid hW1
  obtain ⟨p0, p1, z2⟩ := hb0.read2
  clear hA hA' hx1 hb0 hW1 hr hb hl
  go_enter Tryz.func10, Tryz.ntmps10
  go_wp2_with (go_at_call 6; refine stop_here ?_)
  refine stop_on ?_
  rw [HW1.out]
  refine (RM.out _ HX1.out).mono ?_
  rintro e w2 ⟨R, V, L, q, cv, cl, rfl, ⟨hC, -, -⟩, hx2⟩
  simp only at hC ⊢
  have hnl : n ≤ maxLen := by obtain ⟨_, _, hsl, _⟩ := hC; rw [← hn]; exact hsl.len
  unfold maxLen at hnl
  rw [hn] at hC
  generalize vs.length = m at *
  generalize ls.length = t at *
  have hyb := Bx.new w2 #[.slice none 0 0, .int .i64 0, .slice none 0 0, .slice none 0 0, .int .i64 0, .int .i64 0] 34
  obtain ⟨y0, y1, y2, y3, y4, y5⟩ := st_at6 hyb
  obtain ⟨z0, z1, z2', z3, z4, z5⟩ := st_free6 hyb
  have zl := hyb.lt
  obtain ⟨W3, hW3⟩ : ∃ W, w2.alloc (.cells #[.slice R n q, .int .i64 keep, .slice V m cv, .slice L t cl, .int .i64 next, .int .i64 gen] 34) = W := ⟨_, rfl⟩
  obtain ⟨hx3, hb3⟩ := allocs1 hW3
  obtain ⟨s0, s1, s2, s3, s4, s5⟩ := st_at6 hb3
  have X3 := Lib.hid (HX1.out.trans (hx2.trans hx3))
  have HC := Lib.hid (hC.ext hx3)
  have HW3 := Lib.hid hW3
  clear hC hn hx2 hx3 hyb hb3 p0 p1 z2
  go_wp2_with fail
  try rw [HW3.out]
  go_loopw [6, 18] (fun u i wr => ∃ k : Nat, k ≤ n ∧ i = .int .i64 k ∧ u = .int .i64 (usedK cs k : Nat) ∧ Ext W3 wr) (fun _ i _ => n - (intOf i).toNat)
  case atStart => exact ⟨0, Nat.zero_le _, rfl, rfl, Ext.refl _⟩
  case round =>
    obtain ⟨k, hk, rfl, rfl, hx⟩ := hrel
    have HX := Lib.hid hx
    rcases Nat.lt_or_ge k n with hlt | hge
    · have hkl : k < cs.length := by rw [HN.out]; exact hlt
      obtain ⟨bb, off, rfl, _, Ai, ci, r0, r1, r2, r3, _⟩ := (HC.out.ext hx).cell hkl
      have hki : (k : Int) < (n : Int) := by omega
      have HY := Lib.hid (fun h => usedK_yes (c := cs) hkl h)
      have HZ := Lib.hid (fun h => usedK_no (c := cs) hkl h)
      have hul := usedK_le cs k
      generalize cs[k] = x at *
      obtain ⟨xr, xp, xl, it⟩ := x
      simp only at r0 r1 r2 r3 HY HZ
      generalize it.length = mi at *
      have hyb := Bx.new wr #[.int .i64 0, .bool false, .bool false, .slice none 0 0] 61
      obtain ⟨u0, u1, u2, u3⟩ : _ ∧ _ ∧ _ ∧ _ := ⟨hyb.at 0 _ rfl, hyb.at 1 _ rfl, hyb.at 2 _ rfl, hyb.at 3 _ rfl⟩
      have g0 := hyb.free 0
      have g1 := hyb.free 1
      have g2 := hyb.free 2
      have g3 := hyb.free 3
      have gl := hyb.lt
      obtain ⟨W4, hW4⟩ : ∃ W, wr.alloc (.cells #[.int .i64 xr, .bool xp, .bool xl, .slice Ai mi ci] 61) = W := ⟨_, rfl⟩
      obtain ⟨hx4, hb4⟩ := allocs1 hW4
      have q0 := hb4.at 0 _ rfl
      have X4 := Lib.hid (HX.out.trans hx4)
      obtain ⟨kk, hkk⟩ : ∃ kk, usedK cs k = kk := ⟨_, rfl⟩
      rw [hkk] at HY HZ hul
      rw [hkk]
      have hw1 : IntKind.i64.wrap ((kk : Int) + 1) = ((kk + 1 : Nat) : Int) := by rw [IntKind.wrap_i64]; omega
      clear hyb hx4 hb4 hkk hx
      by_cases h0 : 0 < xr
      · have d0 : decide (0 < xr) = true := decide_eq_true h0
        have HE := Lib.hid (HY.out h0)
        clear HY HZ
        go_wp2_with fail
        go_roundw
        case rel => exact ⟨k + 1, by omega, by go_num, by rw [HE.out]; first | rfl | (congr 1; omega), by first | exact X4.out | (rw [hW4]; exact X4.out)⟩
        case measure => simp [intOf]; omega
      · have d0 : decide (0 < xr) = false := decide_eq_false h0
        have HE := Lib.hid (HZ.out h0)
        clear HY HZ
        go_wp2_with fail
        go_roundw
        case rel => exact ⟨k + 1, by omega, by go_num, by rw [HE.out], by first | exact X4.out | (rw [hW4]; exact X4.out)⟩
        case measure => simp [intOf]; omega
    · obtain rfl : n = k := by omega
      clear hge
      go_wp2
      refine bodyPost_ret (v := .tuple #[.int .i64 (usedK cs n : Nat), .int .i64 er]) (by simp [results, Tryz.results10, go_sem]) rfl ⟨rfl, X3.out.trans HX.out⟩
/-- Right of a state that a disk tells. -/
theorem mtRight_st (B : List ByteArray) (R V L : Option Addr) (q cv cl : Nat) (w : World) (hB : okD B) (he : erM B = 0) (h : (stM B).at w R V L q cv cl) :
    Calls Tryz.prog 12 #[(stM B).val R V L q cv cl] w fun e w' => e = .returned (.bool true) ∧ Ext w w' := by
  obtain ⟨_, s, h1, h2⟩ := erM_some he
  rw [h2] at h ⊢
  obtain ⟨c, keep, vs, l, next, gen⟩ := s
  obtain ⟨ts, k1, k2, k3⟩ := mountM_ok h1 hB.2.1
  subst k1
  obtain ⟨h3, h4, h5⟩ := h
  simp only [List.length_map] at h3 h4 h5
  unfold MSt.val
  simp only [List.length_map]
  have hh := mtRight_any R V L c keep next gen vs ts q cv cl w k2 h3 h4 h5
  rw [k3] at hh
  exact hh
theorem mtRight_zero (w : World) : Calls Tryz.prog 12 #[.agg #[.slice none 0 0, .int .i64 0, .slice none 0 0, .slice none 0 0, .int .i64 0, .int .i64 0]] w fun e w' => e = .returned (.bool false) ∧ Ext w w' := by
  have hh := mtRight_any none none none [] 0 0 0 [] [] 0 0 0 w ⟨by decide, fun y hy => (by cases hy), fun y hy => (by cases hy), by decide, by decide, fun y hy => (by cases hy)⟩ ⟨rfl, [], Sl.nil w, HcAt.nil w⟩ (Sl.nil w) (Sl.nil w)
  rw [show wholeM [] 0 [] [] 0 0 = false from by decide +kernel] at hh
  exact hh
theorem mtC : MtC where
  mount := mtMount_any
  super := mtSuper_any
  check := mtCheck_any
  right := mtRight_st
  right0 := mtRight_zero
end Go.Proofs.YtjbfopnkeclfgaaGreat
