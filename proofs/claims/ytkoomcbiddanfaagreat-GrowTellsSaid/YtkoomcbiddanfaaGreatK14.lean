/- Alloc, once more: where the new heap's cells lie, and their items. -/
import Derived.Test.YtkoomcbiddanfaaGreatK12
namespace Go.Proofs.YtkoomcbiddanfaaGreat
open Go.RowKit

/-- A slice of cells, newer than w, whose items lie in the elder world v, or are newer than w, too. -/
def HcN (v w w' : World) (S : Option Addr) (n d : Nat) (l : List HC) : Prop := n = l.length ∧ (∀ p, S = some p → w.heap.size ≤ p.block) ∧ ∃ cs, Sl w' S n d cs ∧ cs.length = l.length * 4 ∧
  ∀ i (h : i < l.length), ∃ A c, cs[i * 4]? = some (.int .i64 l[i].ref) ∧ cs[i * 4 + 1]? = some (.bool l[i].pin) ∧ cs[i * 4 + 2]? = some (.bool l[i].leaf) ∧ cs[i * 4 + 3]? = some (.slice A l[i].it.length c) ∧ (Sl v A l[i].it.length c (ivs l[i].it) ∨ (Sl w' A l[i].it.length c (ivs l[i].it) ∧ ∀ p, A = some p → w.heap.size ≤ p.block))
theorem HcN.sl {v w w' : World} {S : Option Addr} {n d : Nat} {l : List HC} (h : HcN v w w' S n d l) (hx : Ext v w') : HcSl w' S n d l := by
  obtain ⟨h1, _, cs, h2, h3, h4⟩ := h
  refine ⟨h1, cs, h2, h3, fun i hi => ?_⟩
  obtain ⟨A, c, e1, e2, e3, e4, h5⟩ := h4 i hi
  refine ⟨A, c, e1, e2, e3, e4, ?_⟩
  rcases h5 with h5 | h5
  · exact h5.ext hx
  · exact h5.1
theorem HcN.of {v w w' : World} {cs : List Value} {l : List HC} (h : HcAt v cs l) {p : Nat} (hp : p < l.length) (x : HC) {A : Option Addr} {c : Nat} (hs : Sl w' A x.it.length c (ivs x.it)) (hA : ∀ q, A = some q → w.heap.size ≤ q.block)
    {S : Option Addr} {n d : Nat} (hS : Sl w' S n d ((((cs.set (p * 4) (.int .i64 x.ref)).set (p * 4 + 1) (.bool x.pin)).set (p * 4 + 2) (.bool x.leaf)).set (p * 4 + 3) (.slice A x.it.length c))) (hn : n = (l.set p x).length) (hSp : ∀ q, S = some q → w.heap.size ≤ q.block) : HcN v w w' S n d (l.set p x) := by
  have hl := h.1
  refine ⟨hn, hSp, _, hS, by simp [hl], fun i hi => ?_⟩
  rw [List.length_set] at hi
  by_cases hip : p = i
  · subst hip
    rw [List.getElem_set_self]
    refine ⟨A, c, ?_, ?_, ?_, ?_, .inr ⟨hs, hA⟩⟩ <;> simp [List.getElem?_set] <;> omega
  · rw [List.getElem_set_ne hip]
    obtain ⟨B, d, e1, e2, e3, e4, h5⟩ := h.2 i hi
    refine ⟨B, d, ?_, ?_, ?_, ?_, .inl h5⟩
    · rw [List.getElem?_set_ne (by omega), List.getElem?_set_ne (by omega), List.getElem?_set_ne (by omega), List.getElem?_set_ne (by omega)]; exact e1
    · rw [List.getElem?_set_ne (by omega), List.getElem?_set_ne (by omega), List.getElem?_set_ne (by omega), List.getElem?_set_ne (by omega)]; exact e2
    · rw [List.getElem?_set_ne (by omega), List.getElem?_set_ne (by omega), List.getElem?_set_ne (by omega), List.getElem?_set_ne (by omega)]; exact e3
    · rw [List.getElem?_set_ne (by omega), List.getElem?_set_ne (by omega), List.getElem?_set_ne (by omega), List.getElem?_set_ne (by omega)]; exact e4
theorem HcN.map {v w w' w2 : World} {S : Option Addr} {n d : Nat} {l : List HC} (h : HcN v w w' S n d l) (hS : ∀ cs, Sl w' S n d cs → cs.length = l.length * 4 → (∀ i (hi : i < l.length), cs[i * 4]? = some (.int .i64 l[i].ref)) → (∀ p, S = some p → w.heap.size ≤ p.block) → Sl w2 S n d cs)
    (hI : ∀ A m c (it : List It), Sl w' A m c (ivs it) → (∀ p, A = some p → w.heap.size ≤ p.block) → Sl w2 A m c (ivs it)) : HcN v w w2 S n d l := by
  obtain ⟨h1, h0, cs, h2, h3, h4⟩ := h
  refine ⟨h1, h0, cs, hS cs h2 h3 (fun i hi => by obtain ⟨_, _, e, _⟩ := h4 i hi; exact e) h0, h3, fun i hi => ?_⟩
  obtain ⟨A, c, e1, e2, e3, e4, h5⟩ := h4 i hi
  exact ⟨A, c, e1, e2, e3, e4, h5.imp id (fun h => ⟨hI _ _ _ _ h.1 h.2, h.2⟩)⟩
theorem HcN.boxed2 {v w w' : World} {R : Option Addr} {m q : Nat} {l : List HC} (h : HcN v w w' R m q l) (hx : Ext v w') {k : Nat} {A1 : Option Addr} {n1 c1 : Nat} {z : Int} (hb : Bx w' k #[.slice A1 n1 c1, .int .i64 z]) (x y : Value) :
    HcN v w ((w'.setCell ⟨k, 0, none⟩ x).setCell ⟨k, 1, none⟩ y) R m q l := by
  have hs := h.sl hx
  obtain ⟨h1, h0, cs, h2, h3, h4⟩ := h
  refine ⟨h1, h0, cs, ?_, h3, fun i hi => ?_⟩
  · refine h2.grown (grown_store2 w' k x y) (fun hx p hp e => ?_)
    obtain ⟨b, off, e', hlt, hc⟩ := h2.cells hx
    rw [hp] at e'
    cases e'
    have hpos : 0 < l.length := by
      rcases Nat.eq_zero_or_pos l.length with h0 | h0
      · rw [h0] at h3; exact absurd (List.eq_nil_of_length_eq_zero h3) hx
      · exact h0
    obtain ⟨A, c, e1, e2, _⟩ := h4 0 hpos
    have g0 := hc _ _ e1
    have g1 := hc _ _ e2
    simp only [Nat.zero_mul, Nat.add_zero, Nat.zero_add] at g0 g1
    exact no_box hb g0 g1 (Option.some.inj e)
  · obtain ⟨A, c, e1, e2, e3, e4, h5⟩ := h4 i hi
    exact ⟨A, c, e1, e2, e3, e4, h5.imp id (fun h => ⟨h.1.boxed2 hb x y, h.2⟩)⟩
/-- Behind an append onto a row that is newer than v and elder than w. -/
theorem HcN.app {v w w' w2 : World} {b g : Nat} {keep : Int} {S : Option Addr} {n d : Nat} {l : List HC} (h : HcN v w w' S n d l) (hg : Gx b keep v w') (hr : w'.grownBy w2 (some g)) (h1 : v.heap.size ≤ g) (h2 : g < w.heap.size) : HcSl w2 S n d l := by
  obtain ⟨e0, e1, cs, e2, e3, e4⟩ := h
  refine ⟨e0, cs, e2.grown hr (fun _ p hp e => ?_), e3, fun i hi => ?_⟩
  · have := e1 p hp
    cases e
    omega
  · obtain ⟨A, c, f1, f2, f3, f4, h5⟩ := e4 i hi
    refine ⟨A, c, f1, f2, f3, f4, ?_⟩
    rcases h5 with h5 | ⟨h5, h6⟩
    · refine (hg.its h5).grown hr (fun hne p hp e => ?_)
      obtain ⟨k, off, e', hlt, _⟩ := h5.cells hne
      rw [hp] at e'
      cases e'
      cases e
      simp only at h1
      omega
    · refine h5.grown hr (fun _ p hp e => ?_)
      have := h6 p hp
      cases e
      omega
set_option maxRecDepth 100000 in
set_option maxHeartbeats 6400000 in
theorem heapAlloc_own (R : Option Addr) (l : List HC) (n q : Nat) (keep : Int) (v w : World) (hv : Ext v w) (leaf : Bool) (A : Option Addr) (it : List It) (m c : Nat) (H : Option Addr) (held : List Int) (t d : Nat) (hright : rightH ⟨l, keep⟩ = true) (hm10 : m ≤ 10) (_ht20 : t ≤ 20) (hA : HcSl v R n q l) (hm : m = it.length) (hI : Sl w A m c (ivs it)) (ht : t = held.length) (hH : Sl w H t d (held.map iv)) :
    Calls Tryz.prog 76 #[.agg #[.slice R n q, .int .i64 keep], .agg #[.bool leaf, .slice A m c], .slice H t d] w fun e w' => ∃ S d, e = .returned (.tuple #[.agg #[.slice S n d, .int .i64 keep], .int .i64 (allocP l leaf it : Nat), .int .i64 (allocE l leaf it)]) ∧ HcSl w' S n d (allocL l leaf it held) ∧ (allocE l leaf it = 0 → HcN v w w' S n d (allocL l leaf it held)) ∧ Ext w w' := by
  have hn := hA.1
  have hn2 := (rightH_iff hright).1.1.2
  have hrf : ∀ k (hk : k < l.length), 0 ≤ l[k].ref ∧ l[k].ref ≤ 2147483647 := fun k hk => by
    have h1 := (rightH_iff hright).2 k hk
    unfold cellR at h1
    split at h1
    · rename_i e; omega
    · simp only [Bool.and_eq_true, decide_eq_true_eq] at h1; omega
  obtain ⟨W, hW⟩ : ∃ W, ((w.alloc (.cells #[.slice R n q, .int .i64 keep] 24)).alloc (.cells #[.bool leaf, .slice A m c] 48)).alloc (.cells #[.slice none 0 0, .int .i64 0] 24) = W := ⟨_, rfl⟩
  obtain ⟨hx0, hb0, hb1, hb2⟩ := allocs3 hW
  have hsz : W.heap.size = w.heap.size + 1 + 1 + 1 := by rw [← hW]; simp
  have HX := Lib.hid hx0
  have HB0 := Lib.hid hb0
  have HB1 := Lib.hid hb1
  have HB2 := Lib.hid hb2
  have HSZ := Lib.hid hsz
  have HA := Lib.hid hA
  have HV := Lib.hid hv
  have HR := Lib.hid (fun w' (hx : Ext W w') => nodeRight_any leaf A it m c w' hm (hI.ext (hx0.trans hx)))
  have HTD := Lib.hid (fun w' (hx : Ext W w') => hpTold_any leaf A it m c w' hm (by omega) (hI.ext (hx0.trans hx)))
  have HAU := Lib.hid (fun S t d w' (hx : Ext W w') (ht : t = (toldL leaf it).length) (hS : Sl w' S t d ((toldL leaf it).map iv)) => hpAllUsed_any R l n q S (toldL leaf it) t d w' (hA.ext (hv.trans (hx0.trans hx))) ht hS)
  have hlt := leads_told l leaf it
  rw [← hlt] at HAU
  have HIX := Lib.hid (fun w' (hx : Ext W w') => hpFirst_any R l n q w' (hA.ext (hv.trans (hx0.trans hx))))
  obtain ⟨p0, p1, p2⟩ := hb0.read2
  obtain ⟨q0, q1, q2⟩ := hb1.read2
  obtain ⟨good, hgood⟩ : ∃ g, (ndR it && leadsC l leaf it) = g := ⟨_, rfl⟩
  have HGOOD := Lib.hid hgood
  have HRF := Lib.hid hrf
  have HN := Lib.hid hn
  have HM := Lib.hid hm
  have HI := Lib.hid hI
  have HT := Lib.hid ht
  have HH := Lib.hid hH
  clear hv hx0 hb0 hb1 hb2 hA hsz hright hlt hrf hn hm hI ht hH hgood
  subst hW
  go_enter Tryz.func76, Tryz.ntmps76
  go_wp2_with fail
  generalize hW : World.alloc (World.alloc (World.alloc w _) _) _ = W at *
  clear hW
  go_cut [20] from 10 to 20 (fun v wx => v = .bool (!good) ∧ Ext W wx)
  case first =>
    obtain ⟨u, hu⟩ : ∃ u, ndR it = u := ⟨_, rfl⟩
    obtain ⟨u2, hu2⟩ : ∃ u2, leadsC l leaf it = u2 := ⟨_, rfl⟩
    have hg := HGOOD.out
    rw [hu, hu2] at hg
    rw [hu] at HR
    rw [hu2] at HAU
    have HG := Lib.hid hg
    clear hu hu2 hg HGOOD
    cases u
    · have HG2 := Lib.hid (show good = false from HG.out.symm)
      first
      | go_region_with
        (first
          | ((go_at_call 68
              refine (HR.out _ ?_).mono ?_
              (first | exact (Ext.refl _).drew | exact Ext.refl _)
              rintro e w1 ⟨rfl, hx⟩
              have HX1 := Lib.hid (show Ext W w1 from by first | exact (Ext.refl _).drew.trans hx | exact hx)
              clear hx)))
      | fail
      all_goals
        go_wp2_with fail
        go_meet
        exact ⟨by rw [HG2.out]; rfl, HX1.out⟩
    · have HG2 := Lib.hid (show good = u2 from HG.out.symm)
      go_region_law
        (first
          | ((go_simp
              go_at_call 68
              refine (HR.out _ ?_).mono ?_
              (first | exact (Ext.refl _).drew | exact Ext.refl _)
              rintro e w1 ⟨rfl, hx⟩
              have HX1 := Lib.hid (show Ext W w1 from by first | exact (Ext.refl _).drew.trans hx | exact hx)
              obtain ⟨c0, c1, c2⟩ := (HB0.out.ext HX1.out).read2
              obtain ⟨d0, d1, d2⟩ := (HB1.out.ext HX1.out).read2
              clear hx))
          | ((go_simp
              go_at_call 91
              refine (HTD.out _ HX1.out).mono ?_
              rintro e w2 ⟨S, t2, d9, rfl, ht2, ho2, hx⟩
              have HX2 := Lib.hid (HX1.out.trans hx)
              have HT2 := Lib.hid ht2
              have HS2 := Lib.hid (own_sl ho2)
              obtain ⟨e0, e1, e2⟩ := (HB0.out.ext HX2.out).read2
              clear hx ht2 ho2))
          | ((go_simp
              go_at_call 92
              refine (HAU.out _ _ _ _ HX2.out HT2.out HS2.out).mono ?_
              rintro e w3 ⟨rfl, hx⟩
              have HX3 := Lib.hid (HX2.out.trans hx)
              clear hx)))
      all_goals
        go_wp2_with fail
        go_meet
        exact ⟨by rw [HG2.out], HX3.out⟩
  case rest =>
    obtain ⟨rfl, hx1⟩ := hcut
    have HX1 := Lib.hid hx1
    have HC0 := Lib.hid (HB0.out.ext hx1)
    have HC1 := Lib.hid (HB1.out.ext hx1)
    have HC2 := Lib.hid (HB2.out.ext hx1)
    clear p0 p1 p2 q0 q1 q2 hx1 HB0 HB1 HB2 HR HAU
    obtain ⟨p0, p1, p2⟩ := HC0.out.read2
    obtain ⟨q0, q1, q2⟩ := HC1.out.read2
    obtain ⟨t0, t1, t2⟩ := HC2.out.read2
    obtain ⟨y0, y1⟩ := HC2.out.free2
    cases good
    · obtain ⟨e1, e2, e3⟩ := alloc_bad (held := held) HGOOD.out
      have HE := Lib.hid (And.intro e1 (And.intro e2 e3))
      clear e1 e2 e3
      go_wp2_with fail
      refine ret2_cell (k := w.heap.size + 1 + 1) (x := .slice R n q) (y := .int .i64 keep) (v := .tuple #[.agg #[.slice R n q, .int .i64 keep], .int .i64 0, .int .i64 1]) ?hb4 (fun r0 r1 => by simp [results, Tryz.results76, go_sem, r0, r1]) rfl ?hx4
      case hb4 => exact HC2.out.set2 _ _
      case hx4 => rw [HE.out.1, HE.out.2.1, HE.out.2.2]; exact ⟨R, q, rfl, (HA.out.ext (HV.out.trans (HX.out.trans HX1.out))).boxed2 HC2.out _ _, fun h => absurd h (by decide), (HX.out.trans HX1.out).store2 (by omega) _ _⟩
    · have hf3 := first_idx (l := l) (fun k hk => (HRF.out k hk).1)
      have HF3 := Lib.hid hf3
      clear hf3
      obtain ⟨z, hz⟩ : ∃ z, idxBy freeC l = z := ⟨_, rfl⟩
      rw [hz] at HIX HF3
      clear hz
      have HLD := Lib.hid (show (toldL leaf it).all (usedC l) = true from by
        have h := HGOOD.out
        rw [Bool.and_eq_true] at h
        rw [← leads_told]; exact h.2)
      go_wp2_with (go_at_call 93; refine stop_here ?_)
      refine stop_on ?_
      refine (HIX.out _ HX1.out).mono ?_
      rintro e w3 ⟨rfl, hx⟩
      have HX3 := Lib.hid (HX1.out.trans hx)
      have HD0 := Lib.hid (HC0.out.ext hx)
      have HD1 := Lib.hid (HC1.out.ext hx)
      have HD2 := Lib.hid (HC2.out.ext hx)
      clear p0 p1 p2 q0 q1 q2 t0 t1 t2 y0 y1 hx HC0 HC1 HC2 HX1 HIX
      obtain ⟨p0, p1, p2⟩ := HD0.out.read2
      obtain ⟨q0, q1, q2⟩ := HD1.out.read2
      rcases HF3.out with ⟨hf, rfl⟩ | ⟨hf, rfl⟩
      · obtain ⟨e1, e2, e3⟩ := alloc_full (held := held) HGOOD.out hf
        have HE := Lib.hid (And.intro e1 (And.intro e2 e3))
        obtain ⟨t0, t1, t2⟩ := HD2.out.read2
        obtain ⟨y0, y1⟩ := HD2.out.free2
        clear e1 e2 e3 hf HF3
        go_wp2_with fail
        refine ret2_cell (k := w.heap.size + 1 + 1) (x := .slice R n q) (y := .int .i64 keep) (v := .tuple #[.agg #[.slice R n q, .int .i64 keep], .int .i64 0, .int .i64 3]) ?hb4 (fun r0 r1 => by simp [results, Tryz.results76, go_sem, r0, r1]) rfl ?hx4
        case hb4 => exact HD2.out.set2 _ _
        case hx4 => rw [HE.out.1, HE.out.2.1, HE.out.2.2]; exact ⟨R, q, rfl, (HA.out.ext (HV.out.trans (HX.out.trans HX3.out))).boxed2 HD2.out _ _, fun h => absurd h (by decide), (HX.out.trans HX3.out).store2 (by omega) _ _⟩
      obtain ⟨k, hk⟩ : ∃ k, firstF l = k := ⟨_, rfl⟩
      rw [hk] at hf HF3
      obtain ⟨e1, e2, e3⟩ := alloc_ok (held := held) HGOOD.out hf hk
      have HE := Lib.hid (And.intro e1 (And.intro e2 e3))
      have hkn : k < n := by rw [HN.out]; exact hf
      rw [hk]
      clear e1 e2 e3 hk HF3
      have d0 : decide ((k : Int) < 0) = false := decide_eq_false (by omega)
      have hki : (k : Int) < (n : Int) := by omega
      have hn90 : n ≤ 90000 := by rw [HN.out]; omega
      have hwl := HX.out.size
      have HWO := Lib.hid (fun S t2 d2 w4 (hx : Ext w3 w4) (ht2 : t2 = (toldL leaf it).length) (ho : w4.ownsRow w3.heap.size 3 1 (.slice S t2 d2) t2 ((toldL leaf it).map iv)) => hpWithout_any w3.heap.size S (toldL leaf it) t2 d2 H held t d w4 ht2 ho HT.out (HH.out.ext (HX.out.trans (HX3.out.trans hx))) (fun hne p hp e => by
        have h1 := (ho.lt _ e).1
        have h2 := (HH.out.cells.apart (g := p.block) (by have := (HX.out.trans HX3.out).size; omega)) hne p hp
        exact h2 rfl))
      have HCH := Lib.hid (fun S w5 d2 (hx : Ext w w5) (hS : Sl w5 S ((toldL leaf it).filter (fun x => !inL held x)).length d2 (((toldL leaf it).filter (fun x => !inL held x)).map iv)) => hpChangedHold_any v R l n q keep S ((toldL leaf it).filter (fun x => !inL held x)) _ d2 moreI w5 (HV.out.trans hx) hn90 HA.out rfl hS (fun lj j hj g wr e ho => by
        have hmem := List.getElem_mem hj
        have hus : usedC l ((toldL leaf it).filter (fun x => !inL held x))[j] = true := (List.all_eq_true.1 HLD.out) _ (List.mem_filter.1 hmem).1
        obtain ⟨k9, hk9, e9, _⟩ := usedC_iff hus
        rw [e9]
        have hlj : lj.length = l.length := by rw [e]; exact more_len _ _
        have hk8 : k9 < lj.length := by rw [hlj]; exact hk9
        have hps : (((toldL leaf it).filter (fun x => !inL held x)).take j).length ≤ 10 := by
          have h1 := List.length_filter_le (fun x => !inL held x) (toldL leaf it)
          have h2 : (toldL leaf it).length ≤ it.length := by unfold toldL; split <;> simp
          have h3 := HM.out
          rw [List.length_take]
          omega
        have hr := more_ref (((toldL leaf it).filter (fun x => !inL held x)).take j) l 2147483647 HRF.out k9 (by rw [more_len]; exact hk9)
        have hr2 : 0 ≤ lj[k9].ref ∧ lj[k9].ref ≤ 2147483647 + ((((toldL leaf it).filter (fun x => !inL held x)).take j).length : Int) := by
          subst e; exact hr
        have h := hpHold_at v g n k9 lj n wr (by rw [hlj]; exact HN.out) hk8 (by omega) ho
        unfold moreI
        rw [Int.toNat_natCast, List.getD_eq_getElem?_getD, List.getElem?_eq_getElem hk8, Option.getD_some]
        exact h))
      rw [more_told] at HCH
      obtain ⟨l1, hl1⟩ : ∃ l1, (if leaf then l else moreL held l it) = l1 := ⟨_, rfl⟩
      rw [hl1] at HCH HE
      have hl1n : l1.length = n := by
        rw [← hl1, ← more_told, more_len, HN.out]
      have HL1 := Lib.hid hl1n
      have HT3 := Lib.hid (fun w' (hx : Ext w3 w') => HTD.out w' (HX3.out.trans hx))
      clear hl1 hl1n HTD HLD HRF hf
      generalize toldL leaf it = tl at *
      generalize tl.filter _ = ps at *
      go_wp2_with fail
      go_cut [33] from 28 to 33 (fun _ wx => ∃ g, w.heap.size + 1 + 1 + 1 ≤ g ∧ Own v wx g n l1 ∧ Ext w wx ∧ Bx wx w.heap.size #[.slice (some ⟨g, 0, none⟩) n n, .int .i64 keep] ∧ Bx wx (w.heap.size + 1) #[.bool leaf, .slice A m c] ∧ Bx wx (w.heap.size + 1 + 1) #[.slice none 0 0, .int .i64 0])
      case first =>
        first
        | go_region_law
          (first
            | ((go_simp
                go_at_call 91
                refine (HT3.out _ ?_).mono ?_
                (first | exact (Ext.refl _).drew | exact Ext.refl _)
                rintro e w4 ⟨S, t2, d2, rfl, ht2, ho2, hx⟩
                have HX4 := Lib.hid (show Ext w3 w4 from by first | exact (Ext.refl _).drew.trans hx | exact hx)
                have HO2 := Lib.hid (show w4.ownsRow w3.heap.size 3 1 (.slice S t2 d2) t2 (tl.map iv) from ho2)
                have HT2 := Lib.hid ht2
                obtain ⟨c0, c1, c2⟩ := (HD0.out.ext HX4.out).read2
                clear hx ht2 ho2))
            | ((go_simp
                go_at_call 95
                refine (HWO.out _ _ _ _ HX4.out HT2.out HO2.out).mono ?_
                rintro e w5 ⟨rfl, hs5, hg5⟩
                have HS5 := Lib.hid hs5
                have HX5 := Lib.hid (Ext.app HX4.out HO2.out (Nat.le_refl _) hg5)
                have HE0 := Lib.hid (HD0.out.ext HX5.out)
                obtain ⟨e0, e1, e2⟩ := HE0.out.read2
                clear hs5 hg5))
            | ((go_simp
                go_at_call 90
                refine (HCH.out _ _ _ (HX.out.trans (HX3.out.trans HX5.out)) HS5.out).mono ?_
                rintro e w6 ⟨g, rfl, hg6, ho6, hx⟩
                have HX6 := Lib.hid (HX5.out.trans hx)
                have HO6 := Lib.hid ho6
                have hgw : w.heap.size + 1 + 1 + 1 ≤ g := by have h1 := HSZ.out; have h2 := HX3.out.size; have h3 := HX5.out.size; omega
                have hb6 := HD0.out.ext HX6.out
                have HB6 := Lib.hid hb6
                obtain ⟨t0, t1, t2⟩ := hb6.read2
                obtain ⟨y0, y1⟩ := hb6.free2
                clear hg6 ho6 hx hb6)))
        | fail
        all_goals
          go_wp2_with fail
          go_meet
          have hvw := HV.out.size
          exact ⟨g, hgw, (HO6.out.other (p := ⟨w.heap.size, 0, none⟩) (by simp; omega) (by simp; omega) _).other (p := ⟨w.heap.size, 1, none⟩) (by simp; omega) (by simp; omega) _, (HX.out.trans (HX3.out.trans HX6.out)).store2 (k := w.heap.size) (Nat.le_refl _) _ _, HB6.out.set2 _ _, ((HD1.out.ext HX6.out).set_other (p := ⟨w.heap.size, 0, none⟩) (by simp) _).set_other (p := ⟨w.heap.size, 1, none⟩) (by simp) _, ((HD2.out.ext HX6.out).set_other (p := ⟨w.heap.size, 0, none⟩) (by simp; omega) _).set_other (p := ⟨w.heap.size, 1, none⟩) (by simp; omega) _⟩
      case rest =>
        obtain ⟨g, hgw, ho6, hxw, hb60, hb61, hb62⟩ := hcut
        have HXW := Lib.hid hxw
        have HO6 := Lib.hid ho6
        have HE0 := Lib.hid hb60
        have HE1 := Lib.hid hb61
        have HE2 := Lib.hid hb62
        have hgl := ho6.ge.2
        have HCP := Lib.hid (fun w' (hx : Ext wc w') => hpCopiedI_any A it m c w' HM.out (by omega) (HI.out.ext (HXW.out.trans hx)))
        clear p0 p1 p2 q0 q1 q2 ho6 hxw hb60 hb61 hb62 HT3 HWO HCH HD0 HD1 HD2
        obtain ⟨p0, p1, p2⟩ := HE0.out.read2
        obtain ⟨q0, q1, q2⟩ := HE1.out.read2
        have hk1 : k < l1.length := by rw [HL1.out]; exact hkn
        have HRD := Lib.hid (fun w' (hx : Ext wc w') => (show (∃ a b c d, (w'.cell? ⟨g, k * 4, none⟩ = some a ∧ w'.cell? ⟨g, k * 4 + 1, none⟩ = some b) ∧ (w'.cell? ⟨g, k * 4 + 2, none⟩ = some c ∧ w'.cell? ⟨g, k * 4 + 3, none⟩ = some d)) ∧ (w'.frozen? ⟨g, k * 4, none⟩ = false ∧ w'.frozen? ⟨g, k * 4 + 1, none⟩ = false) ∧ (w'.frozen? ⟨g, k * 4 + 2, none⟩ = false ∧ w'.frozen? ⟨g, k * 4 + 3, none⟩ = false) from by
          have h := HO6.out.ext hx
          obtain ⟨A, c, r0, r1, r2, r3, _⟩ := h.cell (k := k) hk1
          exact ⟨⟨_, _, _, _, ⟨r0, r1⟩, r2, r3⟩, ⟨h.free _, h.free _⟩, h.free _, h.free _⟩))
        have HFIN := Lib.hid (fun w' S9 d9 (hx : Ext wc w') (ho : w'.ownsRow wc.heap.size 26 2 (.slice S9 m d9) m (ivs it)) => (show HcN v w ((((w'.setCell ⟨g, k * 4, none⟩ (.int .i64 1)).setCell ⟨g, k * 4 + 1, none⟩ (.bool false)).setCell ⟨g, k * 4 + 2, none⟩ (.bool leaf)).setCell ⟨g, k * 4 + 3, none⟩ (.slice S9 m d9)) (some ⟨g, 0, none⟩) n n (l1.set k ⟨1, false, leaf, it⟩) ∧ Ext w ((((w'.setCell ⟨g, k * 4, none⟩ (.int .i64 1)).setCell ⟨g, k * 4 + 1, none⟩ (.bool false)).setCell ⟨g, k * 4 + 2, none⟩ (.bool leaf)).setCell ⟨g, k * 4 + 3, none⟩ (.slice S9 m d9)) from by
          obtain ⟨cs, h1, h2, h3⟩ := HO6.out.ext hx
          have hwg : w.heap.size ≤ g := by omega
          have h3w := HXW.out.trans hx
          have hxf := (((h3w.set (p := ⟨g, k * 4, none⟩) hwg (.int .i64 1)).set (p := ⟨g, k * 4 + 1, none⟩) hwg (.bool false)).set (p := ⟨g, k * 4 + 2, none⟩) hwg (.bool leaf)).set (p := ⟨g, k * 4 + 3, none⟩) hwg (.slice S9 m d9)
          rw [HL1.out] at h1
          have h4 := own_hc h1 hkn (.int .i64 1) (.bool false) (.bool leaf) (.slice S9 m d9)
          have h5 := (own_sl ho).grown (grown_hc w' g (k * 4) (k * 4 + 1) (k * 4 + 2) (k * 4 + 3) (.int .i64 1) (.bool false) (.bool leaf) (.slice S9 m d9)) (own_apart ho hgl)
          have hws := HXW.out.size
          exact ⟨HcN.of (w := w) h2 hk1 ⟨1, false, leaf, it⟩ (A := S9) (c := d9) (by rw [← HM.out]; exact h5) (fun p e => by subst e; exact Nat.le_trans hws (ho.lt _ rfl).1) (by rw [← HM.out]; exact own_sl h4) (by rw [List.length_set]; exact HL1.out.symm) (fun p e => by cases e; exact hwg), hxf⟩))
        have hne0 : ¬ g = w.heap.size := by omega
        have hne1 : ¬ g = w.heap.size + 1 := by omega
        have hne2 : ¬ g = w.heap.size + 1 + 1 := by omega
        clear hk1
        go_wp2_with fail
        go_cut [43] from 34 to 44 (fun _ wx => HcN v w wx (some ⟨g, 0, none⟩) n n (l1.set k ⟨1, false, leaf, it⟩) ∧ Ext w wx ∧ Bx wx w.heap.size #[.slice (some ⟨g, 0, none⟩) n n, .int .i64 keep] ∧ Bx wx (w.heap.size + 1 + 1) #[.slice none 0 0, .int .i64 0])
        case first =>
          first
          | go_region_law
            (first
              | ((go_simp
                  go_at_call 96
                  refine (HCP.out _ ?_).mono ?_
                  (first | exact (Ext.refl _).drew | exact Ext.refl _)
                  rintro e w7 ⟨S9, d9, rfl, ho9, hx⟩
                  have HX7 := Lib.hid (show Ext wc w7 from by first | exact (Ext.refl _).drew.trans hx | exact hx)
                  have HO9 := Lib.hid (show w7.ownsRow wc.heap.size 26 2 (.slice S9 m d9) m (ivs it) from ho9)
                  obtain ⟨c0, c1, c2⟩ := (HE0.out.ext HX7.out).read2
                  obtain ⟨d0, d1, d2⟩ := (HE1.out.ext HX7.out).read2
                  obtain ⟨⟨v0, v1, v2, v3, ⟨z0, z1⟩, z2, z3⟩, ⟨q0, q1⟩, q2, q3⟩ := HRD.out w7 HX7.out
                  clear hx ho9)))
          | fail
          all_goals
            go_wp2_with fail
            go_meet
            exact ⟨(HFIN.out w7 S9 d9 HX7.out HO9.out).1, (HFIN.out w7 S9 d9 HX7.out HO9.out).2, (HE0.out.ext HX7.out).grown (grown_hc _ _ _ _ _ _ _ _ _ _) (by simpa using hne0), (HE2.out.ext HX7.out).grown (grown_hc _ _ _ _ _ _ _ _ _ _) (by simpa using hne2)⟩
        case rest =>
          obtain ⟨hs7, hx7, hb70, hb72⟩ := hcut
          have HS7 := Lib.hid hs7
          have HX7 := Lib.hid hx7
          have HF2 := Lib.hid hb72
          clear p0 p1 p2 q0 q1 q2 hs7 hx7
          obtain ⟨p0, p1, p2⟩ := hb70.read2
          obtain ⟨t0, t1, t2⟩ := hb72.read2
          obtain ⟨y0, y1⟩ := hb72.free2
          clear hb70 hb72
          go_wp2_with fail
          refine ret2_cell (k := w.heap.size + 1 + 1) (x := .slice (some ⟨g, 0, none⟩) n n) (y := .int .i64 keep) (v := .tuple #[.agg #[.slice (some ⟨g, 0, none⟩) n n, .int .i64 keep], .int .i64 k, .int .i64 0]) ?hb4 (fun r0 r1 => by simp [results, Tryz.results76, go_sem, r0, r1]) rfl ?hx4
          case hb4 => exact HF2.out.set2 _ _
          case hx4 => rw [HE.out.1, HE.out.2.1, HE.out.2.2]; exact ⟨_, _, rfl, (HS7.out.sl (HV.out.trans HX7.out)).boxed2 HF2.out _ _, fun _ => HS7.out.boxed2 (HV.out.trans HX7.out) HF2.out _ _, HX7.out.store2 (by omega) _ _⟩
end Go.Proofs.YtkoomcbiddanfaaGreat
