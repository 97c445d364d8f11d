/- The walk of Alloc of package heap. -/
import Derived.Test.YtbfbpddfcakieaaGreatK09
import Derived.Deep.CutRange
namespace Go.Proofs.YtbfbpddfcakieaaGreat
open Go.RowKit
attribute [local go_sem ↓] Go.wp_at_zero Go.wp_at_succ

theorem idx_casesA {α : Type} {f : α → Bool} (l : List α) : (idxBy f l = -1 ∧ ∀ j (hj : j < l.length), f l[j] = false) ∨ ∃ i, ∃ hi : i < l.length, idxBy f l = (i : Int) ∧ f l[i] = true ∧ ∀ j (hj : j < l.length), j < i → f l[j] = false := by
  by_cases h : l.any f = true
  · right
    have h1 : l.findIdx f < l.length := List.findIdx_lt_length_of_exists (by simpa using h)
    refine ⟨l.findIdx f, h1, by unfold idxBy; rw [if_pos h], List.findIdx_getElem, fun j hj hji => ?_⟩
    have := List.not_of_lt_findIdx hji
    simpa using this
  · left
    have h1 : ∀ j (hj : j < l.length), f l[j] = false := fun j hj => by
      cases hq : f l[j]
      · rfl
      · exact absurd (List.any_eq_true.2 ⟨l[j], List.getElem_mem hj, hq⟩) h
    exact ⟨idx_none h1, h1⟩
theorem free_stop {c : HC} (h : 0 ≤ c.ref) : stopC c = freeC c := by
  unfold stopC freeC
  rcases Int.lt_or_le 0 c.ref with h1 | h1
  · rw [decide_eq_true h1, decide_eq_false (by omega)]; rfl
  · rw [decide_eq_false (by omega), decide_eq_true (show c.ref = 0 by omega)]; simp
theorem first_idx {l : List HC} (h : ∀ k (hk : k < l.length), 0 ≤ l[k].ref) : (firstF l = l.length ∧ idxBy freeC l = -1) ∨ (firstF l < l.length ∧ idxBy freeC l = ((firstF l : Nat) : Int)) := by
  rcases idx_casesA (f := freeC) l with ⟨e, h1⟩ | ⟨i, hi, e, h1, h2⟩
  · exact .inl ⟨first_no (fun j hj => by rw [free_stop (h j hj)]; exact h1 j hj), e⟩
  · have hf : firstF l = i := first_at hi (fun j hj hji => by rw [free_stop (h j hj)]; exact h2 j hj hji) (by rw [free_stop (h i hi)]; exact h1)
    exact .inr ⟨by omega, by rw [hf]; exact e⟩
theorem leads_told (l : List HC) (leaf : Bool) (it : List It) : leadsC l leaf it = (toldL leaf it).all (usedC l) := by
  unfold leadsC toldL
  cases leaf
  · simp [List.all_map, Function.comp_def]
  · rfl
def moreI (g : List HC) (p : Int) : List HC := g.set p.toNat (g.getD p.toNat HC.none).more
theorem more_told (held : List Int) (l : List HC) (leaf : Bool) (it : List It) : ((toldL leaf it).filter (fun x => !inL held x)).foldl moreI l = if leaf then l else moreL held l it := by
  unfold toldL
  cases leaf
  · simp only [Bool.false_eq_true, if_false]
    rw [List.foldl_filter, List.foldl_map]
    unfold moreL moreI
    congr 1
    funext g x
    cases inL held x.2 <;> rfl
  · rfl
theorem more_len (ps : List Int) (l : List HC) : (ps.foldl moreI l).length = l.length :=
  foldl_inv (P := fun g : List HC => g.length = l.length) (g := moreI) (fun b a hb => by unfold moreI; rw [List.length_set]; exact hb) _ _ rfl
theorem getD_at' {l : List HC} {k : Nat} (hk : k < l.length) : l.getD k HC.none = l[k] := by rw [List.getD_eq_getElem?_getD, List.getElem?_eq_getElem hk]; rfl
theorem more_ref : ∀ (ps : List Int) (l : List HC) (B : Int), (∀ k (hk : k < l.length), 0 ≤ l[k].ref ∧ l[k].ref ≤ B) → ∀ k (hk : k < (ps.foldl moreI l).length), 0 ≤ (ps.foldl moreI l)[k].ref ∧ (ps.foldl moreI l)[k].ref ≤ B + ps.length
  | [], l, B, h, k, hk => by
    have := h k hk
    simp only [List.foldl_nil, List.length_nil]
    omega
  | p :: ps, l, B, h, k, hk => by
    have h2 := more_ref ps (moreI l p) (B + 1) (fun j hj => by
      unfold moreI at hj ⊢
      rw [List.length_set] at hj
      rw [List.getElem_set]
      split
      · rename_i e
        subst e
        rw [getD_at' hj]
        unfold HC.more
        have := h _ hj
        simp only
        omega
      · have := h j hj; omega) k hk
    simp only [List.foldl_cons, List.length_cons]
    omega
set_option maxRecDepth 100000 in
set_option maxHeartbeats 6400000 in
theorem heapAlloc_right (R : Option Addr) (l : List HC) (n q : Nat) (keep : Int) (w : World) (leaf : Bool) (A : Option Addr) (it : List It) (m c : Nat) (H : Option Addr) (held : List Int) (t d : Nat) (hright : rightH ⟨l, keep⟩ = true) (hm10 : m ≤ 10) (_ht20 : t ≤ 20) (hA : HcSl w R n q l) (hm : m = it.length) (hI : Sl w A m c (ivs it)) (ht : t = held.length) (hH : Sl w H t d (held.map iv)) :
    Calls Tryz.prog 48 #[.agg #[.slice R n q, .int .i64 keep], .agg #[.bool leaf, .slice A m c], .slice H t d] w fun e w' => ∃ S d, e = .returned (.tuple #[.agg #[.slice S n d, .int .i64 keep], .int .i64 (allocP l leaf it : Nat), .int .i64 (allocE l leaf it)]) ∧ HcSl w' S n d (allocL l leaf it held) ∧ Ext w w' := by
  have hn := hA.1
  have hn2 := (rightH_iff hright).1.1.2
  have hrf : ∀ k (hk : k < l.length), 0 ≤ l[k].ref ∧ l[k].ref ≤ 2147483647 := fun k hk => by
    have h1 := (rightH_iff hright).2 k hk
    unfold cellR at h1
    split at h1
    · rename_i e; omega
    · simp only [Bool.and_eq_true, decide_eq_true_eq] at h1; omega
  obtain ⟨W, hW⟩ : ∃ W, ((w.alloc (.cells #[.slice R n q, .int .i64 keep] 24)).alloc (.cells #[.bool leaf, .slice A m c] 51)).alloc (.cells #[.slice none 0 0, .int .i64 0] 24) = W := ⟨_, rfl⟩
  obtain ⟨hx0, hb0, hb1, hb2⟩ := allocs3 hW
  have hsz : W.heap.size = w.heap.size + 1 + 1 + 1 := by rw [← hW]; simp
  have HX := Lib.hid hx0
  have HB0 := Lib.hid hb0
  have HB1 := Lib.hid hb1
  have HB2 := Lib.hid hb2
  have HSZ := Lib.hid hsz
  have HA := Lib.hid hA
  have HR := Lib.hid (fun w' (hx : Ext W w') => nodeRight_any leaf A it m c w' hm (hI.ext (hx0.trans hx)))
  have HTD := Lib.hid (fun w' (hx : Ext W w') => hpTold_any leaf A it m c w' hm (by omega) (hI.ext (hx0.trans hx)))
  have HAU := Lib.hid (fun S t d w' (hx : Ext W w') (ht : t = (toldL leaf it).length) (hS : Sl w' S t d ((toldL leaf it).map iv)) => hpAllUsed_any R l n q S (toldL leaf it) t d w' (hA.ext (hx0.trans hx)) ht hS)
  have hlt := leads_told l leaf it
  rw [← hlt] at HAU
  have HIX := Lib.hid (fun w' (hx : Ext W w') => hpFirst_any R l n q w' (hA.ext (hx0.trans hx)))
  obtain ⟨p0, p1, p2⟩ := hb0.read2
  obtain ⟨q0, q1, q2⟩ := hb1.read2
  obtain ⟨good, hgood⟩ : ∃ g, (ndR it && leadsC l leaf it) = g := ⟨_, rfl⟩
  have HGOOD := Lib.hid hgood
  have HRF := Lib.hid hrf
  have HN := Lib.hid hn
  have HM := Lib.hid hm
  have HI := Lib.hid hI
  have HT := Lib.hid ht
  have HH := Lib.hid hH
  clear hx0 hb0 hb1 hb2 hA hsz hright hlt hrf hn hm hI ht hH hgood
  subst hW
  go_enter Tryz.func48, Tryz.ntmps48
  go_wp2_with fail
  generalize hW : World.alloc (World.alloc (World.alloc w _) _) _ = W at *
  clear hW
  go_cut [20] from 10 to 20 (fun v wx => v = .bool (!good) ∧ Ext W wx)
  case first =>
    obtain ⟨u, hu⟩ : ∃ u, ndR it = u := ⟨_, rfl⟩
    obtain ⟨u2, hu2⟩ : ∃ u2, leadsC l leaf it = u2 := ⟨_, rfl⟩
    have hg := HGOOD.out
    rw [hu, hu2] at hg
    rw [hu] at HR
    rw [hu2] at HAU
    have HG := Lib.hid hg
    clear hu hu2 hg HGOOD
    cases u
    · have HG2 := Lib.hid (show good = false from HG.out.symm)
      first
      | go_region_with
        (first
          | ((go_at_call 77
              refine (HR.out _ ?_).mono ?_
              (first | exact (Ext.refl _).drew | exact Ext.refl _)
              rintro e w1 ⟨rfl, hx⟩
              have HX1 := Lib.hid (show Ext W w1 from by first | exact (Ext.refl _).drew.trans hx | exact hx)
              clear hx)))
      | fail
      all_goals
        go_wp2_with fail
        go_meet
        exact ⟨by rw [HG2.out]; rfl, HX1.out⟩
    · have HG2 := Lib.hid (show good = u2 from HG.out.symm)
      go_region_law
        (first
          | ((go_simp
              go_at_call 77
              refine (HR.out _ ?_).mono ?_
              (first | exact (Ext.refl _).drew | exact Ext.refl _)
              rintro e w1 ⟨rfl, hx⟩
              have HX1 := Lib.hid (show Ext W w1 from by first | exact (Ext.refl _).drew.trans hx | exact hx)
              obtain ⟨c0, c1, c2⟩ := (HB0.out.ext HX1.out).read2
              obtain ⟨d0, d1, d2⟩ := (HB1.out.ext HX1.out).read2
              clear hx))
          | ((go_simp
              go_at_call 79
              refine (HTD.out _ HX1.out).mono ?_
              rintro e w2 ⟨S, t2, d9, rfl, ht2, ho2, hx⟩
              have HX2 := Lib.hid (HX1.out.trans hx)
              have HT2 := Lib.hid ht2
              have HS2 := Lib.hid (own_sl ho2)
              obtain ⟨e0, e1, e2⟩ := (HB0.out.ext HX2.out).read2
              clear hx ht2 ho2))
          | ((go_simp
              go_at_call 78
              refine (HAU.out _ _ _ _ HX2.out HT2.out HS2.out).mono ?_
              rintro e w3 ⟨rfl, hx⟩
              have HX3 := Lib.hid (HX2.out.trans hx)
              clear hx)))
      all_goals
        go_wp2_with fail
        go_meet
        exact ⟨by rw [HG2.out], HX3.out⟩
  case rest =>
    obtain ⟨rfl, hx1⟩ := hcut
    have HX1 := Lib.hid hx1
    have HC0 := Lib.hid (HB0.out.ext hx1)
    have HC1 := Lib.hid (HB1.out.ext hx1)
    have HC2 := Lib.hid (HB2.out.ext hx1)
    clear p0 p1 p2 q0 q1 q2 hx1 HB0 HB1 HB2 HR HAU
    obtain ⟨p0, p1, p2⟩ := HC0.out.read2
    obtain ⟨q0, q1, q2⟩ := HC1.out.read2
    obtain ⟨t0, t1, t2⟩ := HC2.out.read2
    obtain ⟨y0, y1⟩ := HC2.out.free2
    cases good
    · obtain ⟨e1, e2, e3⟩ := alloc_bad (held := held) HGOOD.out
      have HE := Lib.hid (And.intro e1 (And.intro e2 e3))
      clear e1 e2 e3
      go_wp2_with fail
      refine ret2_cell (k := w.heap.size + 1 + 1) (x := .slice R n q) (y := .int .i64 keep) (v := .tuple #[.agg #[.slice R n q, .int .i64 keep], .int .i64 0, .int .i64 1]) ?hb4 (fun r0 r1 => by simp [results, Tryz.results48, go_sem, r0, r1]) rfl ?hx4
      case hb4 => exact HC2.out.set2 _ _
      case hx4 => rw [HE.out.1, HE.out.2.1, HE.out.2.2]; exact ⟨R, q, rfl, (HA.out.ext (HX.out.trans HX1.out)).boxed2 HC2.out _ _, (HX.out.trans HX1.out).store2 (by omega) _ _⟩
    · have hf3 := first_idx (l := l) (fun k hk => (HRF.out k hk).1)
      have HF3 := Lib.hid hf3
      clear hf3
      obtain ⟨z, hz⟩ : ∃ z, idxBy freeC l = z := ⟨_, rfl⟩
      rw [hz] at HIX HF3
      clear hz
      have HLD := Lib.hid (show (toldL leaf it).all (usedC l) = true from by
        have h := HGOOD.out
        rw [Bool.and_eq_true] at h
        rw [← leads_told]; exact h.2)
      go_wp2_with (go_at_call 80; refine stop_here ?_)
      refine stop_on ?_
      refine (HIX.out _ HX1.out).mono ?_
      rintro e w3 ⟨rfl, hx⟩
      have HX3 := Lib.hid (HX1.out.trans hx)
      have HD0 := Lib.hid (HC0.out.ext hx)
      have HD1 := Lib.hid (HC1.out.ext hx)
      have HD2 := Lib.hid (HC2.out.ext hx)
      clear p0 p1 p2 q0 q1 q2 t0 t1 t2 y0 y1 hx HC0 HC1 HC2 HX1 HIX
      obtain ⟨p0, p1, p2⟩ := HD0.out.read2
      obtain ⟨q0, q1, q2⟩ := HD1.out.read2
      rcases HF3.out with ⟨hf, rfl⟩ | ⟨hf, rfl⟩
      · obtain ⟨e1, e2, e3⟩ := alloc_full (held := held) HGOOD.out hf
        have HE := Lib.hid (And.intro e1 (And.intro e2 e3))
        obtain ⟨t0, t1, t2⟩ := HD2.out.read2
        obtain ⟨y0, y1⟩ := HD2.out.free2
        clear e1 e2 e3 hf HF3
        go_wp2_with fail
        refine ret2_cell (k := w.heap.size + 1 + 1) (x := .slice R n q) (y := .int .i64 keep) (v := .tuple #[.agg #[.slice R n q, .int .i64 keep], .int .i64 0, .int .i64 3]) ?hb4 (fun r0 r1 => by simp [results, Tryz.results48, go_sem, r0, r1]) rfl ?hx4
        case hb4 => exact HD2.out.set2 _ _
        case hx4 => rw [HE.out.1, HE.out.2.1, HE.out.2.2]; exact ⟨R, q, rfl, (HA.out.ext (HX.out.trans HX3.out)).boxed2 HD2.out _ _, (HX.out.trans HX3.out).store2 (by omega) _ _⟩
      obtain ⟨k, hk⟩ : ∃ k, firstF l = k := ⟨_, rfl⟩
      rw [hk] at hf HF3
      obtain ⟨e1, e2, e3⟩ := alloc_ok (held := held) HGOOD.out hf hk
      have HE := Lib.hid (And.intro e1 (And.intro e2 e3))
      have hkn : k < n := by rw [HN.out]; exact hf
      rw [hk]
      clear e1 e2 e3 hk HF3
      have d0 : decide ((k : Int) < 0) = false := decide_eq_false (by omega)
      have hki : (k : Int) < (n : Int) := by omega
      have hn90 : n ≤ 90000 := by rw [HN.out]; omega
      have hwl := HX.out.size
      have HWO := Lib.hid (fun S t2 d2 w4 (hx : Ext w3 w4) (ht2 : t2 = (toldL leaf it).length) (ho : w4.ownsRow w3.heap.size 3 1 (.slice S t2 d2) t2 ((toldL leaf it).map iv)) => hpWithout_any w3.heap.size S (toldL leaf it) t2 d2 H held t d w4 ht2 ho HT.out (HH.out.ext (HX.out.trans (HX3.out.trans hx))) (fun hne p hp e => by
        have h1 := (ho.lt _ e).1
        have h2 := (HH.out.cells.apart (g := p.block) (by have := (HX.out.trans HX3.out).size; omega)) hne p hp
        exact h2 rfl))
      have HCH := Lib.hid (fun S w5 d2 (hx : Ext w w5) (hS : Sl w5 S ((toldL leaf it).filter (fun x => !inL held x)).length d2 (((toldL leaf it).filter (fun x => !inL held x)).map iv)) => hpChangedHold_any w R l n q keep S ((toldL leaf it).filter (fun x => !inL held x)) _ d2 moreI w5 hx hn90 HA.out rfl hS (fun lj j hj g wr e ho => by
        have hmem := List.getElem_mem hj
        have hus : usedC l ((toldL leaf it).filter (fun x => !inL held x))[j] = true := (List.all_eq_true.1 HLD.out) _ (List.mem_filter.1 hmem).1
        obtain ⟨k9, hk9, e9, _⟩ := usedC_iff hus
        rw [e9]
        have hlj : lj.length = l.length := by rw [e]; exact more_len _ _
        have hk8 : k9 < lj.length := by rw [hlj]; exact hk9
        have hps : (((toldL leaf it).filter (fun x => !inL held x)).take j).length ≤ 10 := by
          have h1 := List.length_filter_le (fun x => !inL held x) (toldL leaf it)
          have h2 : (toldL leaf it).length ≤ it.length := by unfold toldL; split <;> simp
          have h3 := HM.out
          rw [List.length_take]
          omega
        have hr := more_ref (((toldL leaf it).filter (fun x => !inL held x)).take j) l 2147483647 HRF.out k9 (by rw [more_len]; exact hk9)
        have hr2 : 0 ≤ lj[k9].ref ∧ lj[k9].ref ≤ 2147483647 + ((((toldL leaf it).filter (fun x => !inL held x)).take j).length : Int) := by
          subst e; exact hr
        have h := hpHold_at w g n k9 lj n wr (by rw [hlj]; exact HN.out) hk8 (by omega) ho
        unfold moreI
        rw [Int.toNat_natCast, List.getD_eq_getElem?_getD, List.getElem?_eq_getElem hk8, Option.getD_some]
        exact h))
      rw [more_told] at HCH
      obtain ⟨l1, hl1⟩ : ∃ l1, (if leaf then l else moreL held l it) = l1 := ⟨_, rfl⟩
      rw [hl1] at HCH HE
      have hl1n : l1.length = n := by
        rw [← hl1, ← more_told, more_len, HN.out]
      have HL1 := Lib.hid hl1n
      have HT3 := Lib.hid (fun w' (hx : Ext w3 w') => HTD.out w' (HX3.out.trans hx))
      clear hl1 hl1n HTD HLD HRF hf
      generalize toldL leaf it = tl at *
      generalize tl.filter _ = ps at *
      go_wp2_with fail
      go_cut [33] from 28 to 33 (fun _ wx => ∃ g, w.heap.size + 1 + 1 + 1 ≤ g ∧ Own w wx g n l1 ∧ Bx wx w.heap.size #[.slice (some ⟨g, 0, none⟩) n n, .int .i64 keep] ∧ Bx wx (w.heap.size + 1) #[.bool leaf, .slice A m c] ∧ Bx wx (w.heap.size + 1 + 1) #[.slice none 0 0, .int .i64 0])
      case first =>
        first
        | go_region_law
          (first
            | ((go_simp
                go_at_call 79
                refine (HT3.out _ ?_).mono ?_
                (first | exact (Ext.refl _).drew | exact Ext.refl _)
                rintro e w4 ⟨S, t2, d2, rfl, ht2, ho2, hx⟩
                have HX4 := Lib.hid (show Ext w3 w4 from by first | exact (Ext.refl _).drew.trans hx | exact hx)
                have HO2 := Lib.hid (show w4.ownsRow w3.heap.size 3 1 (.slice S t2 d2) t2 (tl.map iv) from ho2)
                have HT2 := Lib.hid ht2
                obtain ⟨c0, c1, c2⟩ := (HD0.out.ext HX4.out).read2
                clear hx ht2 ho2))
            | ((go_simp
                go_at_call 82
                refine (HWO.out _ _ _ _ HX4.out HT2.out HO2.out).mono ?_
                rintro e w5 ⟨rfl, hs5, hg5⟩
                have HS5 := Lib.hid hs5
                have HX5 := Lib.hid (Ext.app HX4.out HO2.out (Nat.le_refl _) hg5)
                have HE0 := Lib.hid (HD0.out.ext HX5.out)
                obtain ⟨e0, e1, e2⟩ := HE0.out.read2
                clear hs5 hg5))
            | ((go_simp
                go_at_call 81
                refine (HCH.out _ _ _ (HX.out.trans (HX3.out.trans HX5.out)) HS5.out).mono ?_
                rintro e w6 ⟨g, rfl, hg6, ho6, hx⟩
                have HX6 := Lib.hid (HX5.out.trans hx)
                have HO6 := Lib.hid ho6
                have hgw : w.heap.size + 1 + 1 + 1 ≤ g := by have h1 := HSZ.out; have h2 := HX3.out.size; have h3 := HX5.out.size; omega
                have hb6 := HD0.out.ext HX6.out
                have HB6 := Lib.hid hb6
                obtain ⟨t0, t1, t2⟩ := hb6.read2
                obtain ⟨y0, y1⟩ := hb6.free2
                clear hg6 ho6 hx hb6)))
        | fail
        all_goals
          go_wp2_with fail
          go_meet
          exact ⟨g, hgw, (HO6.out.other (p := ⟨w.heap.size, 0, none⟩) (by simp; omega) (by simp) _).other (p := ⟨w.heap.size, 1, none⟩) (by simp; omega) (by simp) _, HB6.out.set2 _ _, ((HD1.out.ext HX6.out).set_other (p := ⟨w.heap.size, 0, none⟩) (by simp) _).set_other (p := ⟨w.heap.size, 1, none⟩) (by simp) _, ((HD2.out.ext HX6.out).set_other (p := ⟨w.heap.size, 0, none⟩) (by simp; omega) _).set_other (p := ⟨w.heap.size, 1, none⟩) (by simp; omega) _⟩
      case rest =>
        obtain ⟨g, hgw, ho6, hb60, hb61, hb62⟩ := hcut
        have HO6 := Lib.hid ho6
        have HE0 := Lib.hid hb60
        have HE1 := Lib.hid hb61
        have HE2 := Lib.hid hb62
        have hgl := ho6.ge.2
        have HCP := Lib.hid (fun w' (hx : Ext wc w') => hpCopiedI_any A it m c w' HM.out (by omega) (HI.out.ext (ho6.ex.trans hx)))
        clear p0 p1 p2 q0 q1 q2 ho6 hb60 hb61 hb62 HT3 HWO HCH HD0 HD1 HD2
        obtain ⟨p0, p1, p2⟩ := HE0.out.read2
        obtain ⟨q0, q1, q2⟩ := HE1.out.read2
        have hk1 : k < l1.length := by rw [HL1.out]; exact hkn
        have HRD := Lib.hid (fun w' (hx : Ext wc w') => (show (∃ a b c d, (w'.cell? ⟨g, k * 4, none⟩ = some a ∧ w'.cell? ⟨g, k * 4 + 1, none⟩ = some b) ∧ (w'.cell? ⟨g, k * 4 + 2, none⟩ = some c ∧ w'.cell? ⟨g, k * 4 + 3, none⟩ = some d)) ∧ (w'.frozen? ⟨g, k * 4, none⟩ = false ∧ w'.frozen? ⟨g, k * 4 + 1, none⟩ = false) ∧ (w'.frozen? ⟨g, k * 4 + 2, none⟩ = false ∧ w'.frozen? ⟨g, k * 4 + 3, none⟩ = false) from by
          have h := HO6.out.ext hx
          obtain ⟨A, c, r0, r1, r2, r3, _⟩ := h.cell (k := k) hk1
          exact ⟨⟨_, _, _, _, ⟨r0, r1⟩, r2, r3⟩, ⟨h.free _, h.free _⟩, h.free _, h.free _⟩))
        have HFIN := Lib.hid (fun w' S9 d9 (hx : Ext wc w') (ho : w'.ownsRow wc.heap.size 46 2 (.slice S9 m d9) m (ivs it)) => (show HcSl ((((w'.setCell ⟨g, k * 4, none⟩ (.int .i64 1)).setCell ⟨g, k * 4 + 1, none⟩ (.bool false)).setCell ⟨g, k * 4 + 2, none⟩ (.bool leaf)).setCell ⟨g, k * 4 + 3, none⟩ (.slice S9 m d9)) (some ⟨g, 0, none⟩) n n (l1.set k ⟨1, false, leaf, it⟩) ∧ Ext w ((((w'.setCell ⟨g, k * 4, none⟩ (.int .i64 1)).setCell ⟨g, k * 4 + 1, none⟩ (.bool false)).setCell ⟨g, k * 4 + 2, none⟩ (.bool leaf)).setCell ⟨g, k * 4 + 3, none⟩ (.slice S9 m d9)) from by
          obtain ⟨cs, h1, h2, h3⟩ := HO6.out.ext hx
          have hwg : w.heap.size ≤ g := by omega
          have hxf := (((h3.set (p := ⟨g, k * 4, none⟩) hwg (.int .i64 1)).set (p := ⟨g, k * 4 + 1, none⟩) hwg (.bool false)).set (p := ⟨g, k * 4 + 2, none⟩) hwg (.bool leaf)).set (p := ⟨g, k * 4 + 3, none⟩) hwg (.slice S9 m d9)
          rw [HL1.out] at h1
          have h4 := own_hc h1 hkn (.int .i64 1) (.bool false) (.bool leaf) (.slice S9 m d9)
          have h5 := (own_sl ho).grown (grown_hc w' g (k * 4) (k * 4 + 1) (k * 4 + 2) (k * 4 + 3) (.int .i64 1) (.bool false) (.bool leaf) (.slice S9 m d9)) (own_apart ho hgl)
          have h6 := (h2.ext hxf).set hk1 ⟨1, false, leaf, it⟩ (A := S9) (c := d9) (by rw [← HM.out]; exact h5)
          rw [← HM.out] at h6
          exact ⟨⟨by rw [List.length_set]; exact HL1.out.symm, _, own_sl h4, h6⟩, hxf⟩))
        have hne0 : ¬ g = w.heap.size := by omega
        have hne1 : ¬ g = w.heap.size + 1 := by omega
        have hne2 : ¬ g = w.heap.size + 1 + 1 := by omega
        clear hk1
        go_wp2_with fail
        go_cut [43] from 34 to 44 (fun _ wx => HcSl wx (some ⟨g, 0, none⟩) n n (l1.set k ⟨1, false, leaf, it⟩) ∧ Ext w wx ∧ Bx wx w.heap.size #[.slice (some ⟨g, 0, none⟩) n n, .int .i64 keep] ∧ Bx wx (w.heap.size + 1 + 1) #[.slice none 0 0, .int .i64 0])
        case first =>
          first
          | go_region_law
            (first
              | ((go_simp
                  go_at_call 83
                  refine (HCP.out _ ?_).mono ?_
                  (first | exact (Ext.refl _).drew | exact Ext.refl _)
                  rintro e w7 ⟨S9, d9, rfl, ho9, hx⟩
                  have HX7 := Lib.hid (show Ext wc w7 from by first | exact (Ext.refl _).drew.trans hx | exact hx)
                  have HO9 := Lib.hid (show w7.ownsRow wc.heap.size 46 2 (.slice S9 m d9) m (ivs it) from ho9)
                  obtain ⟨c0, c1, c2⟩ := (HE0.out.ext HX7.out).read2
                  obtain ⟨d0, d1, d2⟩ := (HE1.out.ext HX7.out).read2
                  obtain ⟨⟨v0, v1, v2, v3, ⟨z0, z1⟩, z2, z3⟩, ⟨q0, q1⟩, q2, q3⟩ := HRD.out w7 HX7.out
                  clear hx ho9)))
          | fail
          all_goals
            go_wp2_with fail
            go_meet
            exact ⟨(HFIN.out w7 S9 d9 HX7.out HO9.out).1, (HFIN.out w7 S9 d9 HX7.out HO9.out).2, (HE0.out.ext HX7.out).grown (grown_hc _ _ _ _ _ _ _ _ _ _) (by simpa using hne0), (HE2.out.ext HX7.out).grown (grown_hc _ _ _ _ _ _ _ _ _ _) (by simpa using hne2)⟩
        case rest =>
          obtain ⟨hs7, hx7, hb70, hb72⟩ := hcut
          have HS7 := Lib.hid hs7
          have HX7 := Lib.hid hx7
          have HF2 := Lib.hid hb72
          clear p0 p1 p2 q0 q1 q2 hs7 hx7
          obtain ⟨p0, p1, p2⟩ := hb70.read2
          obtain ⟨t0, t1, t2⟩ := hb72.read2
          obtain ⟨y0, y1⟩ := hb72.free2
          clear hb70 hb72
          go_wp2_with fail
          refine ret2_cell (k := w.heap.size + 1 + 1) (x := .slice (some ⟨g, 0, none⟩) n n) (y := .int .i64 keep) (v := .tuple #[.agg #[.slice (some ⟨g, 0, none⟩) n n, .int .i64 keep], .int .i64 k, .int .i64 0]) ?hb4 (fun r0 r1 => by simp [results, Tryz.results48, go_sem, r0, r1]) rfl ?hx4
          case hb4 => exact HF2.out.set2 _ _
          case hx4 => rw [HE.out.1, HE.out.2.1, HE.out.2.2]; exact ⟨_, _, rfl, HS7.out.boxed2 HF2.out _ _, HX7.out.store2 (by omega) _ _⟩
theorem heapAlloc_any (R : Option Addr) (l : List HC) (n q : Nat) (keep : Int) (w : World) (leaf : Bool) (A : Option Addr) (it : List It) (m c : Nat) (H : Option Addr) (held : List Int) (t d : Nat) (hM : mayH ⟨l, keep⟩ 60 = true) (hm10 : m ≤ 10) (_ht20 : t ≤ 20) (hA : HcSl w R n q l) (hm : m = it.length) (hI : Sl w A m c (ivs it)) (ht : t = held.length) (hH : Sl w H t d (held.map iv)) :
    Calls Tryz.prog 48 #[.agg #[.slice R n q, .int .i64 keep], .agg #[.bool leaf, .slice A m c], .slice H t d] w fun e w' => ∃ S d, e = .returned (.tuple #[.agg #[.slice S n d, .int .i64 keep], .int .i64 (allocP l leaf it : Nat), .int .i64 (allocE l leaf it)]) ∧ HcSl w' S n d (allocL l leaf it held) ∧ Ext w w' :=
  heapAlloc_right R l n q keep w leaf A it m c H held t d (by unfold mayH at hM; simp only [Bool.and_eq_true] at hM; exact hM.2) hm10 _ht20 hA hm hI ht hH
end Go.Proofs.YtbfbpddfcakieaaGreat
