/- Alloc, once more, where nothing is laid; Over of package grow. -/
import Derived.Test.YtkoomcbiddanfaaGreatK27
import Derived.RegionTactic
namespace Go.Proofs.YtkoomcbiddanfaaGreat
open Go.RowKit

set_option maxRecDepth 100000 in
set_option maxHeartbeats 6400000 in
theorem heapAlloc_no (R : Option Addr) (l : List HC) (n q : Nat) (keep : Int) (w : World) (leaf : Bool) (A : Option Addr) (it : List It) (m c : Nat) (H : Option Addr) (held : List Int) (t d : Nat) (hright : rightH ⟨l, keep⟩ = true) (hne : allocE l leaf it ≠ 0) (hm10 : m ≤ 10) (_ht20 : t ≤ 20) (hA : HcSl w R n q l) (hm : m = it.length) (hI : Sl w A m c (ivs it)) (ht : t = held.length) (hH : Sl w H t d (held.map iv)) :
    Calls Tryz.prog 76 #[.agg #[.slice R n q, .int .i64 keep], .agg #[.bool leaf, .slice A m c], .slice H t d] w fun e w' => e = .returned (.tuple #[.agg #[.slice R n q, .int .i64 keep], .int .i64 0, .int .i64 (allocE l leaf it)]) ∧ Ext w w' := by
  have hn := hA.1
  have hn2 := (rightH_iff hright).1.1.2
  have hrf : ∀ k (hk : k < l.length), 0 ≤ l[k].ref ∧ l[k].ref ≤ 2147483647 := fun k hk => by
    have h1 := (rightH_iff hright).2 k hk
    unfold cellR at h1
    split at h1
    · rename_i e; omega
    · simp only [Bool.and_eq_true, decide_eq_true_eq] at h1; omega
  obtain ⟨W, hW⟩ : ∃ W, ((w.alloc (.cells #[.slice R n q, .int .i64 keep] 24)).alloc (.cells #[.bool leaf, .slice A m c] 48)).alloc (.cells #[.slice none 0 0, .int .i64 0] 24) = W := ⟨_, rfl⟩
  obtain ⟨hx0, hb0, hb1, hb2⟩ := allocs3 hW
  have hsz : W.heap.size = w.heap.size + 1 + 1 + 1 := by rw [← hW]; simp
  have HX := Lib.hid hx0
  have HB0 := Lib.hid hb0
  have HB1 := Lib.hid hb1
  have HB2 := Lib.hid hb2
  have HSZ := Lib.hid hsz
  have HA := Lib.hid hA
  have HNE := Lib.hid hne
  have HR := Lib.hid (fun w' (hx : Ext W w') => nodeRight_any leaf A it m c w' hm (hI.ext (hx0.trans hx)))
  have HTD := Lib.hid (fun w' (hx : Ext W w') => hpTold_any leaf A it m c w' hm (by omega) (hI.ext (hx0.trans hx)))
  have HAU := Lib.hid (fun S t d w' (hx : Ext W w') (ht : t = (toldL leaf it).length) (hS : Sl w' S t d ((toldL leaf it).map iv)) => hpAllUsed_any R l n q S (toldL leaf it) t d w' (hA.ext (hx0.trans hx)) ht hS)
  have hlt := leads_told l leaf it
  rw [← hlt] at HAU
  have HIX := Lib.hid (fun w' (hx : Ext W w') => hpFirst_any R l n q w' (hA.ext (hx0.trans hx)))
  obtain ⟨p0, p1, p2⟩ := hb0.read2
  obtain ⟨q0, q1, q2⟩ := hb1.read2
  obtain ⟨good, hgood⟩ : ∃ g, (ndR it && leadsC l leaf it) = g := ⟨_, rfl⟩
  have HGOOD := Lib.hid hgood
  have HRF := Lib.hid hrf
  have HN := Lib.hid hn
  have HM := Lib.hid hm
  have HI := Lib.hid hI
  have HT := Lib.hid ht
  have HH := Lib.hid hH
  clear hne hx0 hb0 hb1 hb2 hA hsz hright hlt hrf hn hm hI ht hH hgood
  subst hW
  go_enter Tryz.func76, Tryz.ntmps76
  go_wp2_with fail
  generalize hW : World.alloc (World.alloc (World.alloc w _) _) _ = W at *
  clear hW
  go_cut [20] from 10 to 20 (fun v wx => v = .bool (!good) ∧ Ext W wx)
  case first =>
    obtain ⟨u, hu⟩ : ∃ u, ndR it = u := ⟨_, rfl⟩
    obtain ⟨u2, hu2⟩ : ∃ u2, leadsC l leaf it = u2 := ⟨_, rfl⟩
    have hg := HGOOD.out
    rw [hu, hu2] at hg
    rw [hu] at HR
    rw [hu2] at HAU
    have HG := Lib.hid hg
    clear hu hu2 hg HGOOD
    cases u
    · have HG2 := Lib.hid (show good = false from HG.out.symm)
      first
      | go_region_with
        (first
          | ((go_at_call 68
              refine (HR.out _ ?_).mono ?_
              (first | exact (Ext.refl _).drew | exact Ext.refl _)
              rintro e w1 ⟨rfl, hx⟩
              have HX1 := Lib.hid (show Ext W w1 from by first | exact (Ext.refl _).drew.trans hx | exact hx)
              clear hx)))
      | fail
      all_goals
        go_wp2_with fail
        go_meet
        exact ⟨by rw [HG2.out]; rfl, HX1.out⟩
    · have HG2 := Lib.hid (show good = u2 from HG.out.symm)
      go_region_law
        (first
          | ((go_simp
              go_at_call 68
              refine (HR.out _ ?_).mono ?_
              (first | exact (Ext.refl _).drew | exact Ext.refl _)
              rintro e w1 ⟨rfl, hx⟩
              have HX1 := Lib.hid (show Ext W w1 from by first | exact (Ext.refl _).drew.trans hx | exact hx)
              obtain ⟨c0, c1, c2⟩ := (HB0.out.ext HX1.out).read2
              obtain ⟨d0, d1, d2⟩ := (HB1.out.ext HX1.out).read2
              clear hx))
          | ((go_simp
              go_at_call 91
              refine (HTD.out _ HX1.out).mono ?_
              rintro e w2 ⟨S, t2, d9, rfl, ht2, ho2, hx⟩
              have HX2 := Lib.hid (HX1.out.trans hx)
              have HT2 := Lib.hid ht2
              have HS2 := Lib.hid (own_sl ho2)
              obtain ⟨e0, e1, e2⟩ := (HB0.out.ext HX2.out).read2
              clear hx ht2 ho2))
          | ((go_simp
              go_at_call 92
              refine (HAU.out _ _ _ _ HX2.out HT2.out HS2.out).mono ?_
              rintro e w3 ⟨rfl, hx⟩
              have HX3 := Lib.hid (HX2.out.trans hx)
              clear hx)))
      all_goals
        go_wp2_with fail
        go_meet
        exact ⟨by rw [HG2.out], HX3.out⟩
  case rest =>
    obtain ⟨rfl, hx1⟩ := hcut
    have HX1 := Lib.hid hx1
    have HC0 := Lib.hid (HB0.out.ext hx1)
    have HC1 := Lib.hid (HB1.out.ext hx1)
    have HC2 := Lib.hid (HB2.out.ext hx1)
    clear p0 p1 p2 q0 q1 q2 hx1 HB0 HB1 HB2 HR HAU
    obtain ⟨p0, p1, p2⟩ := HC0.out.read2
    obtain ⟨q0, q1, q2⟩ := HC1.out.read2
    obtain ⟨t0, t1, t2⟩ := HC2.out.read2
    obtain ⟨y0, y1⟩ := HC2.out.free2
    cases good
    · obtain ⟨e1, e2, e3⟩ := alloc_bad (held := held) HGOOD.out
      have HE := Lib.hid (And.intro e1 (And.intro e2 e3))
      clear e1 e2 e3
      go_wp2_with fail
      refine ret2_cell (k := w.heap.size + 1 + 1) (x := .slice R n q) (y := .int .i64 keep) (v := .tuple #[.agg #[.slice R n q, .int .i64 keep], .int .i64 0, .int .i64 1]) ?hb4 (fun r0 r1 => by simp [results, Tryz.results76, go_sem, r0, r1]) rfl ?hx4
      case hb4 => exact HC2.out.set2 _ _
      case hx4 => rw [HE.out.1]; exact ⟨rfl, (HX.out.trans HX1.out).store2 (by omega) _ _⟩
    · have hf3 := first_idx (l := l) (fun k hk => (HRF.out k hk).1)
      have HF3 := Lib.hid hf3
      clear hf3
      obtain ⟨z, hz⟩ : ∃ z, idxBy freeC l = z := ⟨_, rfl⟩
      rw [hz] at HIX HF3
      clear hz
      have HLD := Lib.hid (show (toldL leaf it).all (usedC l) = true from by
        have h := HGOOD.out
        rw [Bool.and_eq_true] at h
        rw [← leads_told]; exact h.2)
      go_wp2_with (go_at_call 93; refine stop_here ?_)
      refine stop_on ?_
      refine (HIX.out _ HX1.out).mono ?_
      rintro e w3 ⟨rfl, hx⟩
      have HX3 := Lib.hid (HX1.out.trans hx)
      have HD0 := Lib.hid (HC0.out.ext hx)
      have HD1 := Lib.hid (HC1.out.ext hx)
      have HD2 := Lib.hid (HC2.out.ext hx)
      clear p0 p1 p2 q0 q1 q2 t0 t1 t2 y0 y1 hx HC0 HC1 HC2 HX1 HIX
      obtain ⟨p0, p1, p2⟩ := HD0.out.read2
      obtain ⟨q0, q1, q2⟩ := HD1.out.read2
      rcases HF3.out with ⟨hf, rfl⟩ | ⟨hf, rfl⟩
      · obtain ⟨e1, e2, e3⟩ := alloc_full (held := held) HGOOD.out hf
        have HE := Lib.hid (And.intro e1 (And.intro e2 e3))
        obtain ⟨t0, t1, t2⟩ := HD2.out.read2
        obtain ⟨y0, y1⟩ := HD2.out.free2
        clear e1 e2 e3 hf HF3
        go_wp2_with fail
        refine ret2_cell (k := w.heap.size + 1 + 1) (x := .slice R n q) (y := .int .i64 keep) (v := .tuple #[.agg #[.slice R n q, .int .i64 keep], .int .i64 0, .int .i64 3]) ?hb4 (fun r0 r1 => by simp [results, Tryz.results76, go_sem, r0, r1]) rfl ?hx4
        case hb4 => exact HD2.out.set2 _ _
        case hx4 => rw [HE.out.1]; exact ⟨rfl, (HX.out.trans HX3.out).store2 (by omega) _ _⟩
      obtain ⟨k, hk⟩ : ∃ k, firstF l = k := ⟨_, rfl⟩
      rw [hk] at hf HF3
      exact absurd (alloc_ok (held := held) HGOOD.out hf hk).1 HNE.out
attribute [local go_sem ↓] Go.wp_at_zero Go.wp_at_succ
theorem alloc_none {c : List HC} {leaf : Bool} {it : List It} (h : allocE c leaf it ≠ 0) (held : List Int) : allocP c leaf it = 0 ∧ allocL c leaf it held = c := by
  unfold allocP allocL; rw [if_neg h, if_neg h]; exact ⟨rfl, rfl⟩
set_option maxRecDepth 100000 in
set_option maxHeartbeats 1600000 in
theorem growLaid_no (b n : Nat) (keep : Int) (S : Option Addr) (q : Nat) (c : List HC) (leaf : Bool) (A : Option Addr) (it : List It) (m cc : Nat) (H : Option Addr) (held : List Int) (t d : Nat) (w : World) (hr : rightH ⟨c, keep⟩ = true) (hne : allocE c leaf it ≠ 0) (hm10 : m ≤ 10) (ht20 : t ≤ 20) (hb : Bx w b #[.slice S n q, .int .i64 keep, .int .i64 0]) (hs : HcSl w S n q c) (hm : m = it.length) (hI : Sl w A m cc (ivs it)) (ht : t = held.length) (hH : Sl w H t d (held.map iv)) :
    Calls Tryz.prog 59 #[.pointer (some ⟨b, 0, none⟩), .agg #[.bool leaf, .slice A m cc], .slice H t d] w fun e w' => e = .returned (.int .i64 0) ∧ Bx w' b #[.slice S n q, .int .i64 keep, .int .i64 (allocE c leaf it)] ∧ w.grownBy w' (some b) := by
  have HAL := Lib.hid (fun w' (hx : Ext w w') => heapAlloc_no S c n q keep w' leaf A it m cc H held t d hr hne hm10 ht20 (hs.ext hx) hm (hI.ext hx) ht (hH.ext hx))
  have HBB := Lib.hid hb
  obtain ⟨W, hW⟩ : ∃ W, w.alloc (.cells #[.bool leaf, .slice A m cc] 48) = W := ⟨_, rfl⟩
  obtain ⟨hx, hb0⟩ := allocs1 hW
  have HX := Lib.hid hx
  have HB0 := Lib.hid hb0
  obtain ⟨b0, b1, b2⟩ := hb0.read2
  obtain ⟨k0, k1, k2, k3⟩ := (hb.ext hx).read3
  clear hx hb0 hr hne hm10 ht20 hm hI ht hH hs hb
  generalize allocE c leaf it = ae at *
  go_enter Tryz.func59, Tryz.ntmps59
  go_wp2_with fail
  go_region_law
    (first
      | ((go_simp
          go_at_call 76
          refine (HAL.out _ ?_).mono ?_
          (first | exact HX.out | exact HX.out.drew)
          rintro e w4 ⟨rfl, hx4⟩
          have E4 := Lib.hid (show Ext w w4 from by first | exact HX.out.trans hx4 | exact HX.out.drew.trans hx4)
          have HB4 := Lib.hid (HBB.out.ext E4.out)
          obtain ⟨k0, k1, k2, k3⟩ := HB4.out.read3
          obtain ⟨f0, f1, f2⟩ := HB4.out.free3
          clear hx4)))
  all_goals
    go_wp2_with fail
    go_ret
    refine ⟨rfl, ((HB4.out.set 0 (.slice S n q)).set 1 (.int .i64 keep)).set 2 (.int .i64 ae), E4.out.os, E4.out.tape, E4.out.output, by have := E4.out.size; simpa [World.setCell] using this, fun k hk hne => ?_⟩
    have hkb : k ≠ b := fun e => hne (by rw [e])
    rw [Below.heap_setCell _ _ _ _ (by simpa using hkb), Below.heap_setCell _ _ _ _ (by simpa using hkb), Below.heap_setCell _ _ _ _ (by simpa using hkb)]
    exact E4.out.block k hk
set_option maxRecDepth 100000 in
set_option maxHeartbeats 1600000 in
theorem growOver_no (b n : Nat) (keep : Int) (S : Option Addr) (q : Nat) (c : List HC) (A : Option Addr) (it : List It) (m cc : Nat) (w : World) (hr : rightH ⟨c, keep⟩ = true) (hne : allocE c false it ≠ 0) (hm10 : m ≤ 10) (hb : Bx w b #[.slice S n q, .int .i64 keep, .int .i64 0]) (hs : HcSl w S n q c) (hm : m = it.length) (hI : Sl w A m cc (ivs it)) :
    Calls Tryz.prog 32 #[.pointer (some ⟨b, 0, none⟩), .slice A m cc] w fun e w' => e = .returned (.int .i64 0) ∧ Bx w' b #[.slice S n q, .int .i64 keep, .int .i64 (allocE c false it)] ∧ w.grownBy w' (some b) := by
  have HPL := Lib.hid (fun w' (hx : Ext w w') => growPlaces_any A it m cc w' hm (by omega) (hI.ext hx))
  have HLA := Lib.hid (fun w' H d (hx : Ext w w') (hH : Sl w' H m d ((it.map (·.2)).map iv)) => growLaid_no b n keep S q c false A it m cc H (it.map (·.2)) m d w' hr hne hm10 (by omega) (hb.ext hx) (hs.ext hx) hm (hI.ext hx) (by rw [List.length_map]; exact hm) hH)
  clear hr hne hm10 hm hI hb hs
  generalize allocE c false it = ae at *
  go_enter Tryz.func32, Tryz.ntmps32
  go_wp2_with (go_at_call 46; refine stop_here ?_)
  refine stop_on ?_
  refine (HPL.out _ (by first | exact Ext.refl _ | exact (Ext.refl _).drew)).mono ?_
  rintro e w1 ⟨H, d, rfl, hs, hx⟩
  have HH := Lib.hid hs
  have HX := Lib.hid (show Ext w w1 from by first | exact hx | exact (Ext.refl _).drew.trans hx)
  clear hs hx
  go_wp2_with (go_at_call 59; refine stop_here ?_)
  refine stop_on ?_
  refine (HLA.out _ _ _ HX.out HH.out).mono ?_
  rintro e w2 ⟨rfl, hb, hg⟩
  have HB2 := Lib.hid hb
  have HG2 := Lib.hid hg
  clear hb hg
  go_wp2_with fail
  go_ret
  exact ⟨rfl, HB2.out, HG2.out.os.trans HX.out.os, HG2.out.tape.trans HX.out.tape, HG2.out.output.trans HX.out.output, Nat.le_trans HX.out.size HG2.out.size, fun k hk hne => (HG2.out.block k (Nat.lt_of_lt_of_le hk HX.out.size) hne).trans (HX.out.block k hk)⟩
set_option maxRecDepth 100000 in
set_option maxHeartbeats 1600000 in
/-- P9.2. -/
theorem growOverF_any (R : Option Addr) (l : List HC) (n q : Nat) (keep : Int) (A : Option Addr) (it : List It) (m c : Nat) (w : World) (hr : rightH ⟨l, keep⟩ = true) (hm10 : m ≤ 10) (hA : HcSl w R n q l) (hm : m = it.length) (hI : Sl w A m c (ivs it)) :
    Calls Tryz.prog 8 #[.agg #[.slice R n q, .int .i64 keep], .slice A m c] w fun e w' => ∃ S d, e = .returned (.tuple #[.agg #[.slice S n d, .int .i64 keep], .int .i64 (allocP l false it : Nat), .int .i64 (allocE l false it)]) ∧ HcSl w' S n d (allocL l false it (it.map (·.2))) ∧ Ext w w' := by
  obtain ⟨W, hW⟩ : ∃ W, ((w.alloc (.cells #[.slice R n q, .int .i64 keep] 24)).alloc (.cells #[.slice none 0 0, .int .i64 0] 24)).alloc (.cells #[.slice R n q, .int .i64 keep, .int .i64 0] 59) = W := ⟨_, rfl⟩
  obtain ⟨hx, hb0, hb1, hb2⟩ := allocs3 hW
  obtain ⟨hx0, hc0, -⟩ := allocs2 (w := w) (c0 := #[.slice R n q, .int .i64 keep]) (c1 := #[.slice none 0 0, .int .i64 0]) (t0 := 24) (t1 := 24) rfl
  have HOV := Lib.hid (show Calls Tryz.prog 32 #[.pointer (some ⟨w.heap.size + 1 + 1, 0, none⟩), .slice A m c] W fun e w' => ∃ S' d', e = .returned (.int .i64 (allocP l false it : Nat)) ∧ Bx w' (w.heap.size + 1 + 1) #[.slice S' n d', .int .i64 keep, .int .i64 (allocE l false it)] ∧ Bx w' (w.heap.size + 1) #[.slice none 0 0, .int .i64 0] ∧ HcSl w' S' n d' (allocL l false it (it.map (·.2))) ∧ Ext w w' from by
    by_cases h0 : allocE l false it = 0
    · refine (growOver_any (w.heap.size + 1 + 1) n keep l A it m c W hr h0 hm10 ⟨R, q, hb2, hA.ext hx⟩ hm (hI.ext hx)).mono ?_
      rintro e w2 ⟨rfl, ⟨S', d', hb, hs⟩, hg⟩
      exact ⟨S', d', rfl, by rw [h0]; exact hb, hg.bx hb1 (by omega), hs, hg.over hx (by omega)⟩
    · refine (growOver_no (w.heap.size + 1 + 1) n keep R q l A it m c W hr h0 hm10 hb2 (hA.ext hx) hm (hI.ext hx)).mono ?_
      rintro e w2 ⟨rfl, hb, hg⟩
      obtain ⟨e1, e2⟩ := alloc_none h0 (it.map (·.2))
      have hx2 : Ext w w2 := Below.grown hx hg hx.size (fun k hk => by cases hk; omega)
      rw [e1, e2]
      exact ⟨R, q, rfl, hb, hb1.grown hg (by simp), hA.ext hx2, hx2⟩)
  obtain ⟨p0, p1, p2⟩ := hc0.read2
  clear hx hb0 hb1 hb2 hA hr hm10 hm hI hx0 hc0
  generalize allocE l false it = ae at *
  generalize (allocP l false it : Nat) = ap at *
  generalize allocL l false it (it.map (·.2)) = c2 at *
  subst hW
  go_enter Tryz.func8, Tryz.ntmps8
  go_wp2_with (go_at_call 32; refine stop_here ?_)
  refine stop_on ?_
  refine HOV.out.mono ?_
  rintro e w2 ⟨S2, d2, rfl, hb, hb1, hs, hx2⟩
  have HB1 := Lib.hid hb1
  have HS := Lib.hid hs
  have HX := Lib.hid hx2
  obtain ⟨k0, k1, k2, k3⟩ := hb.read3
  obtain ⟨t0, t1, t2⟩ := hb1.read2
  obtain ⟨f0, f1⟩ := hb1.free2
  clear hb hb1 hs hx2 p0 p1 p2
  go_wp2_with fail
  go_region
  all_goals
    go_wp2_with fail
    refine ret2_cell (k := w.heap.size + 1) (x := .slice S2 n d2) (y := .int .i64 keep) (v := .tuple #[.agg #[.slice S2 n d2, .int .i64 keep], .int .i64 ap, .int .i64 ae]) ?hb4 (fun r0 r1 => by simp [results, Tryz.results8, go_sem, r0, r1]) rfl ?hx4
    case hb4 => exact HB1.out.set2 _ _
    case hx4 => exact ⟨S2, d2, rfl, HS.out.boxed2 HB1.out _ _, (HX.out.store2 (k := w.heap.size + 1) (by omega) _ _).drew⟩
end Go.Proofs.YtkoomcbiddanfaaGreat
