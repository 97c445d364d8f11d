/- The walk of Held of package audit. -/
import Derived.Test.YtjbfopnkeclfgaaGreatK25
namespace Go.Proofs.YtjbfopnkeclfgaaGreat
set_option maxRecDepth 20000
open Go.RowKit

set_option maxRecDepth 100000 in
set_option maxHeartbeats 1600000 in
theorem auHeld_any (R A B : Option Addr) (c : List HC) (roots : List Int) (ts : List Tk) (n q m d t e F : Nat) (keep : Int) (w : World) (hn : n ≤ 2000) (hit : ∀ y ∈ c, y.it.length ≤ 1000) (hm : m = roots.length) (hm2 : m ≤ 1000) (ht : t = ts.length) (ht2 : t ≤ 1000) (hl : WhT ts) (hF : m + t + wtS c (fun _ => false) c.length = F) (hF2 : F ≤ 90000) (hR : HcSl w R n q c) (hA : Sl w A m d (roots.map iv)) (hB : Sl w B t e (ts.map cxv)) :
    Calls Tryz.prog 60 #[.agg #[.slice R n q, .int .i64 keep], .slice A m d, .slice B t e] w fun e w' => ∃ g, e = .returned (.slice (some ⟨g, 0, none⟩) n n) ∧ OnB w' w.heap.size g n n (heldR c ts F (firstsP roots ts) (fun _ => false)) ∧ Ext w w' := by
  have hcn := hR.1
  have HCN := Lib.hid hcn
  have hb := Bx.new w #[.slice R n q, .int .i64 keep] 30
  have hx := (Ext.refl w).alloc (.cells #[.slice R n q, .int .i64 keep] 30)
  have HB0 := Lib.hid hb
  obtain ⟨p0, p1, z2⟩ := hb.read2
  obtain ⟨i0, hi, hz0, hz1, hz2⟩ := info_parts infoB8
  have HII := Lib.hid hi
  have HZ0 := Lib.hid hz0
  have HZ1 := Lib.hid hz1
  have HZ2 := Lib.hid hz2
  have HR := Lib.hid hR
  have HIT := Lib.hid hit
  have HF := Lib.hid (fun w' (hx : Ext w w') => auFirsts_any A B roots ts m d t e w' hm hm2 ht ht2 hl (hA.ext hx) (hB.ext hx))
  have HT := Lib.hid (fun (Bi : Option Addr) (leaf : Bool) (it : List It) (mi di : Nat) (p : Int) w' (hx : Ext w w') hmi hBi => auTold_any Bi B leaf it ts mi di t e p w' hmi ht hl hBi (hB.ext hx))
  have HFL := Lib.hid (show m + t = (firstsP roots ts).length from by unfold firstsP; rw [List.length_append, List.length_map, ← hm, ← ht])
  have HP := Lib.hid (fun p w' => auIsPlace_any p n w')
  have HFF := Lib.hid hF
  generalize hW : w.alloc _ = W0 at hb hx p0 p1 z2 HB0
  have HX0 := Lib.hid hx
  clear hb hx hR hit hA hB hm ht hl hi hz0 hz1 hz2 hcn hF
  go_enter Tryz.func60, Tryz.ntmps60
  go_wp2_with fail
  refine wp_scope_on 0 (fun f a' wr => ∃ (g : Nat) (ys : List Int) (hf : Nat → Bool) (k se : Nat) (S : Option Addr) (u9 u10 u11 u12 u13 u14 u15 u16 u17 u18 u19 u20 u21 u22 u23 u24 u25 u26 u27 u28 u29 u30 u31 u32 u33 u34 u35 u36 u37 u38 u39 u40 u41 u42 u43 u44 u45 u46 u47 u48 u49 u50 u51 u52 u53 u54 u55 u56 u57 u58 u59 u60 u61 u62 u63 u64 u65 u66 u67 : Value), w.heap.size < g ∧ a' = { tmps := #[.agg #[.slice R n q, .int .i64 keep], .slice A m d, .slice B t e, .pointer (some ⟨w.heap.size, 0, none⟩), undef, undef, .slice none 0 0, .slice (some ⟨g, 0, none⟩) n n, .slice S k se, u9, u10, u11, u12, u13, u14, u15, u16, u17, u18, u19, u20, u21, u22, u23, u24, u25, u26, u27, u28, u29, u30, u31, u32, u33, u34, u35, u36, u37, u38, u39, u40, u41, u42, u43, u44, u45, u46, u47, u48, u49, u50, u51, u52, u53, u54, u55, u56, u57, u58, u59, u60, u61, u62, u63, u64, u65, u66, u67], defers := [] } ∧ HeldJ c ts F (firstsP roots ts) (fun _ => false) f ys hf ∧ k = ys.length ∧ k ≤ f ∧ f ≤ 100000 ∧ OnB wr w.heap.size g n n hf ∧ wr.ownsRow (g + 1) 3 1 (.slice S k se) k (ys.map iv) ∧ Bx wr w.heap.size #[.slice R n q, .int .i64 keep] ∧ Ext w wr) rfl ?_ ?_
  rotate_left
  · intro _
    go_wp2_with (at_make; refine stop_here ?_)
    refine stop_on ?_
    refine wpList_make_cap _ rfl _ _ 62 rfl 4 i0 _ Tryz.underlying62 HII.out HZ0.out _ _ _ _ n n rfl rfl (by omega) (by omega) (by omega) (by rw [HZ2.out]; omega) (by unfold maxLen; omega) ?_
    rw [HZ1.out]
    have HO0 := Lib.hid (OnB.made W0 w.heap.size n HX0.out.size (by omega))
    have HX1 := Lib.hid (HX0.out.alloc (.cells (madeCells (Value.bool false).cells (n * 1)) 4))
    have HB1 := Lib.hid (HB0.out.ext ((Ext.refl W0).alloc (.cells (madeCells (Value.bool false).cells (n * 1)) 4)))
    have hgl : w.heap.size < W0.heap.size := HB0.out.lt
    generalize hW : World.alloc W0 (.cells (madeCells (Value.bool false).cells (n * 1)) 4) = W1 at *
    obtain ⟨g, hg⟩ : ∃ g, W0.heap.size = g := ⟨_, rfl⟩
    have hgl1 : g + 1 = W1.heap.size := by rw [← hW, World.size_alloc, hg]
    rw [hg] at HO0 hgl ⊢
    have HG1 := Lib.hid hgl1
    clear hW hg p0 p1 z2 hgl1
    obtain ⟨nf, hnf⟩ : ∃ k, m + t = k := ⟨_, rfl⟩
    rw [hnf] at HF HFL HFF
    have hnf2 : nf ≤ 2000 := by omega
    clear hnf
    go_wp2_with (go_at_call 96; refine (HF.out _ HX1.out).mono ?_; rintro e w2 ⟨S, se, rfl, ho, hx⟩; rw [← HG1.out] at ho; have FO := Lib.hid ho; have X2 := Lib.hid (HX1.out.trans hx); have O2 := Lib.hid (HO0.out.ext hx); have B2 := Lib.hid (HB1.out.ext hx); clear ho hx)
    have HJ0 := Lib.hid (show HeldJ c ts F (firstsP roots ts) (fun _ => false) F (firstsP roots ts) (fun _ => false) from ⟨rfl, by rw [← HFL.out]; have := HFF.out; omega⟩)
    go_step3
    obtain ⟨ys, hys⟩ : ∃ y, y = firstsP roots ts := ⟨_, rfl⟩
    obtain ⟨hf, hhf⟩ : ∃ h : Nat → Bool, h = (fun _ => false) := ⟨_, rfl⟩
    have HJ := Lib.hid (show HeldJ c ts F (firstsP roots ts) (fun _ => false) F ys hf from by rw [hys, hhf]; exact HJ0.out)
    have HK := Lib.hid (show nf = ys.length from by rw [hys]; exact HFL.out)
    have HO := Lib.hid (show OnB w2 w.heap.size g n n hf from by rw [hhf]; exact O2.out)
    have HS := Lib.hid (show w2.ownsRow (g + 1) 3 1 (.slice S nf se) nf (ys.map iv) from by rw [hys]; exact FO.out)
    have HBB := B2
    have HX := X2
    obtain ⟨p0, p1, z2⟩ := HBB.out.read2
    have hff : F ≤ 90000 := hF2
    clear HJ0 HFL O2 FO B2 X2 hys hhf
    rcases list_end (ys) with hy | ⟨y1, p, hy⟩
    · have hk0 : nf = 0 := by have h := HK.out; rw [hy] at h; exact h
      have d0 : ((nf : Int) == 0) = true := by rw [hk0]; rfl
      have h1 := HJ.out
      rw [hy] at h1
      have HE := Lib.hid h1.fin
      clear h1 hk0 hy
      go_wp2
      simp only [Exit.jump]
      go_ret
      exact ⟨g, rfl, by rw [← HE.out]; exact HO.out, HX.out⟩
    · have hk0 : nf = y1.length + 1 := by have h := HK.out; rw [hy, List.length_append] at h; exact h
      obtain ⟨k1, hk1⟩ : ∃ x, y1.length = x := ⟨_, rfl⟩
      have HK1 := Lib.hid hk1
      rw [hk1] at hk0
      have h1 := HJ.out
      have h2 := HS.out
      rw [hy] at h1 h2
      have HJ1 := Lib.hid h1
      obtain ⟨sg, hS⟩ := own_some1 h2 (by omega)
      subst hS
      have c0 : w2.cell? ⟨sg, k1, none⟩ = some (.int .i64 p) := (h2.cellAt k1 (by omega)).trans (by rw [List.map_append, ← hk1, List.getElem?_append_right (by rw [List.length_map]; exact Nat.le_refl _), List.length_map, Nat.sub_self]; rfl)
      have HS1 := Lib.hid (show w2.ownsRow (g + 1) 3 1 (.slice (some ⟨sg, 0, none⟩) k1 se) k1 (y1.map iv) from by
        have h3 := own_less h2 (k := k1) (by omega)
        rw [Nat.mul_one, List.map_append, List.take_append_of_le_length (by rw [List.length_map]; omega), List.take_of_length_le (by rw [List.length_map]; omega)] at h3
        exact h3)
      have d0 : ((nf : Int) == 0) = false := beq_eq_false_iff_ne.2 (by omega)
      have v1 : IntKind.i64.wrap ((nf : Int) - 1) = (k1 : Int) := by rw [IntKind.wrap_i64]; omega
      have hki : (k1 : Int) < (nf : Int) := by omega
      have hkk : k1 ≤ nf := by omega
      have hse : nf ≤ se := (own_sl h2).2.1
      have hse2 : se ≤ 9223372036854775807 := by have := (own_sl h2).2.2.1; unfold maxLen at this; omega
      have HPP := Lib.hid (fun w' => HP.out p w')
      clear h1 h2 hy hk0 hk1
      cases hpl : isPl p n
      · rw [hpl] at HPP
        obtain ⟨m2, hmm2, hJ2⟩ := HJ1.out.skip (by rw [← HCN.out, hpl]; rfl)
        have HJ2 := Lib.hid hJ2
        clear hJ2 hpl
        go_wp2_with (go_at_call 99; refine (HPP.out _).mono ?_; rintro e w5 ⟨rfl, rfl⟩)
        go_step3
        exact ⟨rfl, m2, g, y1, _, k1, se, _, _, _, _, _, _, _, _, _, _, _, _, _, _, _, _, _, _, _, _, _, _, _, _, _, _, _, _, _, _, _, _, _, _, _, _, _, _, _, _, _, _, _, _, _, _, _, _, _, _, _, _, _, _, _, _, _, _, _, _, hgl, rfl, HJ2.out, HK1.out.symm, by have h1 := HJ2.out.le; have h2 := HK1.out; omega, by omega, HO.out, HS1.out, HBB.out, HX.out⟩
      · rw [hpl] at HPP
        have hb := hpl
        unfold isPl at hb
        simp only [Bool.and_eq_true, decide_eq_true_eq] at hb
        obtain ⟨j, rfl⟩ := Int.eq_ofNat_of_zero_le hb.1
        have hjn : j < n := by omega
        have hji : (j : Int) < (n : Int) := by omega
        have c1 := HO.out.read hjn
        have f1 := HO.out.free j
        cases hhj : (hf) j
        · obtain ⟨m2, hmm2, hJ2⟩ := HJ1.out.mark (by rw [← HCN.out]; exact hjn) hhj
          have HJ2 := Lib.hid hJ2
          rw [hhj] at c1
          clear hJ2 hpl hb hhj
          have hjc : j < c.length := by rw [← HCN.out]; exact hjn
          obtain ⟨b, off, rfl, hbl, Bi, di, rw0, rw1, rw2, rw3, hi⟩ := HR.out.cell hjc
          have hbg : b ≠ g := by omega
          have hwg : w.heap.size ≠ g := by omega
          have r2 := (HX.out.cell (p := ⟨b, off + j * 4 + 2, none⟩) hbl).trans rw2
          have r3 := (HX.out.cell (p := ⟨b, off + j * 4 + 3, none⟩) hbl).trans rw3
          have HI := Lib.hid hi
          have HI2 := Lib.hid (HIT.out _ (List.getElem_mem hjc))
          clear rw0 rw1 rw2 rw3 hi
          generalize c[j] = y at *
          obtain ⟨yr, yp, yl, yi⟩ := y
          simp only at r2 r3 HI HI2 HJ2
          obtain ⟨mi, hmi⟩ : ∃ x, yi.length = x := ⟨_, rfl⟩
          have HMI := Lib.hid hmi
          rw [hmi] at r3 HI HI2
          clear hmi
          have HTD := Lib.hid (fun w' (hx : Ext w w') => HT.out Bi yl yi mi di (j : Int) w' hx HMI.out.symm (HI.out.ext hx))
          generalize toldPA yl yi ts (j : Int) = td at *
          have X5 := Lib.hid (HX.out.set (p := ⟨g, j, none⟩) (by simp; omega) (.bool true))
          have O5 := Lib.hid (HO.out.set hjn true)
          have B5 := Lib.hid (HBB.out.set_other (p := ⟨g, j, none⟩) (by simp; omega) (.bool true))
          have S5 := Lib.hid (ownsRow_setCell_other HS1.out (a := ⟨g, j, none⟩) (by have h9 := (HS1.out.lt sg rfl).1; simp [Value.ownBlock]; omega) (.bool true))
          go_wp2_with (first
            | (go_at_call 99; refine (HPP.out _).mono ?_; rintro e w5 ⟨rfl, rfl⟩)
            | (go_at_call 98; refine stop_here ?_))
          refine stop_on ?_
          refine (HTD.out _ X5.out).mono ?_
          rintro e w6 ⟨T, tk, te, rfl, hk3, hT, hx⟩
          have HTK := Lib.hid hk3
          have HTT := Lib.hid hT
          have X6 := Lib.hid (X5.out.trans hx)
          have O6 := Lib.hid (O5.out.ext hx)
          have B6 := Lib.hid (B5.out.ext hx)
          have S6 := Lib.hid (own_ext S5.out hx)
          have htk : tk ≤ 9223372036854775807 := by have := (hT w HI.out).len; unfold maxLen at this; omega
          have htk2 : k1 + tk ≤ 100000 := by have h1 := HJ2.out.le; have h2 := HK1.out; rw [List.length_append, List.length_map, ← HTK.out] at h1; omega
          clear hk3 hT hx r2 r3 c1 f1 c0 p0 p1 z2 X5 O5 B5 S5 HTD HT
          go_wp2_with fail
          go_loopw [8, 58] (fun s i wr => ∃ (i' : Nat) (S2 : Option Addr) (se2 : Nat), i' ≤ tk ∧ i = .int .i64 i' ∧ s = .slice S2 (k1 + i') se2 ∧ wr.ownsRow (g + 1) 3 1 (.slice S2 (k1 + i') se2) (k1 + i') ((y1 ++ (td.take i').map (·.2)).map iv) ∧ OnB wr w.heap.size g n n (fun x => if x = j then true else (hf) x) ∧ Bx wr w.heap.size #[.slice (some ⟨b, off, none⟩) n q, .int .i64 keep] ∧ Ext w wr) (fun _ i _ => tk - (intOf i).toNat)
          case atStart => exact ⟨0, some ⟨sg, 0, none⟩, se, Nat.zero_le _, rfl, rfl, by simpa using S6.out, O6.out, B6.out, X6.out⟩
          case round =>
            clear HJ HK HO HS HBB HX HS1 X6 O6 B6 S6
            obtain ⟨i', S2, se2, hi', rfl, rfl, hs, ho, hbb, hx⟩ := hrel
            have HO := Lib.hid ho
            have HX := Lib.hid hx
            have HS := Lib.hid hs
            have HBB := Lib.hid hbb
            clear ho hx hs hbb
            rcases Nat.lt_or_ge i' tk with hlt2 | hge
            · have hil : i' < td.length := by rw [← HTK.out]; exact hlt2
              obtain ⟨b2, off2, rfl, _, hc⟩ := (HTT.out _ (HI.out.ext HX.out)).cells.it hil
              obtain ⟨a0, a1⟩ := hc i' hil
              have hii : (i' : Int) < (tk : Int) := by omega
              have HS3 := Lib.hid (show y1 ++ (td.take (i' + 1)).map (·.2) = (y1 ++ (td.take i').map (·.2)) ++ [td[i'].2] from by rw [List.take_succ_eq_append_getElem hil, List.map_append, List.append_assoc]; rfl)
              clear hc
              generalize td[i'] = x at *
              obtain ⟨x1, x2⟩ := x
              simp only at a0 a1 HS3
              have Y2 := Lib.hid ((Ext.refl wr).alloc (.cells #[.int .i64 x1, .int .i64 x2] 146))
              go_wp2_with (at_builtin; refine stop_here ?_)
              refine stop_on ?_
              have Y3 := Lib.hid (Y2.out.alloc (.cells #[.int .i64 x2] 3))
              have HXY := Lib.hid (HX.out.trans Y3.out)
              refine app_iv1 _ rfl _ _ rfl (g + 1) (.slice S2 (k1 + i') se2) (k1 + i') (y1 ++ (td.take i').map (·.2)) rfl (own_ext HS.out Y3.out) (some ⟨_, 0, none⟩) 1 1 [x2] rfl rfl (sl_lit2 (by simp) _ 1 ([x2].map iv) (by unfold maxLen; omega)) (by omega) (by have h1 := HO.out.lt; have h2 := Y3.out.size; omega) ?_
              intro S4 se4 w7 hown hg
              rw [← HS3.out] at hown
              have hne : (Value.slice S2 (k1 + i') se2).ownBlock ≠ some g := by
                cases S2 with
                | none => simp [Value.ownBlock]
                | some a =>
                  have h9 := (HS.out.lt a.block rfl).1
                  simp [Value.ownBlock]
                  omega
              have hnw : (Value.slice S2 (k1 + i') se2).ownBlock ≠ some w.heap.size := by
                cases S2 with
                | none => simp [Value.ownBlock]
                | some a =>
                  have h9 := (HS.out.lt a.block rfl).1
                  simp [Value.ownBlock]
                  omega
              have O7 := Lib.hid (onB_kept (HO.out.ext Y3.out) hg hne)
              have B7 := Lib.hid (bx_kept (HBB.out.ext Y3.out) hg hnw)
              have X7 := Lib.hid (show Ext w w7 from Below.grown HXY.out hg HXY.out.size (by
                intro q hq
                have h9 := (HS.out.lt q hq).1
                omega))
              have S7 := Lib.hid hown
              clear hown hg hne hnw
              go_wp2_with fail
              go_roundw
              case rel => exact ⟨i' + 1, S4, se4, by omega, by go_num, rfl, S7.out, O7.out, B7.out, X7.out⟩
              case measure => simp [intOf]; omega
            · obtain rfl : tk = i' := by omega
              have HE := Lib.hid (show td.take tk = td from by rw [HTK.out, List.take_length])
              rw [HE.out] at HS
              clear hge
              go_wp2_with fail
              go_step3
              exact ⟨rfl, m2, g, y1 ++ td.map (·.2), _, k1 + tk, se2, S2, _, _, _, _, _, _, _, _, _, _, _, _, _, _, _, _, _, _, _, _, _, _, _, _, _, _, _, _, _, _, _, _, _, _, _, _, _, _, _, _, _, _, _, _, _, _, _, _, _, _, _, _, _, _, _, _, _, _, _, hgl, rfl, HJ2.out, by rw [List.length_append, List.length_map, HK1.out, HTK.out], by have h1 := HJ2.out.le; have h2 := HK1.out; rw [List.length_append, List.length_map, ← HTK.out] at h1; omega, by omega, HO.out, HS.out, HBB.out, HX.out⟩
        · obtain ⟨m2, hmm2, hJ2⟩ := HJ1.out.skip (by rw [← HCN.out, hpl, Int.toNat_natCast, hhj]; rfl)
          have HJ2 := Lib.hid hJ2
          rw [hhj] at c1
          clear hJ2 hpl hb hhj
          go_wp2_with (go_at_call 99; refine (HPP.out _).mono ?_; rintro e w5 ⟨rfl, rfl⟩)
          go_step3
          exact ⟨rfl, m2, g, y1, _, k1, se, _, _, _, _, _, _, _, _, _, _, _, _, _, _, _, _, _, _, _, _, _, _, _, _, _, _, _, _, _, _, _, _, _, _, _, _, _, _, _, _, _, _, _, _, _, _, _, _, _, _, _, _, _, _, _, _, _, _, _, _, hgl, rfl, HJ2.out, HK1.out.symm, by have h1 := HJ2.out.le; have h2 := HK1.out; omega, by omega, HO.out, HS1.out, HBB.out, HX.out⟩
  · skip
    rintro f a' wr ⟨g, ys, hf, k, se, S, u9, u10, u11, u12, u13, u14, u15, u16, u17, u18, u19, u20, u21, u22, u23, u24, u25, u26, u27, u28, u29, u30, u31, u32, u33, u34, u35, u36, u37, u38, u39, u40, u41, u42, u43, u44, u45, u46, u47, u48, u49, u50, u51, u52, u53, u54, u55, u56, u57, u58, u59, u60, u61, u62, u63, u64, u65, u66, u67, hgl, rfl, hJ, hk, hkb0, hff, ho, hs, hbb, hx⟩
    have HJ := Lib.hid hJ
    have HK := Lib.hid hk
    have HO := Lib.hid ho
    have HS := Lib.hid hs
    have HBB := Lib.hid hbb
    have HX := Lib.hid hx
    obtain ⟨p0, p1, z2⟩ := hbb.read2
    clear hJ hk ho hs hbb hx
    rcases list_end (ys) with hy | ⟨y1, p, hy⟩
    · have hk0 : k = 0 := by have h := HK.out; rw [hy] at h; exact h
      have d0 : ((k : Int) == 0) = true := by rw [hk0]; rfl
      have h1 := HJ.out
      rw [hy] at h1
      have HE := Lib.hid h1.fin
      clear h1 hk0 hy
      go_wp2
      simp only [Exit.jump]
      go_ret
      exact ⟨g, rfl, by rw [← HE.out]; exact HO.out, HX.out⟩
    · have hk0 : k = y1.length + 1 := by have h := HK.out; rw [hy, List.length_append] at h; exact h
      obtain ⟨k1, hk1⟩ : ∃ x, y1.length = x := ⟨_, rfl⟩
      have HK1 := Lib.hid hk1
      rw [hk1] at hk0
      have h1 := HJ.out
      have h2 := HS.out
      rw [hy] at h1 h2
      have HJ1 := Lib.hid h1
      obtain ⟨sg, hS⟩ := own_some1 h2 (by omega)
      subst hS
      have c0 : wr.cell? ⟨sg, k1, none⟩ = some (.int .i64 p) := (h2.cellAt k1 (by omega)).trans (by rw [List.map_append, ← hk1, List.getElem?_append_right (by rw [List.length_map]; exact Nat.le_refl _), List.length_map, Nat.sub_self]; rfl)
      have HS1 := Lib.hid (show wr.ownsRow (g + 1) 3 1 (.slice (some ⟨sg, 0, none⟩) k1 se) k1 (y1.map iv) from by
        have h3 := own_less h2 (k := k1) (by omega)
        rw [Nat.mul_one, List.map_append, List.take_append_of_le_length (by rw [List.length_map]; omega), List.take_of_length_le (by rw [List.length_map]; omega)] at h3
        exact h3)
      have d0 : ((k : Int) == 0) = false := beq_eq_false_iff_ne.2 (by omega)
      have v1 : IntKind.i64.wrap ((k : Int) - 1) = (k1 : Int) := by rw [IntKind.wrap_i64]; omega
      have hki : (k1 : Int) < (k : Int) := by omega
      have hkk : k1 ≤ k := by omega
      have hse : k ≤ se := (own_sl h2).2.1
      have hse2 : se ≤ 9223372036854775807 := by have := (own_sl h2).2.2.1; unfold maxLen at this; omega
      have HPP := Lib.hid (fun w' => HP.out p w')
      clear h1 h2 hy hk0 hk1
      cases hpl : isPl p n
      · rw [hpl] at HPP
        obtain ⟨m2, hmm2, hJ2⟩ := HJ1.out.skip (by rw [← HCN.out, hpl]; rfl)
        have HJ2 := Lib.hid hJ2
        clear hJ2 hpl
        go_wp2_with (go_at_call 99; refine (HPP.out _).mono ?_; rintro e w5 ⟨rfl, rfl⟩)
        go_step3
        exact ⟨rfl, m2, hmm2, g, y1, _, k1, se, _, _, _, _, _, _, _, _, _, _, _, _, _, _, _, _, _, _, _, _, _, _, _, _, _, _, _, _, _, _, _, _, _, _, _, _, _, _, _, _, _, _, _, _, _, _, _, _, _, _, _, _, _, _, _, _, _, _, _, _, hgl, rfl, HJ2.out, HK1.out.symm, by have h1 := HJ2.out.le; have h2 := HK1.out; omega, by omega, HO.out, HS1.out, HBB.out, HX.out⟩
      · rw [hpl] at HPP
        have hb := hpl
        unfold isPl at hb
        simp only [Bool.and_eq_true, decide_eq_true_eq] at hb
        obtain ⟨j, rfl⟩ := Int.eq_ofNat_of_zero_le hb.1
        have hjn : j < n := by omega
        have hji : (j : Int) < (n : Int) := by omega
        have c1 := HO.out.read hjn
        have f1 := HO.out.free j
        cases hhj : (hf) j
        · obtain ⟨m2, hmm2, hJ2⟩ := HJ1.out.mark (by rw [← HCN.out]; exact hjn) hhj
          have HJ2 := Lib.hid hJ2
          rw [hhj] at c1
          clear hJ2 hpl hb hhj
          have hjc : j < c.length := by rw [← HCN.out]; exact hjn
          obtain ⟨b, off, rfl, hbl, Bi, di, rw0, rw1, rw2, rw3, hi⟩ := HR.out.cell hjc
          have hbg : b ≠ g := by omega
          have hwg : w.heap.size ≠ g := by omega
          have r2 := (HX.out.cell (p := ⟨b, off + j * 4 + 2, none⟩) hbl).trans rw2
          have r3 := (HX.out.cell (p := ⟨b, off + j * 4 + 3, none⟩) hbl).trans rw3
          have HI := Lib.hid hi
          have HI2 := Lib.hid (HIT.out _ (List.getElem_mem hjc))
          clear rw0 rw1 rw2 rw3 hi
          generalize c[j] = y at *
          obtain ⟨yr, yp, yl, yi⟩ := y
          simp only at r2 r3 HI HI2 HJ2
          obtain ⟨mi, hmi⟩ : ∃ x, yi.length = x := ⟨_, rfl⟩
          have HMI := Lib.hid hmi
          rw [hmi] at r3 HI HI2
          clear hmi
          have HTD := Lib.hid (fun w' (hx : Ext w w') => HT.out Bi yl yi mi di (j : Int) w' hx HMI.out.symm (HI.out.ext hx))
          generalize toldPA yl yi ts (j : Int) = td at *
          have X5 := Lib.hid (HX.out.set (p := ⟨g, j, none⟩) (by simp; omega) (.bool true))
          have O5 := Lib.hid (HO.out.set hjn true)
          have B5 := Lib.hid (HBB.out.set_other (p := ⟨g, j, none⟩) (by simp; omega) (.bool true))
          have S5 := Lib.hid (ownsRow_setCell_other HS1.out (a := ⟨g, j, none⟩) (by have h9 := (HS1.out.lt sg rfl).1; simp [Value.ownBlock]; omega) (.bool true))
          go_wp2_with (first
            | (go_at_call 99; refine (HPP.out _).mono ?_; rintro e w5 ⟨rfl, rfl⟩)
            | (go_at_call 98; refine stop_here ?_))
          refine stop_on ?_
          refine (HTD.out _ X5.out).mono ?_
          rintro e w6 ⟨T, tk, te, rfl, hk3, hT, hx⟩
          have HTK := Lib.hid hk3
          have HTT := Lib.hid hT
          have X6 := Lib.hid (X5.out.trans hx)
          have O6 := Lib.hid (O5.out.ext hx)
          have B6 := Lib.hid (B5.out.ext hx)
          have S6 := Lib.hid (own_ext S5.out hx)
          have htk : tk ≤ 9223372036854775807 := by have := (hT w HI.out).len; unfold maxLen at this; omega
          have htk2 : k1 + tk ≤ 100000 := by have h1 := HJ2.out.le; have h2 := HK1.out; rw [List.length_append, List.length_map, ← HTK.out] at h1; omega
          clear hk3 hT hx r2 r3 c1 f1 c0 p0 p1 z2 X5 O5 B5 S5 HTD HT
          go_wp2_with fail
          go_loopw [8, 58] (fun s i wr => ∃ (i' : Nat) (S2 : Option Addr) (se2 : Nat), i' ≤ tk ∧ i = .int .i64 i' ∧ s = .slice S2 (k1 + i') se2 ∧ wr.ownsRow (g + 1) 3 1 (.slice S2 (k1 + i') se2) (k1 + i') ((y1 ++ (td.take i').map (·.2)).map iv) ∧ OnB wr w.heap.size g n n (fun x => if x = j then true else (hf) x) ∧ Bx wr w.heap.size #[.slice (some ⟨b, off, none⟩) n q, .int .i64 keep] ∧ Ext w wr) (fun _ i _ => tk - (intOf i).toNat)
          case atStart => exact ⟨0, some ⟨sg, 0, none⟩, se, Nat.zero_le _, rfl, rfl, by simpa using S6.out, O6.out, B6.out, X6.out⟩
          case round =>
            clear HJ HK HO HS HBB HX HS1 X6 O6 B6 S6
            obtain ⟨i', S2, se2, hi', rfl, rfl, hs, ho, hbb, hx⟩ := hrel
            have HO := Lib.hid ho
            have HX := Lib.hid hx
            have HS := Lib.hid hs
            have HBB := Lib.hid hbb
            clear ho hx hs hbb
            rcases Nat.lt_or_ge i' tk with hlt2 | hge
            · have hil : i' < td.length := by rw [← HTK.out]; exact hlt2
              obtain ⟨b2, off2, rfl, _, hc⟩ := (HTT.out _ (HI.out.ext HX.out)).cells.it hil
              obtain ⟨a0, a1⟩ := hc i' hil
              have hii : (i' : Int) < (tk : Int) := by omega
              have HS3 := Lib.hid (show y1 ++ (td.take (i' + 1)).map (·.2) = (y1 ++ (td.take i').map (·.2)) ++ [td[i'].2] from by rw [List.take_succ_eq_append_getElem hil, List.map_append, List.append_assoc]; rfl)
              clear hc
              generalize td[i'] = x at *
              obtain ⟨x1, x2⟩ := x
              simp only at a0 a1 HS3
              have Y2 := Lib.hid ((Ext.refl wr).alloc (.cells #[.int .i64 x1, .int .i64 x2] 146))
              go_wp2_with (at_builtin; refine stop_here ?_)
              refine stop_on ?_
              have Y3 := Lib.hid (Y2.out.alloc (.cells #[.int .i64 x2] 3))
              have HXY := Lib.hid (HX.out.trans Y3.out)
              refine app_iv1 _ rfl _ _ rfl (g + 1) (.slice S2 (k1 + i') se2) (k1 + i') (y1 ++ (td.take i').map (·.2)) rfl (own_ext HS.out Y3.out) (some ⟨_, 0, none⟩) 1 1 [x2] rfl rfl (sl_lit2 (by simp) _ 1 ([x2].map iv) (by unfold maxLen; omega)) (by omega) (by have h1 := HO.out.lt; have h2 := Y3.out.size; omega) ?_
              intro S4 se4 w7 hown hg
              rw [← HS3.out] at hown
              have hne : (Value.slice S2 (k1 + i') se2).ownBlock ≠ some g := by
                cases S2 with
                | none => simp [Value.ownBlock]
                | some a =>
                  have h9 := (HS.out.lt a.block rfl).1
                  simp [Value.ownBlock]
                  omega
              have hnw : (Value.slice S2 (k1 + i') se2).ownBlock ≠ some w.heap.size := by
                cases S2 with
                | none => simp [Value.ownBlock]
                | some a =>
                  have h9 := (HS.out.lt a.block rfl).1
                  simp [Value.ownBlock]
                  omega
              have O7 := Lib.hid (onB_kept (HO.out.ext Y3.out) hg hne)
              have B7 := Lib.hid (bx_kept (HBB.out.ext Y3.out) hg hnw)
              have X7 := Lib.hid (show Ext w w7 from Below.grown HXY.out hg HXY.out.size (by
                intro q hq
                have h9 := (HS.out.lt q hq).1
                omega))
              have S7 := Lib.hid hown
              clear hown hg hne hnw
              go_wp2_with fail
              go_roundw
              case rel => exact ⟨i' + 1, S4, se4, by omega, by go_num, rfl, S7.out, O7.out, B7.out, X7.out⟩
              case measure => simp [intOf]; omega
            · obtain rfl : tk = i' := by omega
              have HE := Lib.hid (show td.take tk = td from by rw [HTK.out, List.take_length])
              rw [HE.out] at HS
              clear hge
              go_wp2_with fail
              go_step3
              exact ⟨rfl, m2, hmm2, g, y1 ++ td.map (·.2), _, k1 + tk, se2, S2, _, _, _, _, _, _, _, _, _, _, _, _, _, _, _, _, _, _, _, _, _, _, _, _, _, _, _, _, _, _, _, _, _, _, _, _, _, _, _, _, _, _, _, _, _, _, _, _, _, _, _, _, _, _, _, _, _, _, _, hgl, rfl, HJ2.out, by rw [List.length_append, List.length_map, HK1.out, HTK.out], by have h1 := HJ2.out.le; have h2 := HK1.out; rw [List.length_append, List.length_map, ← HTK.out] at h1; omega, by omega, HO.out, HS.out, HBB.out, HX.out⟩
        · obtain ⟨m2, hmm2, hJ2⟩ := HJ1.out.skip (by rw [← HCN.out, hpl, Int.toNat_natCast, hhj]; rfl)
          have HJ2 := Lib.hid hJ2
          rw [hhj] at c1
          clear hJ2 hpl hb hhj
          go_wp2_with (go_at_call 99; refine (HPP.out _).mono ?_; rintro e w5 ⟨rfl, rfl⟩)
          go_step3
          exact ⟨rfl, m2, hmm2, g, y1, _, k1, se, _, _, _, _, _, _, _, _, _, _, _, _, _, _, _, _, _, _, _, _, _, _, _, _, _, _, _, _, _, _, _, _, _, _, _, _, _, _, _, _, _, _, _, _, _, _, _, _, _, _, _, _, _, _, _, _, _, _, _, _, hgl, rfl, HJ2.out, HK1.out.symm, by have h1 := HJ2.out.le; have h2 := HK1.out; omega, by omega, HO.out, HS1.out, HBB.out, HX.out⟩
end Go.Proofs.YtjbfopnkeclfgaaGreat
