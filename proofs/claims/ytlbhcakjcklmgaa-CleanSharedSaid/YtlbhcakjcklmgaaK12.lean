/- The walk of below of the reference of layer 7: nodes that are no leaves. -/
import Derived.Test.YtlbhcakjcklmgaaK07
namespace Go.Proofs.Ytlbhcakjcklmgaa
open Go.RowKit
attribute [local go_sem ↓] Go.wp_at_zero Go.wp_at_succ

set_option maxRecDepth 100000 in
set_option maxHeartbeats 3200000 in
theorem below_inner (l : List HC) (k : Nat) (hk : k < l.length) (m : Nat) (hm : 1 ≤ m) (hm2 : m ≤ 19) (R : Option Addr) (n q : Nat) (keep : Int) (w : World) (hA : HcSl w R n q l) (hr : ¬ l[k].ref < 1) (hlf : l[k].leaf = false) (hlen : 1 ≤ l[k].it.length ∧ l[k].it.length ≤ 4)
    (f : Int → Gt) (hf : ∀ v, 0 ≤ (f v).high ∧ (f v).high ≤ 20)
    (ih : ∀ j (hj : j < l[k].it.length) w', Ext w w' → Calls Try.prog 43 #[.agg #[.slice R n q, .int .i64 keep], .int .i64 l[k].it[j].2, .int .i64 (m : Int)] w' fun e w2 => e = .returned (gv (f l[k].it[j].2)) ∧ Ext w' w2) :
    Calls Try.prog 43 #[.agg #[.slice R n q, .int .i64 keep], .int .i64 k, .int .i64 ((m + 1 : Nat) : Int)] w fun e w' => e = .returned (gv (belRow f 0 l[k].it Gt.no)) ∧ Ext w w' := by
  have hnl := hA.1
  have hkn : k < n := by omega
  have hxa := (Ext.refl w).alloc (.cells #[.slice R n q, .int .i64 keep] 24)
  have hxb := (Ext.refl (w.alloc (.cells #[.slice R n q, .int .i64 keep] 24))).alloc (.cells #[.int .i64 0, .int .i64 0, .int .i64 0, .bool false] 84)
  have hx0 := hxa.trans hxb
  obtain ⟨b, off, rfl, hbl, A, c, r0, r1, r2, r3, hI⟩ := (hA.ext hx0).cell hk
  have hIw : Sl w A l[k].it.length c (ivs l[k].it) := by
    obtain ⟨b', off', e', hbw, A', c', _, _, _, q3, hI'⟩ := hA.cell hk
    cases e'
    have h3 := (hx0.cell (p := ⟨b, off + k * 4 + 3, none⟩) hbw).trans q3
    rw [r3] at h3
    cases h3
    exact hI'
  have d0 : decide (l[k].ref < 1) = false := decide_eq_false hr
  rw [hlf] at r2
  generalize hit : l[k].it = it at *
  obtain ⟨li, hli⟩ : ∃ li, it.length = li := ⟨_, rfl⟩
  rw [hli] at hIw r3 hlen
  have hst := (Ext.refl ((w.alloc (.cells #[.slice (some ⟨b, off, none⟩) n q, .int .i64 keep] 24)).alloc (.cells #[.int .i64 0, .int .i64 0, .int .i64 0, .bool false] 84))).alloc (.cells #[.bool false, .slice A li c] 36)
  have HB0 := (Bx.new w #[.slice (some ⟨b, off, none⟩) n q, .int .i64 keep] 24).ext hxb
  have hbn := Bx.new ((w.alloc (.cells #[.slice (some ⟨b, off, none⟩) n q, .int .i64 keep] 24)).alloc (.cells #[.int .i64 0, .int .i64 0, .int .i64 0, .bool false] 84)) #[.bool false, .slice A li c] 36
  rw [World.size_alloc, World.size_alloc] at hbn
  have hbr : Bx ((w.alloc (.cells #[.slice (some ⟨b, off, none⟩) n q, .int .i64 keep] 24)).alloc (.cells #[.int .i64 0, .int .i64 0, .int .i64 0, .bool false] 84)) (w.heap.size + 1) #[.int .i64 0, .int .i64 0, .int .i64 0, .bool false] := Bx.new' (by rw [World.size_alloc]) _ _
  have q0 := (hst.cell (p := ⟨b, off + k * 4, none⟩) hbl).trans r0
  have HBH := Lib.hid (HB0.ext hst)
  have HBR := Lib.hid (hbr.ext hst)
  have HBN := Lib.hid hbn
  have HX := Lib.hid (hx0.trans hst)
  have HIW := Lib.hid hIw
  have HIH := Lib.hid ih
  unfold gv at HIH
  have HF := Lib.hid hf
  have HLI := Lib.hid hli
  obtain ⟨p0, p1, p2⟩ := HB0.read2
  obtain ⟨v0, v1, v2⟩ := HBH.out.read2
  obtain ⟨n0, n1, n2⟩ := hbn.read2
  obtain ⟨M, hM⟩ : ∃ M : Int, ((m + 1 : Nat) : Int) = M := ⟨_, rfl⟩
  have d1 : decide (M ≤ 1) = false := decide_eq_false (by omega)
  have hM1 : M - 1 = (m : Int) := by omega
  have hMb : M ≤ 20 := by omega
  have hMw : IntKind.i64.wrap (m : Int) = (m : Int) := by rw [IntKind.wrap_i64]; omega
  rw [hM]
  generalize l[k].ref = rf at *
  clear ih hIw hI hst hbn hbr HB0 hM hA hnl hxa hxb hx0 hf hli hit hlf
  go_enter Try.func43, Try.ntmps43
  go_wp2
  have HBO := Lib.hid (Bx.new' (w := (((w.alloc (.cells #[.slice (some ⟨b, off, none⟩) n q, .int .i64 keep] 24)).alloc (.cells #[.int .i64 0, .int .i64 0, .int .i64 0, .bool false] 84)).alloc (.cells #[.bool false, .slice A li c] 36))) (k := w.heap.size + 1 + 1 + 1) (by rw [World.size_alloc, World.size_alloc, World.size_alloc]) #[.int .i64 0, .int .i64 0, .int .i64 0, .bool false] 84)
  have HBH1 := Lib.hid (HBH.out.ext ((Ext.refl _).alloc (.cells #[.int .i64 0, .int .i64 0, .int .i64 0, .bool false] 84)))
  have HBR1 := Lib.hid (HBR.out.ext ((Ext.refl _).alloc (.cells #[.int .i64 0, .int .i64 0, .int .i64 0, .bool false] 84)))
  have HBN1 := Lib.hid (HBN.out.ext ((Ext.refl _).alloc (.cells #[.int .i64 0, .int .i64 0, .int .i64 0, .bool false] 84)))
  have HX1 := Lib.hid (HX.out.alloc (.cells #[.int .i64 0, .int .i64 0, .int .i64 0, .bool false] 84))
  generalize World.alloc (World.alloc (World.alloc (World.alloc w _) _) _) _ = W at *
  clear HBH HBR HBN HX p0 p1 p2 v0 v1 v2 n0 n1 n2 r0 r1 r2 r3 q0 hbl
  go_loopw [9] (fun i wr => ∃ (j : Nat) (o : Gt), j ≤ li ∧ i = .int .i64 j ∧ Ext w wr ∧ (Bx wr w.heap.size #[.slice (some ⟨b, off, none⟩) n q, .int .i64 keep] ∧ Bx wr (w.heap.size + 1) #[.int .i64 0, .int .i64 0, .int .i64 0, .bool false] ∧ Bx wr (w.heap.size + 1 + 1) #[.bool false, .slice A li c]) ∧ Bx wr (w.heap.size + 1 + 1 + 1) #[.int .i64 o.lo, .int .i64 o.hi, .int .i64 o.high, .bool false] ∧ belRow f 0 it Gt.no = belRow f j (it.drop j) o) (fun i _ => li - (intOf i).toNat)
  case atStart => exact ⟨0, Gt.no, Nat.zero_le _, rfl, HX1.out, ⟨HBH1.out, HBR1.out, HBN1.out⟩, HBO.out, rfl⟩
  case round =>
    obtain ⟨j, o, hj, rfl, hx, ⟨hbh, hbr, hbn⟩, hbo, hbe⟩ := hrel
    have HXR := Lib.hid hx
    have HH := Lib.hid hbh
    have HR := Lib.hid hbr
    have HN := Lib.hid hbn
    have HO := Lib.hid hbo
    have HBE := Lib.hid hbe
    obtain ⟨p0, p1, p2⟩ := hbh.read2
    obtain ⟨n0, n1, n2⟩ := hbn.read2
    clear hbh hbr hbn hbo hbe HBO HBH1 HBR1 HBN1
    rcases Nat.lt_or_ge j li with hlt | hlt
    · have hjl : j < it.length := by rw [HLI.out]; exact hlt
      obtain ⟨b2, off2, rfl, hb2, a0, a1⟩ := it_at HIW.out hjl
      have i0 := (hx.cell (p := ⟨b2, off2 + j * 2, none⟩) hb2).trans a0
      have i1 := (hx.cell (p := ⟨b2, off2 + j * 2 + 1, none⟩) hb2).trans a1
      have hji : (j : Int) < (li : Int) := by omega
      have HCL := Lib.hid (fun w' (hx : Ext w w') => HIH.out j hjl w' hx)
      have HBAD := Lib.hid (fun (h : badR j it[j] (f it[j].2) o = true) => HBE.out.trans (belRow_bad hjl h))
      have HGOOD := Lib.hid (fun (h : badR j it[j] (f it[j].2) o = false) => HBE.out.trans (belRow_good hjl h))
      have hgb := HF.out it[j].2
      have HDEF := Lib.hid (show badR j it[j] (f it[j].2) o = (!(f it[j].2).is || (decide ((f it[j].2).lo ≠ it[j].1) || (decide (0 < j) && (decide ((f it[j].2).lo ≤ o.hi) || decide (o.high ≠ (f it[j].2).high + 1))))) from rfl)
      generalize badR j it[j] (f it[j].2) o = bad at *
      generalize f it[j].2 = g at *
      have HRI := Lib.hid (show ∀ w', Ext wr w' → w'.cell? ⟨b2, off2 + j * 2, none⟩ = some (.int .i64 it[j].1) from fun w' h => ((hx.trans h).cell (p := ⟨b2, off2 + j * 2, none⟩) hb2).trans a0)
      generalize it[j].2 = V at *
      generalize it[j].1 = K at *
      have hb3 : b2 < wr.heap.size := Nat.lt_of_lt_of_le hb2 hx.size
      clear a0 a1 hjl hx hb2
      go_wp2
      go_cut [10] from 55 to 64 (fun v wx => ∃ X, v = .pointer (some ⟨X, 0, none⟩) ∧ Bx wx X #[.int .i64 g.lo, .int .i64 g.hi, .int .i64 g.high, .bool g.is] ∧ Ext wr wx ∧ wr.heap.size ≤ X)
      case first =>
        go_region_law
          (first
            | ((go_simp
                go_at_call 43
                refine (HCL.out _ ?_).mono ?_
                (first | exact HXR.out.drew | exact (HXR.out.drew).alloc _ | exact (HXR.out.alloc _).drew | exact HXR.out)
                rintro e w4 ⟨rfl, hx4⟩
                have E4 := Lib.hid (show Ext wr w4 from by first | exact (Ext.refl _).drew.trans hx4 | exact (((Ext.refl _).drew).alloc _).trans hx4 | exact (((Ext.refl _).alloc _).drew).trans hx4 | exact hx4)
                (try (have B4 := Lib.hid (show Bx w4 wr.heap.size #[.int .i64 0, .int .i64 0, .int .i64 0, .bool false] from (Bx.new wr.drew _ _).ext hx4); have f0 := B4.out.free 0; have f1 := B4.out.free 1; have f2 := B4.out.free 2; have f3 := B4.out.free 3; have z1 := B4.out.lt; have y0 := B4.out.at 0 _ rfl; have y1 := B4.out.at 1 _ rfl; have y2 := B4.out.at 2 _ rfl; have y3 := B4.out.at 3 _ rfl; have S4 := Lib.hid (B4.out.set4 (.int .i64 g.lo) (.int .i64 g.hi) (.int .i64 g.high) (.bool g.is)); have T4 := Lib.hid ((((E4.out.set (p := ⟨wr.heap.size, 0, none⟩) (Nat.le_refl _) (.int .i64 g.lo)).set (p := ⟨wr.heap.size, 1, none⟩) (Nat.le_refl _) (.int .i64 g.hi)).set (p := ⟨wr.heap.size, 2, none⟩) (Nat.le_refl _) (.int .i64 g.high)).set (p := ⟨wr.heap.size, 3, none⟩) (Nat.le_refl _) (.bool g.is))))
                clear hx4)))
        all_goals
          go_wp2_with fail
          go_meet
          first
          | exact ⟨_, rfl, S4.out, T4.out, Nat.le_refl _⟩
          | exact ⟨_, rfl, Bx.new _ _ _, E4.out.alloc _, E4.out.size⟩
      case rest =>
        obtain ⟨X, rfl, hbx, hx5, hXl⟩ := hcut
        have hXB : w.heap.size + 1 + 1 + 1 ≠ X := by have := HO.out.lt; omega
        obtain ⟨g1, g2, g3, g4⟩ := g
        obtain ⟨o1, o2, o3, o4⟩ := o
        simp only at hgb hbx
        have HXX := Lib.hid hbx
        have HX5 := Lib.hid (HXR.out.trans hx5)
        have HR5 := Lib.hid (HR.out.ext hx5)
        have HN5 := Lib.hid (HN.out.ext hx5)
        have HO5 := Lib.hid (HO.out.ext hx5)
        have HH5 := Lib.hid (HH.out.ext hx5)
        have i3 := HRI.out _ hx5
        have hw3 : IntKind.i64.wrap (g3 + 1) = g3 + 1 := by rw [IntKind.wrap_i64]; omega
        obtain ⟨x0, x1, x2, x3⟩ := HXX.out.read4
        obtain ⟨y0, y1, y2, y3⟩ := HO5.out.read4
        clear p0 p1 p2 n0 n1 n2 i0 i1 hb3 hbx hx5 HCL HIH HRI hXl
        obtain ⟨n0, n1, n2⟩ := HN5.out.read2
        have q0 := HXX.out.lt
        have q1 := HO5.out.lt
        have q2 := HR5.out.lt
        clear HX1 HF HH HR HN HO HXR
        cases g4
        · have HE := Lib.hid (HBAD.out (by rw [HDEF.out]; simp))
          clear HBAD HGOOD HDEF
          obtain ⟨f0, f1, f2, f3⟩ := HR5.out.free4; obtain ⟨r0, r1, r2, r3⟩ := HR5.out.read4
          go_wp2
          go_quiet (fail)
          go_wp2
          have HB4 := Lib.hid ((HR5.out.drewN nq).set4 (.int .i64 0) (.int .i64 0) (.int .i64 0) (.bool false))
          have HX4 := Lib.hid ((HX5.out.drewN nq).store4 (k := w.heap.size + 1) (by omega) (.int .i64 0) (.int .i64 0) (.int .i64 0) (.bool false))
          generalize World.setCell (World.setCell (World.setCell (World.setCell (wc.drewN nq) _ _) _ _) _ _) _ _ = W4 at *
          exact ret4_cell (v := gv Gt.no) HB4.out (fun a0 a1 a2 a3 => by simp [results, Try.results43, go_sem, a0, a1, a2, a3]; rfl) rfl ⟨by rw [HE.out], HX4.out⟩
        by_cases hK : g1 = K
        rotate_left
        · have t0 : (g1 != K) = true := bne_iff_ne.2 hK
          have t1 : decide (g1 = K) = false := decide_eq_false hK
          have HE := Lib.hid (HBAD.out (by rw [HDEF.out]; simp [hK]))
          clear HBAD HGOOD HDEF
          obtain ⟨f0, f1, f2, f3⟩ := HR5.out.free4; obtain ⟨r0, r1, r2, r3⟩ := HR5.out.read4
          go_wp2
          go_quiet (fail)
          go_wp2
          have HB4 := Lib.hid ((HR5.out.drewN nq).set4 (.int .i64 0) (.int .i64 0) (.int .i64 0) (.bool false))
          have HX4 := Lib.hid ((HX5.out.drewN nq).store4 (k := w.heap.size + 1) (by omega) (.int .i64 0) (.int .i64 0) (.int .i64 0) (.bool false))
          generalize World.setCell (World.setCell (World.setCell (World.setCell (wc.drewN nq) _ _) _ _) _ _) _ _ = W4 at *
          exact ret4_cell (v := gv Gt.no) HB4.out (fun a0 a1 a2 a3 => by simp [results, Try.results43, go_sem, a0, a1, a2, a3]; rfl) rfl ⟨by rw [HE.out], HX4.out⟩
        subst hK
        have t0 : (g1 != g1) = false := by simp
        rcases Nat.eq_zero_or_pos j with h0 | h0
        · have d3 : decide ((0 : Int) < (j : Int)) = false := decide_eq_false (by omega)
          have d4 : decide (0 < j) = false := decide_eq_false (by omega)
          have HE := Lib.hid (HGOOD.out (by rw [HDEF.out]; simp [d4]))
          have HNX := Lib.hid (show nextR j ⟨g1, g2, g3, true⟩ ⟨o1, o2, o3, o4⟩ = ⟨g1, g2, g3 + 1, false⟩ from by unfold nextR; rw [if_pos h0, if_pos h0])
          have t5 : ((j : Int) == 0) = true := by rw [beq_iff_eq]; omega
          clear HBAD HGOOD HDEF h0
          obtain ⟨f0, f1, f2, f3⟩ := HO5.out.free4
          go_wp2
          go_quiet (fail)
          have HB6 := Lib.hid (HO5.out.drewN nq)
          have HX6 := Lib.hid (HX5.out.drewN nq)
          have HH6 := Lib.hid (HH5.out.drewN nq)
          have HR6 := Lib.hid (HR5.out.drewN nq)
          have HN6 := Lib.hid (HN5.out.drewN nq)
          have HY6 := Lib.hid (HXX.out.drewN nq)
          have HB7 := Lib.hid (HB6.out.set 0 (.int .i64 g1))
          have HX7 := Lib.hid (HX6.out.set (p := ⟨w.heap.size + 1 + 1 + 1, 0, none⟩) (by show w.heap.size ≤ w.heap.size + 1 + 1 + 1; omega) (.int .i64 g1))
          have HH7 := Lib.hid (HH6.out.set_other (p := ⟨w.heap.size + 1 + 1 + 1, 0, none⟩) (by show w.heap.size + 1 + 1 + 1 ≠ w.heap.size; omega) (.int .i64 g1))
          have HR7 := Lib.hid (HR6.out.set_other (p := ⟨w.heap.size + 1 + 1 + 1, 0, none⟩) (by show w.heap.size + 1 + 1 + 1 ≠ w.heap.size + 1; omega) (.int .i64 g1))
          have HN7 := Lib.hid (HN6.out.set_other (p := ⟨w.heap.size + 1 + 1 + 1, 0, none⟩) (by show w.heap.size + 1 + 1 + 1 ≠ w.heap.size + 1 + 1; omega) (.int .i64 g1))
          have HY7 := Lib.hid (HY6.out.set_other (p := ⟨w.heap.size + 1 + 1 + 1, 0, none⟩) hXB (.int .i64 g1))
          have HB8 := Lib.hid (HB7.out.set 2 (.int .i64 (g3 + 1)))
          have HX8 := Lib.hid (HX7.out.set (p := ⟨w.heap.size + 1 + 1 + 1, 2, none⟩) (by show w.heap.size ≤ w.heap.size + 1 + 1 + 1; omega) (.int .i64 (g3 + 1)))
          have HH8 := Lib.hid (HH7.out.set_other (p := ⟨w.heap.size + 1 + 1 + 1, 2, none⟩) (by show w.heap.size + 1 + 1 + 1 ≠ w.heap.size; omega) (.int .i64 (g3 + 1)))
          have HR8 := Lib.hid (HR7.out.set_other (p := ⟨w.heap.size + 1 + 1 + 1, 2, none⟩) (by show w.heap.size + 1 + 1 + 1 ≠ w.heap.size + 1; omega) (.int .i64 (g3 + 1)))
          have HN8 := Lib.hid (HN7.out.set_other (p := ⟨w.heap.size + 1 + 1 + 1, 2, none⟩) (by show w.heap.size + 1 + 1 + 1 ≠ w.heap.size + 1 + 1; omega) (.int .i64 (g3 + 1)))
          have HY8 := Lib.hid (HY7.out.set_other (p := ⟨w.heap.size + 1 + 1 + 1, 2, none⟩) hXB (.int .i64 (g3 + 1)))
          have HB9 := Lib.hid (HB8.out.set 1 (.int .i64 g2))
          have HX9 := Lib.hid (HX8.out.set (p := ⟨w.heap.size + 1 + 1 + 1, 1, none⟩) (by show w.heap.size ≤ w.heap.size + 1 + 1 + 1; omega) (.int .i64 g2))
          have HH9 := Lib.hid (HH8.out.set_other (p := ⟨w.heap.size + 1 + 1 + 1, 1, none⟩) (by show w.heap.size + 1 + 1 + 1 ≠ w.heap.size; omega) (.int .i64 g2))
          have HR9 := Lib.hid (HR8.out.set_other (p := ⟨w.heap.size + 1 + 1 + 1, 1, none⟩) (by show w.heap.size + 1 + 1 + 1 ≠ w.heap.size + 1; omega) (.int .i64 g2))
          have HN9 := Lib.hid (HN8.out.set_other (p := ⟨w.heap.size + 1 + 1 + 1, 1, none⟩) (by show w.heap.size + 1 + 1 + 1 ≠ w.heap.size + 1 + 1; omega) (.int .i64 g2))
          have HY9 := Lib.hid (HY8.out.set_other (p := ⟨w.heap.size + 1 + 1 + 1, 1, none⟩) hXB (.int .i64 g2))
          have a0 := HB7.out.free 2
          have a1 := HB8.out.free 1
          have a2 := HB7.out.at 2 _ rfl
          have a3 := HB8.out.at 1 _ rfl
          have a4 := HY7.out.at 2 _ rfl
          have a5 := HY8.out.at 1 _ rfl
          go_wp2
          go_roundw
          case rel => exact ⟨j + 1, ⟨g1, g2, g3 + 1, false⟩, by omega, by go_num, HX9.out, ⟨HH9.out, HR9.out, HN9.out⟩, HB9.out, by rw [HE.out, HNX.out]⟩
          case measure => simp [intOf]; omega
        have d3 : decide ((0 : Int) < (j : Int)) = true := decide_eq_true (by omega)
        have d4 : decide (0 < j) = true := decide_eq_true h0
        rcases Int.lt_or_le o2 g1 with h1 | h1
        rotate_left
        · have d5 : decide (g1 ≤ o2) = true := decide_eq_true h1
          have HE := Lib.hid (HBAD.out (by rw [HDEF.out]; simp [h0, h1]))
          clear HBAD HGOOD HDEF
          obtain ⟨f0, f1, f2, f3⟩ := HR5.out.free4; obtain ⟨r0, r1, r2, r3⟩ := HR5.out.read4
          go_wp2
          go_quiet (fail)
          go_wp2
          have HB4 := Lib.hid ((HR5.out.drewN nq).set4 (.int .i64 0) (.int .i64 0) (.int .i64 0) (.bool false))
          have HX4 := Lib.hid ((HX5.out.drewN nq).store4 (k := w.heap.size + 1) (by omega) (.int .i64 0) (.int .i64 0) (.int .i64 0) (.bool false))
          generalize World.setCell (World.setCell (World.setCell (World.setCell (wc.drewN nq) _ _) _ _) _ _) _ _ = W4 at *
          exact ret4_cell (v := gv Gt.no) HB4.out (fun a0 a1 a2 a3 => by simp [results, Try.results43, go_sem, a0, a1, a2, a3]; rfl) rfl ⟨by rw [HE.out], HX4.out⟩
        have d5 : decide (g1 ≤ o2) = false := decide_eq_false (by omega)
        by_cases h2 : o3 = g3 + 1
        rotate_left
        · have t2 : (o3 != g3 + 1) = true := bne_iff_ne.2 h2
          have HE := Lib.hid (HBAD.out (by rw [HDEF.out]; simp [h0, h2]))
          clear HBAD HGOOD HDEF
          obtain ⟨f0, f1, f2, f3⟩ := HR5.out.free4; obtain ⟨r0, r1, r2, r3⟩ := HR5.out.read4
          go_wp2
          go_quiet (fail)
          go_wp2
          have HB4 := Lib.hid ((HR5.out.drewN nq).set4 (.int .i64 0) (.int .i64 0) (.int .i64 0) (.bool false))
          have HX4 := Lib.hid ((HX5.out.drewN nq).store4 (k := w.heap.size + 1) (by omega) (.int .i64 0) (.int .i64 0) (.int .i64 0) (.bool false))
          generalize World.setCell (World.setCell (World.setCell (World.setCell (wc.drewN nq) _ _) _ _) _ _) _ _ = W4 at *
          exact ret4_cell (v := gv Gt.no) HB4.out (fun a0 a1 a2 a3 => by simp [results, Try.results43, go_sem, a0, a1, a2, a3]; rfl) rfl ⟨by rw [HE.out], HX4.out⟩
        have t2 : (o3 != g3 + 1) = false := by rw [h2]; simp
        have HE := Lib.hid (HGOOD.out (by rw [HDEF.out]; simp [d4, d5, h2]))
        have HNX := Lib.hid (show nextR j ⟨g1, g2, g3, true⟩ ⟨o1, o2, o3, o4⟩ = ⟨o1, g2, o3, false⟩ from by unfold nextR; rw [if_neg (by omega), if_neg (by omega)])
        have t5 : ((j : Int) == 0) = false := by rw [beq_eq_false_iff_ne]; omega
        clear HBAD HGOOD HDEF h0 h2
        obtain ⟨f0, f1, f2, f3⟩ := HO5.out.free4
        go_wp2
        go_quiet (fail)
        have HB6 := Lib.hid ((HO5.out.drewN nq).set 1 (.int .i64 g2))
        have HX6 := Lib.hid ((HX5.out.drewN nq).set (p := ⟨w.heap.size + 1 + 1 + 1, 1, none⟩) (by show w.heap.size ≤ w.heap.size + 1 + 1 + 1; omega) (.int .i64 g2))
        have HH6 := Lib.hid ((HH5.out.drewN nq).set_other (p := ⟨w.heap.size + 1 + 1 + 1, 1, none⟩) (by show w.heap.size + 1 + 1 + 1 ≠ w.heap.size; omega) (.int .i64 g2))
        have HR6 := Lib.hid ((HR5.out.drewN nq).set_other (p := ⟨w.heap.size + 1 + 1 + 1, 1, none⟩) (by show w.heap.size + 1 + 1 + 1 ≠ w.heap.size + 1; omega) (.int .i64 g2))
        have HN6 := Lib.hid ((HN5.out.drewN nq).set_other (p := ⟨w.heap.size + 1 + 1 + 1, 1, none⟩) (by show w.heap.size + 1 + 1 + 1 ≠ w.heap.size + 1 + 1; omega) (.int .i64 g2))
        go_wp2
        go_roundw
        case rel => exact ⟨j + 1, ⟨o1, g2, o3, false⟩, by omega, by go_num, HX6.out, ⟨HH6.out, HR6.out, HN6.out⟩, HB6.out, by rw [HE.out, HNX.out]⟩
        case measure => simp [intOf]; omega
    · obtain rfl : li = j := by omega
      have HE := Lib.hid (show belRow f 0 it Gt.no = ⟨o.lo, o.hi, o.high, true⟩ from by rw [HBE.out, List.drop_of_length_le (by rw [HLI.out]; omega)]; rfl)
      obtain ⟨o1, o2, o3, o4⟩ := o
      simp only at HE
      have B1 := Lib.hid (HO.out.set 3 (.bool true))
      have R1 := Lib.hid (HR.out.set_other (p := ⟨w.heap.size + 1 + 1 + 1, 3, none⟩) (by show w.heap.size + 1 + 1 + 1 ≠ w.heap.size + 1; omega) (.bool true))
      have X1 := Lib.hid (HXR.out.set (p := ⟨w.heap.size + 1 + 1 + 1, 3, none⟩) (by show w.heap.size ≤ w.heap.size + 1 + 1 + 1; omega) (.bool true))
      obtain ⟨f0, f1, f2, f3⟩ := HO.out.free4
      obtain ⟨y0, y1, y2, y3⟩ := HO.out.read4
      obtain ⟨z0, z1, z2, z3⟩ := Bx.read4 (a := .int .i64 o1) (b := .int .i64 o2) (c := .int .i64 o3) (d := .bool true) B1.out
      obtain ⟨g0, g1, g2, g3⟩ := R1.out.free4
      obtain ⟨r0, r1, r2, r3⟩ := R1.out.read4
      have q1 := HO.out.lt
      have q2 := HR.out.lt
      have B2 := Lib.hid (R1.out.set4 (.int .i64 o1) (.int .i64 o2) (.int .i64 o3) (.bool true))
      have X2 := Lib.hid (X1.out.store4 (k := w.heap.size + 1) (by omega) (.int .i64 o1) (.int .i64 o2) (.int .i64 o3) (.bool true))
      clear HX1 HF HH HN HBE HIH HIW hlt
      go_wp2
      generalize World.setCell (World.setCell (World.setCell (World.setCell (World.setCell wr _ _) _ _) _ _) _ _) _ _ = W4 at *
      exact ret4_cell (v := gv ⟨o1, o2, o3, true⟩) B2.out (fun a0 a1 a2 a3 => by simp [results, Try.results43, go_sem, a0, a1, a2, a3]; rfl) rfl ⟨by rw [HE.out], X2.out⟩
end Go.Proofs.Ytlbhcakjcklmgaa
