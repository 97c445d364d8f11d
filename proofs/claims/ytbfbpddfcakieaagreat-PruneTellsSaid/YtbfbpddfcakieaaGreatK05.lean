/- The walk of Loose of the reference. The walk of Alloc of the reference. -/
import Derived.Test.YtbfbpddfcakieaaGreatK04
namespace Go.Proofs.YtbfbpddfcakieaaGreat
open Go.RowKit
attribute [local go_sem ↓] Go.wp_at_zero Go.wp_at_succ

set_option maxRecDepth 100000 in
set_option maxHeartbeats 3200000 in
theorem ref05Loose_any : ∀ (N f : Nat) (R : Option Addr) (l : List HC) (n q : Nat) (keep p : Int) (w : World), usedN l ≤ N → N < f → n ≤ 90000 → Bd l → HcSl w R n q l →
    Calls Tryz.prog 29 #[.agg #[.slice R n q, .int .i64 keep], .int .i64 p] w fun e w' => ∃ S d, e = .returned (.tuple #[.agg #[.slice S n d, .int .i64 keep], .int .i64 (looseE ⟨l, keep⟩ p)]) ∧ HcSl w' S n d (looseL f l p) ∧ Ext w w' := by
  intro N
  induction N using Nat.strongRecOn with
  | ind N ih =>
  intro f R l n q keep p w hN hf hb hbd hA
  have hn := hA.1
  have hx0 := ((Ext.refl w).alloc (.cells #[.slice R n q, .int .i64 keep] 24)).alloc (.cells #[.slice none 0 0, .int .i64 0] 24)
  have HX := Lib.hid hx0
  have HB0 := Lib.hid ((Bx.new w #[.slice R n q, .int .i64 keep] 24).ext ((Ext.refl _).alloc (.cells #[.slice none 0 0, .int .i64 0] 24)))
  have hb1 := Bx.new (w.alloc (.cells #[.slice R n q, .int .i64 keep] 24)) #[.slice none 0 0, .int .i64 0] 24
  rw [show (w.alloc (.cells #[.slice R n q, .int .i64 keep] 24)).heap.size = w.heap.size + 1 by simp] at hb1
  have HB1 := Lib.hid hb1
  have HA := Lib.hid (hA.ext hx0)
  have HU := Lib.hid (fun w' hx => ref05Used_any R l n q keep p w' (hA.ext (hx0.trans hx)))
  have HN := Lib.hid hn
  obtain ⟨p0, p1, p2⟩ := HB0.out.read2
  obtain ⟨u, hu⟩ : ∃ u, usedC l p = u := ⟨_, rfl⟩
  rw [hu] at HU
  obtain ⟨f, rfl⟩ : ∃ g, f = g + 1 := ⟨f - 1, by omega⟩
  cases u
  · have e1 := looseL_no (f + 1) hu
    have e2 : looseE ⟨l, keep⟩ p = 4 := by unfold looseE usedH; simp only [hu]; rfl
    rw [e1, e2]
    clear hx0 hb1 hA hn ih hu e1 e2 hN hf
    go_enter Tryz.func29, Tryz.ntmps29
    go_wp2_with (go_at_call 38; refine stop_here ?_)
    refine stop_on ?_
    generalize hW : World.alloc (World.alloc w _) _ = W at *
    clear hW
    refine (HU.out _ (Ext.refl _)).mono ?_
    rintro e w1 ⟨rfl, hx⟩
    have HX1 := Lib.hid (HX.out.trans hx)
    have HA1 := Lib.hid (HA.out.ext hx)
    have HB2 := Lib.hid (HB1.out.ext hx)
    clear p0 p1 p2
    obtain ⟨p0, p1, p2⟩ := (HB0.out.ext hx).read2
    obtain ⟨t0, t1, t2⟩ := HB2.out.read2
    obtain ⟨y0, y1⟩ := HB2.out.free2
    clear hx
    go_wp2_with fail
    refine ret2_cell (k := w.heap.size + 1) (x := .slice R n q) (y := .int .i64 keep) (v := .tuple #[.agg #[.slice R n q, .int .i64 keep], .int .i64 4]) ?hb4 (fun r0 r1 => by simp [results, Tryz.results29, go_sem, r0, r1]) rfl ?hx4
    case hb4 => exact HB2.out.set2 _ _
    case hx4 => exact ⟨R, q, rfl, HA1.out.boxed2 HB2.out _ _, HX1.out.store2 (by omega) _ _⟩
  obtain ⟨k, hk, rfl, hpos⟩ := usedC_iff hu
  have e1 := looseL_at f hk hu
  have e2 : looseE ⟨l, keep⟩ (k : Int) = 0 := by unfold looseE usedH; simp only [hu]; rfl
  rw [e1, e2]
  have hki : (k : Int) < (n : Int) := by omega
  have hkn : k < n := by omega
  have hkb := hbd k hk
  have HBD := Lib.hid hbd
  by_cases h1 : 1 < l[k].ref
  · rw [if_pos h1]
    have HSET := Lib.hid (fun A c w' (hx : Ext w w') (hI : Sl w' A l[k].it.length c (ivs l[k].it)) => (show Calls Tryz.prog 57 #[.agg #[.slice R n q, .int .i64 keep], .int .i64 k, .agg #[.int .i64 (l[k].ref - 1), .bool false, .bool l[k].leaf, .slice A l[k].it.length c]] w' fun e w2 => ∃ S d, e = .returned (.agg #[.slice S n d, .int .i64 keep]) ∧ HcSl w2 S n d (l.set k ⟨l[k].ref - 1, false, l[k].leaf, l[k].it⟩) ∧ Ext w' w2 from
      ref05set_any R l n q k keep ⟨l[k].ref - 1, false, l[k].leaf, l[k].it⟩ A l[k].it.length c w' hkn hb (hA.ext hx) rfl hI))
    have d1 : decide (1 < l[k].ref) = true := decide_eq_true h1
    generalize l.set k ⟨l[k].ref - 1, false, l[k].leaf, l[k].it⟩ = l' at *
    clear hx0 hb1 hA hn ih hu e1 e2 hN hf hbd
    go_enter Tryz.func29, Tryz.ntmps29
    go_wp2_with (go_at_call 38; refine stop_here ?_)
    refine stop_on ?_
    generalize hW : World.alloc (World.alloc w _) _ = W at *
    clear hW
    refine (HU.out _ (Ext.refl _)).mono ?_
    rintro e w1 ⟨rfl, hx⟩
    have HX1 := Lib.hid (HX.out.trans hx)
    have HA1 := Lib.hid (HA.out.ext hx)
    have HB2 := Lib.hid (HB1.out.ext hx)
    clear p0 p1 p2
    obtain ⟨p0, p1, p2⟩ := (HB0.out.ext hx).read2
    obtain ⟨b, off, rfl, hbl, A, c, r0, r1, r2, r3, hI⟩ := HA1.out.cell hk
    have HI := Lib.hid hI
    clear hx hI
    generalize l[k].it.length = m at *
    generalize l[k].leaf = lf at *
    generalize l[k].ref = rf at *
    generalize l[k].pin = pn at *
    have hrm : -9223372036854775808 ≤ rf - 1 := by omega
    go_wp2_with (go_at_call 57; refine stop_here ?_)
    refine stop_on ?_
    refine (HSET.out A c _ (HX1.out.alloc _) (HI.out.ext ((Ext.refl _).alloc _))).mono ?_
    rintro e w2 ⟨S, d, rfl, hs, hx⟩
    have HX2 := Lib.hid ((HX1.out.alloc (.cells #[.int .i64 rf, .bool pn, .bool lf, .slice A m c] 53)).trans hx)
    have HB3 := Lib.hid (HB2.out.ext (((Ext.refl w1).alloc (.cells #[.int .i64 rf, .bool pn, .bool lf, .slice A m c] 53)).trans hx))
    have HS2 := Lib.hid hs
    clear hs hx p0 p1 p2 r0 r1 r2 r3
    obtain ⟨t0, t1, t2⟩ := HB3.out.read2
    obtain ⟨y0, y1⟩ := HB3.out.free2
    go_wp2_with fail
    refine ret2_cell (k := w.heap.size + 1) (x := .slice S n d) (y := .int .i64 keep) (v := .tuple #[.agg #[.slice S n d, .int .i64 keep], .int .i64 0]) ?hb5 (fun r0 r1 => by simp [results, Tryz.results29, go_sem, r0, r1]) rfl ?hx5
    case hb5 => exact HB3.out.set2 _ _
    case hx5 => exact ⟨S, d, rfl, HS2.out.boxed2 HB3.out _ _, HX2.out.store2 (by omega) _ _⟩
  rw [if_neg h1]
  have hr1 : l[k].ref = 1 := by omega
  obtain ⟨l1, hl1⟩ : ∃ l1, l.set k ⟨0, true, false, []⟩ = l1 := ⟨_, rfl⟩
  have hu1 : usedN l1 + 1 = usedN l := by rw [← hl1]; exact usedN_set hk _ (by simp) hpos
  have hbd1 : Bd l1 := by rw [← hl1]; exact hbd.set _ _ (by simp)
  have hll1 : l1.length = l.length := by rw [← hl1, List.length_set]
  obtain ⟨b, off, rfl, hbl, A, c, r0, r1, r2, r3, hI⟩ := hA.cell hk
  have HSET := Lib.hid (fun w' (hx : Ext w w') => (show Calls Tryz.prog 57 #[.agg #[.slice (some ⟨b, off, none⟩) n q, .int .i64 keep], .int .i64 k, .agg #[.int .i64 0, .bool true, .bool false, .slice none 0 0]] w' fun e w2 => ∃ S d, e = .returned (.agg #[.slice S n d, .int .i64 keep]) ∧ HcSl w2 S n d l1 ∧ Ext w' w2 from by
    rw [← hl1]
    exact ref05set_any (some ⟨b, off, none⟩) l n q k keep ⟨0, true, false, []⟩ none 0 0 w' hkn hb (hA.ext hx) rfl (Sl.nil _)))
  rw [hl1]
  have HIH := Lib.hid (fun (S : Option Addr) (g : List HC) (d : Nat) (V : Int) w' (h1 : usedN g ≤ N - 1) (h2 : Bd g) (h3 : HcSl w' S n d g) => ih (N - 1) (by omega) f S g n d keep V w' h1 (by omega) hb h2 h3)
  have HG := Lib.hid (fun (t : List It) => (show usedN (t.foldl (fun g x => looseL f g x.2) l1) ≤ N - 1 ∧ Bd (t.foldl (fun g x => looseL f g x.2) l1) from
    ⟨foldl_inv (P := fun g => usedN g ≤ N - 1) (g := fun g (x : It) => looseL f g x.2) (fun b a hb => Nat.le_trans (loose_used f b a.2) hb) _ _ (by omega), foldl_inv (P := Bd) (g := fun g (x : It) => looseL f g x.2) (fun b a hb => loose_bd f b a.2 hb) _ _ hbd1⟩))
  have HRD := Lib.hid (fun w' (hx : Ext w w') => (show (w'.cell? ⟨b, off + k * 4, none⟩ = some (.int .i64 1) ∧ w'.cell? ⟨b, off + k * 4 + 1, none⟩ = some (.bool l[k].pin)) ∧ (w'.cell? ⟨b, off + k * 4 + 2, none⟩ = some (.bool l[k].leaf) ∧ w'.cell? ⟨b, off + k * 4 + 3, none⟩ = some (.slice A l[k].it.length c)) from
    ⟨⟨(hx.cell (p := ⟨b, off + k * 4, none⟩) hbl).trans (by rw [← hr1]; exact r0), (hx.cell (p := ⟨b, off + k * 4 + 1, none⟩) hbl).trans r1⟩, (hx.cell (p := ⟨b, off + k * 4 + 2, none⟩) hbl).trans r2, (hx.cell (p := ⟨b, off + k * 4 + 3, none⟩) hbl).trans r3⟩))
  have HI := Lib.hid hI
  have hml := hI.len
  unfold maxLen at hml
  generalize l[k].it = it at *
  generalize l[k].leaf = lf at *
  generalize l[k].pin = pn at *
  obtain ⟨m, hm⟩ : ∃ m, it.length = m := ⟨_, rfl⟩
  rw [hm] at HRD HI hml
  have HM := Lib.hid hm
  clear hx0 hb1 hA hn ih hu e1 e2 hN hf hbd hI r0 r1 r2 r3 h1 hr1 hl1 hu1 hbd1 hll1 hm hpos hkb
  go_enter Tryz.func29, Tryz.ntmps29
  go_wp2_with (go_at_call 38; refine stop_here ?_)
  refine stop_on ?_
  generalize hW : World.alloc (World.alloc w _) _ = W at *
  clear hW
  refine (HU.out _ (Ext.refl _)).mono ?_
  rintro e w1 ⟨rfl, hx⟩
  have HX1 := Lib.hid (HX.out.trans hx)
  have HB2 := Lib.hid (HB1.out.ext hx)
  have HB3 := Lib.hid (HB0.out.ext hx)
  clear p0 p1 p2 HU HA
  obtain ⟨p0, p1, p2⟩ := HB3.out.read2
  obtain ⟨⟨r0, r1⟩, r2, r3⟩ := HRD.out _ HX1.out
  clear hx
  go_wp2_with (go_at_call 57; refine stop_here ?_)
  refine stop_on ?_
  have hz : w.heap.size + 1 < w1.heap.size := HB2.out.lt
  refine (HSET.out _ (HX1.out.alloc _)).mono ?_
  rintro e w2 ⟨S, d, rfl, hs, hx⟩
  have hx2 : Ext w1 w2 := ((Ext.refl w1).alloc (.cells #[.int .i64 1, .bool pn, .bool lf, .slice A m c] 53)).trans hx
  have HX2 := Lib.hid (HX1.out.trans hx2)
  have HB4 := Lib.hid (HB2.out.ext hx2)
  have HB5 := Lib.hid (HB3.out.ext hx2)
  have HB6 := Lib.hid ((Bx.new w1 #[.int .i64 1, .bool pn, .bool lf, .slice A m c] 53).ext hx)
  have HS2 := Lib.hid hs
  clear hs hx hx2 p0 p1 p2 r0 r1 r2 r3
  generalize w1.heap.size = z at *
  obtain ⟨t0, t1, t2⟩ := HB5.out.read2
  obtain ⟨y0, y1⟩ := HB5.out.free2
  have HS3 := Lib.hid (HS2.out.boxed2 HB5.out (.slice S n d) (.int .i64 keep))
  have HX3 := Lib.hid (HX2.out.store2 (k := w.heap.size) (Nat.le_refl _) (.slice S n d) (.int .i64 keep))
  have HC0 := Lib.hid (HB5.out.set2 (.slice S n d) (.int .i64 keep))
  have HC1 := Lib.hid ((HB4.out.set_other (p := ⟨w.heap.size, 0, none⟩) (by simp) (.slice S n d)).set_other (p := ⟨w.heap.size, 1, none⟩) (by simp) (.int .i64 keep))
  have HC2 := Lib.hid ((HB6.out.set_other (p := ⟨w.heap.size, 0, none⟩) (by simp; omega) (.slice S n d)).set_other (p := ⟨w.heap.size, 1, none⟩) (by simp; omega) (.int .i64 keep))
  go_wp2_with fail
  generalize World.setCell (World.setCell w2 _ _) _ _ = w3 at *
  clear t0 t1 t2 y0 y1 HB4 HB5 HB6 HS2 HX2 HB0 HB1 HB2 HB3 HX1 HX HSET
  cases lf
  rotate_left
  · try simp only [if_true]
    go_loop [8] (fun i => i = .int .i64 0) (fun _ => 0)
    case atStart => rfl
    case round =>
      obtain rfl := hrel
      obtain ⟨c0, c1, c2, c3⟩ := HC2.out.read4
      have c4 := HC2.out.lt
      obtain ⟨t0, t1, t2⟩ := HC0.out.read2
      obtain ⟨s0, s1, s2⟩ := HC1.out.read2
      obtain ⟨y0, y1⟩ := HC1.out.free2
      have hj : m = 0 ∨ 0 < m := by omega
      rcases hj with rfl | hj
      · go_wp2_with fail
        refine ret2_cell (k := w.heap.size + 1) (x := .slice S n d) (y := .int .i64 keep) (v := .tuple #[.agg #[.slice S n d, .int .i64 keep], .int .i64 0]) ?hb5 (fun r0 r1 => by simp [results, Tryz.results29, go_sem, r0, r1]) rfl ?hx5
        case hb5 => exact HC1.out.set2 _ _
        case hx5 => exact ⟨S, d, rfl, HS3.out.boxed2 HC1.out _ _, HX3.out.store2 (by omega) _ _⟩
      · have d0 : decide ((0 : Int) < (m : Int)) = true := decide_eq_true (by omega)
        have d1 : decide (0 < m) = true := decide_eq_true hj
        go_wp2_with fail
        refine ret2_cell (k := w.heap.size + 1) (x := .slice S n d) (y := .int .i64 keep) (v := .tuple #[.agg #[.slice S n d, .int .i64 keep], .int .i64 0]) ?hb5 (fun r0 r1 => by simp [results, Tryz.results29, go_sem, r0, r1]) rfl ?hx5
        case hb5 => exact HC1.out.set2 _ _
        case hx5 => exact ⟨S, d, rfl, HS3.out.boxed2 HC1.out _ _, HX3.out.store2 (by omega) _ _⟩
  try simp only [Bool.false_eq_true, if_false]
  go_loopw [8] (fun i wr => ∃ j : Nat, j ≤ m ∧ i = .int .i64 j ∧ ∃ S d, HcSl wr S n d ((it.take j).foldl (fun g x => looseL f g x.2) l1) ∧ Ext w wr ∧ Bx wr w.heap.size #[.slice S n d, .int .i64 keep] ∧ Bx wr (w.heap.size + 1) #[.slice none 0 0, .int .i64 0] ∧ Bx wr z #[.int .i64 1, .bool pn, .bool false, .slice A m c]) (fun i _ => m - (intOf i).toNat)
  case atStart => exact ⟨0, Nat.zero_le _, rfl, S, d, HS3.out, HX3.out, HC0.out, HC1.out, HC2.out⟩
  case round =>
    obtain ⟨j, hj, rfl, S1, d1, hs, hx, hb0, hb1, hb2⟩ := hrel
    have HS := Lib.hid hs
    have HXR := Lib.hid hx
    have HD0 := Lib.hid hb0
    have HD1 := Lib.hid hb1
    have HD2 := Lib.hid hb2
    obtain ⟨t0, t1, t2⟩ := hb0.read2
    obtain ⟨c0, c1, c2, c3⟩ := hb2.read4
    have c4 := hb2.lt
    rcases Nat.lt_or_ge j m with hlt | hlt
    · have hjl : j < it.length := by rw [HM.out]; exact hlt
      obtain ⟨bi, oi, rfl, hbi, hc⟩ := (HI.out.ext hx).cells.it hjl
      have hcj := (hc j hjl).2
      have hji : (j : Int) < (m : Int) := by omega
      have d0 : decide ((j : Int) < (m : Int)) = true := decide_eq_true hji
      have d0' : decide (j < m) = true := decide_eq_true hlt
      have HST := Lib.hid (foldl_take (fun g x => looseL f g x.2) l1 hjl)
      have HCL := Lib.hid (fun w' (hx : Ext wr w') => HIH.out S1 _ d1 it[j].2 w' (HG.out (it.take j)).1 (HG.out (it.take j)).2 (HS.out.ext hx))
      have hlo : ∀ V : Int, True := fun _ => trivial
      clear hc hs hx hb0 hb1 hb2 hlo
      try simp only at HST
      rw [← HST.out] at HCL
      generalize it[j].2 = V at *
      generalize looseE ⟨_, keep⟩ V = ee at *
      obtain ⟨g1, hg1⟩ : ∃ g1, (it.take (j + 1)).foldl (fun g x => looseL f g x.2) l1 = g1 := ⟨_, rfl⟩
      rw [hg1] at HCL
      have HG1 := Lib.hid hg1
      clear hg1 HST
      go_wp2_with fail
      go_cut [9] from 53 to 64 (fun v wx => ∃ X S' d', v = .pointer (some ⟨X, 0, none⟩) ∧ Bx wx X #[.slice S' n d', .int .i64 keep] ∧ HcSl wx S' n d' g1 ∧ Ext wr wx)
      case first =>
        go_region_law
          (first
            | ((go_simp
                go_at_call 29
                refine (HCL.out _ ?_).mono ?_
                (first | exact (Ext.refl _).drew | exact ((Ext.refl _).drew).alloc _ | exact ((Ext.refl _).alloc _).drew | exact Ext.refl _)
                rintro e w4 ⟨S4, d4, rfl, hs4, hx4⟩
                have E4 := Lib.hid (show Ext wr w4 from by first | exact (Ext.refl _).drew.trans hx4 | exact (((Ext.refl _).drew).alloc _).trans hx4 | exact (((Ext.refl _).alloc _).drew).trans hx4 | exact hx4)
                have N4 := Lib.hid hs4
                (try (have B4 := Lib.hid (show Bx w4 wr.heap.size #[.slice none 0 0, .int .i64 0] from (Bx.new wr.drew _ _).ext hx4); have f0 := B4.out.free 0; have f1 := B4.out.free 1; have z1 := B4.out.lt; have q0 : w4.cell? ⟨wr.heap.size, 0, none⟩ = some (.slice none 0 0) := B4.out.at 0 _ rfl; have q1 : w4.cell? ⟨wr.heap.size, 1, none⟩ = some (.int .i64 0) := B4.out.at 1 _ rfl))
                clear hs4 hx4)))
        all_goals
          go_wp2_with fail
          go_meet
          first
          | exact ⟨_, S4, d4, rfl, Bx.new _ _ _, N4.out.ext ((Ext.refl _).alloc _), E4.out.alloc _⟩
          | exact ⟨_, S4, d4, rfl, B4.out.set2 _ _, N4.out.boxed2 B4.out _ _, E4.out.store2 (Nat.le_refl _) _ _⟩
      case rest =>
        obtain ⟨X, S5, d5, rfl, hbx, hs5, hx5⟩ := hcut
        have HX5 := Lib.hid (HXR.out.trans hx5)
        have HS5 := Lib.hid hs5
        have HE0 := Lib.hid (HD0.out.ext hx5)
        have HE1 := Lib.hid (HD1.out.ext hx5)
        have HE2 := Lib.hid (HD2.out.ext hx5)
        clear t0 t1 t2 c0 c1 c2 c3 c4 hcj
        obtain ⟨x0, x1, x2⟩ := hbx.read2
        obtain ⟨t0, t1, t2⟩ := HE0.out.read2
        obtain ⟨y0, y1⟩ := HE0.out.free2
        clear hbx hs5 hx5
        go_wp2_with fail
        go_roundw
        case rel => exact ⟨j + 1, by omega, by go_num, S5, d5, by rw [HG1.out]; exact HS5.out.boxed2 HE0.out _ _, HX5.out.store2 (Nat.le_refl _) _ _, HE0.out.set2 _ _, (HE1.out.set_other (p := ⟨w.heap.size, 0, none⟩) (by simp) _).set_other (p := ⟨w.heap.size, 1, none⟩) (by simp) _, (HE2.out.set_other (p := ⟨w.heap.size, 0, none⟩) (by simp; omega) _).set_other (p := ⟨w.heap.size, 1, none⟩) (by simp; omega) _⟩
        case measure => simp [intOf]; omega
    · obtain rfl : m = j := by omega
      have HE := Lib.hid (show it.take m = it by rw [← HM.out, List.take_length])
      rw [HE.out] at HS
      have d0 : decide ((m : Int) < (m : Int)) = false := decide_eq_false (by omega)
      obtain ⟨s0, s1, s2⟩ := hb1.read2
      obtain ⟨y0, y1⟩ := hb1.free2
      clear hs hx hb0 hb1 hb2 hlt
      go_wp2_with fail
      refine ret2_cell (k := w.heap.size + 1) (x := .slice S1 n d1) (y := .int .i64 keep) (v := .tuple #[.agg #[.slice S1 n d1, .int .i64 keep], .int .i64 0]) ?hb5 (fun r0 r1 => by simp [results, Tryz.results29, go_sem, r0, r1]) rfl ?hx5
      case hb5 => exact HD1.out.set2 _ _
      case hx5 => exact ⟨S1, d1, rfl, HS.out.boxed2 HD1.out _ _, HXR.out.store2 (by omega) _ _⟩
end Go.Proofs.YtbfbpddfcakieaaGreat
namespace Go.Proofs.YtbfbpddfcakieaaGreat
open Go.RowKit
attribute [local go_sem ↓] Go.wp_at_zero Go.wp_at_succ

/-- Refs of the same cells, up to so many more. -/
def Up (l g : List HC) (j : Nat) : Prop := g.length = l.length ∧ ∀ k (hk : k < l.length) (hg : k < g.length), l[k].ref ≤ g[k].ref ∧ g[k].ref ≤ l[k].ref + j
theorem Up.refl (l : List HC) : Up l l 0 := ⟨rfl, fun k hk hg => by omega⟩
theorem Up.keep {l g : List HC} {j : Nat} (h : Up l g j) : Up l g (j + 1) := ⟨h.1, fun k hk hg => by have := h.2 k hk hg; omega⟩
theorem Up.more {l g : List HC} {j k : Nat} (h : Up l g j) (hk : k < g.length) : Up l (g.set k g[k].more) (j + 1) := by
  refine ⟨by rw [List.length_set]; exact h.1, fun i hi hg => ?_⟩
  rw [List.length_set] at hg
  have h1 := h.2 i hi hg
  rw [List.getElem_set]
  split
  · rename_i e; subst e; unfold HC.more; simp only; omega
  · omega
theorem first_at {l : List HC} {k : Nat} (hk : k < l.length) (h : ∀ j (hj : j < l.length), j < k → stopC l[j] = false) (h1 : stopC l[k] = true) : firstF l = k := by
  unfold firstF
  rw [List.findIdx_eq hk]
  exact ⟨h1, fun j hj => h j (by omega) hj⟩
theorem first_no {l : List HC} (h : ∀ j (hj : j < l.length), stopC l[j] = false) : firstF l = l.length := by
  unfold firstF
  rw [List.findIdx_eq_length]
  intro x hx
  obtain ⟨j, hj, rfl⟩ := List.mem_iff_getElem.1 hx
  exact h j hj
theorem alloc_bad {l : List HC} {leaf : Bool} {it : List It} {held : List Int} (h : (ndR it && leadsC l leaf it) = false) : allocE l leaf it = 1 ∧ allocP l leaf it = 0 ∧ allocL l leaf it held = l := by
  have e : allocE l leaf it = 1 := by unfold allocE; rw [h]; rfl
  exact ⟨e, by unfold allocP; rw [e]; rfl, by unfold allocL; rw [e]; rfl⟩
theorem alloc_full {l : List HC} {leaf : Bool} {it : List It} {held : List Int} (h : (ndR it && leadsC l leaf it) = true) (h2 : firstF l = l.length) : allocE l leaf it = 3 ∧ allocP l leaf it = 0 ∧ allocL l leaf it held = l := by
  have e : allocE l leaf it = 3 := by unfold allocE; rw [h, if_pos rfl, if_neg (by omega)]
  exact ⟨e, by unfold allocP; rw [e]; rfl, by unfold allocL; rw [e]; rfl⟩
theorem alloc_ok {l : List HC} {leaf : Bool} {it : List It} {held : List Int} {k : Nat} (h : (ndR it && leadsC l leaf it) = true) (hk : k < l.length) (h2 : firstF l = k) : allocE l leaf it = 0 ∧ allocP l leaf it = k ∧ allocL l leaf it held = (if leaf then l else moreL held l it).set k ⟨1, false, leaf, it⟩ := by
  have e : allocE l leaf it = 0 := by unfold allocE; rw [h, if_pos rfl, if_pos (by omega)]
  exact ⟨e, by unfold allocP; rw [e, h2]; rfl, by unfold allocL; rw [e, h2]; rfl⟩
theorem leads_used {l : List HC} {it : List It} (h : leadsC l false it = true) {j : Nat} (hj : j < it.length) : usedC l it[j].2 = true := by
  unfold leadsC at h
  simp only [Bool.false_or, List.all_eq_true] at h
  exact h _ (List.getElem_mem hj)
def moreS (held : List Int) (g : List HC) (x : It) : List HC := if inL held x.2 then g else g.set x.2.toNat (g.getD x.2.toNat HC.none).more
theorem moreL_eq (held : List Int) (l : List HC) (it : List It) : moreL held l it = it.foldl (moreS held) l := rfl

set_option maxRecDepth 100000 in
set_option maxHeartbeats 1600000 in
theorem ref05Alloc_no (R : Option Addr) (l : List HC) (n q : Nat) (keep : Int) (leaf : Bool) (A : Option Addr) (it : List It) (m c : Nat) (H : Option Addr) (_held : List Int) (t d : Nat) (w : World) (hbad : (ndR it && leadsC l leaf it) = false) (hA : HcSl w R n q l) (hm : m = it.length) (hI : Sl w A m c (ivs it)) :
    Calls Tryz.prog 64 #[.agg #[.slice R n q, .int .i64 keep], .agg #[.bool leaf, .slice A m c], .slice H t d] w fun e w' => ∃ S d, e = .returned (.tuple #[.agg #[.slice S n d, .int .i64 keep], .int .i64 0, .int .i64 1]) ∧ HcSl w' S n d l ∧ Ext w w' := by
  have hx0 := (((Ext.refl w).alloc (.cells #[.slice R n q, .int .i64 keep] 24)).alloc (.cells #[.bool leaf, .slice A m c] 51)).alloc (.cells #[.slice none 0 0, .int .i64 0] 24)
  obtain ⟨W, hW⟩ : ∃ W, W = (((w.alloc (.cells #[.slice R n q, .int .i64 keep] 24)).alloc (.cells #[.bool leaf, .slice A m c] 51)).alloc (.cells #[.slice none 0 0, .int .i64 0] 24)) := ⟨_, rfl⟩
  obtain ⟨hx, hb0, hb1, hb2⟩ := allocs3 hW.symm
  clear hx0
  have HX := Lib.hid hx
  have HB0 := Lib.hid hb0
  have HB1 := Lib.hid hb1
  have HB2 := Lib.hid hb2
  have HA := Lib.hid (hA.ext hx)
  have HR := Lib.hid (fun w' (hx2 : Ext W w') => ref04Right_any leaf A it m c w' hm ((hI.ext hx).ext hx2))
  have HL := Lib.hid (fun w' (hx2 : Ext W w') => ref05leads_any R l n q keep leaf A it m c w' ((hA.ext hx).ext hx2) hm ((hI.ext hx).ext hx2))
  clear hx hA hm hI
  subst hW
  obtain ⟨p0, p1, p2⟩ := hb0.read2
  obtain ⟨q0, q1, q2⟩ := hb1.read2
  clear hb0 hb1 hb2
  cases hr : ndR it
  · rw [hr] at HR
    clear HL hbad hr
    go_enter Tryz.func64, Tryz.ntmps64
    go_wp2_with (go_at_call 91; refine stop_here ?_)
    refine stop_on ?_
    generalize hW : World.alloc (World.alloc (World.alloc w _) _) _ = W at *
    clear hW
    refine (HR.out _ (Ext.refl _)).mono ?_
    rintro e w1 ⟨rfl, hx⟩
    have HX1 := Lib.hid (HX.out.trans hx)
    have HA1 := Lib.hid (HA.out.ext hx)
    have HC2 := Lib.hid (HB2.out.ext hx)
    clear p0 p1 p2 q0 q1 q2
    obtain ⟨p0, p1, p2⟩ := (HB0.out.ext hx).read2
    obtain ⟨q0, q1, q2⟩ := (HB1.out.ext hx).read2
    obtain ⟨t0, t1, t2⟩ := HC2.out.read2
    obtain ⟨y0, y1⟩ := HC2.out.free2
    clear hx
    go_wp2_with fail
    refine ret2_cell (k := w.heap.size + 1 + 1) (x := .slice R n q) (y := .int .i64 keep) (v := .tuple #[.agg #[.slice R n q, .int .i64 keep], .int .i64 0, .int .i64 1]) ?hb4 (fun r0 r1 => by simp [results, Tryz.results64, go_sem, r0, r1]) rfl ?hx4
    case hb4 => exact HC2.out.set2 _ _
    case hx4 => exact ⟨R, q, rfl, HA1.out.boxed2 HC2.out _ _, HX1.out.store2 (by omega) _ _⟩
  · rw [hr] at HR hbad
    rw [Bool.true_and] at hbad
    rw [hbad] at HL
    clear hbad hr
    go_enter Tryz.func64, Tryz.ntmps64
    go_wp2_with (go_at_call 91; refine stop_here ?_)
    refine stop_on ?_
    generalize hW : World.alloc (World.alloc (World.alloc w _) _) _ = W at *
    clear hW
    refine (HR.out _ (Ext.refl _)).mono ?_
    rintro e w1 ⟨rfl, hx⟩
    have HXW := Lib.hid hx
    clear p0 p1 p2 q0 q1 q2
    obtain ⟨p0, p1, p2⟩ := (HB0.out.ext hx).read2
    obtain ⟨q0, q1, q2⟩ := (HB1.out.ext hx).read2
    clear hx
    go_wp2_with (go_at_call 92; refine stop_here ?_)
    refine stop_on ?_
    refine (HL.out _ HXW.out).mono ?_
    rintro e w2 ⟨rfl, hx2⟩
    have hx := HXW.out.trans hx2
    have HX1 := Lib.hid (HX.out.trans hx)
    have HA1 := Lib.hid (HA.out.ext hx)
    have HC2 := Lib.hid (HB2.out.ext hx)
    clear p0 p1 p2 q0 q1 q2
    obtain ⟨p0, p1, p2⟩ := (HB0.out.ext hx).read2
    obtain ⟨q0, q1, q2⟩ := (HB1.out.ext hx).read2
    obtain ⟨t0, t1, t2⟩ := HC2.out.read2
    obtain ⟨y0, y1⟩ := HC2.out.free2
    clear hx hx2
    go_wp2_with fail
    refine ret2_cell (k := w.heap.size + 1 + 1) (x := .slice R n q) (y := .int .i64 keep) (v := .tuple #[.agg #[.slice R n q, .int .i64 keep], .int .i64 0, .int .i64 1]) ?hb4 (fun r0 r1 => by simp [results, Tryz.results64, go_sem, r0, r1]) rfl ?hx4
    case hb4 => exact HC2.out.set2 _ _
    case hx4 => exact ⟨R, q, rfl, HA1.out.boxed2 HC2.out _ _, HX1.out.store2 (by omega) _ _⟩
end Go.Proofs.YtbfbpddfcakieaaGreat
