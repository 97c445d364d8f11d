/- Walks of changed and changedUsed of package heap, at each thing that is done. Walks of slices.DeleteFunc and of without of package heap. Walks of New, isRight and Right of package heap. -/
import Derived.Test.YtkoomcbiddanfaaGreatK07
import Derived.Lib.SliceRun
namespace Go.Proofs.YtkoomcbiddanfaaGreat
open Go.RowKit
attribute [local go_sem ↓] Go.wp_at_zero Go.wp_at_succ

theorem own_base {w : World} {B B' e s n : Nat} {v : Value} {xs : List Value} (h : w.ownsRow B e s v n xs) (hb : B' ≤ B) : w.ownsRow B' e s v n xs := by
  refine ⟨h.1, ?_⟩
  rcases h.2 with h0 | ⟨g, cap, cur, e0, hg, h1⟩
  · exact .inl h0
  · exact .inr ⟨g, cap, cur, e0, Nat.le_trans hb hg, h1⟩
theorem Own.other {v w : World} {g cap : Nat} {l : List HC} (h : Own v w g cap l) {p : Addr} (hp : p.block ≠ g) (hv : v.heap.size ≤ p.block) (u : Value) : Own v (w.setCell p u) g cap l := by
  obtain ⟨cs, h1, h2, h3⟩ := h
  exact ⟨cs, ownsRow_setCell_other h1 (by simpa [Value.ownBlock] using Ne.symm hp) u, h2, h3.set hv u⟩
theorem Own.grown {v w w' : World} {g cap : Nat} {l : List HC} {row : Option Nat} (h : Own v w g cap l) (hg : w.grownBy w' row) (hne : row ≠ some g) (hx : Ext v w') : Own v w' g cap l := by
  obtain ⟨cs, h1, h2, h3⟩ := h
  exact ⟨cs, h1.kept hg (by simpa [Value.ownBlock] using fun e => hne e.symm), h2, hx⟩
/-- copied, told over an elder world in which the cells lie. -/
theorem hpCopied_v (v : World) (R : Option Addr) (l : List HC) (n q : Nat) (w : World) (hx : Ext v w) (hb : n ≤ 90000) (hA : HcSl v R n q l) :
    Calls Tryz.prog 100 #[.slice R n q] w fun e w' => ∃ g, e = .returned (.slice (some ⟨g, 0, none⟩) n n) ∧ w.heap.size ≤ g ∧ Own v w' g n l ∧ Ext w w' := by
  obtain ⟨hn, cs, hsl, hat⟩ := hA
  refine (hpCopiedC_cs R l n q w cs hn hb (hsl.ext hx) (hat.ext hx)).mono ?_
  rintro e w' ⟨g, rfl, h1, h2⟩
  exact ⟨g, rfl, (h1.lt g rfl).1, ⟨cs, own_base h1 hx.size, hat, hx.trans h2⟩, h2⟩
set_option maxRecDepth 100000 in
set_option maxHeartbeats 3200000 in
theorem hpChangedHold_any (v : World) (R : Option Addr) (l : List HC) (n q : Nat) (keep : Int) (S : Option Addr) (ps : List Int) (t d : Nat) (F : List HC → Int → List HC) (w : World) (hx : Ext v w) (hb : n ≤ 90000) (hA : HcSl v R n q l) (ht : t = ps.length) (hS : Sl w S t d (ps.map iv))
    (hD : ∀ (lj : List HC) (j : Nat) (hj : j < ps.length) (g : Nat) (wr : World), lj = (ps.take j).foldl F l → Own v wr g n lj → Calls Tryz.prog 94 #[.slice (some ⟨g, 0, none⟩) n n, .int .i64 ps[j]] wr fun e w' => e = .returned (.tuple #[]) ∧ Own v w' g n (F lj ps[j]) ∧ wr.grownBy w' (some g)) :
    Calls Tryz.prog 90 #[.agg #[.slice R n q, .int .i64 keep], .func (.func 94) #[] #[], .slice S t d] w fun e w' => ∃ g, e = .returned (.agg #[.slice (some ⟨g, 0, none⟩) n n, .int .i64 keep]) ∧ w.heap.size ≤ g ∧ Own v w' g n (ps.foldl F l) ∧ Ext w w' := by
  obtain ⟨W, hW⟩ : ∃ W, (w.alloc (.cells #[.slice R n q, .int .i64 keep] 24)).alloc (.cells #[.slice none 0 0, .int .i64 0] 24) = W := ⟨_, rfl⟩
  obtain ⟨hx0, hb0, hb1⟩ := allocs2 hW
  have hsz : W.heap.size = w.heap.size + 1 + 1 := by rw [← hW]; simp
  have HX := Lib.hid hx0
  have HXV := Lib.hid hx
  have HB0 := Lib.hid hb0
  have HB1 := Lib.hid hb1
  have HSZ := Lib.hid hsz
  have HT := Lib.hid ht
  have HS := Lib.hid hS
  have HD := Lib.hid hD
  have HC := Lib.hid (hpCopied_v v R l n q W (hx.trans hx0) hb hA)
  have htl := hS.len
  unfold maxLen at htl
  obtain ⟨p0, p1, p2⟩ := hb0.read2
  clear hx hx0 hb0 hb1 hsz hA ht hS hD
  subst hW
  go_enter Tryz.func90, Tryz.ntmps90
  go_wp2_with (go_at_call 100; refine stop_here ?_)
  refine stop_on ?_
  generalize hW : World.alloc (World.alloc w _) _ = W at *
  clear hW
  refine HC.out.mono ?_
  rintro e w1 ⟨g, rfl, hg, ho, hx1⟩
  have hgw : w.heap.size + 1 + 1 ≤ g := by have := HSZ.out; omega
  have HO := Lib.hid ho
  have HX1 := Lib.hid (HX.out.trans hx1)
  have HC0 := Lib.hid (HB0.out.ext hx1)
  have HC1 := Lib.hid (HB1.out.ext hx1)
  have HS1 := Lib.hid (HS.out.ext HX1.out)
  have HAP := Lib.hid (HS.out.cells.apart (g := g) (by omega))
  clear ho hx1 p0 p1 p2 hg
  go_wp2_with fail
  go_loopw [15] (fun i wr => ∃ j : Nat, j ≤ t ∧ i = .int .i64 j ∧ Own v wr g n ((ps.take j).foldl F l) ∧ w1.grownBy wr (some g)) (fun i _ => t - (intOf i).toNat)
  case atStart => exact ⟨0, Nat.zero_le _, rfl, HO.out, World.grownBy.refl _ _⟩
  case round =>
    obtain ⟨j, hj, rfl, ho, hgr⟩ := hrel
    have HOR := Lib.hid ho
    have HGR := Lib.hid hgr
    rcases Nat.lt_or_ge j t with hlt | hlt
    · have hjl : j < ps.length := by rw [← HT.out]; exact hlt
      obtain ⟨bi, oi, rfl, hbi, hc⟩ := (HS1.out.grown hgr HAP.out).cells.num hjl
      have hcj := hc j hjl
      have hji : (j : Int) < (t : Int) := by omega
      have HST := Lib.hid (foldl_takeI F l hjl)
      have HCL := Lib.hid (HD.out _ j hjl g wr rfl ho)
      rw [← HST.out] at HCL
      clear hc ho hgr
      generalize ps[j] = p at *
      go_wp2_with (go_at_call 94; refine stop_here ?_)
      refine stop_on ?_
      refine HCL.out.mono ?_
      rintro e w4 ⟨rfl, ho4, hg4⟩
      have HO5 := Lib.hid ho4
      have HG5 := Lib.hid (grown_trans HGR.out hg4)
      clear ho4 hg4
      go_wp2_with fail
      go_roundw
      case rel => exact ⟨j + 1, by omega, by go_num, HO5.out, HG5.out⟩
      case measure => simp [intOf]; omega
    · obtain rfl : j = t := by omega
      have hE : ps.take j = ps := by rw [HT.out, List.take_length]
      rw [hE] at HOR
      have HE0 := Lib.hid (HC0.out.grown hgr (fun e => by have := Option.some.inj e; omega))
      have HE1 := Lib.hid (HC1.out.grown hgr (fun e => by have := Option.some.inj e; omega))
      have HXR := Lib.hid (Ext.row' HX1.out hgr (by omega))
      have hvs := HXV.out.size
      obtain ⟨t0, t1, t2⟩ := HE0.out.read2
      obtain ⟨y0, y1⟩ := HE0.out.free2
      obtain ⟨s0, s1, s2⟩ := HE1.out.read2
      obtain ⟨x0, x1⟩ := HE1.out.free2
      clear ho hgr hlt hE
      have HF1 := Lib.hid (HE1.out.set_other (p := ⟨w.heap.size, 0, none⟩) (by simp) (.slice (some ⟨g, 0, none⟩) n n))
      have HF2 := Lib.hid (HF1.out.set2 (.slice (some ⟨g, 0, none⟩) n n) (.int .i64 keep))
      have HFO := Lib.hid (((HOR.out.other (p := ⟨w.heap.size, 0, none⟩) (by simp; omega) (by simpa using hvs) (.slice (some ⟨g, 0, none⟩) n n)).other (p := ⟨w.heap.size + 1, 0, none⟩) (by simp; omega) (by simp; omega) (.slice (some ⟨g, 0, none⟩) n n)).other (p := ⟨w.heap.size + 1, 1, none⟩) (by simp; omega) (by simp; omega) (.int .i64 keep))
      have HFX := Lib.hid (((HXR.out.set (p := ⟨w.heap.size, 0, none⟩) (by simp) (.slice (some ⟨g, 0, none⟩) n n)).set (p := ⟨w.heap.size + 1, 0, none⟩) (by simp) (.slice (some ⟨g, 0, none⟩) n n)).set (p := ⟨w.heap.size + 1, 1, none⟩) (by simp) (.int .i64 keep))
      go_wp2_with fail
      refine ret2_cell (k := w.heap.size + 1) (x := .slice (some ⟨g, 0, none⟩) n n) (y := .int .i64 keep) (v := .agg #[.slice (some ⟨g, 0, none⟩) n n, .int .i64 keep]) ?hb4 (fun r0 r1 => by simp [results, Tryz.results90, go_sem, r0, r1]) rfl ?hx4
      case hb4 => exact HF2.out
      case hx4 => exact ⟨g, rfl, by omega, HFO.out, HFX.out⟩
set_option maxRecDepth 100000 in
set_option maxHeartbeats 3200000 in
theorem hpChangedLoose_any (v : World) (R : Option Addr) (l : List HC) (n q : Nat) (keep : Int) (S : Option Addr) (ps : List Int) (t d : Nat) (F : List HC → Int → List HC) (w : World) (hx : Ext v w) (hb : n ≤ 90000) (hA : HcSl v R n q l) (ht : t = ps.length) (hS : Sl w S t d (ps.map iv))
    (hD : ∀ (lj : List HC) (j : Nat) (hj : j < ps.length) (g : Nat) (wr : World), lj = (ps.take j).foldl F l → Own v wr g n lj → Calls Tryz.prog 75 #[.slice (some ⟨g, 0, none⟩) n n, .int .i64 ps[j]] wr fun e w' => e = .returned (.tuple #[]) ∧ Own v w' g n (F lj ps[j]) ∧ wr.grownBy w' (some g)) :
    Calls Tryz.prog 90 #[.agg #[.slice R n q, .int .i64 keep], .func (.func 75) #[] #[], .slice S t d] w fun e w' => ∃ g, e = .returned (.agg #[.slice (some ⟨g, 0, none⟩) n n, .int .i64 keep]) ∧ w.heap.size ≤ g ∧ Own v w' g n (ps.foldl F l) ∧ Ext w w' := by
  obtain ⟨W, hW⟩ : ∃ W, (w.alloc (.cells #[.slice R n q, .int .i64 keep] 24)).alloc (.cells #[.slice none 0 0, .int .i64 0] 24) = W := ⟨_, rfl⟩
  obtain ⟨hx0, hb0, hb1⟩ := allocs2 hW
  have hsz : W.heap.size = w.heap.size + 1 + 1 := by rw [← hW]; simp
  have HX := Lib.hid hx0
  have HXV := Lib.hid hx
  have HB0 := Lib.hid hb0
  have HB1 := Lib.hid hb1
  have HSZ := Lib.hid hsz
  have HT := Lib.hid ht
  have HS := Lib.hid hS
  have HD := Lib.hid hD
  have HC := Lib.hid (hpCopied_v v R l n q W (hx.trans hx0) hb hA)
  have htl := hS.len
  unfold maxLen at htl
  obtain ⟨p0, p1, p2⟩ := hb0.read2
  clear hx hx0 hb0 hb1 hsz hA ht hS hD
  subst hW
  go_enter Tryz.func90, Tryz.ntmps90
  go_wp2_with (go_at_call 100; refine stop_here ?_)
  refine stop_on ?_
  generalize hW : World.alloc (World.alloc w _) _ = W at *
  clear hW
  refine HC.out.mono ?_
  rintro e w1 ⟨g, rfl, hg, ho, hx1⟩
  have hgw : w.heap.size + 1 + 1 ≤ g := by have := HSZ.out; omega
  have HO := Lib.hid ho
  have HX1 := Lib.hid (HX.out.trans hx1)
  have HC0 := Lib.hid (HB0.out.ext hx1)
  have HC1 := Lib.hid (HB1.out.ext hx1)
  have HS1 := Lib.hid (HS.out.ext HX1.out)
  have HAP := Lib.hid (HS.out.cells.apart (g := g) (by omega))
  clear ho hx1 p0 p1 p2 hg
  go_wp2_with fail
  go_loopw [15] (fun i wr => ∃ j : Nat, j ≤ t ∧ i = .int .i64 j ∧ Own v wr g n ((ps.take j).foldl F l) ∧ w1.grownBy wr (some g)) (fun i _ => t - (intOf i).toNat)
  case atStart => exact ⟨0, Nat.zero_le _, rfl, HO.out, World.grownBy.refl _ _⟩
  case round =>
    obtain ⟨j, hj, rfl, ho, hgr⟩ := hrel
    have HOR := Lib.hid ho
    have HGR := Lib.hid hgr
    rcases Nat.lt_or_ge j t with hlt | hlt
    · have hjl : j < ps.length := by rw [← HT.out]; exact hlt
      obtain ⟨bi, oi, rfl, hbi, hc⟩ := (HS1.out.grown hgr HAP.out).cells.num hjl
      have hcj := hc j hjl
      have hji : (j : Int) < (t : Int) := by omega
      have HST := Lib.hid (foldl_takeI F l hjl)
      have HCL := Lib.hid (HD.out _ j hjl g wr rfl ho)
      rw [← HST.out] at HCL
      clear hc ho hgr
      generalize ps[j] = p at *
      go_wp2_with (go_at_call 75; refine stop_here ?_)
      refine stop_on ?_
      refine HCL.out.mono ?_
      rintro e w4 ⟨rfl, ho4, hg4⟩
      have HO5 := Lib.hid ho4
      have HG5 := Lib.hid (grown_trans HGR.out hg4)
      clear ho4 hg4
      go_wp2_with fail
      go_roundw
      case rel => exact ⟨j + 1, by omega, by go_num, HO5.out, HG5.out⟩
      case measure => simp [intOf]; omega
    · obtain rfl : j = t := by omega
      have hE : ps.take j = ps := by rw [HT.out, List.take_length]
      rw [hE] at HOR
      have HE0 := Lib.hid (HC0.out.grown hgr (fun e => by have := Option.some.inj e; omega))
      have HE1 := Lib.hid (HC1.out.grown hgr (fun e => by have := Option.some.inj e; omega))
      have HXR := Lib.hid (Ext.row' HX1.out hgr (by omega))
      have hvs := HXV.out.size
      obtain ⟨t0, t1, t2⟩ := HE0.out.read2
      obtain ⟨y0, y1⟩ := HE0.out.free2
      obtain ⟨s0, s1, s2⟩ := HE1.out.read2
      obtain ⟨x0, x1⟩ := HE1.out.free2
      clear ho hgr hlt hE
      have HF1 := Lib.hid (HE1.out.set_other (p := ⟨w.heap.size, 0, none⟩) (by simp) (.slice (some ⟨g, 0, none⟩) n n))
      have HF2 := Lib.hid (HF1.out.set2 (.slice (some ⟨g, 0, none⟩) n n) (.int .i64 keep))
      have HFO := Lib.hid (((HOR.out.other (p := ⟨w.heap.size, 0, none⟩) (by simp; omega) (by simpa using hvs) (.slice (some ⟨g, 0, none⟩) n n)).other (p := ⟨w.heap.size + 1, 0, none⟩) (by simp; omega) (by simp; omega) (.slice (some ⟨g, 0, none⟩) n n)).other (p := ⟨w.heap.size + 1, 1, none⟩) (by simp; omega) (by simp; omega) (.int .i64 keep))
      have HFX := Lib.hid (((HXR.out.set (p := ⟨w.heap.size, 0, none⟩) (by simp) (.slice (some ⟨g, 0, none⟩) n n)).set (p := ⟨w.heap.size + 1, 0, none⟩) (by simp) (.slice (some ⟨g, 0, none⟩) n n)).set (p := ⟨w.heap.size + 1, 1, none⟩) (by simp) (.int .i64 keep))
      go_wp2_with fail
      refine ret2_cell (k := w.heap.size + 1) (x := .slice (some ⟨g, 0, none⟩) n n) (y := .int .i64 keep) (v := .agg #[.slice (some ⟨g, 0, none⟩) n n, .int .i64 keep]) ?hb4 (fun r0 r1 => by simp [results, Tryz.results90, go_sem, r0, r1]) rfl ?hx4
      case hb4 => exact HF2.out
      case hx4 => exact ⟨g, rfl, by omega, HFO.out, HFX.out⟩
set_option maxRecDepth 100000 in
set_option maxHeartbeats 3200000 in
theorem hpUsedNoHold_any (R : Option Addr) (l : List HC) (n q : Nat) (keep p : Int) (w : World) (hu : usedC l p = false) (hA : HcSl w R n q l) :
    Calls Tryz.prog 74 #[.agg #[.slice R n q, .int .i64 keep], .func (.func 94) #[] #[], .int .i64 p] w fun e w' => e = .returned (.tuple #[.agg #[.slice R n q, .int .i64 keep], .int .i64 4]) ∧ Ext w w' := by
  obtain ⟨W, hW⟩ : ∃ W, (w.alloc (.cells #[.slice R n q, .int .i64 keep] 24)).alloc (.cells #[.slice none 0 0, .int .i64 0] 24) = W := ⟨_, rfl⟩
  obtain ⟨hx0, hb0, hb1⟩ := allocs2 hW
  have HX := Lib.hid hx0
  have HB1 := Lib.hid hb1
  have HU := Lib.hid (hpUsed_any R l n q p W (hA.ext hx0))
  rw [hu] at HU
  obtain ⟨p0, p1, p2⟩ := hb0.read2
  obtain ⟨t0, t1, t2⟩ := hb1.read2
  obtain ⟨y0, y1⟩ := hb1.free2
  clear hx0 hb0 hb1 hA hu
  subst hW
  go_enter Tryz.func74, Tryz.ntmps74
  go_wp2_with (go_at_call 89; refine stop_here ?_)
  refine stop_on ?_
  generalize hW : World.alloc (World.alloc w _) _ = W at *
  clear hW
  refine HU.out.mono ?_
  rintro e w4 ⟨rfl, rfl⟩
  go_wp2_with fail
  refine ret2_cell (k := w.heap.size + 1) (x := .slice R n q) (y := .int .i64 keep) (v := .tuple #[.agg #[.slice R n q, .int .i64 keep], .int .i64 4]) ?hb4 (fun r0 r1 => by simp [results, Tryz.results74, go_sem, r0, r1]) rfl ?hx4
  case hb4 => exact HB1.out.set2 _ _
  case hx4 => exact ⟨rfl, HX.out.store2 (by omega) _ _⟩
set_option maxRecDepth 100000 in
set_option maxHeartbeats 3200000 in
theorem hpUsedYesHold_any (v : World) (R : Option Addr) (l : List HC) (n q : Nat) (keep p : Int) (l' : List HC) (w : World) (hx : Ext v w) (hb : n ≤ 90000) (hu : usedC l p = true) (hA : HcSl v R n q l)
    (hD : ∀ (g : Nat) (wr : World), Own v wr g n l → Calls Tryz.prog 94 #[.slice (some ⟨g, 0, none⟩) n n, .int .i64 p] wr fun e w' => e = .returned (.tuple #[]) ∧ Own v w' g n l' ∧ wr.grownBy w' (some g)) :
    Calls Tryz.prog 74 #[.agg #[.slice R n q, .int .i64 keep], .func (.func 94) #[] #[], .int .i64 p] w fun e w' => ∃ g, e = .returned (.tuple #[.agg #[.slice (some ⟨g, 0, none⟩) n n, .int .i64 keep], .int .i64 0]) ∧ w.heap.size ≤ g ∧ Own v w' g n l' ∧ Ext w w' := by
  obtain ⟨W, hW⟩ : ∃ W, (w.alloc (.cells #[.slice R n q, .int .i64 keep] 24)).alloc (.cells #[.slice none 0 0, .int .i64 0] 24) = W := ⟨_, rfl⟩
  obtain ⟨hx0, hb0, hb1⟩ := allocs2 hW
  have hsz : W.heap.size = w.heap.size + 1 + 1 := by rw [← hW]; simp
  have HX := Lib.hid hx0
  have HXV := Lib.hid hx
  have HB1 := Lib.hid hb1
  have HSZ := Lib.hid hsz
  have HU := Lib.hid (hpUsed_any R l n q p W (hA.ext (hx.trans hx0)))
  rw [hu] at HU
  have HC := Lib.hid (fun w' S (hx' : Ext v w') (hS : Sl w' S 1 1 ([p].map iv)) => hpChangedHold_any v R l n q keep S [p] 1 1 (fun _ _ => l') w' hx' hb hA rfl hS (fun lj j hj g wr e ho => by
    have hj0 : j = 0 := by simpa using hj
    subst hj0
    subst e
    exact hD g wr ho))
  obtain ⟨p0, p1, p2⟩ := hb0.read2
  clear hx hx0 hb0 hb1 hA hu hsz hD
  subst hW
  go_enter Tryz.func74, Tryz.ntmps74
  go_wp2_with (first | (go_at_call 89; with_reducible refine HU.out.mono ?_; rintro e w4 ⟨rfl, rfl⟩) | (go_at_call 90; refine stop_here ?_))
  refine stop_on ?_
  generalize hW : World.alloc (World.alloc w _) _ = W at *
  clear hW
  refine (HC.out _ _ ((HXV.out.trans HX.out).alloc _) ?hsl).mono ?_
  case hsl => exact hpl_lit' (by rw [HSZ.out]) _ 1 _ (by unfold maxLen; omega)
  rintro e w5 ⟨g, rfl, hg, ho, hx5⟩
  have hsz := HSZ.out
  have hgw : w.heap.size + 1 + 1 < g := by simp at hg; omega
  have hx6 : Ext W w5 := ((Ext.refl W).alloc _).trans hx5
  have HX6 := Lib.hid (HX.out.trans hx6)
  have hc1 := HB1.out.ext hx6
  have HC1 := Lib.hid hc1
  have hvs := HXV.out.size
  have HFO := Lib.hid ((ho.other (p := ⟨w.heap.size + 1, 0, none⟩) (by simp; omega) (by simp; omega) (.slice (some ⟨g, 0, none⟩) n n)).other (p := ⟨w.heap.size + 1, 1, none⟩) (by simp; omega) (by simp; omega) (.int .i64 keep))
  clear p0 p1 p2 hg ho hx5 hx6
  obtain ⟨t0, t1, t2⟩ := hc1.read2
  obtain ⟨y0, y1⟩ := hc1.free2
  clear hc1 hsz
  go_wp2_with fail
  refine ret2_cell (k := w.heap.size + 1) (x := .slice (some ⟨g, 0, none⟩) n n) (y := .int .i64 keep) (v := .tuple #[.agg #[.slice (some ⟨g, 0, none⟩) n n, .int .i64 keep], .int .i64 0]) ?hb4 (fun r0 r1 => by simp [results, Tryz.results74, go_sem, r0, r1]) rfl ?hx4
  case hb4 => exact HC1.out.set2 _ _
  case hx4 => exact ⟨g, rfl, by omega, HFO.out, HX6.out.store2 (by omega) _ _⟩
set_option maxRecDepth 100000 in
set_option maxHeartbeats 3200000 in
theorem hpUsedNoLoose_any (R : Option Addr) (l : List HC) (n q : Nat) (keep p : Int) (w : World) (hu : usedC l p = false) (hA : HcSl w R n q l) :
    Calls Tryz.prog 74 #[.agg #[.slice R n q, .int .i64 keep], .func (.func 75) #[] #[], .int .i64 p] w fun e w' => e = .returned (.tuple #[.agg #[.slice R n q, .int .i64 keep], .int .i64 4]) ∧ Ext w w' := by
  obtain ⟨W, hW⟩ : ∃ W, (w.alloc (.cells #[.slice R n q, .int .i64 keep] 24)).alloc (.cells #[.slice none 0 0, .int .i64 0] 24) = W := ⟨_, rfl⟩
  obtain ⟨hx0, hb0, hb1⟩ := allocs2 hW
  have HX := Lib.hid hx0
  have HB1 := Lib.hid hb1
  have HU := Lib.hid (hpUsed_any R l n q p W (hA.ext hx0))
  rw [hu] at HU
  obtain ⟨p0, p1, p2⟩ := hb0.read2
  obtain ⟨t0, t1, t2⟩ := hb1.read2
  obtain ⟨y0, y1⟩ := hb1.free2
  clear hx0 hb0 hb1 hA hu
  subst hW
  go_enter Tryz.func74, Tryz.ntmps74
  go_wp2_with (go_at_call 89; refine stop_here ?_)
  refine stop_on ?_
  generalize hW : World.alloc (World.alloc w _) _ = W at *
  clear hW
  refine HU.out.mono ?_
  rintro e w4 ⟨rfl, rfl⟩
  go_wp2_with fail
  refine ret2_cell (k := w.heap.size + 1) (x := .slice R n q) (y := .int .i64 keep) (v := .tuple #[.agg #[.slice R n q, .int .i64 keep], .int .i64 4]) ?hb4 (fun r0 r1 => by simp [results, Tryz.results74, go_sem, r0, r1]) rfl ?hx4
  case hb4 => exact HB1.out.set2 _ _
  case hx4 => exact ⟨rfl, HX.out.store2 (by omega) _ _⟩
set_option maxRecDepth 100000 in
set_option maxHeartbeats 3200000 in
theorem hpUsedYesLoose_any (v : World) (R : Option Addr) (l : List HC) (n q : Nat) (keep p : Int) (l' : List HC) (w : World) (hx : Ext v w) (hb : n ≤ 90000) (hu : usedC l p = true) (hA : HcSl v R n q l)
    (hD : ∀ (g : Nat) (wr : World), Own v wr g n l → Calls Tryz.prog 75 #[.slice (some ⟨g, 0, none⟩) n n, .int .i64 p] wr fun e w' => e = .returned (.tuple #[]) ∧ Own v w' g n l' ∧ wr.grownBy w' (some g)) :
    Calls Tryz.prog 74 #[.agg #[.slice R n q, .int .i64 keep], .func (.func 75) #[] #[], .int .i64 p] w fun e w' => ∃ g, e = .returned (.tuple #[.agg #[.slice (some ⟨g, 0, none⟩) n n, .int .i64 keep], .int .i64 0]) ∧ w.heap.size ≤ g ∧ Own v w' g n l' ∧ Ext w w' := by
  obtain ⟨W, hW⟩ : ∃ W, (w.alloc (.cells #[.slice R n q, .int .i64 keep] 24)).alloc (.cells #[.slice none 0 0, .int .i64 0] 24) = W := ⟨_, rfl⟩
  obtain ⟨hx0, hb0, hb1⟩ := allocs2 hW
  have hsz : W.heap.size = w.heap.size + 1 + 1 := by rw [← hW]; simp
  have HX := Lib.hid hx0
  have HXV := Lib.hid hx
  have HB1 := Lib.hid hb1
  have HSZ := Lib.hid hsz
  have HU := Lib.hid (hpUsed_any R l n q p W (hA.ext (hx.trans hx0)))
  rw [hu] at HU
  have HC := Lib.hid (fun w' S (hx' : Ext v w') (hS : Sl w' S 1 1 ([p].map iv)) => hpChangedLoose_any v R l n q keep S [p] 1 1 (fun _ _ => l') w' hx' hb hA rfl hS (fun lj j hj g wr e ho => by
    have hj0 : j = 0 := by simpa using hj
    subst hj0
    subst e
    exact hD g wr ho))
  obtain ⟨p0, p1, p2⟩ := hb0.read2
  clear hx hx0 hb0 hb1 hA hu hsz hD
  subst hW
  go_enter Tryz.func74, Tryz.ntmps74
  go_wp2_with (first | (go_at_call 89; with_reducible refine HU.out.mono ?_; rintro e w4 ⟨rfl, rfl⟩) | (go_at_call 90; refine stop_here ?_))
  refine stop_on ?_
  generalize hW : World.alloc (World.alloc w _) _ = W at *
  clear hW
  refine (HC.out _ _ ((HXV.out.trans HX.out).alloc _) ?hsl).mono ?_
  case hsl => exact hpl_lit' (by rw [HSZ.out]) _ 1 _ (by unfold maxLen; omega)
  rintro e w5 ⟨g, rfl, hg, ho, hx5⟩
  have hsz := HSZ.out
  have hgw : w.heap.size + 1 + 1 < g := by simp at hg; omega
  have hx6 : Ext W w5 := ((Ext.refl W).alloc _).trans hx5
  have HX6 := Lib.hid (HX.out.trans hx6)
  have hc1 := HB1.out.ext hx6
  have HC1 := Lib.hid hc1
  have hvs := HXV.out.size
  have HFO := Lib.hid ((ho.other (p := ⟨w.heap.size + 1, 0, none⟩) (by simp; omega) (by simp; omega) (.slice (some ⟨g, 0, none⟩) n n)).other (p := ⟨w.heap.size + 1, 1, none⟩) (by simp; omega) (by simp; omega) (.int .i64 keep))
  clear p0 p1 p2 hg ho hx5 hx6
  obtain ⟨t0, t1, t2⟩ := hc1.read2
  obtain ⟨y0, y1⟩ := hc1.free2
  clear hc1 hsz
  go_wp2_with fail
  refine ret2_cell (k := w.heap.size + 1) (x := .slice (some ⟨g, 0, none⟩) n n) (y := .int .i64 keep) (v := .tuple #[.agg #[.slice (some ⟨g, 0, none⟩) n n, .int .i64 keep], .int .i64 0]) ?hb4 (fun r0 r1 => by simp [results, Tryz.results74, go_sem, r0, r1]) rfl ?hx4
  case hb4 => exact HC1.out.set2 _ _
  case hx4 => exact ⟨g, rfl, by omega, HFO.out, HX6.out.store2 (by omega) _ _⟩
end Go.Proofs.YtkoomcbiddanfaaGreat
namespace Go.Proofs.YtkoomcbiddanfaaGreat
open Go.RowKit
attribute [local go_sem ↓] Go.wp_at_zero Go.wp_at_succ

theorem zeroI (w : World) : (zeroValue 3).run Tryz.prog w = .ok (.int .i64 0) w := by
  obtain ⟨i0, hi, hz0, hz1, hz2⟩ := info_parts infoI0
  simp [zeroValue, typeInfo, hi, hz0]
theorem grown_cells (g : Nat) : ∀ (vs : List Value) (o : Nat) (w : World), w.grownBy (w.setCells g o vs) (some g)
  | [], _, _ => World.grownBy.refl _ _
  | v :: r, o, w => grown_trans (grown_set w g o v) (grown_cells g r (o + 1) _)
/-- Where a deletion stands: the first i numbers are those kept of the first j; from j on all is as it was. -/
structure Del (f : Int → Bool) (l xs : List Int) (i j : Nat) : Prop where
  len : xs.length = l.length
  lt : i < j
  le : j ≤ l.length
  low : xs.take i = (l.take j).filter (fun x => !f x)
  high : xs.drop j = l.drop j
  size : i = ((l.take j).filter (fun x => !f x)).length
theorem filter_all {f : Int → Bool} {l : List Int} (h : ∀ j (hj : j < l.length), f l[j] = false) : l.filter (fun x => !f x) = l := by
  rw [List.filter_eq_self]
  intro x hx
  obtain ⟨j, hj, rfl⟩ := List.mem_iff_getElem.1 hx
  rw [h j hj]; rfl
theorem Del.start {f : Int → Bool} {l : List Int} {i : Nat} (hi : i < l.length) (h : f l[i] = true) (hb : ∀ j (hj : j < l.length), j < i → f l[j] = false) : Del f l l i (i + 1) := by
  have e : (l.take (i + 1)).filter (fun x => !f x) = l.take i := by
    rw [List.take_succ_eq_append_getElem hi, List.filter_append]
    rw [filter_all (f := f) (l := l.take i) (fun j hj => by rw [List.getElem_take]; exact hb j (by rw [List.length_take] at hj; omega) (by rw [List.length_take] at hj; omega))]
    simp [h]
  exact ⟨rfl, by omega, by omega, e.symm, rfl, by rw [e, List.length_take]; omega⟩
theorem Del.skip {f : Int → Bool} {l xs : List Int} {i j : Nat} (h : Del f l xs i j) (hj : j < l.length) (hf : f l[j] = true) : Del f l xs i (j + 1) := by
  have e : (l.take (j + 1)).filter (fun x => !f x) = (l.take j).filter (fun x => !f x) := by
    rw [List.take_succ_eq_append_getElem hj, List.filter_append]; simp [hf]
  refine ⟨h.len, by have := h.lt; omega, by omega, by rw [e]; exact h.low, ?_, by rw [e]; exact h.size⟩
  have := congrArg (List.drop 1) h.high
  simpa [Nat.add_comm] using this
theorem Del.keep {f : Int → Bool} {l xs : List Int} {i j : Nat} (h : Del f l xs i j) (hj : j < l.length) (hf : f l[j] = false) : Del f l (xs.set i l[j]) (i + 1) (j + 1) := by
  have e : (l.take (j + 1)).filter (fun x => !f x) = (l.take j).filter (fun x => !f x) ++ [l[j]] := by
    rw [List.take_succ_eq_append_getElem hj, List.filter_append]; simp [hf]
  have hlt := h.lt
  have hlen := h.len
  have hi : i < xs.length := by omega
  refine ⟨by rw [List.length_set]; exact h.len, by omega, by omega, ?_, ?_, by rw [e, List.length_append, ← h.size]; rfl⟩
  · rw [e, ← h.low, List.take_succ_eq_append_getElem (by rw [List.length_set]; exact hi), List.getElem_set_self, List.take_set_of_le (Nat.le_refl _)]
  · rw [List.drop_set_of_lt (by omega)]
    have := congrArg (List.drop 1) h.high
    simpa [Nat.add_comm] using this
theorem Del.at_ {f : Int → Bool} {l xs : List Int} {i j : Nat} (h : Del f l xs i j) (hj : j < l.length) : ∃ hx : j < xs.length, xs[j] = l[j] := by
  have hx : j < xs.length := by rw [h.len]; exact hj
  refine ⟨hx, ?_⟩
  have := congrArg (fun t => t[0]?) h.high
  simpa [hx, hj] using this
theorem Del.done {f : Int → Bool} {l xs : List Int} {i : Nat} (h : Del f l xs i l.length) : xs.take i = l.filter (fun x => !f x) ∧ i = (l.filter (fun x => !f x)).length := by
  have h1 := h.low
  have h2 := h.size
  rw [List.take_length] at h1 h2
  exact ⟨h1, h2⟩
theorem idx_cases {f : Int → Bool} (l : List Int) : (idxBy f l = -1 ∧ ∀ j (hj : j < l.length), f l[j] = false) ∨ ∃ i, ∃ hi : i < l.length, idxBy f l = (i : Int) ∧ f l[i] = true ∧ ∀ j (hj : j < l.length), j < i → f l[j] = false := by
  by_cases h : l.any f = true
  · right
    have h1 : l.findIdx f < l.length := List.findIdx_lt_length_of_exists (by simpa using h)
    refine ⟨l.findIdx f, h1, by unfold idxBy; rw [if_pos h], List.findIdx_getElem, fun j hj hji => ?_⟩
    have := List.not_of_lt_findIdx hji
    simpa using this
  · left
    have h1 : ∀ j (hj : j < l.length), f l[j] = false := fun j hj => by
      cases hq : f l[j]
      · rfl
      · exact absurd (List.any_eq_true.2 ⟨l[j], List.getElem_mem hj, hq⟩) h
    exact ⟨idx_none h1, h1⟩
set_option maxRecDepth 100000 in
set_option maxHeartbeats 3200000 in
theorem hpDelete_any (f : Int → Bool) (kb B : Nat) (S : Option Addr) (l : List Int) (t d : Nat) (w : World) (ht : t = l.length) (hO : w.ownsRow B 3 1 (.slice S t d) t (l.map iv))
    (hF : ∀ wr, w.grownBy wr (Value.slice S t d).ownBlock → ∀ p, Calls Tryz.prog 104 #[.int .i64 p, .pointer (some ⟨kb, 0, none⟩)] wr fun e w' => e = .returned (.bool (f p)) ∧ wr = w') :
    Calls Tryz.prog 103 #[.slice S t d, .func (.func 104) #[] #[.pointer (some ⟨kb, 0, none⟩)]] w fun e w' => e = .returned (.slice S (l.filter (fun x => !f x)).length d) ∧ Sl w' S (l.filter (fun x => !f x)).length d ((l.filter (fun x => !f x)).map iv) ∧ w.grownBy w' (Value.slice S t d).ownBlock := by
  have hsl := own_sl hO
  have HI := Lib.hid (hpIdxGone_any f kb S l t d w ht hsl (hF w (World.grownBy.refl _ _)))
  have hl := hsl.len
  unfold maxLen at hl
  have htd := hsl.2.1
  have htd2 := hsl.2.2.1
  unfold maxLen at htd2
  rcases idx_cases (f := f) l with ⟨e1, hb⟩ | ⟨i0, hi0, e1, h1, hb⟩
  · rw [filter_all hb]
    rw [e1] at HI
    have HS := Lib.hid hsl
    have HT := Lib.hid ht
    clear e1 hb hF hO hsl ht
    go_enter Tryz.func103, Tryz.ntmps103
    go_wp2_with (go_at_call 106; refine HI.out.mono ?_; rintro e w1 ⟨rfl, rfl⟩)
    go_ret
    exact ⟨by rw [← HT.out]; rfl, by rw [← HT.out]; exact HS.out, World.grownBy.refl _ _⟩
  rw [e1] at HI
  obtain ⟨g, rfl, hg⟩ := own_some hO (by omega)
  have HD0 := Lib.hid (Del.start hi0 h1 hb)
  have HO := Lib.hid hO
  have HT := Lib.hid ht
  have HF := Lib.hid hF
  have hgl : g < w.heap.size := (hO.lt g rfl).2
  clear e1 hb hF hO hsl h1 hg
  have hi1 : (i0 : Int) + 1 ≤ 9223372036854775807 := by omega
  have hie : ((i0 : Int) == -1) = false := beq_eq_false_iff_ne.2 (by omega)
  have hie2 : decide ((i0 : Int) = -1) = false := decide_eq_false (by omega)
  clear hi0 ht
  go_enter Tryz.func103, Tryz.ntmps103
  go_wp2_with (go_at_call 106; refine HI.out.mono ?_; rintro e w1 ⟨rfl, rfl⟩)
  go_loopw [5, 6] (fun s5 s6 wr => ∃ i j : Nat, s5 = .int .i64 i ∧ s6 = .int .i64 j ∧ ∃ xs, Del f l xs i j ∧ wr.ownsRow B 3 1 (.slice (some ⟨g, 0, none⟩) t d) t (xs.map iv) ∧ w.grownBy wr (some g)) (fun s5 s6 _ => t - (intOf s6).toNat)
  case atStart => exact ⟨i0, i0 + 1, rfl, by go_num, l, HD0.out, HO.out, World.grownBy.refl _ _⟩
  case round =>
    obtain ⟨i, j, rfl, rfl, xs, hd, ho, hgr⟩ := hrel
    have HD := Lib.hid hd
    have HOR := Lib.hid ho
    have HGR := Lib.hid hgr
    have hij := hd.lt
    have hjl := hd.le
    rw [← HT.out] at hjl
    have hji : (j : Int) ≤ (t : Int) := by omega
    rcases Nat.lt_or_ge j t with hlt | hlt
    · have hjll : j < l.length := by rw [← HT.out]; exact hlt
      obtain ⟨hxl, hxe⟩ := hd.at_ hjll
      have hcj : wr.cell? ⟨g, j, none⟩ = some (iv l[j]) := by
        rw [ho.cellAt j (by omega), List.getElem?_map, List.getElem?_eq_getElem hxl, hxe]; rfl
      unfold iv at hcj
      obtain ⟨z, hci⟩ : ∃ z, wr.cell? ⟨g, i, none⟩ = some z := by
        rw [ho.cellAt i (by omega), List.getElem?_map, List.getElem?_eq_getElem (by omega)]; exact ⟨_, rfl⟩
      have f0 := own_free ho i
      have hjt : (j : Int) < (t : Int) := by omega
      have hit : (i : Int) < (t : Int) := by omega
      have HC := Lib.hid (HF.out wr hgr l[j])
      have HK := Lib.hid (fun h => hd.keep hjll h)
      have HSK := Lib.hid (fun h => hd.skip hjll h)
      clear hd ho hgr hxl hxe
      generalize l[j] = x at *
      obtain ⟨b, hbx⟩ : ∃ b, f x = b := ⟨_, rfl⟩
      rw [hbx] at HC HK HSK
      clear hbx
      cases b
      · have HK2 := Lib.hid (HK.out rfl)
        have HO2 := Lib.hid (own_set HOR.out (j := i) (by omega) (.int .i64 x))
        have HG2 := Lib.hid (grown_trans HGR.out (grown_set wr g i (.int .i64 x)))
        clear HK HSK
        go_wp2_with (go_at_call 104; refine HC.out.mono ?_; rintro e w4 ⟨rfl, rfl⟩)
        go_roundw
        case rel => exact ⟨i + 1, j + 1, by go_num, by go_num, _, HK2.out, by rw [List.map_set]; exact HO2.out, HG2.out⟩
        case measure => simp [intOf]; omega
      · have HK2 := Lib.hid (HSK.out rfl)
        clear HK HSK
        go_wp2_with (go_at_call 104; refine HC.out.mono ?_; rintro e w4 ⟨rfl, rfl⟩)
        go_roundw
        case rel => exact ⟨i, j + 1, rfl, by go_num, _, HK2.out, HOR.out, HGR.out⟩
        case measure => simp [intOf]; omega
    · obtain rfl : j = t := by omega
      rw [HT.out] at hd
      obtain ⟨h5, h6⟩ := hd.done
      have hxl := hd.len
      have hcl : ∀ ty, (Builtin.clear_ #[41] ty #[.slice (some ⟨g, i, none⟩) (j - i) (d - i)]).run Tryz.prog wr = .ok (.tuple #[]) (wr.setCells g i (List.replicate (j - i) (.int .i64 0))) :=
        fun ty => Lib.run_clear_slice wr 41 3 ty (.int .i64 0) Tryz.underlying41 zeroI (by simp [Value.cells]) rfl g i (j - i) (d - i) (by omega) (fun k hk => by rw [ho.cellAt (i + k) (by omega), List.getElem?_map, List.getElem?_eq_getElem (by have := HT.out; omega)]; rfl) (fun k hk => own_free ho (i + k))
      have HG2 := Lib.hid (grown_trans hgr (grown_cells g (List.replicate (j - i) (.int .i64 0)) i wr))
      have HR := Lib.hid (show Sl (wr.setCells g i (List.replicate (j - i) (.int .i64 0))) (some ⟨g, 0, none⟩) (l.filter (fun x => !f x)).length d ((l.filter (fun x => !f x)).map iv) from by
        refine ⟨(fun h => by cases h), by omega, by unfold maxLen; omega, fun _ => ⟨g, 0, rfl, ?_, fun k u hu => ?_⟩⟩
        · exact Nat.lt_of_lt_of_le hgl HG2.out.size
        · have hk : k < i := by
            have := (List.getElem?_eq_some_iff.1 hu).1
            rw [List.length_map, ← h6] at this
            exact this
          rw [Nat.zero_add, World.cell?_setCells_out _ _ _ _ _ (fun _ _ => Or.inl hk), ho.cellAt k (by omega), ← hu, ← h5, List.getElem?_map, List.getElem?_map, List.getElem?_take, if_pos hk])
      have H6 := Lib.hid h6
      have hit : (i : Int) < (j : Int) := by omega
      have hdi : ¬ d = i := by omega
      have hii : i ≤ j := by omega
      clear hd ho hgr h5 h6 hxl hlt HD0 HD HF
      go_wp2_with fail
      go_ret
      exact ⟨by rw [← H6.out]; rfl, HR.out, HG2.out⟩
set_option maxHeartbeats 800000 in
theorem hpWithout_any (B : Nat) (S : Option Addr) (l : List Int) (t d : Nat) (H : Option Addr) (held : List Int) (th dh : Nat) (w : World) (ht : t = l.length) (hO : w.ownsRow B 3 1 (.slice S t d) t (l.map iv)) (hth : th = held.length) (hH : Sl w H th dh (held.map iv))
    (hne : held.map iv ≠ [] → ∀ p, H = some p → (Value.slice S t d).ownBlock ≠ some p.block) :
    Calls Tryz.prog 95 #[.slice S t d, .slice H th dh] w fun e w' => e = .returned (.slice S (l.filter (fun x => !inL held x)).length d) ∧ Sl w' S (l.filter (fun x => !inL held x)).length d ((l.filter (fun x => !inL held x)).map iv) ∧ w.grownBy w' (Value.slice S t d).ownBlock := by
  have hx := (Ext.refl w).alloc (.cells #[.slice H th dh] 41)
  have HX := Lib.hid hx
  have hb := Bx.new w #[.slice H th dh] 41
  have HD := Lib.hid (hpDelete_any (inL held) w.heap.size B S l t d _ ht (own_ext hO hx) (fun wr hg p => by
    have hbk : Bx wr w.heap.size #[.slice H th dh] := hb.grown hg (fun e => by have := hO.lt _ e; omega)
    exact hpGone_any p w.heap.size H held th dh wr (hbk.at 0 _ rfl) hth ((hH.ext hx).grown hg hne)))
  generalize l.filter _ = l' at *
  clear ht hO hth hH hne hx hb
  go_enter Tryz.func95, Tryz.ntmps95
  go_wp2_with (go_at_call 103; refine HD.out.mono ?_; rintro e w1 ⟨rfl, hs, hg⟩; have HS := Lib.hid hs; have HG := Lib.hid (grown_trans (grown_ext HX.out _) hg); clear hs hg)
  go_ret
  exact ⟨rfl, HS.out, HG.out⟩
end Go.Proofs.YtkoomcbiddanfaaGreat
namespace Go.Proofs.YtkoomcbiddanfaaGreat
open Go.RowKit
attribute [local go_sem ↓] Go.wp_at_zero Go.wp_at_succ

theorem places_told (n : Nat) (leaf : Bool) (it : List It) : placesC n leaf it = !((toldL leaf it).any (fun p => !isPl p n)) := by
  unfold placesC toldL isPl
  cases leaf
  · simp only [Bool.false_or, Bool.false_eq_true, if_false, List.any_map, Function.comp_def]
    rw [List.all_eq_not_any_not]
  · rfl
end Go.Proofs.YtkoomcbiddanfaaGreat
