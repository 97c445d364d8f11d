/- Walks of changed and changedUsed of package heap, at each thing that is done. -/
import Derived.Test.YtclpeeemnmhdcaaHpA4
namespace Go.Proofs.Ytclpeeemnmhdcaa
open Go.RowKit
attribute [local go_sem ↓] Go.wp_at_zero Go.wp_at_succ

theorem own_base {w : World} {B B' e s n : Nat} {v : Value} {xs : List Value} (h : w.ownsRow B e s v n xs) (hb : B' ≤ B) : w.ownsRow B' e s v n xs := by
  refine ⟨h.1, ?_⟩
  rcases h.2 with h0 | ⟨g, cap, cur, e0, hg, h1⟩
  · exact .inl h0
  · exact .inr ⟨g, cap, cur, e0, Nat.le_trans hb hg, h1⟩
theorem Own.other {v w : World} {g cap : Nat} {l : List HC} (h : Own v w g cap l) {p : Addr} (hp : p.block ≠ g) (hv : v.heap.size ≤ p.block) (u : Value) : Own v (w.setCell p u) g cap l := by
  obtain ⟨cs, h1, h2, h3⟩ := h
  exact ⟨cs, ownsRow_setCell_other h1 (by simpa [Value.ownBlock] using Ne.symm hp) u, h2, h3.set hv u⟩
theorem Own.grown {v w w' : World} {g cap : Nat} {l : List HC} {row : Option Nat} (h : Own v w g cap l) (hg : w.grownBy w' row) (hne : row ≠ some g) (hx : Ext v w') : Own v w' g cap l := by
  obtain ⟨cs, h1, h2, h3⟩ := h
  exact ⟨cs, h1.kept hg (by simpa [Value.ownBlock] using fun e => hne e.symm), h2, hx⟩
/-- copied, told over an elder world in which the cells lie. -/
theorem hpCopied_v (v : World) (R : Option Addr) (l : List HC) (n q : Nat) (w : World) (hx : Ext v w) (hb : n ≤ 90000) (hA : HcSl v R n q l) :
    Calls Try.prog 64 #[.slice R n q] w fun e w' => ∃ g, e = .returned (.slice (some ⟨g, 0, none⟩) n n) ∧ w.heap.size ≤ g ∧ Own v w' g n l ∧ Ext w w' := by
  obtain ⟨hn, cs, hsl, hat⟩ := hA
  refine (hpCopiedC_cs R l n q w cs hn hb (hsl.ext hx) (hat.ext hx)).mono ?_
  rintro e w' ⟨g, rfl, h1, h2⟩
  exact ⟨g, rfl, (h1.lt g rfl).1, ⟨cs, own_base h1 hx.size, hat, hx.trans h2⟩, h2⟩
set_option maxRecDepth 100000 in
set_option maxHeartbeats 3200000 in
theorem hpChangedHold_any (v : World) (R : Option Addr) (l : List HC) (n q : Nat) (keep : Int) (S : Option Addr) (ps : List Int) (t d : Nat) (F : List HC → Int → List HC) (w : World) (hx : Ext v w) (hb : n ≤ 90000) (hA : HcSl v R n q l) (ht : t = ps.length) (hS : Sl w S t d (ps.map iv))
    (hD : ∀ (lj : List HC) (j : Nat) (hj : j < ps.length) (g : Nat) (wr : World), lj = (ps.take j).foldl F l → Own v wr g n lj → Calls Try.prog 45 #[.slice (some ⟨g, 0, none⟩) n n, .int .i64 ps[j]] wr fun e w' => e = .returned (.tuple #[]) ∧ Own v w' g n (F lj ps[j]) ∧ wr.grownBy w' (some g)) :
    Calls Try.prog 44 #[.agg #[.slice R n q, .int .i64 keep], .func (.func 45) #[] #[], .slice S t d] w fun e w' => ∃ g, e = .returned (.agg #[.slice (some ⟨g, 0, none⟩) n n, .int .i64 keep]) ∧ w.heap.size ≤ g ∧ Own v w' g n (ps.foldl F l) ∧ Ext w w' := by
  obtain ⟨W, hW⟩ : ∃ W, (w.alloc (.cells #[.slice R n q, .int .i64 keep] 24)).alloc (.cells #[.slice none 0 0, .int .i64 0] 24) = W := ⟨_, rfl⟩
  obtain ⟨hx0, hb0, hb1⟩ := allocs2 hW
  have hsz : W.heap.size = w.heap.size + 1 + 1 := by rw [← hW]; simp
  have HX := Lib.hid hx0
  have HXV := Lib.hid hx
  have HB0 := Lib.hid hb0
  have HB1 := Lib.hid hb1
  have HSZ := Lib.hid hsz
  have HT := Lib.hid ht
  have HS := Lib.hid hS
  have HD := Lib.hid hD
  have HC := Lib.hid (hpCopied_v v R l n q W (hx.trans hx0) hb hA)
  have htl := hS.len
  unfold maxLen at htl
  obtain ⟨p0, p1, p2⟩ := hb0.read2
  clear hx hx0 hb0 hb1 hsz hA ht hS hD
  subst hW
  go_enter Try.func44, Try.ntmps44
  go_wp2_with (go_at_call 64; refine stop_here ?_)
  refine stop_on ?_
  generalize hW : World.alloc (World.alloc w _) _ = W at *
  clear hW
  refine HC.out.mono ?_
  rintro e w1 ⟨g, rfl, hg, ho, hx1⟩
  have hgw : w.heap.size + 1 + 1 ≤ g := by have := HSZ.out; omega
  have HO := Lib.hid ho
  have HX1 := Lib.hid (HX.out.trans hx1)
  have HC0 := Lib.hid (HB0.out.ext hx1)
  have HC1 := Lib.hid (HB1.out.ext hx1)
  have HS1 := Lib.hid (HS.out.ext HX1.out)
  have HAP := Lib.hid (HS.out.cells.apart (g := g) (by omega))
  clear ho hx1 p0 p1 p2 hg
  go_wp2_with fail
  go_loopw [15] (fun i wr => ∃ j : Nat, j ≤ t ∧ i = .int .i64 j ∧ Own v wr g n ((ps.take j).foldl F l) ∧ w1.grownBy wr (some g)) (fun i _ => t - (intOf i).toNat)
  case atStart => exact ⟨0, Nat.zero_le _, rfl, HO.out, World.grownBy.refl _ _⟩
  case round =>
    obtain ⟨j, hj, rfl, ho, hgr⟩ := hrel
    have HOR := Lib.hid ho
    have HGR := Lib.hid hgr
    rcases Nat.lt_or_ge j t with hlt | hlt
    · have hjl : j < ps.length := by rw [← HT.out]; exact hlt
      obtain ⟨bi, oi, rfl, hbi, hc⟩ := (HS1.out.grown hgr HAP.out).cells.num hjl
      have hcj := hc j hjl
      have hji : (j : Int) < (t : Int) := by omega
      have HST := Lib.hid (foldl_takeI F l hjl)
      have HCL := Lib.hid (HD.out _ j hjl g wr rfl ho)
      rw [← HST.out] at HCL
      clear hc ho hgr
      generalize ps[j] = p at *
      go_wp2_with (go_at_call 45; refine stop_here ?_)
      refine stop_on ?_
      refine HCL.out.mono ?_
      rintro e w4 ⟨rfl, ho4, hg4⟩
      have HO5 := Lib.hid ho4
      have HG5 := Lib.hid (grown_trans HGR.out hg4)
      clear ho4 hg4
      go_wp2_with fail
      go_roundw
      case rel => exact ⟨j + 1, by omega, by go_num, HO5.out, HG5.out⟩
      case measure => simp [intOf]; omega
    · obtain rfl : j = t := by omega
      have hE : ps.take j = ps := by rw [HT.out, List.take_length]
      rw [hE] at HOR
      have HE0 := Lib.hid (HC0.out.grown hgr (fun e => by have := Option.some.inj e; omega))
      have HE1 := Lib.hid (HC1.out.grown hgr (fun e => by have := Option.some.inj e; omega))
      have HXR := Lib.hid (Ext.row' HX1.out hgr (by omega))
      have hvs := HXV.out.size
      obtain ⟨t0, t1, t2⟩ := HE0.out.read2
      obtain ⟨y0, y1⟩ := HE0.out.free2
      obtain ⟨s0, s1, s2⟩ := HE1.out.read2
      obtain ⟨x0, x1⟩ := HE1.out.free2
      clear ho hgr hlt hE
      have HF1 := Lib.hid (HE1.out.set_other (p := ⟨w.heap.size, 0, none⟩) (by simp) (.slice (some ⟨g, 0, none⟩) n n))
      have HF2 := Lib.hid (HF1.out.set2 (.slice (some ⟨g, 0, none⟩) n n) (.int .i64 keep))
      have HFO := Lib.hid (((HOR.out.other (p := ⟨w.heap.size, 0, none⟩) (by simp; omega) (by simpa using hvs) (.slice (some ⟨g, 0, none⟩) n n)).other (p := ⟨w.heap.size + 1, 0, none⟩) (by simp; omega) (by simp; omega) (.slice (some ⟨g, 0, none⟩) n n)).other (p := ⟨w.heap.size + 1, 1, none⟩) (by simp; omega) (by simp; omega) (.int .i64 keep))
      have HFX := Lib.hid (((HXR.out.set (p := ⟨w.heap.size, 0, none⟩) (by simp) (.slice (some ⟨g, 0, none⟩) n n)).set (p := ⟨w.heap.size + 1, 0, none⟩) (by simp) (.slice (some ⟨g, 0, none⟩) n n)).set (p := ⟨w.heap.size + 1, 1, none⟩) (by simp) (.int .i64 keep))
      go_wp2_with fail
      refine ret2_cell (k := w.heap.size + 1) (x := .slice (some ⟨g, 0, none⟩) n n) (y := .int .i64 keep) (v := .agg #[.slice (some ⟨g, 0, none⟩) n n, .int .i64 keep]) ?hb4 (fun r0 r1 => by simp [results, Try.results44, go_sem, r0, r1]) rfl ?hx4
      case hb4 => exact HF2.out
      case hx4 => exact ⟨g, rfl, by omega, HFO.out, HFX.out⟩
set_option maxRecDepth 100000 in
set_option maxHeartbeats 3200000 in
theorem hpChangedSettle_any (v : World) (R : Option Addr) (l : List HC) (n q : Nat) (keep : Int) (S : Option Addr) (ps : List Int) (t d : Nat) (F : List HC → Int → List HC) (w : World) (hx : Ext v w) (hb : n ≤ 90000) (hA : HcSl v R n q l) (ht : t = ps.length) (hS : Sl w S t d (ps.map iv))
    (hD : ∀ (lj : List HC) (j : Nat) (hj : j < ps.length) (g : Nat) (wr : World), lj = (ps.take j).foldl F l → Own v wr g n lj → Calls Try.prog 53 #[.slice (some ⟨g, 0, none⟩) n n, .int .i64 ps[j]] wr fun e w' => e = .returned (.tuple #[]) ∧ Own v w' g n (F lj ps[j]) ∧ wr.grownBy w' (some g)) :
    Calls Try.prog 44 #[.agg #[.slice R n q, .int .i64 keep], .func (.func 53) #[] #[], .slice S t d] w fun e w' => ∃ g, e = .returned (.agg #[.slice (some ⟨g, 0, none⟩) n n, .int .i64 keep]) ∧ w.heap.size ≤ g ∧ Own v w' g n (ps.foldl F l) ∧ Ext w w' := by
  obtain ⟨W, hW⟩ : ∃ W, (w.alloc (.cells #[.slice R n q, .int .i64 keep] 24)).alloc (.cells #[.slice none 0 0, .int .i64 0] 24) = W := ⟨_, rfl⟩
  obtain ⟨hx0, hb0, hb1⟩ := allocs2 hW
  have hsz : W.heap.size = w.heap.size + 1 + 1 := by rw [← hW]; simp
  have HX := Lib.hid hx0
  have HXV := Lib.hid hx
  have HB0 := Lib.hid hb0
  have HB1 := Lib.hid hb1
  have HSZ := Lib.hid hsz
  have HT := Lib.hid ht
  have HS := Lib.hid hS
  have HD := Lib.hid hD
  have HC := Lib.hid (hpCopied_v v R l n q W (hx.trans hx0) hb hA)
  have htl := hS.len
  unfold maxLen at htl
  obtain ⟨p0, p1, p2⟩ := hb0.read2
  clear hx hx0 hb0 hb1 hsz hA ht hS hD
  subst hW
  go_enter Try.func44, Try.ntmps44
  go_wp2_with (go_at_call 64; refine stop_here ?_)
  refine stop_on ?_
  generalize hW : World.alloc (World.alloc w _) _ = W at *
  clear hW
  refine HC.out.mono ?_
  rintro e w1 ⟨g, rfl, hg, ho, hx1⟩
  have hgw : w.heap.size + 1 + 1 ≤ g := by have := HSZ.out; omega
  have HO := Lib.hid ho
  have HX1 := Lib.hid (HX.out.trans hx1)
  have HC0 := Lib.hid (HB0.out.ext hx1)
  have HC1 := Lib.hid (HB1.out.ext hx1)
  have HS1 := Lib.hid (HS.out.ext HX1.out)
  have HAP := Lib.hid (HS.out.cells.apart (g := g) (by omega))
  clear ho hx1 p0 p1 p2 hg
  go_wp2_with fail
  go_loopw [15] (fun i wr => ∃ j : Nat, j ≤ t ∧ i = .int .i64 j ∧ Own v wr g n ((ps.take j).foldl F l) ∧ w1.grownBy wr (some g)) (fun i _ => t - (intOf i).toNat)
  case atStart => exact ⟨0, Nat.zero_le _, rfl, HO.out, World.grownBy.refl _ _⟩
  case round =>
    obtain ⟨j, hj, rfl, ho, hgr⟩ := hrel
    have HOR := Lib.hid ho
    have HGR := Lib.hid hgr
    rcases Nat.lt_or_ge j t with hlt | hlt
    · have hjl : j < ps.length := by rw [← HT.out]; exact hlt
      obtain ⟨bi, oi, rfl, hbi, hc⟩ := (HS1.out.grown hgr HAP.out).cells.num hjl
      have hcj := hc j hjl
      have hji : (j : Int) < (t : Int) := by omega
      have HST := Lib.hid (foldl_takeI F l hjl)
      have HCL := Lib.hid (HD.out _ j hjl g wr rfl ho)
      rw [← HST.out] at HCL
      clear hc ho hgr
      generalize ps[j] = p at *
      go_wp2_with (go_at_call 53; refine stop_here ?_)
      refine stop_on ?_
      refine HCL.out.mono ?_
      rintro e w4 ⟨rfl, ho4, hg4⟩
      have HO5 := Lib.hid ho4
      have HG5 := Lib.hid (grown_trans HGR.out hg4)
      clear ho4 hg4
      go_wp2_with fail
      go_roundw
      case rel => exact ⟨j + 1, by omega, by go_num, HO5.out, HG5.out⟩
      case measure => simp [intOf]; omega
    · obtain rfl : j = t := by omega
      have hE : ps.take j = ps := by rw [HT.out, List.take_length]
      rw [hE] at HOR
      have HE0 := Lib.hid (HC0.out.grown hgr (fun e => by have := Option.some.inj e; omega))
      have HE1 := Lib.hid (HC1.out.grown hgr (fun e => by have := Option.some.inj e; omega))
      have HXR := Lib.hid (Ext.row' HX1.out hgr (by omega))
      have hvs := HXV.out.size
      obtain ⟨t0, t1, t2⟩ := HE0.out.read2
      obtain ⟨y0, y1⟩ := HE0.out.free2
      obtain ⟨s0, s1, s2⟩ := HE1.out.read2
      obtain ⟨x0, x1⟩ := HE1.out.free2
      clear ho hgr hlt hE
      have HF1 := Lib.hid (HE1.out.set_other (p := ⟨w.heap.size, 0, none⟩) (by simp) (.slice (some ⟨g, 0, none⟩) n n))
      have HF2 := Lib.hid (HF1.out.set2 (.slice (some ⟨g, 0, none⟩) n n) (.int .i64 keep))
      have HFO := Lib.hid (((HOR.out.other (p := ⟨w.heap.size, 0, none⟩) (by simp; omega) (by simpa using hvs) (.slice (some ⟨g, 0, none⟩) n n)).other (p := ⟨w.heap.size + 1, 0, none⟩) (by simp; omega) (by simp; omega) (.slice (some ⟨g, 0, none⟩) n n)).other (p := ⟨w.heap.size + 1, 1, none⟩) (by simp; omega) (by simp; omega) (.int .i64 keep))
      have HFX := Lib.hid (((HXR.out.set (p := ⟨w.heap.size, 0, none⟩) (by simp) (.slice (some ⟨g, 0, none⟩) n n)).set (p := ⟨w.heap.size + 1, 0, none⟩) (by simp) (.slice (some ⟨g, 0, none⟩) n n)).set (p := ⟨w.heap.size + 1, 1, none⟩) (by simp) (.int .i64 keep))
      go_wp2_with fail
      refine ret2_cell (k := w.heap.size + 1) (x := .slice (some ⟨g, 0, none⟩) n n) (y := .int .i64 keep) (v := .agg #[.slice (some ⟨g, 0, none⟩) n n, .int .i64 keep]) ?hb4 (fun r0 r1 => by simp [results, Try.results44, go_sem, r0, r1]) rfl ?hx4
      case hb4 => exact HF2.out
      case hx4 => exact ⟨g, rfl, by omega, HFO.out, HFX.out⟩
set_option maxRecDepth 100000 in
set_option maxHeartbeats 3200000 in
theorem hpChangedLoose_any (v : World) (R : Option Addr) (l : List HC) (n q : Nat) (keep : Int) (S : Option Addr) (ps : List Int) (t d : Nat) (F : List HC → Int → List HC) (w : World) (hx : Ext v w) (hb : n ≤ 90000) (hA : HcSl v R n q l) (ht : t = ps.length) (hS : Sl w S t d (ps.map iv))
    (hD : ∀ (lj : List HC) (j : Nat) (hj : j < ps.length) (g : Nat) (wr : World), lj = (ps.take j).foldl F l → Own v wr g n lj → Calls Try.prog 52 #[.slice (some ⟨g, 0, none⟩) n n, .int .i64 ps[j]] wr fun e w' => e = .returned (.tuple #[]) ∧ Own v w' g n (F lj ps[j]) ∧ wr.grownBy w' (some g)) :
    Calls Try.prog 44 #[.agg #[.slice R n q, .int .i64 keep], .func (.func 52) #[] #[], .slice S t d] w fun e w' => ∃ g, e = .returned (.agg #[.slice (some ⟨g, 0, none⟩) n n, .int .i64 keep]) ∧ w.heap.size ≤ g ∧ Own v w' g n (ps.foldl F l) ∧ Ext w w' := by
  obtain ⟨W, hW⟩ : ∃ W, (w.alloc (.cells #[.slice R n q, .int .i64 keep] 24)).alloc (.cells #[.slice none 0 0, .int .i64 0] 24) = W := ⟨_, rfl⟩
  obtain ⟨hx0, hb0, hb1⟩ := allocs2 hW
  have hsz : W.heap.size = w.heap.size + 1 + 1 := by rw [← hW]; simp
  have HX := Lib.hid hx0
  have HXV := Lib.hid hx
  have HB0 := Lib.hid hb0
  have HB1 := Lib.hid hb1
  have HSZ := Lib.hid hsz
  have HT := Lib.hid ht
  have HS := Lib.hid hS
  have HD := Lib.hid hD
  have HC := Lib.hid (hpCopied_v v R l n q W (hx.trans hx0) hb hA)
  have htl := hS.len
  unfold maxLen at htl
  obtain ⟨p0, p1, p2⟩ := hb0.read2
  clear hx hx0 hb0 hb1 hsz hA ht hS hD
  subst hW
  go_enter Try.func44, Try.ntmps44
  go_wp2_with (go_at_call 64; refine stop_here ?_)
  refine stop_on ?_
  generalize hW : World.alloc (World.alloc w _) _ = W at *
  clear hW
  refine HC.out.mono ?_
  rintro e w1 ⟨g, rfl, hg, ho, hx1⟩
  have hgw : w.heap.size + 1 + 1 ≤ g := by have := HSZ.out; omega
  have HO := Lib.hid ho
  have HX1 := Lib.hid (HX.out.trans hx1)
  have HC0 := Lib.hid (HB0.out.ext hx1)
  have HC1 := Lib.hid (HB1.out.ext hx1)
  have HS1 := Lib.hid (HS.out.ext HX1.out)
  have HAP := Lib.hid (HS.out.cells.apart (g := g) (by omega))
  clear ho hx1 p0 p1 p2 hg
  go_wp2_with fail
  go_loopw [15] (fun i wr => ∃ j : Nat, j ≤ t ∧ i = .int .i64 j ∧ Own v wr g n ((ps.take j).foldl F l) ∧ w1.grownBy wr (some g)) (fun i _ => t - (intOf i).toNat)
  case atStart => exact ⟨0, Nat.zero_le _, rfl, HO.out, World.grownBy.refl _ _⟩
  case round =>
    obtain ⟨j, hj, rfl, ho, hgr⟩ := hrel
    have HOR := Lib.hid ho
    have HGR := Lib.hid hgr
    rcases Nat.lt_or_ge j t with hlt | hlt
    · have hjl : j < ps.length := by rw [← HT.out]; exact hlt
      obtain ⟨bi, oi, rfl, hbi, hc⟩ := (HS1.out.grown hgr HAP.out).cells.num hjl
      have hcj := hc j hjl
      have hji : (j : Int) < (t : Int) := by omega
      have HST := Lib.hid (foldl_takeI F l hjl)
      have HCL := Lib.hid (HD.out _ j hjl g wr rfl ho)
      rw [← HST.out] at HCL
      clear hc ho hgr
      generalize ps[j] = p at *
      go_wp2_with (go_at_call 52; refine stop_here ?_)
      refine stop_on ?_
      refine HCL.out.mono ?_
      rintro e w4 ⟨rfl, ho4, hg4⟩
      have HO5 := Lib.hid ho4
      have HG5 := Lib.hid (grown_trans HGR.out hg4)
      clear ho4 hg4
      go_wp2_with fail
      go_roundw
      case rel => exact ⟨j + 1, by omega, by go_num, HO5.out, HG5.out⟩
      case measure => simp [intOf]; omega
    · obtain rfl : j = t := by omega
      have hE : ps.take j = ps := by rw [HT.out, List.take_length]
      rw [hE] at HOR
      have HE0 := Lib.hid (HC0.out.grown hgr (fun e => by have := Option.some.inj e; omega))
      have HE1 := Lib.hid (HC1.out.grown hgr (fun e => by have := Option.some.inj e; omega))
      have HXR := Lib.hid (Ext.row' HX1.out hgr (by omega))
      have hvs := HXV.out.size
      obtain ⟨t0, t1, t2⟩ := HE0.out.read2
      obtain ⟨y0, y1⟩ := HE0.out.free2
      obtain ⟨s0, s1, s2⟩ := HE1.out.read2
      obtain ⟨x0, x1⟩ := HE1.out.free2
      clear ho hgr hlt hE
      have HF1 := Lib.hid (HE1.out.set_other (p := ⟨w.heap.size, 0, none⟩) (by simp) (.slice (some ⟨g, 0, none⟩) n n))
      have HF2 := Lib.hid (HF1.out.set2 (.slice (some ⟨g, 0, none⟩) n n) (.int .i64 keep))
      have HFO := Lib.hid (((HOR.out.other (p := ⟨w.heap.size, 0, none⟩) (by simp; omega) (by simpa using hvs) (.slice (some ⟨g, 0, none⟩) n n)).other (p := ⟨w.heap.size + 1, 0, none⟩) (by simp; omega) (by simp; omega) (.slice (some ⟨g, 0, none⟩) n n)).other (p := ⟨w.heap.size + 1, 1, none⟩) (by simp; omega) (by simp; omega) (.int .i64 keep))
      have HFX := Lib.hid (((HXR.out.set (p := ⟨w.heap.size, 0, none⟩) (by simp) (.slice (some ⟨g, 0, none⟩) n n)).set (p := ⟨w.heap.size + 1, 0, none⟩) (by simp) (.slice (some ⟨g, 0, none⟩) n n)).set (p := ⟨w.heap.size + 1, 1, none⟩) (by simp) (.int .i64 keep))
      go_wp2_with fail
      refine ret2_cell (k := w.heap.size + 1) (x := .slice (some ⟨g, 0, none⟩) n n) (y := .int .i64 keep) (v := .agg #[.slice (some ⟨g, 0, none⟩) n n, .int .i64 keep]) ?hb4 (fun r0 r1 => by simp [results, Try.results44, go_sem, r0, r1]) rfl ?hx4
      case hb4 => exact HF2.out
      case hx4 => exact ⟨g, rfl, by omega, HFO.out, HFX.out⟩
set_option maxRecDepth 100000 in
set_option maxHeartbeats 3200000 in
theorem hpUsedNoHold_any (R : Option Addr) (l : List HC) (n q : Nat) (keep p : Int) (w : World) (hu : usedC l p = false) (hA : HcSl w R n q l) :
    Calls Try.prog 51 #[.agg #[.slice R n q, .int .i64 keep], .func (.func 45) #[] #[], .int .i64 p] w fun e w' => e = .returned (.tuple #[.agg #[.slice R n q, .int .i64 keep], .int .i64 4]) ∧ Ext w w' := by
  obtain ⟨W, hW⟩ : ∃ W, (w.alloc (.cells #[.slice R n q, .int .i64 keep] 24)).alloc (.cells #[.slice none 0 0, .int .i64 0] 24) = W := ⟨_, rfl⟩
  obtain ⟨hx0, hb0, hb1⟩ := allocs2 hW
  have HX := Lib.hid hx0
  have HB1 := Lib.hid hb1
  have HU := Lib.hid (hpUsed_any R l n q p W (hA.ext hx0))
  rw [hu] at HU
  obtain ⟨p0, p1, p2⟩ := hb0.read2
  obtain ⟨t0, t1, t2⟩ := hb1.read2
  obtain ⟨y0, y1⟩ := hb1.free2
  clear hx0 hb0 hb1 hA hu
  subst hW
  go_enter Try.func51, Try.ntmps51
  go_wp2_with (go_at_call 63; refine stop_here ?_)
  refine stop_on ?_
  generalize hW : World.alloc (World.alloc w _) _ = W at *
  clear hW
  refine HU.out.mono ?_
  rintro e w4 ⟨rfl, rfl⟩
  go_wp2_with fail
  refine ret2_cell (k := w.heap.size + 1) (x := .slice R n q) (y := .int .i64 keep) (v := .tuple #[.agg #[.slice R n q, .int .i64 keep], .int .i64 4]) ?hb4 (fun r0 r1 => by simp [results, Try.results51, go_sem, r0, r1]) rfl ?hx4
  case hb4 => exact HB1.out.set2 _ _
  case hx4 => exact ⟨rfl, HX.out.store2 (by omega) _ _⟩
set_option maxRecDepth 100000 in
set_option maxHeartbeats 3200000 in
theorem hpUsedYesHold_any (v : World) (R : Option Addr) (l : List HC) (n q : Nat) (keep p : Int) (l' : List HC) (w : World) (hx : Ext v w) (hb : n ≤ 90000) (hu : usedC l p = true) (hA : HcSl v R n q l)
    (hD : ∀ (g : Nat) (wr : World), Own v wr g n l → Calls Try.prog 45 #[.slice (some ⟨g, 0, none⟩) n n, .int .i64 p] wr fun e w' => e = .returned (.tuple #[]) ∧ Own v w' g n l' ∧ wr.grownBy w' (some g)) :
    Calls Try.prog 51 #[.agg #[.slice R n q, .int .i64 keep], .func (.func 45) #[] #[], .int .i64 p] w fun e w' => ∃ g, e = .returned (.tuple #[.agg #[.slice (some ⟨g, 0, none⟩) n n, .int .i64 keep], .int .i64 0]) ∧ w.heap.size ≤ g ∧ Own v w' g n l' ∧ Ext w w' := by
  obtain ⟨W, hW⟩ : ∃ W, (w.alloc (.cells #[.slice R n q, .int .i64 keep] 24)).alloc (.cells #[.slice none 0 0, .int .i64 0] 24) = W := ⟨_, rfl⟩
  obtain ⟨hx0, hb0, hb1⟩ := allocs2 hW
  have hsz : W.heap.size = w.heap.size + 1 + 1 := by rw [← hW]; simp
  have HX := Lib.hid hx0
  have HXV := Lib.hid hx
  have HB1 := Lib.hid hb1
  have HSZ := Lib.hid hsz
  have HU := Lib.hid (hpUsed_any R l n q p W (hA.ext (hx.trans hx0)))
  rw [hu] at HU
  have HC := Lib.hid (fun w' S (hx' : Ext v w') (hS : Sl w' S 1 1 ([p].map iv)) => hpChangedHold_any v R l n q keep S [p] 1 1 (fun _ _ => l') w' hx' hb hA rfl hS (fun lj j hj g wr e ho => by
    have hj0 : j = 0 := by simpa using hj
    subst hj0
    subst e
    exact hD g wr ho))
  obtain ⟨p0, p1, p2⟩ := hb0.read2
  clear hx hx0 hb0 hb1 hA hu hsz hD
  subst hW
  go_enter Try.func51, Try.ntmps51
  go_wp2_with (first | (go_at_call 63; with_reducible refine HU.out.mono ?_; rintro e w4 ⟨rfl, rfl⟩) | (go_at_call 44; refine stop_here ?_))
  refine stop_on ?_
  generalize hW : World.alloc (World.alloc w _) _ = W at *
  clear hW
  refine (HC.out _ _ ((HXV.out.trans HX.out).alloc _) ?hsl).mono ?_
  case hsl => exact sl_lit' (by rw [HSZ.out]) _ 1 _ (by unfold maxLen; omega)
  rintro e w5 ⟨g, rfl, hg, ho, hx5⟩
  have hsz := HSZ.out
  have hgw : w.heap.size + 1 + 1 < g := by simp at hg; omega
  have hx6 : Ext W w5 := ((Ext.refl W).alloc _).trans hx5
  have HX6 := Lib.hid (HX.out.trans hx6)
  have hc1 := HB1.out.ext hx6
  have HC1 := Lib.hid hc1
  have hvs := HXV.out.size
  have HFO := Lib.hid ((ho.other (p := ⟨w.heap.size + 1, 0, none⟩) (by simp; omega) (by simp; omega) (.slice (some ⟨g, 0, none⟩) n n)).other (p := ⟨w.heap.size + 1, 1, none⟩) (by simp; omega) (by simp; omega) (.int .i64 keep))
  clear p0 p1 p2 hg ho hx5 hx6
  obtain ⟨t0, t1, t2⟩ := hc1.read2
  obtain ⟨y0, y1⟩ := hc1.free2
  clear hc1 hsz
  go_wp2_with fail
  refine ret2_cell (k := w.heap.size + 1) (x := .slice (some ⟨g, 0, none⟩) n n) (y := .int .i64 keep) (v := .tuple #[.agg #[.slice (some ⟨g, 0, none⟩) n n, .int .i64 keep], .int .i64 0]) ?hb4 (fun r0 r1 => by simp [results, Try.results51, go_sem, r0, r1]) rfl ?hx4
  case hb4 => exact HC1.out.set2 _ _
  case hx4 => exact ⟨g, rfl, by omega, HFO.out, HX6.out.store2 (by omega) _ _⟩
set_option maxRecDepth 100000 in
set_option maxHeartbeats 3200000 in
theorem hpUsedNoLoose_any (R : Option Addr) (l : List HC) (n q : Nat) (keep p : Int) (w : World) (hu : usedC l p = false) (hA : HcSl w R n q l) :
    Calls Try.prog 51 #[.agg #[.slice R n q, .int .i64 keep], .func (.func 52) #[] #[], .int .i64 p] w fun e w' => e = .returned (.tuple #[.agg #[.slice R n q, .int .i64 keep], .int .i64 4]) ∧ Ext w w' := by
  obtain ⟨W, hW⟩ : ∃ W, (w.alloc (.cells #[.slice R n q, .int .i64 keep] 24)).alloc (.cells #[.slice none 0 0, .int .i64 0] 24) = W := ⟨_, rfl⟩
  obtain ⟨hx0, hb0, hb1⟩ := allocs2 hW
  have HX := Lib.hid hx0
  have HB1 := Lib.hid hb1
  have HU := Lib.hid (hpUsed_any R l n q p W (hA.ext hx0))
  rw [hu] at HU
  obtain ⟨p0, p1, p2⟩ := hb0.read2
  obtain ⟨t0, t1, t2⟩ := hb1.read2
  obtain ⟨y0, y1⟩ := hb1.free2
  clear hx0 hb0 hb1 hA hu
  subst hW
  go_enter Try.func51, Try.ntmps51
  go_wp2_with (go_at_call 63; refine stop_here ?_)
  refine stop_on ?_
  generalize hW : World.alloc (World.alloc w _) _ = W at *
  clear hW
  refine HU.out.mono ?_
  rintro e w4 ⟨rfl, rfl⟩
  go_wp2_with fail
  refine ret2_cell (k := w.heap.size + 1) (x := .slice R n q) (y := .int .i64 keep) (v := .tuple #[.agg #[.slice R n q, .int .i64 keep], .int .i64 4]) ?hb4 (fun r0 r1 => by simp [results, Try.results51, go_sem, r0, r1]) rfl ?hx4
  case hb4 => exact HB1.out.set2 _ _
  case hx4 => exact ⟨rfl, HX.out.store2 (by omega) _ _⟩
set_option maxRecDepth 100000 in
set_option maxHeartbeats 3200000 in
theorem hpUsedYesLoose_any (v : World) (R : Option Addr) (l : List HC) (n q : Nat) (keep p : Int) (l' : List HC) (w : World) (hx : Ext v w) (hb : n ≤ 90000) (hu : usedC l p = true) (hA : HcSl v R n q l)
    (hD : ∀ (g : Nat) (wr : World), Own v wr g n l → Calls Try.prog 52 #[.slice (some ⟨g, 0, none⟩) n n, .int .i64 p] wr fun e w' => e = .returned (.tuple #[]) ∧ Own v w' g n l' ∧ wr.grownBy w' (some g)) :
    Calls Try.prog 51 #[.agg #[.slice R n q, .int .i64 keep], .func (.func 52) #[] #[], .int .i64 p] w fun e w' => ∃ g, e = .returned (.tuple #[.agg #[.slice (some ⟨g, 0, none⟩) n n, .int .i64 keep], .int .i64 0]) ∧ w.heap.size ≤ g ∧ Own v w' g n l' ∧ Ext w w' := by
  obtain ⟨W, hW⟩ : ∃ W, (w.alloc (.cells #[.slice R n q, .int .i64 keep] 24)).alloc (.cells #[.slice none 0 0, .int .i64 0] 24) = W := ⟨_, rfl⟩
  obtain ⟨hx0, hb0, hb1⟩ := allocs2 hW
  have hsz : W.heap.size = w.heap.size + 1 + 1 := by rw [← hW]; simp
  have HX := Lib.hid hx0
  have HXV := Lib.hid hx
  have HB1 := Lib.hid hb1
  have HSZ := Lib.hid hsz
  have HU := Lib.hid (hpUsed_any R l n q p W (hA.ext (hx.trans hx0)))
  rw [hu] at HU
  have HC := Lib.hid (fun w' S (hx' : Ext v w') (hS : Sl w' S 1 1 ([p].map iv)) => hpChangedLoose_any v R l n q keep S [p] 1 1 (fun _ _ => l') w' hx' hb hA rfl hS (fun lj j hj g wr e ho => by
    have hj0 : j = 0 := by simpa using hj
    subst hj0
    subst e
    exact hD g wr ho))
  obtain ⟨p0, p1, p2⟩ := hb0.read2
  clear hx hx0 hb0 hb1 hA hu hsz hD
  subst hW
  go_enter Try.func51, Try.ntmps51
  go_wp2_with (first | (go_at_call 63; with_reducible refine HU.out.mono ?_; rintro e w4 ⟨rfl, rfl⟩) | (go_at_call 44; refine stop_here ?_))
  refine stop_on ?_
  generalize hW : World.alloc (World.alloc w _) _ = W at *
  clear hW
  refine (HC.out _ _ ((HXV.out.trans HX.out).alloc _) ?hsl).mono ?_
  case hsl => exact sl_lit' (by rw [HSZ.out]) _ 1 _ (by unfold maxLen; omega)
  rintro e w5 ⟨g, rfl, hg, ho, hx5⟩
  have hsz := HSZ.out
  have hgw : w.heap.size + 1 + 1 < g := by simp at hg; omega
  have hx6 : Ext W w5 := ((Ext.refl W).alloc _).trans hx5
  have HX6 := Lib.hid (HX.out.trans hx6)
  have hc1 := HB1.out.ext hx6
  have HC1 := Lib.hid hc1
  have hvs := HXV.out.size
  have HFO := Lib.hid ((ho.other (p := ⟨w.heap.size + 1, 0, none⟩) (by simp; omega) (by simp; omega) (.slice (some ⟨g, 0, none⟩) n n)).other (p := ⟨w.heap.size + 1, 1, none⟩) (by simp; omega) (by simp; omega) (.int .i64 keep))
  clear p0 p1 p2 hg ho hx5 hx6
  obtain ⟨t0, t1, t2⟩ := hc1.read2
  obtain ⟨y0, y1⟩ := hc1.free2
  clear hc1 hsz
  go_wp2_with fail
  refine ret2_cell (k := w.heap.size + 1) (x := .slice (some ⟨g, 0, none⟩) n n) (y := .int .i64 keep) (v := .tuple #[.agg #[.slice (some ⟨g, 0, none⟩) n n, .int .i64 keep], .int .i64 0]) ?hb4 (fun r0 r1 => by simp [results, Try.results51, go_sem, r0, r1]) rfl ?hx4
  case hb4 => exact HC1.out.set2 _ _
  case hx4 => exact ⟨g, rfl, by omega, HFO.out, HX6.out.store2 (by omega) _ _⟩
end Go.Proofs.Ytclpeeemnmhdcaa
