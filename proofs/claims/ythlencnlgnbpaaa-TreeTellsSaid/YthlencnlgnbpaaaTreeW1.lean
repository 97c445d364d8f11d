/- The walk of High of the reference of layer 7. -/
import Derived.Test.YthlencnlgnbpaaaTreeP
import Derived.Deep.AppendLies
import Derived.Deep.RegionHeld3
import Derived.Deep.DeepCutAuto
import Derived.Deep.DrawnRows
import Derived.RegionTactic
namespace Go.Proofs.Ythlencnlgnbpaaa
open Go.RowKit
attribute [local go_sem ↓] Go.wp_at_zero Go.wp_at_succ

/-- A cell's node, its row opened. -/
theorem it_at {w : World} {A : Option Addr} {n c : Nat} {it : List It} (h : Sl w A n c (ivs it)) {k : Nat} (hk : k < it.length) : ∃ b off, A = some ⟨b, off, none⟩ ∧ b < w.heap.size ∧ w.cell? ⟨b, off + k * 2, none⟩ = some (.int .i64 it[k].1) ∧ w.cell? ⟨b, off + k * 2 + 1, none⟩ = some (.int .i64 it[k].2) := by
  obtain ⟨b, off, e, hlt, hc⟩ := h.cells.it hk
  exact ⟨b, off, e, hlt, hc k hk⟩
set_option maxRecDepth 100000 in
set_option maxHeartbeats 1600000 in
theorem ref07High_bel (l : List HC) (hl : AllR l) (hn : l.length ≤ 2000) : ∀ (m : Nat) (p : Int) (R : Option Addr) (n q : Nat) (keep : Int) (w : World), m ≤ 20 → 0 ≤ p → p < l.length → (bel l m p).is = true → HcSl w R n q l →
    Calls Try.prog 16 #[.agg #[.slice R n q, .int .i64 keep], .int .i64 p] w fun e w' => e = .returned (.int .i64 (bel l m p).high) ∧ ((bel l m p).high ≤ m ∧ 1 ≤ (bel l m p).high) ∧ Ext w w'
  | 0, p, R, n, q, keep, w, hm, h0, h1, h, hA => (bel_zero h).elim
  | m + 1, p, R, n, q, keep, w, hm, h0, h1, h, hA => by
    obtain ⟨k, rfl⟩ := Int.eq_ofNat_of_zero_le h0
    have hk : k < l.length := by omega
    have hnl := hA.1
    obtain ⟨hr, hc⟩ := bel_is h
    rw [cellT_at hk] at hr hc
    have hx0 := (Ext.refl w).alloc (.cells #[.slice R n q, .int .i64 keep] 24)
    have HB0 := Lib.hid (Bx.new w #[.slice R n q, .int .i64 keep] 24)
    have HX := Lib.hid hx0
    obtain ⟨p0, p1, p2⟩ := HB0.out.read2
    obtain ⟨b, off, rfl, hbl, A, c, r0, r1, r2, r3, hI⟩ := (hA.ext hx0).cell hk
    have hok := cell_ok (hl k hk) hr
    have hkn : k < n := by omega
    have hlen := hok.1.1
    rcases hc with ⟨hlf, hb⟩ | ⟨hlf, hb, hch⟩
    · rw [hb]
      rw [hlf] at r2
      clear hb h hok hA hI hx0 hlen hnl hr hlf h0 h1
      go_enter Try.func16, Try.ntmps16
      go_wp2
      go_ret
      exact ⟨rfl, ⟨by omega, by omega⟩, HX.out.alloc _⟩
    · have h0l : 0 < l[k].it.length := by omega
      obtain ⟨c1, c2, c3⟩ := hch l[k].it[0] (List.getElem_mem h0l)
      have hpl := hok.2 hlf l[k].it[0] (List.getElem_mem h0l)
      obtain ⟨bi, oi, rfl, hbi, i0, i1⟩ := it_at hI h0l
      rw [← c3]
      have HIH := Lib.hid (fun w' (hx : Ext w w') => ref07High_bel l hl hn m l[k].it[0].2 (some ⟨b, off, none⟩) n q keep w' (by omega) hpl.1 (by omega) c1 (hA.ext hx))
      rw [hlf] at r2
      generalize (bel l m l[k].it[0].2).high = g at *
      generalize l[k].it[0].2 = V at *
      generalize l[k].it[0].1 = K at *
      generalize l[k].it.length = li at *
      rw [show oi + 0 * 2 + 1 = oi + 1 by omega] at i1
      rw [show oi + 0 * 2 = oi by omega] at i0
      have hx1 := hx0.alloc (.cells #[.bool false, .slice (some ⟨bi, oi, none⟩) li c] 53)
      have HX1 := Lib.hid hx1
      have hst : Ext (w.alloc (.cells #[.slice (some ⟨b, off, none⟩) n q, .int .i64 keep] 24)) ((w.alloc (.cells #[.slice (some ⟨b, off, none⟩) n q, .int .i64 keep] 24)).alloc (.cells #[.bool false, .slice (some ⟨bi, oi, none⟩) li c] 53)) := (Ext.refl _).alloc _
      have HBN := Lib.hid (Bx.new (w.alloc (.cells #[.slice (some ⟨b, off, none⟩) n q, .int .i64 keep] 24)) #[.bool false, .slice (some ⟨bi, oi, none⟩) li c] 53)
      have HBH := Lib.hid (HB0.out.ext hst)
      have HRI := Lib.hid (show _ ∧ _ from ⟨(hst.cell (p := ⟨bi, oi, none⟩) hbi).trans i0, (hst.cell (p := ⟨bi, oi + 1, none⟩) hbi).trans i1⟩)
      rw [World.size_alloc] at HBN
      clear hb h hok hA hI hx0 hr hlf h0 h1 hch c1 c2 c3 hpl hnl hx1 hst i0 i1 HB0
      go_enter Try.func16, Try.ntmps16
      go_wp2
      generalize World.alloc (World.alloc w _) _ = W at *
      clear p0 p1 p2 r0 r1 r2 r3 hbl hbi HX
      obtain ⟨p0, p1, p2⟩ := HBH.out.read2
      obtain ⟨r0, r1, r2⟩ := HBN.out.read2
      obtain ⟨i0, i1⟩ := HRI.out
      go_region_law (first | ((go_simp; go_at_call 16; refine (HIH.out _ (HX1.out.drew)).mono ?_; rintro e w2 ⟨rfl, ⟨hg1, hg2⟩, hx⟩; have HX2 := Lib.hid (HX1.out.drew.trans hx))) | ((go_simp; go_at_call 16; refine (HIH.out _ HX1.out).mono ?_; rintro e w2 ⟨rfl, ⟨hg1, hg2⟩, hx⟩; have HX2 := Lib.hid (HX1.out.trans hx))))
      all_goals
        go_wp2
        go_ret
        have hgw : IntKind.i64.wrap (1 + g) = g + 1 := by rw [IntKind.wrap_i64]; omega
        rw [← hgw]
        exact ⟨rfl, ⟨by rw [hgw]; omega, by rw [hgw]; omega⟩, HX2.out⟩
theorem ref07High_any (R : Option Addr) (l : List HC) (n q : Nat) (keep p : Int) (w : World) (hl : AllR l) (hn : l.length ≤ 2000) (hr : rightR ⟨l, keep⟩ p = true) (hA : HcSl w R n q l) :
    Calls Try.prog 16 #[.agg #[.slice R n q, .int .i64 keep], .int .i64 p] w fun e w' => e = .returned (.int .i64 (highT l p)) ∧ (0 ≤ highT l p ∧ highT l p ≤ 20) ∧ Ext w w' := by
  unfold rightR at hr
  rw [Bool.or_eq_true, Bool.and_eq_true] at hr
  rcases Int.lt_or_le p 0 with h0 | h0
  · have HX := Lib.hid ((Ext.refl w).alloc (.cells #[.slice R n q, .int .i64 keep] 24))
    have d0 : decide (p < 0) = true := decide_eq_true h0
    have e : highT l p = 0 := by unfold highT; rw [if_pos h0]
    rw [e]
    clear hr hl hn hA e
    go_enter Try.func16, Try.ntmps16
    go_wp2
    go_ret
    exact ⟨rfl, ⟨by omega, by omega⟩, HX.out⟩
  · rcases hr with hr | ⟨hu, hb⟩
    · have := of_decide_eq_true hr; omega
    · obtain ⟨k, hk, rfl, _⟩ := usedC_iff (show usedC l p = true from hu)
      have e : highT l (k : Int) = (bel l 20 (k : Int)).high := by unfold highT; rw [if_neg (by omega)]
      rw [e]
      refine (ref07High_bel l hl hn 20 k R n q keep w (by omega) (by omega) (by omega) hb hA).mono ?_
      rintro e w' ⟨rfl, h1, hx⟩
      exact ⟨rfl, ⟨by omega, by omega⟩, hx⟩
end Go.Proofs.Ythlencnlgnbpaaa
