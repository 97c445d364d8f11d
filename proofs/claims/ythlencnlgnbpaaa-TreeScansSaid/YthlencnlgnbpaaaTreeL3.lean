/- The walk of TreeScans. -/
import Derived.Test.YthlencnlgnbpaaaTreeB
import Derived.Test.YthlencnlgnbpaaaTreeR
import Derived.Deep.AppendLies
import Derived.Deep.RegionHeld3
import Derived.Deep.DeepCutAuto
import Derived.Deep.DrawnRows
import Derived.RegionTactic
import Derived.Deep.QuietTactic
import Derived.BigQuiet
namespace Go.Proofs.Ythlencnlgnbpaaa
open Go.RowKit
attribute [local go_sem ↓] Go.wp_at_zero Go.wp_at_succ

attribute [local go_sem] beq_self_eq_true bne_self_eq_false
theorem treeGet_of (R : Option Addr) (l : List HC) (n q : Nat) (keep keep' p key : Int) (w : World) {o : Option Int} (hl : AllR l) (hn : l.length ≤ 2000) (hr : rightR ⟨l, keep'⟩ p = true) (hA : HcSl w R n q l) (ho : getT l p key = o) :
    Calls Try.prog 21 #[.agg #[.slice R n q, .int .i64 keep], .int .i64 p, .int .i64 key] w fun e w' => e = .returned (.tuple #[.int .i64 (getV o), .int .i64 (getE o)]) ∧ Ext w w' := by
  have h := treeGet_any R l n q keep keep' p key w hl hn hr hA
  rw [ho] at h
  exact h
theorem treeGet_some (R : Option Addr) (l : List HC) (n q : Nat) (keep keep' p key : Int) (w : World) {v : Int} (hl : AllR l) (hn : l.length ≤ 2000) (hr : rightR ⟨l, keep'⟩ p = true) (hA : HcSl w R n q l) (ho : getT l p key = some v) :
    Calls Try.prog 21 #[.agg #[.slice R n q, .int .i64 keep], .int .i64 p, .int .i64 key] w fun e w' => e = .returned (.tuple #[.int .i64 v, .int .i64 0]) ∧ Ext w w' := treeGet_of R l n q keep keep' p key w hl hn hr hA ho
def oneB (lo hi mid : Int) (o : Option Int) : Bool := decide (lo ≤ mid) && (decide (mid < hi) && o.isSome)
theorem one_end {l : List HC} {root lo hi mid : Int} {xs : List It} {o : Option Int} (h : ScanF l root lo hi mid xs o) {s : Nat} (hs : s = xs.length) : (oneB lo hi mid o && !hasK mid (xs.take s)) = false := by
  rw [hs, List.take_length]
  cases hb : oneB lo hi mid o
  · rfl
  · unfold oneB at hb
    simp only [Bool.and_eq_true, decide_eq_true_eq] at hb
    obtain ⟨v, hv⟩ := Option.isSome_iff_exists.1 hb.2.2
    rw [h.d v hv hb.1 hb.2.1]; rfl
theorem one_at {l : List HC} {root lo hi mid : Int} {xs : List It} {o : Option Int} (h : ScanF l root lo hi mid xs o) {k : Nat} (hk : k < xs.length) (he : xs[k].1 = mid) : (oneB lo hi mid o && !hasK mid (xs.take k)) = true ∧ getV o = xs[k].2 := by
  obtain ⟨h1, h2, h3⟩ := h.c k hk he
  unfold oneB
  rw [h1, h3, decide_eq_true h2.1, decide_eq_true h2.2]
  exact ⟨rfl, rfl⟩
theorem get_kinds (o : Option Int) : ((getE o == 0) = o.isSome ∧ (getE o != 0) = !o.isSome) ∧ (o.isSome = false → getV o = 0) := by
  cases o
  · exact ⟨⟨rfl, rfl⟩, fun _ => rfl⟩
  · exact ⟨⟨rfl, rfl⟩, fun h => by cases h⟩
set_option maxRecDepth 100000 in
set_option maxHeartbeats 8000000 in
theorem scans_any (R : Option Addr) (l : List HC) (n q : Nat) (keep root lo mid hi : Int) (w : World) (hA : HcSl w R n q l) :
    Calls Try.prog 5 #[.agg #[.slice R n q, .int .i64 keep, .int .i64 root, .int .i64 lo, .int .i64 mid, .int .i64 hi]] w fun e w' => e = .returned (.bool true) ∧ Ext w w' := by
  have A_1 := Lib.hid (hA)
  have X_2 := Lib.hid (Ext.refl w)
  clear hA
  cases hr : mayR ⟨l, keep⟩ root 60
  · have Hr := Lib.hid hr
    clear hr
    go_enter Try.func5, Try.ntmps5
    go_wp2_with (go_at_call 9; refine stop_here ?_)
    refine stop_on ?_
    generalize hW : (World.alloc (World.alloc w _) _) = W3
    obtain ⟨hx, hb0, hb1⟩ := allocs2 hW
    clear hW
    have A_4 := Lib.hid (A_1.out.ext hx)
    have X_4 := Lib.hid (X_2.out.ext hx)
    clear A_1 X_2
    have wi_5 := Lib.hid hb0
    have h_6 := Lib.hid hb1
    clear hx hb0 hb1
    refine (shown_any _).mono ?_
    rintro e w7 ⟨rfl, hx⟩
    have A_8 := Lib.hid (A_4.out.ext hx)
    have X_8 := Lib.hid (X_4.out.ext hx)
    have wi_8 := Lib.hid (wi_5.out.ext hx)
    have h_8 := Lib.hid (h_6.out.ext hx)
    clear A_4 X_4 wi_5 h_6
    clear hx
    have qwi0 : w7.cell? ⟨w.heap.size, 0, none⟩ = some (.slice R n q) := wi_8.out.at 0 _ rfl
    have qwi1 : w7.cell? ⟨w.heap.size, 1, none⟩ = some (.int .i64 keep) := wi_8.out.at 1 _ rfl
    have qwi2 : w7.cell? ⟨w.heap.size, 2, none⟩ = some (.int .i64 root) := wi_8.out.at 2 _ rfl
    have qwi3 : w7.cell? ⟨w.heap.size, 3, none⟩ = some (.int .i64 lo) := wi_8.out.at 3 _ rfl
    have qwi4 : w7.cell? ⟨w.heap.size, 4, none⟩ = some (.int .i64 mid) := wi_8.out.at 4 _ rfl
    have qwi5 : w7.cell? ⟨w.heap.size, 5, none⟩ = some (.int .i64 hi) := wi_8.out.at 5 _ rfl
    have zwi := wi_8.out.lt
    have qh0 : w7.cell? ⟨w.heap.size + 1, 0, none⟩ = some (.slice R n q) := h_8.out.at 0 _ rfl
    have qh1 : w7.cell? ⟨w.heap.size + 1, 1, none⟩ = some (.int .i64 keep) := h_8.out.at 1 _ rfl
    have zh := h_8.out.lt
    go_wp2_with (go_at_call 20; refine stop_here ?_)
    refine stop_on ?_
    clear qwi0 qwi1 qwi2 qwi3 qwi4 qwi5 zwi qh0 qh1 zh
    refine (ref07May_is R l n q keep root 60 _ A_8.out Hr.out).mono ?_
    rintro e w9 ⟨rfl, hx⟩
    have A_10 := Lib.hid (A_8.out.ext hx)
    have X_10 := Lib.hid (X_8.out.ext hx)
    have wi_10 := Lib.hid (wi_8.out.ext hx)
    have h_10 := Lib.hid (h_8.out.ext hx)
    clear A_8 X_8 wi_8 h_8
    clear hx
    have zwi := wi_10.out.lt
    have qh0 : w9.cell? ⟨w.heap.size + 1, 0, none⟩ = some (.slice R n q) := h_10.out.at 0 _ rfl
    have qh1 : w9.cell? ⟨w.heap.size + 1, 1, none⟩ = some (.int .i64 keep) := h_10.out.at 1 _ rfl
    have zh := h_10.out.lt
    go_wp2
    go_ret
    exact ⟨rfl, X_10.out⟩
  obtain ⟨hl, hn, hrr⟩ := mayR_all hr
  obtain ⟨xs, hxs⟩ : ∃ xs, scanT l root lo hi = xs := ⟨_, rfl⟩
  obtain ⟨o, ho⟩ : ∃ o, getT l root mid = o := ⟨_, rfl⟩
  have SF := Lib.hid (scan_facts hl hrr hxs ho)
  have HXL := Lib.hid (show xs.length ≤ 1099511627776 from by rw [← hxs]; exact scan_len hl hrr lo hi)
  have HP1 := Lib.hid (scan_len hl hrr lo mid)
  have HP2 := Lib.hid (scan_len hl hrr mid hi)
  have Hxs := Lib.hid hxs
  have Ho := Lib.hid ho
  have Hr := Lib.hid hr
  have HL := Lib.hid hl
  have HN := Lib.hid hn
  have HRR := Lib.hid hrr
  clear hr hl hn hrr hxs ho
  go_enter Try.func5, Try.ntmps5
  go_wp2_with (go_at_call 9; refine stop_here ?_)
  refine stop_on ?_
  generalize hW : (World.alloc (World.alloc w _) _) = W11
  obtain ⟨hx, hb0, hb1⟩ := allocs2 hW
  clear hW
  have A_12 := Lib.hid (A_1.out.ext hx)
  have X_12 := Lib.hid (X_2.out.ext hx)
  clear A_1 X_2
  have wi_13 := Lib.hid hb0
  have h_14 := Lib.hid hb1
  clear hx hb0 hb1
  refine (shown_any _).mono ?_
  rintro e w15 ⟨rfl, hx⟩
  have A_16 := Lib.hid (A_12.out.ext hx)
  have X_16 := Lib.hid (X_12.out.ext hx)
  have wi_16 := Lib.hid (wi_13.out.ext hx)
  have h_16 := Lib.hid (h_14.out.ext hx)
  clear A_12 X_12 wi_13 h_14
  clear hx
  have qwi0 : w15.cell? ⟨w.heap.size, 0, none⟩ = some (.slice R n q) := wi_16.out.at 0 _ rfl
  have qwi1 : w15.cell? ⟨w.heap.size, 1, none⟩ = some (.int .i64 keep) := wi_16.out.at 1 _ rfl
  have qwi2 : w15.cell? ⟨w.heap.size, 2, none⟩ = some (.int .i64 root) := wi_16.out.at 2 _ rfl
  have qwi3 : w15.cell? ⟨w.heap.size, 3, none⟩ = some (.int .i64 lo) := wi_16.out.at 3 _ rfl
  have qwi4 : w15.cell? ⟨w.heap.size, 4, none⟩ = some (.int .i64 mid) := wi_16.out.at 4 _ rfl
  have qwi5 : w15.cell? ⟨w.heap.size, 5, none⟩ = some (.int .i64 hi) := wi_16.out.at 5 _ rfl
  have zwi := wi_16.out.lt
  have qh0 : w15.cell? ⟨w.heap.size + 1, 0, none⟩ = some (.slice R n q) := h_16.out.at 0 _ rfl
  have qh1 : w15.cell? ⟨w.heap.size + 1, 1, none⟩ = some (.int .i64 keep) := h_16.out.at 1 _ rfl
  have zh := h_16.out.lt
  go_wp2_with (go_at_call 20; refine stop_here ?_)
  refine stop_on ?_
  clear qwi0 qwi1 qwi2 qwi3 qwi4 qwi5 zwi qh0 qh1 zh
  refine (ref07May_is R l n q keep root 60 _ A_16.out Hr.out).mono ?_
  rintro e w17 ⟨rfl, hx⟩
  have A_18 := Lib.hid (A_16.out.ext hx)
  have X_18 := Lib.hid (X_16.out.ext hx)
  have wi_18 := Lib.hid (wi_16.out.ext hx)
  have h_18 := Lib.hid (h_16.out.ext hx)
  clear A_16 X_16 wi_16 h_16
  clear hx
  have zwi := wi_18.out.lt
  have qh0 : w17.cell? ⟨w.heap.size + 1, 0, none⟩ = some (.slice R n q) := h_18.out.at 0 _ rfl
  have qh1 : w17.cell? ⟨w.heap.size + 1, 1, none⟩ = some (.int .i64 keep) := h_18.out.at 1 _ rfl
  have zh := h_18.out.lt
  go_wp2_with (go_at_call 24; refine stop_here ?_)
  refine stop_on ?_
  clear zwi qh0 qh1 zh
  have hc := treeScan_is R l n q keep keep root lo hi _ HL.out HN.out HRR.out A_18.out
  rw [Hxs.out] at hc
  refine hc.mono ?_
  clear hc
  rintro e w19 ⟨S1, s1, d1, rfl, h1, hx⟩
  have A_20 := Lib.hid (A_18.out.ext hx)
  have X_20 := Lib.hid (X_18.out.ext hx)
  have wi_20 := Lib.hid (wi_18.out.ext hx)
  have h_20 := Lib.hid (h_18.out.ext hx)
  clear A_18 X_18 wi_18 h_18
  have P_21 := Lib.hid h1
  clear hx h1
  have zwi := wi_20.out.lt
  have qh0 : w19.cell? ⟨w.heap.size + 1, 0, none⟩ = some (.slice R n q) := h_20.out.at 0 _ rfl
  have qh1 : w19.cell? ⟨w.heap.size + 1, 1, none⟩ = some (.int .i64 keep) := h_20.out.at 1 _ rfl
  have zh := h_20.out.lt
  have hs1 : s1 ≤ 1099511627776 := by have := P_21.out; have h2 := HXL.out; have h3 := this.1; omega
  go_wp2_with fail
  clear zwi qh0 qh1 zh
  go_loopw [10] (fun i wr => ∃ k : Nat, k ≤ s1 ∧ i = .int .i64 k ∧ Ext w19 wr) (fun i _ => s1 - (intOf i).toNat)
  case atStart => exact ⟨0, Nat.zero_le _, rfl, Ext.refl _⟩
  case round =>
    obtain ⟨k, hk, rfl, hx0⟩ := hrel
    have A_22 := Lib.hid (A_20.out.ext hx0)
    have X_22 := Lib.hid (X_20.out.ext hx0)
    have wi_22 := Lib.hid (wi_20.out.ext hx0)
    have h_22 := Lib.hid (h_20.out.ext hx0)
    have P_22 := Lib.hid (P_21.out.ext hx0)
    clear A_20 X_20 wi_20 h_20 P_21
    have HX0 := Lib.hid hx0
    clear hx0
    rcases Nat.lt_or_ge k s1 with hlt | hlt
    · have hkl : k < xs.length := by rw [← (P_22.out).1]; exact hlt
      obtain ⟨b, off, rfl, hb, c0, c1⟩ := it_at (P_22.out).2 hkl
      obtain ⟨g1, g2, g3⟩ := SF.out.a k hkl
      have HG := Lib.hid g1
      have t0 : decide (xs[k].1 < lo) = false := decide_eq_false (by omega)
      have t1 : decide (hi ≤ xs[k].1) = false := decide_eq_false (by omega)
      have HKP := Lib.hid (fun (h0 : 0 < k) => SF.out.b k hkl h0)
      have HC0 := Lib.hid (fun w' (hx : Ext wr w') => show w'.cell? ⟨b, off + k * 2, none⟩ = some (.int .i64 xs[k].1) ∧ w'.cell? ⟨b, off + k * 2 + 1, none⟩ = some (.int .i64 xs[k].2) from ⟨(hx.cell (p := ⟨b, off + k * 2, none⟩) hb).trans c0, (hx.cell (p := ⟨b, off + k * 2 + 1, none⟩) hb).trans c1⟩)
      have HC2 := Lib.hid (fun w' (hx : Ext wr w') (h0 : 0 < k) => show w'.cell? ⟨b, off + (k - 1) * 2, none⟩ = some (.int .i64 (xs[k - 1]'(by omega)).1) from by
        obtain ⟨b', off', he, hb', c2, _⟩ := it_at (P_22.out).2 (show k - 1 < xs.length by omega)
        cases he
        exact (hx.cell (p := ⟨b, off + (k - 1) * 2, none⟩) hb').trans c2)
      have hki : (k : Int) < (s1 : Int) := by omega
      clear g1 g2 g3 c1
      obtain ⟨K, hK⟩ : ∃ K, xs[k].1 = K := ⟨_, rfl⟩
      obtain ⟨V, hV⟩ : ∃ V, xs[k].2 = V := ⟨_, rfl⟩
      rw [hK] at c0 t0 t1
      simp only [hK, hV] at HG HKP HC0
      clear hK hV
      go_wp2_with fail
      have HK23 := Lib.hid (fun w' (hx : Ext wr w') => (show w'.cell? ⟨w.heap.size + 1, 0, none⟩ = some (.slice R n q) ∧ w'.cell? ⟨w.heap.size + 1, 1, none⟩ = some (.int .i64 keep) ∧ w'.cell? ⟨b, off + k * 2, none⟩ = some (.int .i64 K) from ⟨(h_22.out.ext hx).at 0 _ rfl, (h_22.out.ext hx).at 1 _ rfl, (HC0.out _ hx).1⟩))
      have G23_0 := Lib.hid (fun w' (hx : Ext wr w') => treeGet_some R l n q keep keep root K w' HL.out HN.out HRR.out (A_22.out.ext hx) HG.out)
      have qh0 : wr.cell? ⟨w.heap.size + 1, 0, none⟩ = some (.slice R n q) := h_22.out.at 0 _ rfl
      have qh1 : wr.cell? ⟨w.heap.size + 1, 1, none⟩ = some (.int .i64 keep) := h_22.out.at 1 _ rfl
      have zh := h_22.out.lt
      go_region_held3 (fun w' => w'.cell? ⟨w.heap.size + 1, 0, none⟩ = some (.slice R n q) ∧ w'.cell? ⟨w.heap.size + 1, 1, none⟩ = some (.int .i64 keep) ∧ w'.cell? ⟨b, off + k * 2, none⟩ = some (.int .i64 K))
        (first | exact HK23.out _ E23_0.out | exact HK23.out _ (Ext.refl wr).drew | exact HK23.out _ (Ext.refl wr))
        (first
          | ((go_at_call 21
              with_reducible refine (G23_0.out _ ?_).mono ?_
              (first | exact Ext.refl _ | exact (Ext.refl _).drew)
              rintro e v23_0 ⟨rfl, hx⟩
              have E23_0 := Lib.hid (show Ext wr v23_0 from by first | exact hx | exact (Ext.refl wr).drew.trans hx)
              clear hx)))
      clear qh0 qh1 zh
      have A_24 := Lib.hid (A_22.out.ext E23_0.out)
      have X_24 := Lib.hid (X_22.out.ext E23_0.out)
      have wi_24 := Lib.hid (wi_22.out.ext E23_0.out)
      have h_24 := Lib.hid (h_22.out.ext E23_0.out)
      have P_24 := Lib.hid (P_22.out.ext E23_0.out)
      clear A_22 X_22 wi_22 h_22 P_22
      obtain ⟨e0, e1⟩ := HC0.out _ E23_0.out
      rcases Nat.eq_zero_or_pos k with h0 | h0
      · have d3 : decide ((0 : Int) < (k : Int)) = false := decide_eq_false (by omega)
        have d5 : decide (0 < k) = false := decide_eq_false (by omega)
        clear h0
        go_wp2_with fail
        go_quiet (fail)
        go_wp2_with fail
        go_roundw
        case rel => exact ⟨k + 1, by omega, by go_num, (HX0.out.trans E23_0.out).drewN nq⟩
        case measure => simp [intOf]; omega
      · have d3 : decide ((0 : Int) < (k : Int)) = true := decide_eq_true (by omega)
        have d5 : decide (0 < k) = true := decide_eq_true (by omega)
        have e2 := HC2.out _ E23_0.out h0
        have hlt2 := HKP.out h0
        have d4 : decide (K ≤ (xs[k - 1]'(by omega)).1) = false := decide_eq_false (by omega)
        generalize (xs[k - 1]'(by omega)).1 = K2 at *
        have n1 : ((k : Int) - 1).toNat = k - 1 := by omega
        have n2 : (k : Int) - 1 = ((k - 1 : Nat) : Int) := by omega
        have n3 : (0 : Int) ≤ (k : Int) - 1 := by omega
        have n4 : IntKind.i64.wrap ((k : Int) - 1) = (k : Int) - 1 := by rw [IntKind.wrap_i64]; omega
        have n5 : (k : Int) - 1 < (s1 : Int) := by omega
        go_wp2_with fail
        go_quiet (fail)
        go_wp2_with fail
        go_roundw
        case rel => exact ⟨k + 1, by omega, by go_num, (HX0.out.trans E23_0.out).drewN nq⟩
        case measure => simp [intOf]; omega
    · obtain rfl : s1 = k := by omega
      have zwi := wi_22.out.lt
      have qh0 : wr.cell? ⟨w.heap.size + 1, 0, none⟩ = some (.slice R n q) := h_22.out.at 0 _ rfl
      have qh1 : wr.cell? ⟨w.heap.size + 1, 1, none⟩ = some (.int .i64 keep) := h_22.out.at 1 _ rfl
      have zh := h_22.out.lt
      obtain ⟨gv, hgv⟩ : ∃ x, getV o = x := ⟨_, rfl⟩
      obtain ⟨ge, hge⟩ : ∃ x, getE o = x := ⟨_, rfl⟩
      have hks := get_kinds o
      rw [hgv, hge] at hks
      obtain ⟨⟨k1, k2⟩, k3⟩ := hks
      obtain ⟨sm, hsm⟩ : ∃ x, o.isSome = x := ⟨_, rfl⟩
      rw [hsm] at k1 k2 k3
      have Hgv := Lib.hid hgv
      have Hge := Lib.hid hge
      have Hsm := Lib.hid hsm
      have K1 := Lib.hid k1
      have K2 := Lib.hid k2
      have K3 := Lib.hid k3
      clear hgv hge hsm k1 k2 k3 hk hlt
      cases sm
      · have k1 := K1.out
        have k2 := K2.out
        obtain rfl : gv = 0 := K3.out rfl
        rcases Int.lt_or_le mid lo with m1 | m1
        · have t0 : decide (lo ≤ mid) = false := decide_eq_false (by omega)
          have t1 : decide (mid < lo) = true := decide_eq_true m1
          have HO := Lib.hid (show oneB lo hi mid o = false from by unfold oneB; rw [Hsm.out, t0]; rfl)
          go_wp2_with (go_at_call 21; refine stop_here ?_)
          refine stop_on ?_
          clear zwi qh0 qh1 zh
          have hc := treeGet_of R l n q keep keep root mid _ HL.out HN.out HRR.out A_22.out Ho.out
          rw [Hgv.out, Hge.out] at hc
          refine hc.mono ?_
          clear hc
          rintro e w25 ⟨rfl, hx⟩
          have A_26 := Lib.hid (A_22.out.ext hx)
          have X_26 := Lib.hid (X_22.out.ext hx)
          have wi_26 := Lib.hid (wi_22.out.ext hx)
          have h_26 := Lib.hid (h_22.out.ext hx)
          have P_26 := Lib.hid (P_22.out.ext hx)
          clear A_22 X_22 wi_22 h_22 P_22
          clear hx
          have zwi := wi_26.out.lt
          have qh0 : w25.cell? ⟨w.heap.size + 1, 0, none⟩ = some (.slice R n q) := h_26.out.at 0 _ rfl
          have qh1 : w25.cell? ⟨w.heap.size + 1, 1, none⟩ = some (.int .i64 keep) := h_26.out.at 1 _ rfl
          have zh := h_26.out.lt
          clear zwi qh0 qh1 zh
          go_wp2_with fail
          go_loopw [15, 16] (fun v i wr => ∃ k : Nat, k ≤ s1 ∧ i = .int .i64 k ∧ v = .bool (false && !hasK mid (xs.take k)) ∧ Ext w25 wr) (fun _ i _ => s1 - (intOf i).toNat)
          case atStart => exact ⟨0, Nat.zero_le _, rfl, by simp [hasK], Ext.refl _⟩
          case round =>
            obtain ⟨k, hk, rfl, rfl, hx0⟩ := hrel
            have A_27 := Lib.hid (A_26.out.ext hx0)
            have X_27 := Lib.hid (X_26.out.ext hx0)
            have wi_27 := Lib.hid (wi_26.out.ext hx0)
            have h_27 := Lib.hid (h_26.out.ext hx0)
            have P_27 := Lib.hid (P_26.out.ext hx0)
            clear A_26 X_26 wi_26 h_26 P_26
            have HX1 := Lib.hid hx0
            clear hx0
            rcases Nat.lt_or_ge k s1 with hlt | hlt
            · have hkl : k < xs.length := by rw [← (P_27.out).1]; exact hlt
              obtain ⟨b, off, rfl, hb, c0, c1⟩ := it_at (P_27.out).2 hkl
              have HST := Lib.hid (hasK_step (mid := mid) hkl)
              have HAT := Lib.hid (fun h => one_at SF.out hkl h)
              have hki : (k : Int) < (s1 : Int) := by omega
              obtain ⟨K, hK⟩ : ∃ K, xs[k].1 = K := ⟨_, rfl⟩
              obtain ⟨V, hV⟩ : ∃ V, xs[k].2 = V := ⟨_, rfl⟩
              rw [hK] at c0
              rw [hV] at c1
              simp only [hK, hV] at HST HAT
              rw [HO.out] at HAT
              clear hK hV hkl hb
              by_cases he : K = mid
              · obtain ⟨a1, a2⟩ := HAT.out he
                rw [Hgv.out] at a2
                exact absurd a1 (by simp)
              · have HE := Lib.hid (show (false && !hasK mid (xs.take (k + 1))) = (false && !hasK mid (xs.take k)) from by rw [HST.out, decide_eq_false he, Bool.or_false])
                have d0 : (K == mid) = false := beq_eq_false_iff_ne.2 he
                have d1 : decide (K = mid) = false := decide_eq_false he
                clear he HST HAT
                generalize hbb : (false && !hasK mid (xs.take k)) = bb at *
                clear hbb
                go_wp2_with fail
                go_roundw
                case rel => exact ⟨k + 1, by omega, by go_num, by rw [HE.out], HX1.out⟩
                case measure => simp [intOf]; omega
            · obtain rfl : s1 = k := by omega
              have HEN := one_end SF.out (P_27.out).1
              rw [HO.out] at HEN
              rw [HEN]
              clear hk hlt HEN
              go_wp2_with fail
              go_ret
              exact ⟨rfl, X_27.out⟩
        rcases Int.lt_or_le mid hi with m2 | m2
        · have t0 : decide (lo ≤ mid) = true := decide_eq_true m1
          have t1 : decide (mid < lo) = false := decide_eq_false (by omega)
          have t2 : decide (mid < hi) = true := decide_eq_true m2
          have t3 : decide (hi < mid) = false := decide_eq_false (by omega)
          have HO := Lib.hid (show oneB lo hi mid o = false from by unfold oneB; rw [Hsm.out, t0, t2]; rfl)
          go_wp2_with (go_at_call 21; refine stop_here ?_)
          refine stop_on ?_
          clear zwi qh0 qh1 zh
          have hc := treeGet_of R l n q keep keep root mid _ HL.out HN.out HRR.out A_22.out Ho.out
          rw [Hgv.out, Hge.out] at hc
          refine hc.mono ?_
          clear hc
          rintro e w28 ⟨rfl, hx⟩
          have A_29 := Lib.hid (A_22.out.ext hx)
          have X_29 := Lib.hid (X_22.out.ext hx)
          have wi_29 := Lib.hid (wi_22.out.ext hx)
          have h_29 := Lib.hid (h_22.out.ext hx)
          have P_29 := Lib.hid (P_22.out.ext hx)
          clear A_22 X_22 wi_22 h_22 P_22
          clear hx
          have zwi := wi_29.out.lt
          have qh0 : w28.cell? ⟨w.heap.size + 1, 0, none⟩ = some (.slice R n q) := h_29.out.at 0 _ rfl
          have qh1 : w28.cell? ⟨w.heap.size + 1, 1, none⟩ = some (.int .i64 keep) := h_29.out.at 1 _ rfl
          have zh := h_29.out.lt
          clear zwi qh0 qh1 zh
          go_wp2_with fail
          go_loopw [15, 16] (fun v i wr => ∃ k : Nat, k ≤ s1 ∧ i = .int .i64 k ∧ v = .bool (false && !hasK mid (xs.take k)) ∧ Ext w28 wr) (fun _ i _ => s1 - (intOf i).toNat)
          case atStart => exact ⟨0, Nat.zero_le _, rfl, by simp [hasK], Ext.refl _⟩
          case round =>
            obtain ⟨k, hk, rfl, rfl, hx0⟩ := hrel
            have A_30 := Lib.hid (A_29.out.ext hx0)
            have X_30 := Lib.hid (X_29.out.ext hx0)
            have wi_30 := Lib.hid (wi_29.out.ext hx0)
            have h_30 := Lib.hid (h_29.out.ext hx0)
            have P_30 := Lib.hid (P_29.out.ext hx0)
            clear A_29 X_29 wi_29 h_29 P_29
            have HX1 := Lib.hid hx0
            clear hx0
            rcases Nat.lt_or_ge k s1 with hlt | hlt
            · have hkl : k < xs.length := by rw [← (P_30.out).1]; exact hlt
              obtain ⟨b, off, rfl, hb, c0, c1⟩ := it_at (P_30.out).2 hkl
              have HST := Lib.hid (hasK_step (mid := mid) hkl)
              have HAT := Lib.hid (fun h => one_at SF.out hkl h)
              have hki : (k : Int) < (s1 : Int) := by omega
              obtain ⟨K, hK⟩ : ∃ K, xs[k].1 = K := ⟨_, rfl⟩
              obtain ⟨V, hV⟩ : ∃ V, xs[k].2 = V := ⟨_, rfl⟩
              rw [hK] at c0
              rw [hV] at c1
              simp only [hK, hV] at HST HAT
              rw [HO.out] at HAT
              clear hK hV hkl hb
              by_cases he : K = mid
              · obtain ⟨a1, a2⟩ := HAT.out he
                rw [Hgv.out] at a2
                exact absurd a1 (by simp)
              · have HE := Lib.hid (show (false && !hasK mid (xs.take (k + 1))) = (false && !hasK mid (xs.take k)) from by rw [HST.out, decide_eq_false he, Bool.or_false])
                have d0 : (K == mid) = false := beq_eq_false_iff_ne.2 he
                have d1 : decide (K = mid) = false := decide_eq_false he
                clear he HST HAT
                generalize hbb : (false && !hasK mid (xs.take k)) = bb at *
                clear hbb
                go_wp2_with fail
                go_roundw
                case rel => exact ⟨k + 1, by omega, by go_num, by rw [HE.out], HX1.out⟩
                case measure => simp [intOf]; omega
            · obtain rfl : s1 = k := by omega
              have HEN := one_end SF.out (P_30.out).1
              rw [HO.out] at HEN
              rw [HEN]
              clear hk hlt HEN
              have m3 : mid ≤ hi := by omega
              have HPT := Lib.hid (SF.out.e m1 m3)
              have zwi := wi_30.out.lt
              have qh0 : wr.cell? ⟨w.heap.size + 1, 0, none⟩ = some (.slice R n q) := h_30.out.at 0 _ rfl
              have qh1 : wr.cell? ⟨w.heap.size + 1, 1, none⟩ = some (.int .i64 keep) := h_30.out.at 1 _ rfl
              have zh := h_30.out.lt
              go_wp2_with (go_at_call 24; refine stop_here ?_)
              refine stop_on ?_
              clear zwi qh0 qh1 zh
              refine (treeScan_is R l n q keep keep root lo mid _ HL.out HN.out HRR.out A_30.out).mono ?_
              rintro e w31 ⟨S2, s2, d2, rfl, h1, hx⟩
              have A_32 := Lib.hid (A_30.out.ext hx)
              have X_32 := Lib.hid (X_30.out.ext hx)
              have wi_32 := Lib.hid (wi_30.out.ext hx)
              have h_32 := Lib.hid (h_30.out.ext hx)
              have P_32 := Lib.hid (P_30.out.ext hx)
              clear A_30 X_30 wi_30 h_30 P_30
              have PA_33 := Lib.hid h1
              clear hx h1
              have zwi := wi_32.out.lt
              have qh0 : w31.cell? ⟨w.heap.size + 1, 0, none⟩ = some (.slice R n q) := h_32.out.at 0 _ rfl
              have qh1 : w31.cell? ⟨w.heap.size + 1, 1, none⟩ = some (.int .i64 keep) := h_32.out.at 1 _ rfl
              have zh := h_32.out.lt
              go_wp2_with (go_at_call 24; refine stop_here ?_)
              refine stop_on ?_
              clear zwi qh0 qh1 zh
              refine (treeScan_is R l n q keep keep root mid hi _ HL.out HN.out HRR.out A_32.out).mono ?_
              rintro e w34 ⟨S3, s3, d3, rfl, h1, hx⟩
              have A_35 := Lib.hid (A_32.out.ext hx)
              have X_35 := Lib.hid (X_32.out.ext hx)
              have wi_35 := Lib.hid (wi_32.out.ext hx)
              have h_35 := Lib.hid (h_32.out.ext hx)
              have P_35 := Lib.hid (P_32.out.ext hx)
              have PA_35 := Lib.hid (PA_33.out.ext hx)
              clear A_32 X_32 wi_32 h_32 P_32 PA_33
              have PB_36 := Lib.hid h1
              clear hx h1
              have zwi := wi_35.out.lt
              have qh0 : w34.cell? ⟨w.heap.size + 1, 0, none⟩ = some (.slice R n q) := h_35.out.at 0 _ rfl
              have qh1 : w34.cell? ⟨w.heap.size + 1, 1, none⟩ = some (.int .i64 keep) := h_35.out.at 1 _ rfl
              have zh := h_35.out.lt
              clear zwi qh0 qh1 zh
              have q2 : s2 ≤ 1099511627776 := by have h1 := (PA_35.out).1; have h2 := HP1.out; omega
              have q3 : s3 ≤ 1099511627776 := by have h1 := (PB_36.out).1; have h2 := HP2.out; omega
              go_wp2_with (at_builtin; refine stop_here ?_)
              refine stop_on ?_
              have EA := Lib.hid ((Ext.refl w34).alloc (.cells #[] 49))
              refine wpList_unguard (by rfl) ?_
              refine app_itemsW _ rfl _ _ rfl w34.heap.size _ 0 [] rfl (own_empty w34 _ _) S2 s2 d2 (scanT l root lo mid) rfl (PA_35.out).1.symm ((PA_35.out).2.ext EA.out) (by omega) (by simp) ?_
              intro A4 c4 w4 ho4 hg4
              have E4 := Lib.hid (Ext.app EA.out (own_empty w34 49 2) (Nat.le_refl _) hg4)
              simp only [Nat.zero_add, List.nil_append] at ho4 ⊢
              have HO4 := Lib.hid ho4
              clear ho4 hg4
              go_wp2_with (at_builtin; refine stop_here ?_)
              refine stop_on ?_
              refine wpList_unguard (by rfl) ?_
              refine app_itemsW _ rfl _ _ rfl w34.heap.size _ s2 (scanT l root lo mid) rfl HO4.out S3 s3 d3 (scanT l root mid hi) rfl (PB_36.out).1.symm ((PB_36.out).2.ext E4.out) (by omega) E4.out.size ?_
              intro A5 c5 w5 ho5 hg5
              have E5 := Lib.hid (Ext.app E4.out HO4.out (Nat.le_refl _) hg5)
              rw [HPT.out] at ho5
              have HO5 := Lib.hid ho5
              clear ho5 hg5
              have hls : s2 + s3 = s1 := by have h1 := HO5.out.1; have h2 := (P_35.out).1; rw [ivs_length] at h1; omega
              have HIS := Lib.hid (show Is w5 A5 s1 c5 xs from by
                have h := own_sl HO5.out
                rw [hls] at h
                exact ⟨(P_35.out).1, h⟩)
              go_wp2_with (go_at_call 23; refine stop_here ?_)
              refine stop_on ?_
              with_reducible refine (ref04Items_self A5 _ xs xs _ _ _ _ _ (sameI_self xs) HIS.out ((P_35.out).ext E5.out)).mono ?_
              rintro e w6 ⟨rfl, hx⟩
              have E6 := Lib.hid (E5.out.trans hx)
              clear hx
              go_wp2_with fail
              go_ret
              exact ⟨rfl, (X_35.out).trans E6.out⟩
        · have t0 : decide (lo ≤ mid) = true := decide_eq_true m1
          have t1 : decide (mid < lo) = false := decide_eq_false (by omega)
          have t2 : decide (mid < hi) = false := decide_eq_false (by omega)
          have HO := Lib.hid (show oneB lo hi mid o = false from by unfold oneB; rw [Hsm.out, t0, t2]; rfl)
          go_wp2_with (go_at_call 21; refine stop_here ?_)
          refine stop_on ?_
          clear zwi qh0 qh1 zh
          have hc := treeGet_of R l n q keep keep root mid _ HL.out HN.out HRR.out A_22.out Ho.out
          rw [Hgv.out, Hge.out] at hc
          refine hc.mono ?_
          clear hc
          rintro e w37 ⟨rfl, hx⟩
          have A_38 := Lib.hid (A_22.out.ext hx)
          have X_38 := Lib.hid (X_22.out.ext hx)
          have wi_38 := Lib.hid (wi_22.out.ext hx)
          have h_38 := Lib.hid (h_22.out.ext hx)
          have P_38 := Lib.hid (P_22.out.ext hx)
          clear A_22 X_22 wi_22 h_22 P_22
          clear hx
          have zwi := wi_38.out.lt
          have qh0 : w37.cell? ⟨w.heap.size + 1, 0, none⟩ = some (.slice R n q) := h_38.out.at 0 _ rfl
          have qh1 : w37.cell? ⟨w.heap.size + 1, 1, none⟩ = some (.int .i64 keep) := h_38.out.at 1 _ rfl
          have zh := h_38.out.lt
          clear zwi qh0 qh1 zh
          go_wp2_with fail
          go_loopw [15, 16] (fun v i wr => ∃ k : Nat, k ≤ s1 ∧ i = .int .i64 k ∧ v = .bool (false && !hasK mid (xs.take k)) ∧ Ext w37 wr) (fun _ i _ => s1 - (intOf i).toNat)
          case atStart => exact ⟨0, Nat.zero_le _, rfl, by simp [hasK], Ext.refl _⟩
          case round =>
            obtain ⟨k, hk, rfl, rfl, hx0⟩ := hrel
            have A_39 := Lib.hid (A_38.out.ext hx0)
            have X_39 := Lib.hid (X_38.out.ext hx0)
            have wi_39 := Lib.hid (wi_38.out.ext hx0)
            have h_39 := Lib.hid (h_38.out.ext hx0)
            have P_39 := Lib.hid (P_38.out.ext hx0)
            clear A_38 X_38 wi_38 h_38 P_38
            have HX1 := Lib.hid hx0
            clear hx0
            rcases Nat.lt_or_ge k s1 with hlt | hlt
            · have hkl : k < xs.length := by rw [← (P_39.out).1]; exact hlt
              obtain ⟨b, off, rfl, hb, c0, c1⟩ := it_at (P_39.out).2 hkl
              have HST := Lib.hid (hasK_step (mid := mid) hkl)
              have HAT := Lib.hid (fun h => one_at SF.out hkl h)
              have hki : (k : Int) < (s1 : Int) := by omega
              obtain ⟨K, hK⟩ : ∃ K, xs[k].1 = K := ⟨_, rfl⟩
              obtain ⟨V, hV⟩ : ∃ V, xs[k].2 = V := ⟨_, rfl⟩
              rw [hK] at c0
              rw [hV] at c1
              simp only [hK, hV] at HST HAT
              rw [HO.out] at HAT
              clear hK hV hkl hb
              by_cases he : K = mid
              · obtain ⟨a1, a2⟩ := HAT.out he
                rw [Hgv.out] at a2
                exact absurd a1 (by simp)
              · have HE := Lib.hid (show (false && !hasK mid (xs.take (k + 1))) = (false && !hasK mid (xs.take k)) from by rw [HST.out, decide_eq_false he, Bool.or_false])
                have d0 : (K == mid) = false := beq_eq_false_iff_ne.2 he
                have d1 : decide (K = mid) = false := decide_eq_false he
                clear he HST HAT
                generalize hbb : (false && !hasK mid (xs.take k)) = bb at *
                clear hbb
                go_wp2_with fail
                go_roundw
                case rel => exact ⟨k + 1, by omega, by go_num, by rw [HE.out], HX1.out⟩
                case measure => simp [intOf]; omega
            · obtain rfl : s1 = k := by omega
              have HEN := one_end SF.out (P_39.out).1
              rw [HO.out] at HEN
              rw [HEN]
              clear hk hlt HEN
              rcases Int.lt_or_le hi mid with m3 | m3
              · have t3 : decide (hi < mid) = true := decide_eq_true m3
                go_wp2_with fail
                go_ret
                exact ⟨rfl, X_39.out⟩
              · have t3 : decide (hi < mid) = false := decide_eq_false (by omega)
                have HPT := Lib.hid (SF.out.e m1 m3)
                have zwi := wi_39.out.lt
                have qh0 : wr.cell? ⟨w.heap.size + 1, 0, none⟩ = some (.slice R n q) := h_39.out.at 0 _ rfl
                have qh1 : wr.cell? ⟨w.heap.size + 1, 1, none⟩ = some (.int .i64 keep) := h_39.out.at 1 _ rfl
                have zh := h_39.out.lt
                go_wp2_with (go_at_call 24; refine stop_here ?_)
                refine stop_on ?_
                clear zwi qh0 qh1 zh
                refine (treeScan_is R l n q keep keep root lo mid _ HL.out HN.out HRR.out A_39.out).mono ?_
                rintro e w40 ⟨S2, s2, d2, rfl, h1, hx⟩
                have A_41 := Lib.hid (A_39.out.ext hx)
                have X_41 := Lib.hid (X_39.out.ext hx)
                have wi_41 := Lib.hid (wi_39.out.ext hx)
                have h_41 := Lib.hid (h_39.out.ext hx)
                have P_41 := Lib.hid (P_39.out.ext hx)
                clear A_39 X_39 wi_39 h_39 P_39
                have PA_42 := Lib.hid h1
                clear hx h1
                have zwi := wi_41.out.lt
                have qh0 : w40.cell? ⟨w.heap.size + 1, 0, none⟩ = some (.slice R n q) := h_41.out.at 0 _ rfl
                have qh1 : w40.cell? ⟨w.heap.size + 1, 1, none⟩ = some (.int .i64 keep) := h_41.out.at 1 _ rfl
                have zh := h_41.out.lt
                go_wp2_with (go_at_call 24; refine stop_here ?_)
                refine stop_on ?_
                clear zwi qh0 qh1 zh
                refine (treeScan_is R l n q keep keep root mid hi _ HL.out HN.out HRR.out A_41.out).mono ?_
                rintro e w43 ⟨S3, s3, d3, rfl, h1, hx⟩
                have A_44 := Lib.hid (A_41.out.ext hx)
                have X_44 := Lib.hid (X_41.out.ext hx)
                have wi_44 := Lib.hid (wi_41.out.ext hx)
                have h_44 := Lib.hid (h_41.out.ext hx)
                have P_44 := Lib.hid (P_41.out.ext hx)
                have PA_44 := Lib.hid (PA_42.out.ext hx)
                clear A_41 X_41 wi_41 h_41 P_41 PA_42
                have PB_45 := Lib.hid h1
                clear hx h1
                have zwi := wi_44.out.lt
                have qh0 : w43.cell? ⟨w.heap.size + 1, 0, none⟩ = some (.slice R n q) := h_44.out.at 0 _ rfl
                have qh1 : w43.cell? ⟨w.heap.size + 1, 1, none⟩ = some (.int .i64 keep) := h_44.out.at 1 _ rfl
                have zh := h_44.out.lt
                clear zwi qh0 qh1 zh
                have q2 : s2 ≤ 1099511627776 := by have h1 := (PA_44.out).1; have h2 := HP1.out; omega
                have q3 : s3 ≤ 1099511627776 := by have h1 := (PB_45.out).1; have h2 := HP2.out; omega
                go_wp2_with (at_builtin; refine stop_here ?_)
                refine stop_on ?_
                have EA := Lib.hid ((Ext.refl w43).alloc (.cells #[] 49))
                refine wpList_unguard (by rfl) ?_
                refine app_itemsW _ rfl _ _ rfl w43.heap.size _ 0 [] rfl (own_empty w43 _ _) S2 s2 d2 (scanT l root lo mid) rfl (PA_44.out).1.symm ((PA_44.out).2.ext EA.out) (by omega) (by simp) ?_
                intro A4 c4 w4 ho4 hg4
                have E4 := Lib.hid (Ext.app EA.out (own_empty w43 49 2) (Nat.le_refl _) hg4)
                simp only [Nat.zero_add, List.nil_append] at ho4 ⊢
                have HO4 := Lib.hid ho4
                clear ho4 hg4
                go_wp2_with (at_builtin; refine stop_here ?_)
                refine stop_on ?_
                refine wpList_unguard (by rfl) ?_
                refine app_itemsW _ rfl _ _ rfl w43.heap.size _ s2 (scanT l root lo mid) rfl HO4.out S3 s3 d3 (scanT l root mid hi) rfl (PB_45.out).1.symm ((PB_45.out).2.ext E4.out) (by omega) E4.out.size ?_
                intro A5 c5 w5 ho5 hg5
                have E5 := Lib.hid (Ext.app E4.out HO4.out (Nat.le_refl _) hg5)
                rw [HPT.out] at ho5
                have HO5 := Lib.hid ho5
                clear ho5 hg5
                have hls : s2 + s3 = s1 := by have h1 := HO5.out.1; have h2 := (P_44.out).1; rw [ivs_length] at h1; omega
                have HIS := Lib.hid (show Is w5 A5 s1 c5 xs from by
                  have h := own_sl HO5.out
                  rw [hls] at h
                  exact ⟨(P_44.out).1, h⟩)
                go_wp2_with (go_at_call 23; refine stop_here ?_)
                refine stop_on ?_
                with_reducible refine (ref04Items_self A5 _ xs xs _ _ _ _ _ (sameI_self xs) HIS.out ((P_44.out).ext E5.out)).mono ?_
                rintro e w6 ⟨rfl, hx⟩
                have E6 := Lib.hid (E5.out.trans hx)
                clear hx
                go_wp2_with fail
                go_ret
                exact ⟨rfl, (X_44.out).trans E6.out⟩
      · have k1 := K1.out
        have k2 := K2.out
        rcases Int.lt_or_le mid lo with m1 | m1
        · have t0 : decide (lo ≤ mid) = false := decide_eq_false (by omega)
          have t1 : decide (mid < lo) = true := decide_eq_true m1
          have HO := Lib.hid (show oneB lo hi mid o = false from by unfold oneB; rw [Hsm.out, t0]; rfl)
          go_wp2_with (go_at_call 21; refine stop_here ?_)
          refine stop_on ?_
          clear zwi qh0 qh1 zh
          have hc := treeGet_of R l n q keep keep root mid _ HL.out HN.out HRR.out A_22.out Ho.out
          rw [Hgv.out, Hge.out] at hc
          refine hc.mono ?_
          clear hc
          rintro e w46 ⟨rfl, hx⟩
          have A_47 := Lib.hid (A_22.out.ext hx)
          have X_47 := Lib.hid (X_22.out.ext hx)
          have wi_47 := Lib.hid (wi_22.out.ext hx)
          have h_47 := Lib.hid (h_22.out.ext hx)
          have P_47 := Lib.hid (P_22.out.ext hx)
          clear A_22 X_22 wi_22 h_22 P_22
          clear hx
          have zwi := wi_47.out.lt
          have qh0 : w46.cell? ⟨w.heap.size + 1, 0, none⟩ = some (.slice R n q) := h_47.out.at 0 _ rfl
          have qh1 : w46.cell? ⟨w.heap.size + 1, 1, none⟩ = some (.int .i64 keep) := h_47.out.at 1 _ rfl
          have zh := h_47.out.lt
          clear zwi qh0 qh1 zh
          go_wp2_with fail
          go_loopw [15, 16] (fun v i wr => ∃ k : Nat, k ≤ s1 ∧ i = .int .i64 k ∧ v = .bool (false && !hasK mid (xs.take k)) ∧ Ext w46 wr) (fun _ i _ => s1 - (intOf i).toNat)
          case atStart => exact ⟨0, Nat.zero_le _, rfl, by simp [hasK], Ext.refl _⟩
          case round =>
            obtain ⟨k, hk, rfl, rfl, hx0⟩ := hrel
            have A_48 := Lib.hid (A_47.out.ext hx0)
            have X_48 := Lib.hid (X_47.out.ext hx0)
            have wi_48 := Lib.hid (wi_47.out.ext hx0)
            have h_48 := Lib.hid (h_47.out.ext hx0)
            have P_48 := Lib.hid (P_47.out.ext hx0)
            clear A_47 X_47 wi_47 h_47 P_47
            have HX1 := Lib.hid hx0
            clear hx0
            rcases Nat.lt_or_ge k s1 with hlt | hlt
            · have hkl : k < xs.length := by rw [← (P_48.out).1]; exact hlt
              obtain ⟨b, off, rfl, hb, c0, c1⟩ := it_at (P_48.out).2 hkl
              have HST := Lib.hid (hasK_step (mid := mid) hkl)
              have HAT := Lib.hid (fun h => one_at SF.out hkl h)
              have hki : (k : Int) < (s1 : Int) := by omega
              obtain ⟨K, hK⟩ : ∃ K, xs[k].1 = K := ⟨_, rfl⟩
              obtain ⟨V, hV⟩ : ∃ V, xs[k].2 = V := ⟨_, rfl⟩
              rw [hK] at c0
              rw [hV] at c1
              simp only [hK, hV] at HST HAT
              rw [HO.out] at HAT
              clear hK hV hkl hb
              by_cases he : K = mid
              · obtain ⟨a1, a2⟩ := HAT.out he
                rw [Hgv.out] at a2
                exact absurd a1 (by simp)
              · have HE := Lib.hid (show (false && !hasK mid (xs.take (k + 1))) = (false && !hasK mid (xs.take k)) from by rw [HST.out, decide_eq_false he, Bool.or_false])
                have d0 : (K == mid) = false := beq_eq_false_iff_ne.2 he
                have d1 : decide (K = mid) = false := decide_eq_false he
                clear he HST HAT
                generalize hbb : (false && !hasK mid (xs.take k)) = bb at *
                clear hbb
                go_wp2_with fail
                go_roundw
                case rel => exact ⟨k + 1, by omega, by go_num, by rw [HE.out], HX1.out⟩
                case measure => simp [intOf]; omega
            · obtain rfl : s1 = k := by omega
              have HEN := one_end SF.out (P_48.out).1
              rw [HO.out] at HEN
              rw [HEN]
              clear hk hlt HEN
              go_wp2_with fail
              go_ret
              exact ⟨rfl, X_48.out⟩
        rcases Int.lt_or_le mid hi with m2 | m2
        · have t0 : decide (lo ≤ mid) = true := decide_eq_true m1
          have t1 : decide (mid < lo) = false := decide_eq_false (by omega)
          have t2 : decide (mid < hi) = true := decide_eq_true m2
          have t3 : decide (hi < mid) = false := decide_eq_false (by omega)
          have HO := Lib.hid (show oneB lo hi mid o = true from by unfold oneB; rw [Hsm.out, t0, t2]; rfl)
          go_wp2_with (go_at_call 21; refine stop_here ?_)
          refine stop_on ?_
          clear zwi qh0 qh1 zh
          have hc := treeGet_of R l n q keep keep root mid _ HL.out HN.out HRR.out A_22.out Ho.out
          rw [Hgv.out, Hge.out] at hc
          refine hc.mono ?_
          clear hc
          rintro e w49 ⟨rfl, hx⟩
          have A_50 := Lib.hid (A_22.out.ext hx)
          have X_50 := Lib.hid (X_22.out.ext hx)
          have wi_50 := Lib.hid (wi_22.out.ext hx)
          have h_50 := Lib.hid (h_22.out.ext hx)
          have P_50 := Lib.hid (P_22.out.ext hx)
          clear A_22 X_22 wi_22 h_22 P_22
          clear hx
          have zwi := wi_50.out.lt
          have qh0 : w49.cell? ⟨w.heap.size + 1, 0, none⟩ = some (.slice R n q) := h_50.out.at 0 _ rfl
          have qh1 : w49.cell? ⟨w.heap.size + 1, 1, none⟩ = some (.int .i64 keep) := h_50.out.at 1 _ rfl
          have zh := h_50.out.lt
          clear zwi qh0 qh1 zh
          go_wp2_with fail
          go_loopw [15, 16] (fun v i wr => ∃ k : Nat, k ≤ s1 ∧ i = .int .i64 k ∧ v = .bool (true && !hasK mid (xs.take k)) ∧ Ext w49 wr) (fun _ i _ => s1 - (intOf i).toNat)
          case atStart => exact ⟨0, Nat.zero_le _, rfl, by simp [hasK], Ext.refl _⟩
          case round =>
            obtain ⟨k, hk, rfl, rfl, hx0⟩ := hrel
            have A_51 := Lib.hid (A_50.out.ext hx0)
            have X_51 := Lib.hid (X_50.out.ext hx0)
            have wi_51 := Lib.hid (wi_50.out.ext hx0)
            have h_51 := Lib.hid (h_50.out.ext hx0)
            have P_51 := Lib.hid (P_50.out.ext hx0)
            clear A_50 X_50 wi_50 h_50 P_50
            have HX1 := Lib.hid hx0
            clear hx0
            rcases Nat.lt_or_ge k s1 with hlt | hlt
            · have hkl : k < xs.length := by rw [← (P_51.out).1]; exact hlt
              obtain ⟨b, off, rfl, hb, c0, c1⟩ := it_at (P_51.out).2 hkl
              have HST := Lib.hid (hasK_step (mid := mid) hkl)
              have HAT := Lib.hid (fun h => one_at SF.out hkl h)
              have hki : (k : Int) < (s1 : Int) := by omega
              obtain ⟨K, hK⟩ : ∃ K, xs[k].1 = K := ⟨_, rfl⟩
              obtain ⟨V, hV⟩ : ∃ V, xs[k].2 = V := ⟨_, rfl⟩
              rw [hK] at c0
              rw [hV] at c1
              simp only [hK, hV] at HST HAT
              rw [HO.out] at HAT
              clear hK hV hkl hb
              by_cases he : K = mid
              · obtain ⟨a1, a2⟩ := HAT.out he
                rw [Hgv.out] at a2
                have HE := Lib.hid (show (true && !hasK mid (xs.take (k + 1))) = false from by rw [HST.out, decide_eq_true he]; simp)
                rw [a1]
                subst a2
                have d0 : (K == mid) = true := beq_iff_eq.2 he
                have d1 : decide (K = mid) = true := decide_eq_true he
                clear he HST HAT a1
                go_wp2_with fail
                go_roundw
                case rel => exact ⟨k + 1, by omega, by go_num, by rw [HE.out], HX1.out⟩
                case measure => simp [intOf]; omega
              · have HE := Lib.hid (show (true && !hasK mid (xs.take (k + 1))) = (true && !hasK mid (xs.take k)) from by rw [HST.out, decide_eq_false he, Bool.or_false])
                have d0 : (K == mid) = false := beq_eq_false_iff_ne.2 he
                have d1 : decide (K = mid) = false := decide_eq_false he
                clear he HST HAT
                generalize hbb : (true && !hasK mid (xs.take k)) = bb at *
                clear hbb
                go_wp2_with fail
                go_roundw
                case rel => exact ⟨k + 1, by omega, by go_num, by rw [HE.out], HX1.out⟩
                case measure => simp [intOf]; omega
            · obtain rfl : s1 = k := by omega
              have HEN := one_end SF.out (P_51.out).1
              rw [HO.out] at HEN
              rw [HEN]
              clear hk hlt HEN
              have m3 : mid ≤ hi := by omega
              have HPT := Lib.hid (SF.out.e m1 m3)
              have zwi := wi_51.out.lt
              have qh0 : wr.cell? ⟨w.heap.size + 1, 0, none⟩ = some (.slice R n q) := h_51.out.at 0 _ rfl
              have qh1 : wr.cell? ⟨w.heap.size + 1, 1, none⟩ = some (.int .i64 keep) := h_51.out.at 1 _ rfl
              have zh := h_51.out.lt
              go_wp2_with (go_at_call 24; refine stop_here ?_)
              refine stop_on ?_
              clear zwi qh0 qh1 zh
              refine (treeScan_is R l n q keep keep root lo mid _ HL.out HN.out HRR.out A_51.out).mono ?_
              rintro e w52 ⟨S2, s2, d2, rfl, h1, hx⟩
              have A_53 := Lib.hid (A_51.out.ext hx)
              have X_53 := Lib.hid (X_51.out.ext hx)
              have wi_53 := Lib.hid (wi_51.out.ext hx)
              have h_53 := Lib.hid (h_51.out.ext hx)
              have P_53 := Lib.hid (P_51.out.ext hx)
              clear A_51 X_51 wi_51 h_51 P_51
              have PA_54 := Lib.hid h1
              clear hx h1
              have zwi := wi_53.out.lt
              have qh0 : w52.cell? ⟨w.heap.size + 1, 0, none⟩ = some (.slice R n q) := h_53.out.at 0 _ rfl
              have qh1 : w52.cell? ⟨w.heap.size + 1, 1, none⟩ = some (.int .i64 keep) := h_53.out.at 1 _ rfl
              have zh := h_53.out.lt
              go_wp2_with (go_at_call 24; refine stop_here ?_)
              refine stop_on ?_
              clear zwi qh0 qh1 zh
              refine (treeScan_is R l n q keep keep root mid hi _ HL.out HN.out HRR.out A_53.out).mono ?_
              rintro e w55 ⟨S3, s3, d3, rfl, h1, hx⟩
              have A_56 := Lib.hid (A_53.out.ext hx)
              have X_56 := Lib.hid (X_53.out.ext hx)
              have wi_56 := Lib.hid (wi_53.out.ext hx)
              have h_56 := Lib.hid (h_53.out.ext hx)
              have P_56 := Lib.hid (P_53.out.ext hx)
              have PA_56 := Lib.hid (PA_54.out.ext hx)
              clear A_53 X_53 wi_53 h_53 P_53 PA_54
              have PB_57 := Lib.hid h1
              clear hx h1
              have zwi := wi_56.out.lt
              have qh0 : w55.cell? ⟨w.heap.size + 1, 0, none⟩ = some (.slice R n q) := h_56.out.at 0 _ rfl
              have qh1 : w55.cell? ⟨w.heap.size + 1, 1, none⟩ = some (.int .i64 keep) := h_56.out.at 1 _ rfl
              have zh := h_56.out.lt
              clear zwi qh0 qh1 zh
              have q2 : s2 ≤ 1099511627776 := by have h1 := (PA_56.out).1; have h2 := HP1.out; omega
              have q3 : s3 ≤ 1099511627776 := by have h1 := (PB_57.out).1; have h2 := HP2.out; omega
              go_wp2_with (at_builtin; refine stop_here ?_)
              refine stop_on ?_
              have EA := Lib.hid ((Ext.refl w55).alloc (.cells #[] 49))
              refine wpList_unguard (by rfl) ?_
              refine app_itemsW _ rfl _ _ rfl w55.heap.size _ 0 [] rfl (own_empty w55 _ _) S2 s2 d2 (scanT l root lo mid) rfl (PA_56.out).1.symm ((PA_56.out).2.ext EA.out) (by omega) (by simp) ?_
              intro A4 c4 w4 ho4 hg4
              have E4 := Lib.hid (Ext.app EA.out (own_empty w55 49 2) (Nat.le_refl _) hg4)
              simp only [Nat.zero_add, List.nil_append] at ho4 ⊢
              have HO4 := Lib.hid ho4
              clear ho4 hg4
              go_wp2_with (at_builtin; refine stop_here ?_)
              refine stop_on ?_
              refine wpList_unguard (by rfl) ?_
              refine app_itemsW _ rfl _ _ rfl w55.heap.size _ s2 (scanT l root lo mid) rfl HO4.out S3 s3 d3 (scanT l root mid hi) rfl (PB_57.out).1.symm ((PB_57.out).2.ext E4.out) (by omega) E4.out.size ?_
              intro A5 c5 w5 ho5 hg5
              have E5 := Lib.hid (Ext.app E4.out HO4.out (Nat.le_refl _) hg5)
              rw [HPT.out] at ho5
              have HO5 := Lib.hid ho5
              clear ho5 hg5
              have hls : s2 + s3 = s1 := by have h1 := HO5.out.1; have h2 := (P_56.out).1; rw [ivs_length] at h1; omega
              have HIS := Lib.hid (show Is w5 A5 s1 c5 xs from by
                have h := own_sl HO5.out
                rw [hls] at h
                exact ⟨(P_56.out).1, h⟩)
              go_wp2_with (go_at_call 23; refine stop_here ?_)
              refine stop_on ?_
              with_reducible refine (ref04Items_self A5 _ xs xs _ _ _ _ _ (sameI_self xs) HIS.out ((P_56.out).ext E5.out)).mono ?_
              rintro e w6 ⟨rfl, hx⟩
              have E6 := Lib.hid (E5.out.trans hx)
              clear hx
              go_wp2_with fail
              go_ret
              exact ⟨rfl, (X_56.out).trans E6.out⟩
        · have t0 : decide (lo ≤ mid) = true := decide_eq_true m1
          have t1 : decide (mid < lo) = false := decide_eq_false (by omega)
          have t2 : decide (mid < hi) = false := decide_eq_false (by omega)
          have HO := Lib.hid (show oneB lo hi mid o = false from by unfold oneB; rw [Hsm.out, t0, t2]; rfl)
          go_wp2_with (go_at_call 21; refine stop_here ?_)
          refine stop_on ?_
          clear zwi qh0 qh1 zh
          have hc := treeGet_of R l n q keep keep root mid _ HL.out HN.out HRR.out A_22.out Ho.out
          rw [Hgv.out, Hge.out] at hc
          refine hc.mono ?_
          clear hc
          rintro e w58 ⟨rfl, hx⟩
          have A_59 := Lib.hid (A_22.out.ext hx)
          have X_59 := Lib.hid (X_22.out.ext hx)
          have wi_59 := Lib.hid (wi_22.out.ext hx)
          have h_59 := Lib.hid (h_22.out.ext hx)
          have P_59 := Lib.hid (P_22.out.ext hx)
          clear A_22 X_22 wi_22 h_22 P_22
          clear hx
          have zwi := wi_59.out.lt
          have qh0 : w58.cell? ⟨w.heap.size + 1, 0, none⟩ = some (.slice R n q) := h_59.out.at 0 _ rfl
          have qh1 : w58.cell? ⟨w.heap.size + 1, 1, none⟩ = some (.int .i64 keep) := h_59.out.at 1 _ rfl
          have zh := h_59.out.lt
          clear zwi qh0 qh1 zh
          go_wp2_with fail
          go_loopw [15, 16] (fun v i wr => ∃ k : Nat, k ≤ s1 ∧ i = .int .i64 k ∧ v = .bool (false && !hasK mid (xs.take k)) ∧ Ext w58 wr) (fun _ i _ => s1 - (intOf i).toNat)
          case atStart => exact ⟨0, Nat.zero_le _, rfl, by simp [hasK], Ext.refl _⟩
          case round =>
            obtain ⟨k, hk, rfl, rfl, hx0⟩ := hrel
            have A_60 := Lib.hid (A_59.out.ext hx0)
            have X_60 := Lib.hid (X_59.out.ext hx0)
            have wi_60 := Lib.hid (wi_59.out.ext hx0)
            have h_60 := Lib.hid (h_59.out.ext hx0)
            have P_60 := Lib.hid (P_59.out.ext hx0)
            clear A_59 X_59 wi_59 h_59 P_59
            have HX1 := Lib.hid hx0
            clear hx0
            rcases Nat.lt_or_ge k s1 with hlt | hlt
            · have hkl : k < xs.length := by rw [← (P_60.out).1]; exact hlt
              obtain ⟨b, off, rfl, hb, c0, c1⟩ := it_at (P_60.out).2 hkl
              have HST := Lib.hid (hasK_step (mid := mid) hkl)
              have HAT := Lib.hid (fun h => one_at SF.out hkl h)
              have hki : (k : Int) < (s1 : Int) := by omega
              obtain ⟨K, hK⟩ : ∃ K, xs[k].1 = K := ⟨_, rfl⟩
              obtain ⟨V, hV⟩ : ∃ V, xs[k].2 = V := ⟨_, rfl⟩
              rw [hK] at c0
              rw [hV] at c1
              simp only [hK, hV] at HST HAT
              rw [HO.out] at HAT
              clear hK hV hkl hb
              by_cases he : K = mid
              · obtain ⟨a1, a2⟩ := HAT.out he
                rw [Hgv.out] at a2
                exact absurd a1 (by simp)
              · have HE := Lib.hid (show (false && !hasK mid (xs.take (k + 1))) = (false && !hasK mid (xs.take k)) from by rw [HST.out, decide_eq_false he, Bool.or_false])
                have d0 : (K == mid) = false := beq_eq_false_iff_ne.2 he
                have d1 : decide (K = mid) = false := decide_eq_false he
                clear he HST HAT
                generalize hbb : (false && !hasK mid (xs.take k)) = bb at *
                clear hbb
                go_wp2_with fail
                go_roundw
                case rel => exact ⟨k + 1, by omega, by go_num, by rw [HE.out], HX1.out⟩
                case measure => simp [intOf]; omega
            · obtain rfl : s1 = k := by omega
              have HEN := one_end SF.out (P_60.out).1
              rw [HO.out] at HEN
              rw [HEN]
              clear hk hlt HEN
              rcases Int.lt_or_le hi mid with m3 | m3
              · have t3 : decide (hi < mid) = true := decide_eq_true m3
                go_wp2_with fail
                go_ret
                exact ⟨rfl, X_60.out⟩
              · have t3 : decide (hi < mid) = false := decide_eq_false (by omega)
                have HPT := Lib.hid (SF.out.e m1 m3)
                have zwi := wi_60.out.lt
                have qh0 : wr.cell? ⟨w.heap.size + 1, 0, none⟩ = some (.slice R n q) := h_60.out.at 0 _ rfl
                have qh1 : wr.cell? ⟨w.heap.size + 1, 1, none⟩ = some (.int .i64 keep) := h_60.out.at 1 _ rfl
                have zh := h_60.out.lt
                go_wp2_with (go_at_call 24; refine stop_here ?_)
                refine stop_on ?_
                clear zwi qh0 qh1 zh
                refine (treeScan_is R l n q keep keep root lo mid _ HL.out HN.out HRR.out A_60.out).mono ?_
                rintro e w61 ⟨S2, s2, d2, rfl, h1, hx⟩
                have A_62 := Lib.hid (A_60.out.ext hx)
                have X_62 := Lib.hid (X_60.out.ext hx)
                have wi_62 := Lib.hid (wi_60.out.ext hx)
                have h_62 := Lib.hid (h_60.out.ext hx)
                have P_62 := Lib.hid (P_60.out.ext hx)
                clear A_60 X_60 wi_60 h_60 P_60
                have PA_63 := Lib.hid h1
                clear hx h1
                have zwi := wi_62.out.lt
                have qh0 : w61.cell? ⟨w.heap.size + 1, 0, none⟩ = some (.slice R n q) := h_62.out.at 0 _ rfl
                have qh1 : w61.cell? ⟨w.heap.size + 1, 1, none⟩ = some (.int .i64 keep) := h_62.out.at 1 _ rfl
                have zh := h_62.out.lt
                go_wp2_with (go_at_call 24; refine stop_here ?_)
                refine stop_on ?_
                clear zwi qh0 qh1 zh
                refine (treeScan_is R l n q keep keep root mid hi _ HL.out HN.out HRR.out A_62.out).mono ?_
                rintro e w64 ⟨S3, s3, d3, rfl, h1, hx⟩
                have A_65 := Lib.hid (A_62.out.ext hx)
                have X_65 := Lib.hid (X_62.out.ext hx)
                have wi_65 := Lib.hid (wi_62.out.ext hx)
                have h_65 := Lib.hid (h_62.out.ext hx)
                have P_65 := Lib.hid (P_62.out.ext hx)
                have PA_65 := Lib.hid (PA_63.out.ext hx)
                clear A_62 X_62 wi_62 h_62 P_62 PA_63
                have PB_66 := Lib.hid h1
                clear hx h1
                have zwi := wi_65.out.lt
                have qh0 : w64.cell? ⟨w.heap.size + 1, 0, none⟩ = some (.slice R n q) := h_65.out.at 0 _ rfl
                have qh1 : w64.cell? ⟨w.heap.size + 1, 1, none⟩ = some (.int .i64 keep) := h_65.out.at 1 _ rfl
                have zh := h_65.out.lt
                clear zwi qh0 qh1 zh
                have q2 : s2 ≤ 1099511627776 := by have h1 := (PA_65.out).1; have h2 := HP1.out; omega
                have q3 : s3 ≤ 1099511627776 := by have h1 := (PB_66.out).1; have h2 := HP2.out; omega
                go_wp2_with (at_builtin; refine stop_here ?_)
                refine stop_on ?_
                have EA := Lib.hid ((Ext.refl w64).alloc (.cells #[] 49))
                refine wpList_unguard (by rfl) ?_
                refine app_itemsW _ rfl _ _ rfl w64.heap.size _ 0 [] rfl (own_empty w64 _ _) S2 s2 d2 (scanT l root lo mid) rfl (PA_65.out).1.symm ((PA_65.out).2.ext EA.out) (by omega) (by simp) ?_
                intro A4 c4 w4 ho4 hg4
                have E4 := Lib.hid (Ext.app EA.out (own_empty w64 49 2) (Nat.le_refl _) hg4)
                simp only [Nat.zero_add, List.nil_append] at ho4 ⊢
                have HO4 := Lib.hid ho4
                clear ho4 hg4
                go_wp2_with (at_builtin; refine stop_here ?_)
                refine stop_on ?_
                refine wpList_unguard (by rfl) ?_
                refine app_itemsW _ rfl _ _ rfl w64.heap.size _ s2 (scanT l root lo mid) rfl HO4.out S3 s3 d3 (scanT l root mid hi) rfl (PB_66.out).1.symm ((PB_66.out).2.ext E4.out) (by omega) E4.out.size ?_
                intro A5 c5 w5 ho5 hg5
                have E5 := Lib.hid (Ext.app E4.out HO4.out (Nat.le_refl _) hg5)
                rw [HPT.out] at ho5
                have HO5 := Lib.hid ho5
                clear ho5 hg5
                have hls : s2 + s3 = s1 := by have h1 := HO5.out.1; have h2 := (P_65.out).1; rw [ivs_length] at h1; omega
                have HIS := Lib.hid (show Is w5 A5 s1 c5 xs from by
                  have h := own_sl HO5.out
                  rw [hls] at h
                  exact ⟨(P_65.out).1, h⟩)
                go_wp2_with (go_at_call 23; refine stop_here ?_)
                refine stop_on ?_
                with_reducible refine (ref04Items_self A5 _ xs xs _ _ _ _ _ (sameI_self xs) HIS.out ((P_65.out).ext E5.out)).mono ?_
                rintro e w6 ⟨rfl, hx⟩
                have E6 := Lib.hid (E5.out.trans hx)
                clear hx
                go_wp2_with fail
                go_ret
                exact ⟨rfl, (X_65.out).trans E6.out⟩
end Go.Proofs.Ythlencnlgnbpaaa

