/- The walk of TreeBelow. -/
import Derived.Test.YthlencnlgnbpaaaTreeB
import Derived.Test.YthlencnlgnbpaaaTreeS
import Derived.Deep.AppendLies
import Derived.Deep.RegionHeld3
import Derived.Deep.DeepCutAuto
import Derived.Deep.DrawnRows
import Derived.RegionTactic
import Derived.Deep.QuietTactic
import Derived.BigQuiet
namespace Go.Proofs.Ythlencnlgnbpaaa
open Go.RowKit
attribute [local go_sem ↓] Go.wp_at_zero Go.wp_at_succ

attribute [local go_sem] beq_self_eq_true bne_self_eq_false
theorem treeScan_whole (R : Option Addr) (l : List HC) (n q : Nat) (keep keep' p : Int) (w : World) (hl : AllR l) (hn : l.length ≤ 2000) (hr : rightR ⟨l, keep'⟩ p = true) (hA : HcSl w R n q l) :
    Calls Try.prog 24 #[.agg #[.slice R n q, .int .i64 keep], .int .i64 p, .int .i64 0, .int .i64 2147483648] w fun e w' => ∃ S s d, e = .returned (.slice S s d) ∧ Is w' S s d (listT l p) ∧ Ext w w' := by
  have h := treeScan_is R l n q keep keep' p 0 2147483648 w hl hn hr hA
  rw [scan_whole hl hr] at h
  exact h
set_option maxRecDepth 100000 in
set_option maxHeartbeats 4000000 in
theorem below_any (R : Option Addr) (l : List HC) (n q : Nat) (keep root : Int) (w : World) (hA : HcSl w R n q l) :
    Calls Try.prog 7 #[.agg #[.slice R n q, .int .i64 keep], .int .i64 root] w fun e w' => e = .returned (.bool true) ∧ Ext w w' := by
  have A_1 := Lib.hid (hA)
  have X_2 := Lib.hid (Ext.refl w)
  clear hA
  cases hr : mayR ⟨l, keep⟩ root 60
  · have Hr := Lib.hid hr
    clear hr
    go_enter Try.func7, Try.ntmps7
    go_wp2_with (go_at_call 9; refine stop_here ?_)
    refine stop_on ?_
    generalize hW : (World.alloc w _) = W3
    obtain ⟨hx, hb0⟩ := allocs1 hW
    clear hW
    have A_4 := Lib.hid (A_1.out.ext hx)
    have X_4 := Lib.hid (X_2.out.ext hx)
    clear A_1 X_2
    have h_5 := Lib.hid hb0
    clear hx hb0
    refine (shown_any _).mono ?_
    rintro e w6 ⟨rfl, hx⟩
    have A_7 := Lib.hid (A_4.out.ext hx)
    have X_7 := Lib.hid (X_4.out.ext hx)
    have h_7 := Lib.hid (h_5.out.ext hx)
    clear A_4 X_4 h_5
    clear hx
    have qh0 : w6.cell? ⟨w.heap.size, 0, none⟩ = some (.slice R n q) := h_7.out.at 0 _ rfl
    have qh1 : w6.cell? ⟨w.heap.size, 1, none⟩ = some (.int .i64 keep) := h_7.out.at 1 _ rfl
    have zh := h_7.out.lt
    go_wp2_with (go_at_call 20; refine stop_here ?_)
    refine stop_on ?_
    clear qh0 qh1 zh
    refine (ref07May_is R l n q keep root 60 _ A_7.out Hr.out).mono ?_
    rintro e w8 ⟨rfl, hx⟩
    have A_9 := Lib.hid (A_7.out.ext hx)
    have X_9 := Lib.hid (X_7.out.ext hx)
    have h_9 := Lib.hid (h_7.out.ext hx)
    clear A_7 X_7 h_7
    clear hx
    have qh0 : w8.cell? ⟨w.heap.size, 0, none⟩ = some (.slice R n q) := h_9.out.at 0 _ rfl
    have qh1 : w8.cell? ⟨w.heap.size, 1, none⟩ = some (.int .i64 keep) := h_9.out.at 1 _ rfl
    have zh := h_9.out.lt
    go_wp2
    go_ret
    exact ⟨rfl, X_9.out⟩
  have Hr := Lib.hid hr
  rcases Int.lt_or_le root 0 with h0 | h0
  · have t0 : decide (root < 0) = true := decide_eq_true h0
    clear hr
    go_enter Try.func7, Try.ntmps7
    go_wp2_with (go_at_call 9; refine stop_here ?_)
    refine stop_on ?_
    generalize hW : (World.alloc w _) = W10
    obtain ⟨hx, hb0⟩ := allocs1 hW
    clear hW
    have A_11 := Lib.hid (A_1.out.ext hx)
    have X_11 := Lib.hid (X_2.out.ext hx)
    clear A_1 X_2
    have h_12 := Lib.hid hb0
    clear hx hb0
    refine (shown_any _).mono ?_
    rintro e w13 ⟨rfl, hx⟩
    have A_14 := Lib.hid (A_11.out.ext hx)
    have X_14 := Lib.hid (X_11.out.ext hx)
    have h_14 := Lib.hid (h_12.out.ext hx)
    clear A_11 X_11 h_12
    clear hx
    have qh0 : w13.cell? ⟨w.heap.size, 0, none⟩ = some (.slice R n q) := h_14.out.at 0 _ rfl
    have qh1 : w13.cell? ⟨w.heap.size, 1, none⟩ = some (.int .i64 keep) := h_14.out.at 1 _ rfl
    have zh := h_14.out.lt
    go_wp2_with (go_at_call 20; refine stop_here ?_)
    refine stop_on ?_
    clear qh0 qh1 zh
    refine (ref07May_is R l n q keep root 60 _ A_14.out Hr.out).mono ?_
    rintro e w15 ⟨rfl, hx⟩
    have A_16 := Lib.hid (A_14.out.ext hx)
    have X_16 := Lib.hid (X_14.out.ext hx)
    have h_16 := Lib.hid (h_14.out.ext hx)
    clear A_14 X_14 h_14
    clear hx
    have qh0 : w15.cell? ⟨w.heap.size, 0, none⟩ = some (.slice R n q) := h_16.out.at 0 _ rfl
    have qh1 : w15.cell? ⟨w.heap.size, 1, none⟩ = some (.int .i64 keep) := h_16.out.at 1 _ rfl
    have zh := h_16.out.lt
    go_wp2
    go_ret
    exact ⟨rfl, X_16.out⟩
  obtain ⟨hl, hn, hrr⟩ := mayR_all hr
  obtain ⟨k, hk, hrf⟩ := root_facts hl hrr h0
  have hat := hrf.at_
  subst hat
  have RF := Lib.hid hrf
  have HL := Lib.hid hl
  have HN := Lib.hid hn
  have HRR := Lib.hid hrr
  have HLL := Lib.hid (listT_len hl hrr)
  clear hr hl hn hrr hrf h0
  go_enter Try.func7, Try.ntmps7
  go_wp2_with (go_at_call 9; refine stop_here ?_)
  refine stop_on ?_
  generalize hW : (World.alloc w _) = W17
  obtain ⟨hx, hb0⟩ := allocs1 hW
  clear hW
  have A_18 := Lib.hid (A_1.out.ext hx)
  have X_18 := Lib.hid (X_2.out.ext hx)
  clear A_1 X_2
  have h_19 := Lib.hid hb0
  clear hx hb0
  refine (shown_any _).mono ?_
  rintro e w20 ⟨rfl, hx⟩
  have A_21 := Lib.hid (A_18.out.ext hx)
  have X_21 := Lib.hid (X_18.out.ext hx)
  have h_21 := Lib.hid (h_19.out.ext hx)
  clear A_18 X_18 h_19
  clear hx
  have qh0 : w20.cell? ⟨w.heap.size, 0, none⟩ = some (.slice R n q) := h_21.out.at 0 _ rfl
  have qh1 : w20.cell? ⟨w.heap.size, 1, none⟩ = some (.int .i64 keep) := h_21.out.at 1 _ rfl
  have zh := h_21.out.lt
  go_wp2_with (go_at_call 20; refine stop_here ?_)
  refine stop_on ?_
  clear qh0 qh1 zh
  refine (ref07May_is R l n q keep (k : Int) 60 _ A_21.out Hr.out).mono ?_
  rintro e w22 ⟨rfl, hx⟩
  have A_23 := Lib.hid (A_21.out.ext hx)
  have X_23 := Lib.hid (X_21.out.ext hx)
  have h_23 := Lib.hid (h_21.out.ext hx)
  clear A_21 X_21 h_21
  clear hx
  have qh0 : w22.cell? ⟨w.heap.size, 0, none⟩ = some (.slice R n q) := h_23.out.at 0 _ rfl
  have qh1 : w22.cell? ⟨w.heap.size, 1, none⟩ = some (.int .i64 keep) := h_23.out.at 1 _ rfl
  have zh := h_23.out.lt
  have hnl := (A_23.out).1
  have hkn : k < n := by omega
  have hki : (k : Int) < (n : Int) := by omega
  clear hnl
  obtain ⟨b, off, rfl, hbl, A, c, r0, r1, r2, r3, hI⟩ := (A_23.out).cell hk
  obtain ⟨it, hit⟩ : ∃ it, l[k].it = it := ⟨_, rfl⟩
  obtain ⟨li, hli⟩ : ∃ li, it.length = li := ⟨_, rfl⟩
  rw [hit] at r3 hI
  rw [hli] at r3 hI
  have IT_24 := Lib.hid ((show Is w22 A li c it from ⟨hli.symm, hI⟩))
  have HND := Lib.hid (show NdR it from hit ▸ RF.out.nd)
  have HIT := Lib.hid hit
  have HLI := Lib.hid hli
  clear hI hli
  cases hlf : l[k].leaf
  · rw [hlf] at r2
    have HIN := Lib.hid (RF.out.inner hlf)
    rw [hit] at HIN
    have hli4 : 1 ≤ li ∧ li ≤ 4 := by have := HND.out.1; have h2 := HLI.out; omega
    clear hlf hit r0 r1
    go_wp2_with fail
    clear r2 r3 hbl
    clear qh0 qh1 zh
    generalize hW : (World.alloc w22 _) = WN
    have hsz : WN.heap.size = w22.heap.size + 1 := by rw [← hW, World.size_alloc]
    obtain ⟨hx, hb0⟩ := allocs1 hW
    clear hW
    have A_25 := Lib.hid (A_23.out.ext hx)
    have X_25 := Lib.hid (X_23.out.ext hx)
    have h_25 := Lib.hid (h_23.out.ext hx)
    have IT_25 := Lib.hid (IT_24.out.ext hx)
    clear A_23 X_23 h_23 IT_24
    have n_26 := Lib.hid (hb0)
    have HSZ := Lib.hid hsz
    have HE0 := Lib.hid (show (WN.alloc (.cells #[] 49)).ownsRow (w22.heap.size + 1) 49 2 (.slice (some ⟨w22.heap.size + 1, 0, none⟩) 0 0) 0 (ivs []) from by have h := own_empty WN 49 2; rw [hsz] at h; exact h)
    have HXE := Lib.hid ((Ext.refl WN).alloc (.cells #[] 49))
    clear hx hb0 hsz
    go_loopw [7, 8] (fun v i wr => ∃ j : Nat, j ≤ li ∧ i = .int .i64 j ∧ ∃ Z z c2, v = .slice Z z c2 ∧ wr.ownsRow (w22.heap.size + 1) 49 2 (.slice Z z c2) z (ivs ((it.take j).flatMap (fun x => listT l x.2))) ∧ Ext WN wr) (fun _ i _ => li - (intOf i).toNat)
    case atStart => exact ⟨0, Nat.zero_le _, rfl, _, _, _, rfl, HE0.out, HXE.out⟩
    case round =>
      obtain ⟨j, hj, rfl, Z, z, c2, rfl, ho, hx0⟩ := hrel
      have A_27 := Lib.hid (A_25.out.ext hx0)
      have X_27 := Lib.hid (X_25.out.ext hx0)
      have h_27 := Lib.hid (h_25.out.ext hx0)
      have IT_27 := Lib.hid (IT_25.out.ext hx0)
      have n_27 := Lib.hid (n_26.out.ext hx0)
      clear A_25 X_25 h_25 IT_25 n_26
      have HO := Lib.hid ho
      have HX0 := Lib.hid hx0
      clear ho hx0
      rcases Nat.lt_or_ge j li with hlt | hlt
      · have hjl : j < it.length := by rw [HLI.out]; exact hlt
        obtain ⟨g1, g2, g3, g4, y, r, g5, g6⟩ := HIN.out.2 it[j] (List.getElem_mem hjl)
        have HJ := Lib.hid g1
        have HTK := Lib.hid (flatMap_take (fun x : It => listT l x.2) it hjl)
        have HLE := Lib.hid (flatMap_take_le (fun x : It => listT l x.2) it (j + 1))
        have hji : (j : Int) < (li : Int) := by omega
        obtain ⟨ba, oa, rfl, hba, c0, c1⟩ := it_at (IT_27.out).2 hjl
        obtain ⟨K, hK⟩ : ∃ K, it[j].1 = K := ⟨_, rfl⟩
        obtain ⟨V, hV⟩ : ∃ V, it[j].2 = V := ⟨_, rfl⟩
        rw [hK] at c0 g6
        rw [hV] at c1 g5
        simp only [hV] at HJ HTK
        have HL5 := Lib.hid (show listT l V = y :: r from g5)
        have HC := Lib.hid (fun w' (hx : Ext wr w') => show w'.cell? ⟨ba, oa + j * 2, none⟩ = some (.int .i64 K) ∧ w'.cell? ⟨ba, oa + j * 2 + 1, none⟩ = some (.int .i64 V) from ⟨(hx.cell (p := ⟨ba, oa + j * 2, none⟩) hba).trans c0, (hx.cell (p := ⟨ba, oa + j * 2 + 1, none⟩) hba).trans c1⟩)
        clear g1 g2 g3 g4 g5 hK hV
        have qh0 : wr.cell? ⟨w.heap.size, 0, none⟩ = some (.slice (some ⟨b, off, none⟩) n q) := h_27.out.at 0 _ rfl
        have qh1 : wr.cell? ⟨w.heap.size, 1, none⟩ = some (.int .i64 keep) := h_27.out.at 1 _ rfl
        have zh := h_27.out.lt
        have qn0 : wr.cell? ⟨w22.heap.size, 0, none⟩ = some (.bool false) := n_27.out.at 0 _ rfl
        have qn1 : wr.cell? ⟨w22.heap.size, 1, none⟩ = some (.slice (some ⟨ba, oa, none⟩) li c) := n_27.out.at 1 _ rfl
        have zn := n_27.out.lt
        go_wp2_with fail
        have HK28 := Lib.hid (fun w' (hx : Ext wr w') => (show w'.cell? ⟨w.heap.size, 0, none⟩ = some (.slice (some ⟨b, off, none⟩) n q) ∧ w'.cell? ⟨w.heap.size, 1, none⟩ = some (.int .i64 keep) ∧ w'.cell? ⟨w22.heap.size, 0, none⟩ = some (.bool false) ∧ w'.cell? ⟨w22.heap.size, 1, none⟩ = some (.slice (some ⟨ba, oa, none⟩) li c) ∧ w'.cell? ⟨ba, oa + j * 2 + 1, none⟩ = some (.int .i64 V) from ⟨(h_27.out.ext hx).at 0 _ rfl, (h_27.out.ext hx).at 1 _ rfl, (n_27.out.ext hx).at 0 _ rfl, (n_27.out.ext hx).at 1 _ rfl, (HC.out _ hx).2⟩))
        have G28_0 := Lib.hid (fun w' (hx : Ext wr w') => treeScan_whole (some ⟨b, off, none⟩) l n q keep keep V w' HL.out HN.out HJ.out (A_27.out.ext hx))
        clear qh0 qh1 zh qn0 qn1 zn
        have qh0 : wr.cell? ⟨w.heap.size, 0, none⟩ = some (.slice (some ⟨b, off, none⟩) n q) := h_27.out.at 0 _ rfl
        have qh1 : wr.cell? ⟨w.heap.size, 1, none⟩ = some (.int .i64 keep) := h_27.out.at 1 _ rfl
        have zh := h_27.out.lt
        have qn0 : wr.cell? ⟨w22.heap.size, 0, none⟩ = some (.bool false) := n_27.out.at 0 _ rfl
        have qn1 : wr.cell? ⟨w22.heap.size, 1, none⟩ = some (.slice (some ⟨ba, oa, none⟩) li c) := n_27.out.at 1 _ rfl
        have zn := n_27.out.lt
        go_region_held3 (fun w' => w'.cell? ⟨w.heap.size, 0, none⟩ = some (.slice (some ⟨b, off, none⟩) n q) ∧ w'.cell? ⟨w.heap.size, 1, none⟩ = some (.int .i64 keep) ∧ w'.cell? ⟨w22.heap.size, 0, none⟩ = some (.bool false) ∧ w'.cell? ⟨w22.heap.size, 1, none⟩ = some (.slice (some ⟨ba, oa, none⟩) li c) ∧ w'.cell? ⟨ba, oa + j * 2 + 1, none⟩ = some (.int .i64 V))
          (first | exact HK28.out _ E28_0.out | exact HK28.out _ (Ext.refl wr).drew | exact HK28.out _ (Ext.refl wr))
          (first
            | ((go_at_call 24
                with_reducible refine (G28_0.out _ ?_).mono ?_
                (first | exact Ext.refl _ | exact (Ext.refl _).drew)
                rintro e v28_0 ⟨S1, s1, d1, rfl, h1, hx⟩
                have E28_0 := Lib.hid (show Ext wr v28_0 from by first | exact hx | exact (Ext.refl wr).drew.trans hx)
                have P_28_0 := Lib.hid h1
                clear hx h1)))
        clear qh0 qh1 zh qn0 qn1 zn
        have A_29 := Lib.hid (A_27.out.ext E28_0.out)
        have X_29 := Lib.hid (X_27.out.ext E28_0.out)
        have h_29 := Lib.hid (h_27.out.ext E28_0.out)
        have IT_29 := Lib.hid (IT_27.out.ext E28_0.out)
        have n_29 := Lib.hid (n_27.out.ext E28_0.out)
        clear A_27 X_27 h_27 IT_27 n_27
        have hs1 : 0 < s1 := by have := P_28_0.out.1; rw [HL5.out, List.length_cons] at this; omega
        obtain ⟨e0, e1⟩ := HC.out _ E28_0.out
        obtain ⟨bs, os, rfl, hbs, d0, d9⟩ := it_at (P_28_0.out).2 (show 0 < (listT l V).length by rw [HL5.out, List.length_cons]; omega)
        have hy : ((listT l V)[0]'(by rw [HL5.out, List.length_cons]; omega)).1 = K := by rw [← g6]; congr 1; simp only [HL5.out, List.getElem_cons_zero]
        rw [hy, Nat.zero_mul, Nat.add_zero] at d0
        clear hy d9 c0 c1 g6
        have t1 : ((s1 : Int) == 0) = false := by rw [beq_eq_false_iff_ne]; omega
        have t2 : (0 : Int) < (s1 : Int) := by omega
        have qn0 : v28_0.cell? ⟨w22.heap.size, 0, none⟩ = some (.bool false) := n_29.out.at 0 _ rfl
        have qn1 : v28_0.cell? ⟨w22.heap.size, 1, none⟩ = some (.slice (some ⟨ba, oa, none⟩) li c) := n_29.out.at 1 _ rfl
        have zn := n_29.out.lt
        go_wp2_with fail
        go_quiet (fail)
        have HZ := Lib.hid (show z + s1 ≤ 1099511627776 from by
          have h1 := HO.out.1
          rw [ivs_length] at h1
          have h2 := HLE.out
          rw [HTK.out, List.length_append] at h2
          have h3 := P_28_0.out.1
          have h4 := HLL.out
          rw [HIN.out.1] at h4
          omega)
        go_wp2_with (at_builtin; refine stop_here ?_)
        refine stop_on ?_
        clear qn0 qn1 zn
        refine app_itemsW _ rfl _ _ rfl (w22.heap.size + 1) _ z _ rfl (own_ext HO.out (E28_0.out.drewN nq)) (some ⟨bs, os, none⟩) s1 d1 (listT l V) rfl P_28_0.out.1.symm (P_28_0.out.2.ext ((Ext.refl _).drewN nq)) (by have := HZ.out; omega) (by have h1 := HX0.out.size; have h2 := E28_0.out.size; have h3 := HSZ.out; show w22.heap.size + 1 ≤ v28_0.heap.size; omega) ?_
        intro A3 c3 w3 ho3 hg3
        have HX3 := Lib.hid (Ext.app (HX0.out.trans (E28_0.out.drewN nq)) (own_ext HO.out (E28_0.out.drewN nq)) (Nat.le_of_eq HSZ.out) hg3)
        rw [← HTK.out] at ho3
        have HO3 := Lib.hid ho3
        clear ho3 hg3
        go_wp2_with fail
        go_roundw
        case rel => exact ⟨j + 1, by omega, by go_num, A3, z + s1, c3, rfl, HO3.out, HX3.out⟩
        case measure => simp [intOf]; omega
      · obtain rfl : li = j := by omega
        have hE : it.take li = it := by rw [← HLI.out, List.take_length]
        rw [hE, ← HIN.out.1] at HO
        have hzl : z = (listT l k).length := by have h1 := HO.out.1; rw [ivs_length] at h1; omega
        have HIS := Lib.hid (show Is wr Z z c2 (listT l k) from ⟨hzl, own_sl HO.out⟩)
        clear hE hzl hj hlt
        have qh0 : wr.cell? ⟨w.heap.size, 0, none⟩ = some (.slice (some ⟨b, off, none⟩) n q) := h_27.out.at 0 _ rfl
        have qh1 : wr.cell? ⟨w.heap.size, 1, none⟩ = some (.int .i64 keep) := h_27.out.at 1 _ rfl
        have zh := h_27.out.lt
        have qn0 : wr.cell? ⟨w22.heap.size, 0, none⟩ = some (.bool false) := n_27.out.at 0 _ rfl
        have qn1 : wr.cell? ⟨w22.heap.size, 1, none⟩ = some (.slice A li c) := n_27.out.at 1 _ rfl
        have zn := n_27.out.lt
        go_wp2_with (go_at_call 24; refine stop_here ?_)
        refine stop_on ?_
        clear qh0 qh1 zh qn0 qn1 zn
        refine (treeScan_whole (some ⟨b, off, none⟩) l n q keep keep k _ HL.out HN.out HRR.out A_27.out).mono ?_
        rintro e w30 ⟨S1, s1, d1, rfl, h1, hx⟩
        have A_31 := Lib.hid (A_27.out.ext hx)
        have X_31 := Lib.hid (X_27.out.ext hx)
        have h_31 := Lib.hid (h_27.out.ext hx)
        have IT_31 := Lib.hid (IT_27.out.ext hx)
        have n_31 := Lib.hid (n_27.out.ext hx)
        have Q_31 := Lib.hid (HIS.out.ext hx)
        clear A_27 X_27 h_27 IT_27 n_27 HIS
        have P1_32 := Lib.hid h1
        clear hx h1
        have qh0 : w30.cell? ⟨w.heap.size, 0, none⟩ = some (.slice (some ⟨b, off, none⟩) n q) := h_31.out.at 0 _ rfl
        have qh1 : w30.cell? ⟨w.heap.size, 1, none⟩ = some (.int .i64 keep) := h_31.out.at 1 _ rfl
        have zh := h_31.out.lt
        have qn0 : w30.cell? ⟨w22.heap.size, 0, none⟩ = some (.bool false) := n_31.out.at 0 _ rfl
        have qn1 : w30.cell? ⟨w22.heap.size, 1, none⟩ = some (.slice A li c) := n_31.out.at 1 _ rfl
        have zn := n_31.out.lt
        go_wp2_with (go_at_call 23; refine stop_here ?_)
        refine stop_on ?_
        clear qh0 qh1 zh qn0 qn1 zn
        refine (ref04Items_self S1 Z (listT l k) (listT l k) s1 z d1 c2 _ (sameI_self _) P1_32.out Q_31.out).mono ?_
        rintro e w33 ⟨rfl, hx⟩
        have A_34 := Lib.hid (A_31.out.ext hx)
        have X_34 := Lib.hid (X_31.out.ext hx)
        have h_34 := Lib.hid (h_31.out.ext hx)
        have IT_34 := Lib.hid (IT_31.out.ext hx)
        have n_34 := Lib.hid (n_31.out.ext hx)
        have Q_34 := Lib.hid (Q_31.out.ext hx)
        have P1_34 := Lib.hid (P1_32.out.ext hx)
        clear A_31 X_31 h_31 IT_31 n_31 Q_31 P1_32
        clear hx
        have qh0 : w33.cell? ⟨w.heap.size, 0, none⟩ = some (.slice (some ⟨b, off, none⟩) n q) := h_34.out.at 0 _ rfl
        have qh1 : w33.cell? ⟨w.heap.size, 1, none⟩ = some (.int .i64 keep) := h_34.out.at 1 _ rfl
        have zh := h_34.out.lt
        have qn0 : w33.cell? ⟨w22.heap.size, 0, none⟩ = some (.bool false) := n_34.out.at 0 _ rfl
        have qn1 : w33.cell? ⟨w22.heap.size, 1, none⟩ = some (.slice A li c) := n_34.out.at 1 _ rfl
        have zn := n_34.out.lt
        go_wp2
        go_ret
        exact ⟨rfl, X_34.out⟩
  · have HLF := Lib.hid (RF.out.leaf hlf)
    rw [hit] at HLF
    rw [hlf] at r2
    clear hlf hit r0 r1
    go_wp2_with fail
    clear r2 r3 hbl
    clear qh0 qh1 zh
    generalize hW : (World.alloc w22 _) = W35
    obtain ⟨hx, hb0⟩ := allocs1 hW
    clear hW
    have A_36 := Lib.hid (A_23.out.ext hx)
    have X_36 := Lib.hid (X_23.out.ext hx)
    have h_36 := Lib.hid (h_23.out.ext hx)
    have IT_36 := Lib.hid (IT_24.out.ext hx)
    clear A_23 X_23 h_23 IT_24
    have n_37 := Lib.hid hb0
    clear hx hb0
    have HK38 := Lib.hid (fun w' (hx : Ext W35 w') => (show w'.cell? ⟨w.heap.size, 0, none⟩ = some (.slice (some ⟨b, off, none⟩) n q) ∧ w'.cell? ⟨w.heap.size, 1, none⟩ = some (.int .i64 keep) ∧ w'.cell? ⟨w22.heap.size, 0, none⟩ = some (.bool true) ∧ w'.cell? ⟨w22.heap.size, 1, none⟩ = some (.slice A li c) from ⟨(h_36.out.ext hx).at 0 _ rfl, (h_36.out.ext hx).at 1 _ rfl, (n_37.out.ext hx).at 0 _ rfl, (n_37.out.ext hx).at 1 _ rfl⟩))
    have G38_0 := Lib.hid (fun w' (hx : Ext W35 w') => treeScan_whole (some ⟨b, off, none⟩) l n q keep keep k w' HL.out HN.out HRR.out (A_36.out.ext hx))
    have qh0 : W35.cell? ⟨w.heap.size, 0, none⟩ = some (.slice (some ⟨b, off, none⟩) n q) := h_36.out.at 0 _ rfl
    have qh1 : W35.cell? ⟨w.heap.size, 1, none⟩ = some (.int .i64 keep) := h_36.out.at 1 _ rfl
    have zh := h_36.out.lt
    have qn0 : W35.cell? ⟨w22.heap.size, 0, none⟩ = some (.bool true) := n_37.out.at 0 _ rfl
    have qn1 : W35.cell? ⟨w22.heap.size, 1, none⟩ = some (.slice A li c) := n_37.out.at 1 _ rfl
    have zn := n_37.out.lt
    go_region_held3 (fun w' => w'.cell? ⟨w.heap.size, 0, none⟩ = some (.slice (some ⟨b, off, none⟩) n q) ∧ w'.cell? ⟨w.heap.size, 1, none⟩ = some (.int .i64 keep) ∧ w'.cell? ⟨w22.heap.size, 0, none⟩ = some (.bool true) ∧ w'.cell? ⟨w22.heap.size, 1, none⟩ = some (.slice A li c))
      (first | exact HK38.out _ E38_1.out | exact HK38.out _ E38_0.out | exact HK38.out _ (Ext.refl W35).drew | exact HK38.out _ (Ext.refl W35))
      (first
        | ((go_at_call 23
            have hc := ref04Items_self S1 A (listT l k) it s1 li d1 c _ (by rw [HLF.out]; exact sameI_self _) P1_38_0.out (IT_36.out.ext E38_0.out)
            with_reducible refine hc.mono ?_
            clear hc
            rintro e v38_1 ⟨rfl, hx⟩
            have E38_1 := Lib.hid (E38_0.out.trans hx)
            have P1_38_1 := Lib.hid (P1_38_0.out.ext hx)
            clear hx))
        | ((go_at_call 24
            with_reducible refine (G38_0.out _ ?_).mono ?_
            (first | exact Ext.refl _ | exact (Ext.refl _).drew)
            rintro e v38_0 ⟨S1, s1, d1, rfl, h1, hx⟩
            have E38_0 := Lib.hid (show Ext W35 v38_0 from by first | exact hx | exact (Ext.refl W35).drew.trans hx)
            have P1_38_0 := Lib.hid h1
            clear hx h1)))
    clear qh0 qh1 zh qn0 qn1 zn
    go_wp2
    go_ret
    exact ⟨rfl, X_36.out.trans E38_1.out⟩
end Go.Proofs.Ythlencnlgnbpaaa

