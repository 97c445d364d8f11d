/- The walk of TreeNodes. -/
import Derived.Test.YthlencnlgnbpaaaTreeB
import Derived.Test.YthlencnlgnbpaaaTreeU
import Derived.Deep.AppendLies
import Derived.Deep.RegionHeld3
import Derived.Deep.DeepCutAuto
import Derived.Deep.DrawnRows
import Derived.RegionTactic
import Derived.Deep.QuietTactic
import Derived.BigQuiet
import Derived.OneCell
namespace Go.Proofs.Ythlencnlgnbpaaa
open Go.RowKit
attribute [local go_sem ↓] Go.wp_at_zero Go.wp_at_succ

attribute [local go_sem] beq_self_eq_true bne_self_eq_false
theorem infoBool : (Try.prog.info? 4).map (fun i => (i.zero, i.size, i.bytes)) = some (some (.bool false), 1, 1) := by kernel_rfl
/-- Which of n cells are among these. -/
def seenV (n : Nat) (L : List Int) : List Value := (List.range n).map (fun (j : Nat) => Value.bool (decide ((j : Int) ∈ L)))
theorem seen_nil (n : Nat) : seenV n [] = List.replicate n (.bool false) := by
  unfold seenV
  apply List.ext_getElem
  · simp
  · intro i h1 h2; simp
theorem seen_at {n : Nat} {L : List Int} {j : Nat} (hj : j < n) {b : Bool} (hb : decide ((j : Int) ∈ L) = b) : (seenV n L)[j]? = some (.bool b) := by
  unfold seenV
  rw [List.getElem?_map, List.getElem?_range hj]
  simp only [Option.map_some, hb]
theorem seen_set {n : Nat} {L : List Int} {j : Nat} : (seenV n L).set j (.bool true) = seenV n (L ++ [(j : Int)]) := by
  unfold seenV
  apply List.ext_getElem
  · simp
  · intro i h1 h2
    rw [List.getElem_set]
    simp only [List.getElem_map, List.getElem_range]
    split
    · rename_i h; subst h; simp
    · rename_i h
      have h3 : ¬ (i : Int) = (j : Int) := by omega
      congr 1
      rw [Bool.eq_iff_iff, decide_eq_true_eq, decide_eq_true_eq, List.mem_append, List.mem_singleton]
      simp [h3]
theorem fresh {L : List Int} (h : L.Nodup) {k : Nat} (hk : k < L.length) : decide (L[k] ∈ L.take k) = false := by
  apply decide_eq_false
  intro hm
  obtain ⟨i, hi, he⟩ := List.mem_iff_getElem.1 hm
  rw [List.length_take] at hi
  rw [List.getElem_take] at he
  have h1 := List.pairwise_iff_getElem.1 (List.nodup_iff_pairwise_ne.1 h) i k (by omega) hk (by omega)
  exact h1 he
theorem treeRight_yes (R : Option Addr) (l : List HC) (n q : Nat) (keep p : Int) (w : World) (hl : AllR l) (hn : l.length ≤ 2000) (hr : rightR ⟨l, keep⟩ p = true) (hA : HcSl w R n q l) :
    Calls Try.prog 12 #[.agg #[.slice R n q, .int .i64 keep], .int .i64 p] w fun e w' => e = .returned (.bool true) ∧ Ext w w' := by
  have h := treeRight_any R l n q keep p w hl hn hA
  rw [hr] at h
  exact h
theorem treeScan_whole (R : Option Addr) (l : List HC) (n q : Nat) (keep keep' p : Int) (w : World) (hl : AllR l) (hn : l.length ≤ 2000) (hr : rightR ⟨l, keep'⟩ p = true) (hA : HcSl w R n q l) :
    Calls Try.prog 24 #[.agg #[.slice R n q, .int .i64 keep], .int .i64 p, .int .i64 0, .int .i64 2147483648] w fun e w' => ∃ S s d, e = .returned (.slice S s d) ∧ Is w' S s d (listT l p) ∧ Ext w w' := by
  have h := treeScan_is R l n q keep keep' p 0 2147483648 w hl hn hr hA
  rw [scan_whole hl hr] at h
  exact h
theorem seen_other {w : World} {B e s n : Nat} {v : Value} {xs : List Value} (h : w.ownsRow B e s v n xs) {g m d : Nat} (hg : g < B) : (Value.slice (some ⟨g, 0, none⟩) m d).ownBlock ≠ v.ownBlock := by
  intro he
  have h1 := (h.lt g he.symm).1
  omega
theorem none_tree {l : List HC} {root : Int} (h : root < 0) : nodesT l root = [] ∧ highT l root = 0 ∧ scanT l root 0 2147483647 = [] := by
  unfold nodesT highT scanT listT
  rw [if_pos h, if_pos h, if_pos h]
  exact ⟨rfl, rfl, rfl⟩
set_option maxRecDepth 100000 in
set_option maxHeartbeats 4000000 in
theorem nodes_any (R : Option Addr) (l : List HC) (n q : Nat) (keep root : Int) (w : World) (hA : HcSl w R n q l) :
    Calls Try.prog 6 #[.agg #[.slice R n q, .int .i64 keep], .int .i64 root] w fun e w' => e = .returned (.bool true) ∧ Ext w w' := by
  have A_1 := Lib.hid (hA)
  have X_2 := Lib.hid (Ext.refl w)
  clear hA
  cases hr : mayR ⟨l, keep⟩ root 60
  · have Hr := Lib.hid hr
    clear hr
    go_enter Try.func6, Try.ntmps6
    go_wp2_with (go_at_call 9; refine stop_here ?_)
    refine stop_on ?_
    generalize hW : (World.alloc w _) = W3
    obtain ⟨hx, hb0⟩ := allocs1 hW
    clear hW
    have A_4 := Lib.hid (A_1.out.ext hx)
    have X_4 := Lib.hid (X_2.out.ext hx)
    clear A_1 X_2
    have h_5 := Lib.hid hb0
    clear hx hb0
    refine (shown_any _).mono ?_
    rintro e w6 ⟨rfl, hx⟩
    have A_7 := Lib.hid (A_4.out.ext hx)
    have X_7 := Lib.hid (X_4.out.ext hx)
    have h_7 := Lib.hid (h_5.out.ext hx)
    clear A_4 X_4 h_5
    clear hx
    have qh0 : w6.cell? ⟨w.heap.size, 0, none⟩ = some (.slice R n q) := h_7.out.at 0 _ rfl
    have qh1 : w6.cell? ⟨w.heap.size, 1, none⟩ = some (.int .i64 keep) := h_7.out.at 1 _ rfl
    have zh := h_7.out.lt
    go_wp2_with (go_at_call 20; refine stop_here ?_)
    refine stop_on ?_
    clear qh0 qh1 zh
    refine (ref07May_is R l n q keep root 60 _ A_7.out Hr.out).mono ?_
    rintro e w8 ⟨rfl, hx⟩
    have A_9 := Lib.hid (A_7.out.ext hx)
    have X_9 := Lib.hid (X_7.out.ext hx)
    have h_9 := Lib.hid (h_7.out.ext hx)
    clear A_7 X_7 h_7
    clear hx
    have qh0 : w8.cell? ⟨w.heap.size, 0, none⟩ = some (.slice R n q) := h_9.out.at 0 _ rfl
    have qh1 : w8.cell? ⟨w.heap.size, 1, none⟩ = some (.int .i64 keep) := h_9.out.at 1 _ rfl
    have zh := h_9.out.lt
    go_wp2
    go_ret
    exact ⟨rfl, X_9.out⟩
  have Hr := Lib.hid hr
  obtain ⟨hl, hn, hrr⟩ := mayR_all hr
  have HL := Lib.hid hl
  have HN := Lib.hid hn
  have HRR := Lib.hid hrr
  rcases Int.lt_or_le root 0 with h0 | h0
  · have t0 : decide (root < 0) = true := decide_eq_true h0
    obtain ⟨z1, z2, z3⟩ := none_tree (l := l) h0
    have Z1 := Lib.hid z1
    have Z2 := Lib.hid z2
    have Z3 := Lib.hid z3
    clear hr hl hn hrr z1 z2 z3 h0
    go_enter Try.func6, Try.ntmps6
    go_wp2_with (go_at_call 9; refine stop_here ?_)
    refine stop_on ?_
    generalize hW : (World.alloc w _) = W10
    obtain ⟨hx, hb0⟩ := allocs1 hW
    clear hW
    have A_11 := Lib.hid (A_1.out.ext hx)
    have X_11 := Lib.hid (X_2.out.ext hx)
    clear A_1 X_2
    have h_12 := Lib.hid hb0
    clear hx hb0
    refine (shown_any _).mono ?_
    rintro e w13 ⟨rfl, hx⟩
    have A_14 := Lib.hid (A_11.out.ext hx)
    have X_14 := Lib.hid (X_11.out.ext hx)
    have h_14 := Lib.hid (h_12.out.ext hx)
    clear A_11 X_11 h_12
    clear hx
    have qh0 : w13.cell? ⟨w.heap.size, 0, none⟩ = some (.slice R n q) := h_14.out.at 0 _ rfl
    have qh1 : w13.cell? ⟨w.heap.size, 1, none⟩ = some (.int .i64 keep) := h_14.out.at 1 _ rfl
    have zh := h_14.out.lt
    go_wp2_with (go_at_call 20; refine stop_here ?_)
    refine stop_on ?_
    clear qh0 qh1 zh
    refine (ref07May_is R l n q keep root 60 _ A_14.out Hr.out).mono ?_
    rintro e w15 ⟨rfl, hx⟩
    have A_16 := Lib.hid (A_14.out.ext hx)
    have X_16 := Lib.hid (X_14.out.ext hx)
    have h_16 := Lib.hid (h_14.out.ext hx)
    clear A_14 X_14 h_14
    clear hx
    have qh0 : w15.cell? ⟨w.heap.size, 0, none⟩ = some (.slice R n q) := h_16.out.at 0 _ rfl
    have qh1 : w15.cell? ⟨w.heap.size, 1, none⟩ = some (.int .i64 keep) := h_16.out.at 1 _ rfl
    have zh := h_16.out.lt
    go_wp2_with (go_at_call 18; refine stop_here ?_)
    refine stop_on ?_
    clear qh0 qh1 zh
    have hc := treeNodes_is R l n q keep keep root _ HL.out HN.out HRR.out A_16.out
    rw [Z1.out] at hc
    refine hc.mono ?_
    clear hc
    rintro e w17 ⟨S1, s1, d1, rfl, h1, hx⟩
    have A_18 := Lib.hid (A_16.out.ext hx)
    have X_18 := Lib.hid (X_16.out.ext hx)
    have h_18 := Lib.hid (h_16.out.ext hx)
    clear A_16 X_16 h_16
    have P_19 := Lib.hid h1
    clear hx h1
    have qh0 : w17.cell? ⟨w.heap.size, 0, none⟩ = some (.slice R n q) := h_18.out.at 0 _ rfl
    have qh1 : w17.cell? ⟨w.heap.size, 1, none⟩ = some (.int .i64 keep) := h_18.out.at 1 _ rfl
    have zh := h_18.out.lt
    obtain rfl : s1 = 0 := (P_19.out).1
    go_wp2_with (go_at_call 15; refine stop_here ?_)
    refine stop_on ?_
    clear qh0 qh1 zh
    have hc := treeHigh_any R l n q keep keep root _ HL.out HN.out HRR.out A_18.out
    rw [Z2.out] at hc
    refine hc.mono ?_
    clear hc
    rintro e w20 ⟨rfl, hx⟩
    have A_21 := Lib.hid (A_18.out.ext hx)
    have X_21 := Lib.hid (X_18.out.ext hx)
    have h_21 := Lib.hid (h_18.out.ext hx)
    have P_21 := Lib.hid (P_19.out.ext hx)
    clear A_18 X_18 h_18 P_19
    clear hx
    have qh0 : w20.cell? ⟨w.heap.size, 0, none⟩ = some (.slice R n q) := h_21.out.at 0 _ rfl
    have qh1 : w20.cell? ⟨w.heap.size, 1, none⟩ = some (.int .i64 keep) := h_21.out.at 1 _ rfl
    have zh := h_21.out.lt
    go_wp2_with (go_at_call 24; refine stop_here ?_)
    refine stop_on ?_
    clear qh0 qh1 zh
    have hc := treeScan_is R l n q keep keep root 0 2147483647 _ HL.out HN.out HRR.out A_21.out
    rw [Z3.out] at hc
    refine hc.mono ?_
    clear hc
    rintro e w22 ⟨S2, s2, d2, rfl, h2, hx⟩
    have A_23 := Lib.hid (A_21.out.ext hx)
    have X_23 := Lib.hid (X_21.out.ext hx)
    have h_23 := Lib.hid (h_21.out.ext hx)
    have P_23 := Lib.hid (P_21.out.ext hx)
    clear A_21 X_21 h_21 P_21
    have Q_24 := Lib.hid h2
    clear hx h2
    have qh0 : w22.cell? ⟨w.heap.size, 0, none⟩ = some (.slice R n q) := h_23.out.at 0 _ rfl
    have qh1 : w22.cell? ⟨w.heap.size, 1, none⟩ = some (.int .i64 keep) := h_23.out.at 1 _ rfl
    have zh := h_23.out.lt
    obtain rfl : s2 = 0 := (Q_24.out).1
    go_wp2
    go_ret
    exact ⟨rfl, X_23.out⟩
  obtain ⟨kr, hkr, hrf⟩ := root_facts hl hrr h0
  have hat := hrf.at_
  subst hat
  have RF := Lib.hid hrf
  obtain ⟨L, hL⟩ : ∃ L, nodesT l (kr : Int) = L := ⟨_, rfl⟩
  have NF := Lib.hid (nodes_facts hl hrr h0 hL)
  have HLN := Lib.hid hL
  have HLL := Lib.hid (listT_len hl hrr)
  clear hr hl hn hrr hrf h0 hL
  go_enter Try.func6, Try.ntmps6
  go_wp2_with (go_at_call 9; refine stop_here ?_)
  refine stop_on ?_
  generalize hW : (World.alloc w _) = W25
  obtain ⟨hx, hb0⟩ := allocs1 hW
  clear hW
  have A_26 := Lib.hid (A_1.out.ext hx)
  have X_26 := Lib.hid (X_2.out.ext hx)
  clear A_1 X_2
  have h_27 := Lib.hid hb0
  clear hx hb0
  refine (shown_any _).mono ?_
  rintro e w28 ⟨rfl, hx⟩
  have A_29 := Lib.hid (A_26.out.ext hx)
  have X_29 := Lib.hid (X_26.out.ext hx)
  have h_29 := Lib.hid (h_27.out.ext hx)
  clear A_26 X_26 h_27
  clear hx
  have qh0 : w28.cell? ⟨w.heap.size, 0, none⟩ = some (.slice R n q) := h_29.out.at 0 _ rfl
  have qh1 : w28.cell? ⟨w.heap.size, 1, none⟩ = some (.int .i64 keep) := h_29.out.at 1 _ rfl
  have zh := h_29.out.lt
  go_wp2_with (go_at_call 20; refine stop_here ?_)
  refine stop_on ?_
  clear qh0 qh1 zh
  refine (ref07May_is R l n q keep (kr : Int) 60 _ A_29.out Hr.out).mono ?_
  rintro e w30 ⟨rfl, hx⟩
  have A_31 := Lib.hid (A_29.out.ext hx)
  have X_31 := Lib.hid (X_29.out.ext hx)
  have h_31 := Lib.hid (h_29.out.ext hx)
  clear A_29 X_29 h_29
  clear hx
  have qh0 : w30.cell? ⟨w.heap.size, 0, none⟩ = some (.slice R n q) := h_31.out.at 0 _ rfl
  have qh1 : w30.cell? ⟨w.heap.size, 1, none⟩ = some (.int .i64 keep) := h_31.out.at 1 _ rfl
  have zh := h_31.out.lt
  have HNL := Lib.hid (A_31.out).1
  have hnb : n ≤ 2000 := by have h1 := HNL.out; have h2 := HN.out; omega
  go_wp2_with (go_at_call 18; refine stop_here ?_)
  refine stop_on ?_
  clear qh0 qh1 zh
  have hc := treeNodes_is R l n q keep keep kr _ HL.out HN.out HRR.out A_31.out
  rw [HLN.out] at hc
  refine hc.mono ?_
  clear hc
  rintro e w32 ⟨S1, s1, d1, rfl, h1, hx⟩
  have A_33 := Lib.hid (A_31.out.ext hx)
  have X_33 := Lib.hid (X_31.out.ext hx)
  have h_33 := Lib.hid (h_31.out.ext hx)
  clear A_31 X_31 h_31
  have P_34 := Lib.hid h1
  clear hx h1
  have qh0 : w32.cell? ⟨w.heap.size, 0, none⟩ = some (.slice R n q) := h_33.out.at 0 _ rfl
  have qh1 : w32.cell? ⟨w.heap.size, 1, none⟩ = some (.int .i64 keep) := h_33.out.at 1 _ rfl
  have zh := h_33.out.lt
  have hs1 : s1 ≤ 4398046511104 := by have h1 := (P_34.out).1; have h2 := NF.out.len; omega
  obtain ⟨i0, hi, hz0, hz1, hz2⟩ := info_parts infoBool
  go_wp2_with (at_make; refine wpList_make_full _ rfl _ _ 51 rfl w32.heap.size 4 i0 (.bool false) 1 Try.underlying51 hi hz0 hz1 _ _ _ _ n rfl rfl rfl rfl (by rw [hz2]; omega) (by unfold maxLen; omega) (Nat.le_refl _) ?_; intro w1 hown hgrow)
  have ec : (madeCells (Value.bool false).cells (n * 1)).toList = seenV n [] := by rw [Nat.mul_one, seen_nil]; exact toList_madeCells_one _ _
  rw [ec] at hown
  have E1 := Lib.hid (show Ext w32 w1 from Below.grown (Ext.refl w32) hgrow (Ext.refl w32).size (fun q hq => by cases hq))
  clear qh0 qh1 zh
  have HG1 := Lib.hid (show w32.heap.size < w1.heap.size from (hown.lt _ rfl).2)
  have HS0 := Lib.hid (own_ext hown ((Ext.refl w1).alloc (.cells #[] 49)))
  have HI0 := Lib.hid (own_empty w1 49 2)
  have HX0 := Lib.hid (show Ext w32 (w1.alloc (.cells #[] 49)) from E1.out.alloc _)
  clear hown hgrow ec hi hz0 hz1 hz2
  go_loopw [8, 9] (fun v i wr => ∃ k : Nat, k ≤ s1 ∧ i = .int .i64 k ∧ ∃ Z z c2, v = .slice Z z c2 ∧ wr.ownsRow w1.heap.size 49 2 (.slice Z z c2) z (ivs ((L.take k).flatMap (leafI l))) ∧ wr.ownsRow w32.heap.size 4 1 (.slice (some ⟨w32.heap.size, 0, none⟩) n n) n (seenV n (L.take k)) ∧ Ext w32 wr ∧ w1.heap.size ≤ wr.heap.size) (fun _ i _ => s1 - (intOf i).toNat)
  case atStart => exact ⟨0, Nat.zero_le _, rfl, _, _, _, rfl, HI0.out, HS0.out, HX0.out, by rw [World.size_alloc]; omega⟩
  case round =>
    obtain ⟨k, hk, rfl, Z, z, c2, rfl, ho, hs, hx0, hsz⟩ := hrel
    have HA0 := A_33
    have HP0 := P_34
    have HH0 := h_33
    have A_35 := Lib.hid (A_33.out.ext hx0)
    have X_35 := Lib.hid (X_33.out.ext hx0)
    have h_35 := Lib.hid (h_33.out.ext hx0)
    have P_35 := Lib.hid (P_34.out.ext hx0)
    clear A_33 X_33 h_33 P_34
    have HO := Lib.hid ho
    have HS := Lib.hid hs
    have HXR := Lib.hid hx0
    have HSZ := Lib.hid hsz
    clear ho hs hx0 hsz
    rcases Nat.lt_or_ge k s1 with hlt | hlt
    · have hkl : k < L.length := by rw [← (P_35.out).1]; exact hlt
      obtain ⟨j, hj, hLj, hrf⟩ := NF.out.used k hkl
      have HFR := Lib.hid (fresh NF.out.once hkl)
      have HTK := Lib.hid (show L.take (k + 1) = L.take k ++ [(j : Int)] from by rw [List.take_succ_eq_append_getElem hkl, hLj])
      rw [hLj] at HFR
      have HFT := Lib.hid (show (L.take (k + 1)).flatMap (leafI l) = (L.take k).flatMap (leafI l) ++ leafI l (j : Int) from by rw [flatMap_take (leafI l) L hkl, hLj])
      have HFL := Lib.hid (flatMap_take_le (leafI l) L (k + 1))
      obtain ⟨b1, o1, rfl, hb1, hc1⟩ := (HP0.out).2.cells.num hkl
      have c1 := hc1 k hkl
      rw [hLj] at c1
      clear hc1
      obtain ⟨b, off, rfl, hbl, A, c, r0, r1, r2, r3, hI⟩ := (HA0.out).cell hj
      have HI := Lib.hid hI
      clear hI r1
      have hjn : (j : Int) < (n : Int) := by have := HNL.out; omega
      have hjn2 : j < n := by have := HNL.out; omega
      have hki : (k : Int) < (s1 : Int) := by omega
      obtain ⟨rf, hrfe⟩ : ∃ rf, l[j].ref = rf := ⟨_, rfl⟩
      obtain ⟨lf, hlf⟩ : ∃ lf, l[j].leaf = lf := ⟨_, rfl⟩
      obtain ⟨it, hit⟩ : ∃ it, l[j].it = it := ⟨_, rfl⟩
      obtain ⟨m, hm⟩ : ∃ m, it.length = m := ⟨_, rfl⟩
      rw [hrfe] at r0 hrf
      rw [hlf] at r2
      rw [hit, hm] at r3
      simp only [hit, hm] at HI
      have HLI := Lib.hid (show leafI l (j : Int) = if lf then it else [] from by unfold leafI; rw [cellT_at hj, hlf, hit])
      have HM := Lib.hid hm
      clear hrfe hlf hit hm
      have HC := Lib.hid (fun w' (hx : Ext w32 w') => show w'.cell? ⟨b1, o1 + k, none⟩ = some (.int .i64 j) ∧ w'.cell? ⟨b, off + j * 4, none⟩ = some (.int .i64 rf) ∧ w'.cell? ⟨b, off + j * 4 + 2, none⟩ = some (.bool lf) ∧ w'.cell? ⟨b, off + j * 4 + 3, none⟩ = some (.slice A m c) from ⟨(hx.cell (p := ⟨b1, o1 + k, none⟩) hb1).trans c1, (hx.cell (p := ⟨b, off + j * 4, none⟩) hbl).trans r0, (hx.cell (p := ⟨b, off + j * 4 + 2, none⟩) hbl).trans r2, (hx.cell (p := ⟨b, off + j * 4 + 3, none⟩) hbl).trans r3⟩)
      have HRH := Lib.hid (fun w' (hx : Ext w32 w') => (HH0.out.ext hx).read2)
      clear r0 r2 r3 c1
      obtain ⟨x0, x1, x2, x3⟩ := HC.out _ HXR.out
      obtain ⟨p0, p1, p2⟩ := HRH.out _ HXR.out
      have sc : wr.cell? ⟨w32.heap.size, j, none⟩ = some (.bool false) := by rw [HS.out.cellAt j (by omega)]; exact seen_at hjn2 HFR.out
      have sf := HS.out.frozenAt j
      have t1 : decide ((n : Int) ≤ (j : Int)) = false := decide_eq_false (by omega)
      have t2 : (rf == 0) = false := by rw [beq_eq_false_iff_ne]; omega
      have t3 : decide ((j : Int) < 0) = false := decide_eq_false (by omega)
      have hjp : (0 : Int) ≤ (j : Int) := by omega
      go_wp2_with fail
      go_quiet (fail)
      have HS2 := Lib.hid (show ((wr.drewN nq).setCell ⟨w32.heap.size, j, none⟩ (.bool true)).ownsRow w32.heap.size 4 1 (.slice (some ⟨w32.heap.size, 0, none⟩) n n) n (seenV n (L.take (k + 1))) from by have h := ((own_ext HS.out ((Ext.refl wr).drewN nq)).stored j (.bool true)).1; rw [seen_set, ← HTK.out] at h; exact h)
      have HO2 := Lib.hid (ownsRow_setCell_other (own_ext HO.out ((Ext.refl wr).drewN nq)) (a := ⟨w32.heap.size, j, none⟩) (by intro h; have h1 := (HO.out.lt _ h).1; have h2 := HG1.out; simp only at h1; omega) (.bool true))
      have HX2 := Lib.hid (show Ext w32 ((wr.drewN nq).setCell ⟨w32.heap.size, j, none⟩ (.bool true)) from (HXR.out.drewN nq).set (p := ⟨w32.heap.size, j, none⟩) (Nat.le_refl _) _)
      clear x0 x1 x2 x3 p0 p1 p2
      obtain ⟨x0, x1, x2, x3⟩ := HC.out _ (HXR.out.drewN nq)
      obtain ⟨p0, p1, p2⟩ := HRH.out _ (HXR.out.drewN nq)
      go_wp2_with fail
      have HSZ2 := Lib.hid (show w1.heap.size ≤ ((wr.drewN nq).setCell ⟨w32.heap.size, j, none⟩ (.bool true)).heap.size from by rw [World.size_setCell]; exact HSZ.out)
      generalize World.setCell (World.drewN wr nq) _ _ = w2 at *
      clear x0 x1 x2 x3 p0 p1 p2 sc sf
      obtain ⟨x0, x1, x2, x3⟩ := HC.out _ HX2.out
      obtain ⟨p0, p1, p2⟩ := HRH.out _ HX2.out
      cases lf
      · have HE := Lib.hid (show (L.take (k + 1)).flatMap (leafI l) = (L.take k).flatMap (leafI l) from by rw [HFT.out, HLI.out]; simp)
        go_quiet (fail)
        go_wp2_with fail
        go_roundw
        case rel => exact ⟨k + 1, by omega, by go_num, Z, z, c2, rfl, by rw [HE.out]; exact own_ext HO2.out ((Ext.refl w2).drewN _), own_ext HS2.out ((Ext.refl w2).drewN _), HX2.out.drewN _, HSZ2.out⟩
        case measure => simp [intOf]; omega
      · have HE := Lib.hid (show (L.take (k + 1)).flatMap (leafI l) = (L.take k).flatMap (leafI l) ++ it from by rw [HFT.out, HLI.out]; simp)
        have HZ := Lib.hid (show z + m ≤ 1099511627776 from by
          have h1 := HO.out.1
          rw [ivs_length] at h1
          have h2 := HFL.out
          rw [HE.out, List.length_append, HM.out, NF.out.all] at h2
          have h4 := HLL.out
          omega)
        go_quiet (fail)
        have HX3 := Lib.hid (HX2.out.drewN nq)
        have HSZ3 := Lib.hid (show w1.heap.size ≤ (w2.drewN nq).heap.size from HSZ2.out)
        have HO3 := Lib.hid (own_ext HO2.out ((Ext.refl w2).drewN nq))
        have HS3 := Lib.hid (own_ext HS2.out ((Ext.refl w2).drewN nq))
        clear x0 x1 x2 x3 p0 p1 p2
        generalize World.drewN w2 nq = w3 at *
        obtain ⟨x0, x1, x2, x3⟩ := HC.out _ HX3.out
        obtain ⟨p0, p1, p2⟩ := HRH.out _ HX3.out
        go_wp2_with fail
        go_region_law
          ((refine step_app_sl ?_ ?_ ?_ 43 ?_ w1.heap.size 49 (.agg #[.int .i64 0, .int .i64 0]) 2 16 Try.underlying43 infoIt rfl Nat.two_pos ?_ z (ivs ((L.take k).flatMap (leafI l))) ?_ ?_ A m c (ivs it) ?_ (by rw [ivs_length, HM.out]) (HI.out.ext HX3.out.drew) (ivs_oneCell _) ?_ ?_ ?_ ?_
            rfl
            rotate_left 2
            rfl
            rotate_left 1
            rfl
            (exact own_ext HO3.out (Ext.refl w3).drew)
            rfl
            (have h1 := HZ.out; unfold maxLen; omega)
            (have h1 := HZ.out; omega)
            (exact HSZ3.out)
            intro A5 d5 w5 hown hg
            have hg2 : w3.drew.grownBy w5 (Value.slice Z z c2).ownBlock := hg
            have HX5 := Lib.hid (Ext.app HX3.out.drew (own_ext HO3.out (Ext.refl w3).drew) (Nat.le_of_lt HG1.out) hg2)
            have HS5 := Lib.hid (World.ownsRow.kept (own_ext HS3.out (Ext.refl w3).drew) hg2 (.inr (seen_other HO3.out HG1.out)))
            have HSZ5 := Lib.hid (show w1.heap.size ≤ w5.heap.size from Nat.le_trans HSZ3.out hg2.size)
            rw [← ivs_append, ← HE.out] at hown
            have HO5 := Lib.hid hown
            clear hown hg hg2))
        all_goals
          go_wp2_with fail
          go_roundw
          case rel => exact ⟨k + 1, by omega, by go_num, A5, z + m, d5, rfl, HO5.out, HS5.out, HX5.out, HSZ5.out⟩
          case measure => simp [intOf]; omega
    · obtain rfl : s1 = k := by omega
      have hE : L.take s1 = L := by rw [(P_35.out).1, List.take_length]
      rw [hE] at HO HS
      rw [NF.out.all] at HO
      clear hE hk hlt HA0 HP0 HH0
      have HIS := Lib.hid (show Is wr Z z c2 (listT l kr) from ⟨by have h1 := HO.out.1; rw [ivs_length] at h1; omega, own_sl HO.out⟩)
      obtain ⟨hr, hhr⟩ : ∃ x, highT l (kr : Int) = x := ⟨_, rfl⟩
      have HHR := Lib.hid hhr
      have hb := NF.out.high
      rw [hhr] at hb
      have g1 : decide ((1 : Int) ≤ hr) = true := decide_eq_true hb.1
      have g2 : decide (hr ≤ 20) = true := decide_eq_true hb.2
      clear hhr
      obtain ⟨hlp, hh0⟩ := NF.out.head
      have hl0 := hh0 hlp
      have hsp : (0 : Int) < (s1 : Int) := by have := (P_35.out).1; omega
      obtain ⟨b1, o1, hS1, hb1, hc1⟩ := (P_35.out).2.cells.num hlp
      have c1 := hc1 0 hlp
      rw [hl0, Nat.add_zero] at c1
      subst hS1
      clear hc1 hh0 hl0
      have HC1 := Lib.hid (fun w' (hx : Ext wr w') => show w'.cell? ⟨b1, o1, none⟩ = some (.int .i64 kr) from (hx.cell (p := ⟨b1, o1, none⟩) hb1).trans c1)
      clear c1
      have HBS := Lib.hid (show ∀ (j : Nat), (j : Int) ∈ L → j < n → wr.cell? ⟨w32.heap.size, j, none⟩ = some (.bool true) from fun j hj hjn => by rw [HS.out.cellAt j (by omega)]; exact seen_at hjn (decide_eq_true hj))
      have hg9 : w32.heap.size < wr.heap.size := by have h1 := HG1.out; have h2 := HSZ.out; omega
      obtain ⟨b, off, rfl, hbl, A, c, r0, r1, r2, r3, hI⟩ := (A_35.out).cell hkr
      have hkn : (kr : Int) < (n : Int) := by have := HNL.out; omega
      obtain ⟨it, hit⟩ : ∃ it, l[kr].it = it := ⟨_, rfl⟩
      obtain ⟨li, hli⟩ : ∃ li, it.length = li := ⟨_, rfl⟩
      rw [hit] at r3 hI
      rw [hli] at r3 hI
      have IT_36 := Lib.hid ((show Is wr A li c it from ⟨hli.symm, hI⟩))
      have HLI := Lib.hid hli
      have hli4 : 1 ≤ li ∧ li ≤ 4 := by have h1 := RF.out.nd.1; rw [hit, hli] at h1; exact h1
      have HKD := Lib.hid (NF.out.kids)
      rw [cellT_at hkr, hit] at HKD
      have HIN := Lib.hid (RF.out.inner)
      rw [hit] at HIN
      clear hI hli hit r0 r1
      obtain ⟨lf, hlf⟩ : ∃ lf, l[kr].leaf = lf := ⟨_, rfl⟩
      rw [hlf] at r2 HKD HIN
      clear hlf
      have qh0 : wr.cell? ⟨w.heap.size, 0, none⟩ = some (.slice (some ⟨b, off, none⟩) n q) := h_35.out.at 0 _ rfl
      have qh1 : wr.cell? ⟨w.heap.size, 1, none⟩ = some (.int .i64 keep) := h_35.out.at 1 _ rfl
      have zh := h_35.out.lt
      have hw20 : IntKind.i64.wrap (hr - 1) = hr - 1 := by rw [IntKind.wrap_i64]; omega
      cases lf
      · go_wp2_with fail
        clear r2 r3 hbl
        clear qh0 qh1 zh
        generalize hW : (World.alloc wr _) = WN
        obtain ⟨hx, hb0⟩ := allocs1 hW
        clear hW
        have A_37 := Lib.hid (A_35.out.ext hx)
        have X_37 := Lib.hid (X_35.out.ext hx)
        have h_37 := Lib.hid (h_35.out.ext hx)
        have P_37 := Lib.hid (P_35.out.ext hx)
        have IS_37 := Lib.hid (HIS.out.ext hx)
        have IT_37 := Lib.hid (IT_36.out.ext hx)
        clear A_35 X_35 h_35 P_35 HIS IT_36
        have n_38 := Lib.hid (hb0)
        have HXN := Lib.hid hx
        clear hx hb0
        obtain ⟨nb, hnb⟩ : ∃ x, wr.heap.size = x := ⟨_, rfl⟩
        rw [hnb] at n_38 ⊢
        clear hnb
        have qh0 : WN.cell? ⟨w.heap.size, 0, none⟩ = some (.slice (some ⟨b, off, none⟩) n q) := h_37.out.at 0 _ rfl
        have qh1 : WN.cell? ⟨w.heap.size, 1, none⟩ = some (.int .i64 keep) := h_37.out.at 1 _ rfl
        have zh := h_37.out.lt
        have qn0 : WN.cell? ⟨nb, 0, none⟩ = some (.bool false) := n_38.out.at 0 _ rfl
        have qn1 : WN.cell? ⟨nb, 1, none⟩ = some (.slice A li c) := n_38.out.at 1 _ rfl
        have zn := n_38.out.lt
        go_loopw [11] (fun i wx => ∃ j : Nat, j ≤ li ∧ i = .int .i64 j ∧ Ext WN wx) (fun i _ => li - (intOf i).toNat)
        case atStart => exact ⟨0, Nat.zero_le _, rfl, Ext.refl _⟩
        case round =>
          obtain ⟨j, hj, rfl, hx0⟩ := hrel
          clear qh0 qh1 zh qn0 qn1 zn
          have A_39 := Lib.hid (A_37.out.ext hx0)
          have X_39 := Lib.hid (X_37.out.ext hx0)
          have h_39 := Lib.hid (h_37.out.ext hx0)
          have P_39 := Lib.hid (P_37.out.ext hx0)
          have IS_39 := Lib.hid (IS_37.out.ext hx0)
          have IT_39 := Lib.hid (IT_37.out.ext hx0)
          have n_39 := Lib.hid (n_38.out.ext hx0)
          clear A_37 X_37 h_37 P_37 IS_37 IT_37 n_38
          have HXM := Lib.hid (HXN.out.trans hx0)
          have HX7 := Lib.hid hx0
          clear hx0
          have qh0 : wr.cell? ⟨w.heap.size, 0, none⟩ = some (.slice (some ⟨b, off, none⟩) n q) := h_39.out.at 0 _ rfl
          have qh1 : wr.cell? ⟨w.heap.size, 1, none⟩ = some (.int .i64 keep) := h_39.out.at 1 _ rfl
          have zh := h_39.out.lt
          have qn0 : wr.cell? ⟨nb, 0, none⟩ = some (.bool false) := n_39.out.at 0 _ rfl
          have qn1 : wr.cell? ⟨nb, 1, none⟩ = some (.slice A li c) := n_39.out.at 1 _ rfl
          have zn := n_39.out.lt
          rcases Nat.lt_or_ge j li with hlt | hlt
          · have hjl : j < it.length := by rw [HLI.out]; exact hlt
            obtain ⟨v1, v2, v3, v4, _⟩ := (HIN.out (by first | rfl | trivial)).2 it[j] (List.getElem_mem hjl)
            have hk9 := HKD.out it[j] (List.getElem_mem hjl) (by first | rfl | trivial)
            obtain ⟨ba, oa, rfl, hba, c0, cv⟩ := it_at (IT_39.out).2 hjl
            obtain ⟨vj, hvj⟩ := Int.eq_ofNat_of_zero_le v2
            rw [hvj] at v1 v3 v4 hk9 cv
            have hvn : vj < n := by have := HNL.out; omega
            have hvi : (vj : Int) < (n : Int) := by omega
            have HV1 := Lib.hid v1
            have HV4 := Lib.hid v4
            rw [HHR.out] at HV4
            have hji : (j : Int) < (li : Int) := by omega
            have HCV := Lib.hid (fun w' (hx : Ext wr w') => show w'.cell? ⟨ba, oa + j * 2 + 1, none⟩ = some (.int .i64 vj) ∧ w'.cell? ⟨w32.heap.size, vj, none⟩ = some (.bool true) from ⟨(hx.cell (p := ⟨ba, oa + j * 2 + 1, none⟩) hba).trans cv, ((HXM.out.trans hx).cell (p := ⟨w32.heap.size, vj, none⟩) hg9).trans (HBS.out vj hk9 hvn)⟩)
            obtain ⟨cv, cs⟩ := HCV.out _ (Ext.refl _)
            clear v1 v2 v3 v4 hk9 hvj c0
            clear qh0 qh1 zh qn0 qn1 zn
            have qh0 : wr.cell? ⟨w.heap.size, 0, none⟩ = some (.slice (some ⟨b, off, none⟩) n q) := h_39.out.at 0 _ rfl
            have qh1 : wr.cell? ⟨w.heap.size, 1, none⟩ = some (.int .i64 keep) := h_39.out.at 1 _ rfl
            have zh := h_39.out.lt
            have qn0 : wr.cell? ⟨nb, 0, none⟩ = some (.bool false) := n_39.out.at 0 _ rfl
            have qn1 : wr.cell? ⟨nb, 1, none⟩ = some (.slice (some ⟨ba, oa, none⟩) li c) := n_39.out.at 1 _ rfl
            have zn := n_39.out.lt
            go_wp2_with fail
            have HK40 := Lib.hid (fun w' (hx : Ext wr w') => (show w'.cell? ⟨w.heap.size, 0, none⟩ = some (.slice (some ⟨b, off, none⟩) n q) ∧ w'.cell? ⟨w.heap.size, 1, none⟩ = some (.int .i64 keep) ∧ w'.cell? ⟨nb, 0, none⟩ = some (.bool false) ∧ w'.cell? ⟨nb, 1, none⟩ = some (.slice (some ⟨ba, oa, none⟩) li c) ∧ w'.cell? ⟨ba, oa + j * 2 + 1, none⟩ = some (.int .i64 vj) ∧ w'.cell? ⟨w32.heap.size, vj, none⟩ = some (.bool true) from ⟨(h_39.out.ext hx).at 0 _ rfl, (h_39.out.ext hx).at 1 _ rfl, (n_39.out.ext hx).at 0 _ rfl, (n_39.out.ext hx).at 1 _ rfl, (HCV.out _ hx).1, (HCV.out _ hx).2⟩))
            have G40_0 := Lib.hid (fun w' (hx : Ext wr w') => treeRight_yes (some ⟨b, off, none⟩) l n q keep vj w' HL.out HN.out HV1.out (A_39.out.ext hx))
            have G40_1 := Lib.hid (fun w' (hx : Ext wr w') => by
                have h := treeHigh_any (some ⟨b, off, none⟩) l n q keep keep vj w' HL.out HN.out HV1.out (A_39.out.ext hx)
                rw [HV4.out] at h
                exact h)
            have G40_2 := Lib.hid (fun w' (hx : Ext wr w') => by
                have h := treeHigh_any (some ⟨b, off, none⟩) l n q keep keep kr w' HL.out HN.out HRR.out (A_39.out.ext hx)
                rw [HHR.out] at h
                exact h)
            clear qh0 qh1 zh qn0 qn1 zn
            have qh0 : wr.cell? ⟨w.heap.size, 0, none⟩ = some (.slice (some ⟨b, off, none⟩) n q) := h_39.out.at 0 _ rfl
            have qh1 : wr.cell? ⟨w.heap.size, 1, none⟩ = some (.int .i64 keep) := h_39.out.at 1 _ rfl
            have zh := h_39.out.lt
            have qn0 : wr.cell? ⟨nb, 0, none⟩ = some (.bool false) := n_39.out.at 0 _ rfl
            have qn1 : wr.cell? ⟨nb, 1, none⟩ = some (.slice (some ⟨ba, oa, none⟩) li c) := n_39.out.at 1 _ rfl
            have zn := n_39.out.lt
            go_region_held3 (fun w' => w'.cell? ⟨w.heap.size, 0, none⟩ = some (.slice (some ⟨b, off, none⟩) n q) ∧ w'.cell? ⟨w.heap.size, 1, none⟩ = some (.int .i64 keep) ∧ w'.cell? ⟨nb, 0, none⟩ = some (.bool false) ∧ w'.cell? ⟨nb, 1, none⟩ = some (.slice (some ⟨ba, oa, none⟩) li c) ∧ w'.cell? ⟨ba, oa + j * 2 + 1, none⟩ = some (.int .i64 vj) ∧ w'.cell? ⟨w32.heap.size, vj, none⟩ = some (.bool true))
              (first | exact HK40.out _ E40_2.out | exact HK40.out _ E40_1.out | exact HK40.out _ E40_0.out | exact HK40.out _ (Ext.refl wr).drew | exact HK40.out _ (Ext.refl wr))
              (first
                | ((go_at_call 15
                    with_reducible refine (G40_2.out _ E40_1.out).mono ?_
                    rintro e v40_2 ⟨rfl, hx⟩
                    have E40_2 := Lib.hid (E40_1.out.trans hx)
                    clear hx))
                | ((go_at_call 15
                    with_reducible refine (G40_1.out _ E40_0.out).mono ?_
                    rintro e v40_1 ⟨rfl, hx⟩
                    have E40_1 := Lib.hid (E40_0.out.trans hx)
                    clear hx))
                | ((go_at_call 12
                    with_reducible refine (G40_0.out _ ?_).mono ?_
                    (first | exact Ext.refl _ | exact (Ext.refl _).drew)
                    rintro e v40_0 ⟨rfl, hx⟩
                    have E40_0 := Lib.hid (show Ext wr v40_0 from by first | exact hx | exact (Ext.refl wr).drew.trans hx)
                    clear hx)))
            clear qh0 qh1 zh qn0 qn1 zn
            go_wp2_with fail
            go_roundw
            case rel => exact ⟨j + 1, by omega, by go_num, HX7.out.trans E40_2.out⟩
            case measure => simp [intOf]; omega
          · obtain rfl : li = j := by omega
            clear qh0 qh1 zh qn0 qn1 zn
            have c1 := HC1.out _ HXM.out
            have qh0 : wr.cell? ⟨w.heap.size, 0, none⟩ = some (.slice (some ⟨b, off, none⟩) n q) := h_39.out.at 0 _ rfl
            have qh1 : wr.cell? ⟨w.heap.size, 1, none⟩ = some (.int .i64 keep) := h_39.out.at 1 _ rfl
            have zh := h_39.out.lt
            have qn0 : wr.cell? ⟨nb, 0, none⟩ = some (.bool false) := n_39.out.at 0 _ rfl
            have qn1 : wr.cell? ⟨nb, 1, none⟩ = some (.slice A li c) := n_39.out.at 1 _ rfl
            have zn := n_39.out.lt
            go_wp2_with (go_at_call 15; refine stop_here ?_)
            refine stop_on ?_
            clear qh0 qh1 zh qn0 qn1 zn
            have hc := treeHigh_any (some ⟨b, off, none⟩) l n q keep keep kr _ HL.out HN.out HRR.out A_39.out
            rw [HHR.out] at hc
            refine hc.mono ?_
            clear hc
            rintro e w41 ⟨rfl, hx⟩
            have A_42 := Lib.hid (A_39.out.ext hx)
            have X_42 := Lib.hid (X_39.out.ext hx)
            have h_42 := Lib.hid (h_39.out.ext hx)
            have P_42 := Lib.hid (P_39.out.ext hx)
            have IS_42 := Lib.hid (IS_39.out.ext hx)
            have IT_42 := Lib.hid (IT_39.out.ext hx)
            have n_42 := Lib.hid (n_39.out.ext hx)
            clear A_39 X_39 h_39 P_39 IS_39 IT_39 n_39
            clear hx
            have qh0 : w41.cell? ⟨w.heap.size, 0, none⟩ = some (.slice (some ⟨b, off, none⟩) n q) := h_42.out.at 0 _ rfl
            have qh1 : w41.cell? ⟨w.heap.size, 1, none⟩ = some (.int .i64 keep) := h_42.out.at 1 _ rfl
            have zh := h_42.out.lt
            have qn0 : w41.cell? ⟨nb, 0, none⟩ = some (.bool false) := n_42.out.at 0 _ rfl
            have qn1 : w41.cell? ⟨nb, 1, none⟩ = some (.slice A li c) := n_42.out.at 1 _ rfl
            have zn := n_42.out.lt
            go_wp2_with (go_at_call 15; refine stop_here ?_)
            refine stop_on ?_
            clear qh0 qh1 zh qn0 qn1 zn
            have hc := treeHigh_any (some ⟨b, off, none⟩) l n q keep keep kr _ HL.out HN.out HRR.out A_42.out
            rw [HHR.out] at hc
            refine hc.mono ?_
            clear hc
            rintro e w43 ⟨rfl, hx⟩
            have A_44 := Lib.hid (A_42.out.ext hx)
            have X_44 := Lib.hid (X_42.out.ext hx)
            have h_44 := Lib.hid (h_42.out.ext hx)
            have P_44 := Lib.hid (P_42.out.ext hx)
            have IS_44 := Lib.hid (IS_42.out.ext hx)
            have IT_44 := Lib.hid (IT_42.out.ext hx)
            have n_44 := Lib.hid (n_42.out.ext hx)
            clear A_42 X_42 h_42 P_42 IS_42 IT_42 n_42
            clear hx
            have qh0 : w43.cell? ⟨w.heap.size, 0, none⟩ = some (.slice (some ⟨b, off, none⟩) n q) := h_44.out.at 0 _ rfl
            have qh1 : w43.cell? ⟨w.heap.size, 1, none⟩ = some (.int .i64 keep) := h_44.out.at 1 _ rfl
            have zh := h_44.out.lt
            have qn0 : w43.cell? ⟨nb, 0, none⟩ = some (.bool false) := n_44.out.at 0 _ rfl
            have qn1 : w43.cell? ⟨nb, 1, none⟩ = some (.slice A li c) := n_44.out.at 1 _ rfl
            have zn := n_44.out.lt
            go_wp2_with (go_at_call 24; refine stop_here ?_)
            refine stop_on ?_
            clear qh0 qh1 zh qn0 qn1 zn
            refine (treeScan_whole (some ⟨b, off, none⟩) l n q keep keep kr _ HL.out HN.out HRR.out A_44.out).mono ?_
            rintro e w45 ⟨S9, s9, d9, rfl, h9, hx⟩
            have A_46 := Lib.hid (A_44.out.ext hx)
            have X_46 := Lib.hid (X_44.out.ext hx)
            have h_46 := Lib.hid (h_44.out.ext hx)
            have P_46 := Lib.hid (P_44.out.ext hx)
            have IS_46 := Lib.hid (IS_44.out.ext hx)
            have IT_46 := Lib.hid (IT_44.out.ext hx)
            have n_46 := Lib.hid (n_44.out.ext hx)
            clear A_44 X_44 h_44 P_44 IS_44 IT_44 n_44
            have P9_47 := Lib.hid h9
            clear hx h9
            have qh0 : w45.cell? ⟨w.heap.size, 0, none⟩ = some (.slice (some ⟨b, off, none⟩) n q) := h_46.out.at 0 _ rfl
            have qh1 : w45.cell? ⟨w.heap.size, 1, none⟩ = some (.int .i64 keep) := h_46.out.at 1 _ rfl
            have zh := h_46.out.lt
            have qn0 : w45.cell? ⟨nb, 0, none⟩ = some (.bool false) := n_46.out.at 0 _ rfl
            have qn1 : w45.cell? ⟨nb, 1, none⟩ = some (.slice A li c) := n_46.out.at 1 _ rfl
            have zn := n_46.out.lt
            go_wp2_with (go_at_call 23; refine stop_here ?_)
            refine stop_on ?_
            clear qh0 qh1 zh qn0 qn1 zn
            refine (ref04Items_self S9 Z (listT l kr) (listT l kr) s9 z d9 c2 _ (sameI_self _) P9_47.out IS_46.out).mono ?_
            rintro e w48 ⟨rfl, hx⟩
            have A_49 := Lib.hid (A_46.out.ext hx)
            have X_49 := Lib.hid (X_46.out.ext hx)
            have h_49 := Lib.hid (h_46.out.ext hx)
            have P_49 := Lib.hid (P_46.out.ext hx)
            have IS_49 := Lib.hid (IS_46.out.ext hx)
            have IT_49 := Lib.hid (IT_46.out.ext hx)
            have n_49 := Lib.hid (n_46.out.ext hx)
            have P9_49 := Lib.hid (P9_47.out.ext hx)
            clear A_46 X_46 h_46 P_46 IS_46 IT_46 n_46 P9_47
            clear hx
            have qh0 : w48.cell? ⟨w.heap.size, 0, none⟩ = some (.slice (some ⟨b, off, none⟩) n q) := h_49.out.at 0 _ rfl
            have qh1 : w48.cell? ⟨w.heap.size, 1, none⟩ = some (.int .i64 keep) := h_49.out.at 1 _ rfl
            have zh := h_49.out.lt
            have qn0 : w48.cell? ⟨nb, 0, none⟩ = some (.bool false) := n_49.out.at 0 _ rfl
            have qn1 : w48.cell? ⟨nb, 1, none⟩ = some (.slice A li c) := n_49.out.at 1 _ rfl
            have zn := n_49.out.lt
            go_wp2
            go_ret
            exact ⟨rfl, X_49.out⟩
      · go_wp2_with fail
        clear r2 r3 hbl
        clear qh0 qh1 zh
        generalize hW : (World.alloc wr _) = WN
        obtain ⟨hx, hb0⟩ := allocs1 hW
        clear hW
        have A_50 := Lib.hid (A_35.out.ext hx)
        have X_50 := Lib.hid (X_35.out.ext hx)
        have h_50 := Lib.hid (h_35.out.ext hx)
        have P_50 := Lib.hid (P_35.out.ext hx)
        have IS_50 := Lib.hid (HIS.out.ext hx)
        have IT_50 := Lib.hid (IT_36.out.ext hx)
        clear A_35 X_35 h_35 P_35 HIS IT_36
        have n_51 := Lib.hid (hb0)
        have HXN := Lib.hid hx
        clear hx hb0
        obtain ⟨nb, hnb⟩ : ∃ x, wr.heap.size = x := ⟨_, rfl⟩
        rw [hnb] at n_51 ⊢
        clear hnb
        have qh0 : WN.cell? ⟨w.heap.size, 0, none⟩ = some (.slice (some ⟨b, off, none⟩) n q) := h_50.out.at 0 _ rfl
        have qh1 : WN.cell? ⟨w.heap.size, 1, none⟩ = some (.int .i64 keep) := h_50.out.at 1 _ rfl
        have zh := h_50.out.lt
        have qn0 : WN.cell? ⟨nb, 0, none⟩ = some (.bool true) := n_51.out.at 0 _ rfl
        have qn1 : WN.cell? ⟨nb, 1, none⟩ = some (.slice A li c) := n_51.out.at 1 _ rfl
        have zn := n_51.out.lt
        go_loopw [11] (fun i wx => i = .int .i64 0 ∧ WN = wx) (fun _ _ => 0)
        case atStart => exact ⟨rfl, rfl⟩
        case round =>
          obtain ⟨rfl, rfl⟩ := hrel
          have hli0 : (0 : Int) < (li : Int) := by omega
          clear qh0 qh1 zh qn0 qn1 zn
          have c1 := HC1.out _ HXN.out
          have qh0 : WN.cell? ⟨w.heap.size, 0, none⟩ = some (.slice (some ⟨b, off, none⟩) n q) := h_50.out.at 0 _ rfl
          have qh1 : WN.cell? ⟨w.heap.size, 1, none⟩ = some (.int .i64 keep) := h_50.out.at 1 _ rfl
          have zh := h_50.out.lt
          have qn0 : WN.cell? ⟨nb, 0, none⟩ = some (.bool true) := n_51.out.at 0 _ rfl
          have qn1 : WN.cell? ⟨nb, 1, none⟩ = some (.slice A li c) := n_51.out.at 1 _ rfl
          have zn := n_51.out.lt
          go_wp2_with (go_at_call 15; refine stop_here ?_)
          refine stop_on ?_
          clear qh0 qh1 zh qn0 qn1 zn
          have hc := treeHigh_any (some ⟨b, off, none⟩) l n q keep keep kr _ HL.out HN.out HRR.out A_50.out
          rw [HHR.out] at hc
          refine hc.mono ?_
          clear hc
          rintro e w52 ⟨rfl, hx⟩
          have A_53 := Lib.hid (A_50.out.ext hx)
          have X_53 := Lib.hid (X_50.out.ext hx)
          have h_53 := Lib.hid (h_50.out.ext hx)
          have P_53 := Lib.hid (P_50.out.ext hx)
          have IS_53 := Lib.hid (IS_50.out.ext hx)
          have IT_53 := Lib.hid (IT_50.out.ext hx)
          have n_53 := Lib.hid (n_51.out.ext hx)
          clear A_50 X_50 h_50 P_50 IS_50 IT_50 n_51
          clear hx
          have qh0 : w52.cell? ⟨w.heap.size, 0, none⟩ = some (.slice (some ⟨b, off, none⟩) n q) := h_53.out.at 0 _ rfl
          have qh1 : w52.cell? ⟨w.heap.size, 1, none⟩ = some (.int .i64 keep) := h_53.out.at 1 _ rfl
          have zh := h_53.out.lt
          have qn0 : w52.cell? ⟨nb, 0, none⟩ = some (.bool true) := n_53.out.at 0 _ rfl
          have qn1 : w52.cell? ⟨nb, 1, none⟩ = some (.slice A li c) := n_53.out.at 1 _ rfl
          have zn := n_53.out.lt
          go_wp2_with (go_at_call 15; refine stop_here ?_)
          refine stop_on ?_
          clear qh0 qh1 zh qn0 qn1 zn
          have hc := treeHigh_any (some ⟨b, off, none⟩) l n q keep keep kr _ HL.out HN.out HRR.out A_53.out
          rw [HHR.out] at hc
          refine hc.mono ?_
          clear hc
          rintro e w54 ⟨rfl, hx⟩
          have A_55 := Lib.hid (A_53.out.ext hx)
          have X_55 := Lib.hid (X_53.out.ext hx)
          have h_55 := Lib.hid (h_53.out.ext hx)
          have P_55 := Lib.hid (P_53.out.ext hx)
          have IS_55 := Lib.hid (IS_53.out.ext hx)
          have IT_55 := Lib.hid (IT_53.out.ext hx)
          have n_55 := Lib.hid (n_53.out.ext hx)
          clear A_53 X_53 h_53 P_53 IS_53 IT_53 n_53
          clear hx
          have qh0 : w54.cell? ⟨w.heap.size, 0, none⟩ = some (.slice (some ⟨b, off, none⟩) n q) := h_55.out.at 0 _ rfl
          have qh1 : w54.cell? ⟨w.heap.size, 1, none⟩ = some (.int .i64 keep) := h_55.out.at 1 _ rfl
          have zh := h_55.out.lt
          have qn0 : w54.cell? ⟨nb, 0, none⟩ = some (.bool true) := n_55.out.at 0 _ rfl
          have qn1 : w54.cell? ⟨nb, 1, none⟩ = some (.slice A li c) := n_55.out.at 1 _ rfl
          have zn := n_55.out.lt
          go_wp2_with (go_at_call 24; refine stop_here ?_)
          refine stop_on ?_
          clear qh0 qh1 zh qn0 qn1 zn
          refine (treeScan_whole (some ⟨b, off, none⟩) l n q keep keep kr _ HL.out HN.out HRR.out A_55.out).mono ?_
          rintro e w56 ⟨S9, s9, d9, rfl, h9, hx⟩
          have A_57 := Lib.hid (A_55.out.ext hx)
          have X_57 := Lib.hid (X_55.out.ext hx)
          have h_57 := Lib.hid (h_55.out.ext hx)
          have P_57 := Lib.hid (P_55.out.ext hx)
          have IS_57 := Lib.hid (IS_55.out.ext hx)
          have IT_57 := Lib.hid (IT_55.out.ext hx)
          have n_57 := Lib.hid (n_55.out.ext hx)
          clear A_55 X_55 h_55 P_55 IS_55 IT_55 n_55
          have P9_58 := Lib.hid h9
          clear hx h9
          have qh0 : w56.cell? ⟨w.heap.size, 0, none⟩ = some (.slice (some ⟨b, off, none⟩) n q) := h_57.out.at 0 _ rfl
          have qh1 : w56.cell? ⟨w.heap.size, 1, none⟩ = some (.int .i64 keep) := h_57.out.at 1 _ rfl
          have zh := h_57.out.lt
          have qn0 : w56.cell? ⟨nb, 0, none⟩ = some (.bool true) := n_57.out.at 0 _ rfl
          have qn1 : w56.cell? ⟨nb, 1, none⟩ = some (.slice A li c) := n_57.out.at 1 _ rfl
          have zn := n_57.out.lt
          go_wp2_with (go_at_call 23; refine stop_here ?_)
          refine stop_on ?_
          clear qh0 qh1 zh qn0 qn1 zn
          refine (ref04Items_self S9 Z (listT l kr) (listT l kr) s9 z d9 c2 _ (sameI_self _) P9_58.out IS_57.out).mono ?_
          rintro e w59 ⟨rfl, hx⟩
          have A_60 := Lib.hid (A_57.out.ext hx)
          have X_60 := Lib.hid (X_57.out.ext hx)
          have h_60 := Lib.hid (h_57.out.ext hx)
          have P_60 := Lib.hid (P_57.out.ext hx)
          have IS_60 := Lib.hid (IS_57.out.ext hx)
          have IT_60 := Lib.hid (IT_57.out.ext hx)
          have n_60 := Lib.hid (n_57.out.ext hx)
          have P9_60 := Lib.hid (P9_58.out.ext hx)
          clear A_57 X_57 h_57 P_57 IS_57 IT_57 n_57 P9_58
          clear hx
          have qh0 : w59.cell? ⟨w.heap.size, 0, none⟩ = some (.slice (some ⟨b, off, none⟩) n q) := h_60.out.at 0 _ rfl
          have qh1 : w59.cell? ⟨w.heap.size, 1, none⟩ = some (.int .i64 keep) := h_60.out.at 1 _ rfl
          have zh := h_60.out.lt
          have qn0 : w59.cell? ⟨nb, 0, none⟩ = some (.bool true) := n_60.out.at 0 _ rfl
          have qn1 : w59.cell? ⟨nb, 1, none⟩ = some (.slice A li c) := n_60.out.at 1 _ rfl
          have zn := n_60.out.lt
          go_wp2
          go_ret
          exact ⟨rfl, X_60.out⟩
end Go.Proofs.Ythlencnlgnbpaaa

