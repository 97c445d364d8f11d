/- Walks of List, Nodes of any root, of Scan and of Get of the reference of layer 7. -/
import Derived.Test.YthlencnlgnbpaaaTreeW3
import Derived.Deep.QuietTactic
import Derived.BigQuiet
namespace Go.Proofs.Ythlencnlgnbpaaa
open Go.RowKit
attribute [local go_sem ↓] Go.wp_at_zero Go.wp_at_succ

theorem rightR_iff {l : List HC} {keep p : Int} (h : rightR ⟨l, keep⟩ p = true) : p < 0 ∨ (0 ≤ p ∧ p < l.length ∧ (bel l 20 p).is = true) := by
  unfold rightR at h
  rw [Bool.or_eq_true, Bool.and_eq_true] at h
  rcases h with h | ⟨hu, hb⟩
  · have := of_decide_eq_true h; omega
  · obtain ⟨k, hk, rfl, _⟩ := usedC_iff (show usedC l p = true from hu)
    exact .inr ⟨by omega, by omega, hb⟩
theorem listT_len {l : List HC} {keep p : Int} (hl : AllR l) (h : rightR ⟨l, keep⟩ p = true) : (listT l p).length ≤ 1099511627776 := by
  unfold listT
  rcases rightR_iff h with h0 | ⟨h0, h1, hb⟩
  · rw [if_pos h0]; exact Nat.zero_le _
  · rw [if_neg (by omega)]
    exact Nat.le_trans (listB_len l hl 20 p h0 h1 hb) (by decide)
set_option maxHeartbeats 800000 in
theorem ref07List_any (R : Option Addr) (l : List HC) (n q : Nat) (keep keep' p : Int) (w : World) (hl : AllR l) (hn : l.length ≤ 2000) (hr : rightR ⟨l, keep'⟩ p = true) (hA : HcSl w R n q l) :
    Calls Try.prog 36 #[.agg #[.slice R n q, .int .i64 keep], .int .i64 p] w fun e w' => ∃ S s d, e = .returned (.slice S s d) ∧ s = (listT l p).length ∧ Sl w' S s d (ivs (listT l p)) ∧ Ext w w' := by
  unfold listT
  rcases rightR_iff hr with h0 | ⟨h0, h1, hb⟩
  · have HX := Lib.hid ((Ext.refl w).alloc (.cells #[.slice R n q, .int .i64 keep] 24))
    have d0 : decide (p < 0) = true := decide_eq_true h0
    rw [if_pos h0]
    clear hr hl hn hA
    go_enter Try.func36, Try.ntmps36
    go_wp2
    go_ret
    exact ⟨none, 0, 0, rfl, rfl, Sl.nil _, HX.out⟩
  · rw [if_neg (by omega)]
    exact ref07List_bel l hl hn 20 p R n q keep w (by omega) h0 h1 hb hA
set_option maxHeartbeats 800000 in
theorem ref07Nodes_any (R : Option Addr) (l : List HC) (n q : Nat) (keep keep' p : Int) (w : World) (hl : AllR l) (hn : l.length ≤ 2000) (hr : rightR ⟨l, keep'⟩ p = true) (hA : HcSl w R n q l) :
    Calls Try.prog 19 #[.agg #[.slice R n q, .int .i64 keep], .int .i64 p] w fun e w' => ∃ S s d, e = .returned (.slice S s d) ∧ s = (nodesT l p).length ∧ Sl w' S s d ((nodesT l p).map iv) ∧ Ext w w' := by
  unfold nodesT
  rcases rightR_iff hr with h0 | ⟨h0, h1, hb⟩
  · have HX := Lib.hid ((Ext.refl w).alloc (.cells #[.slice R n q, .int .i64 keep] 24))
    have d0 : decide (p < 0) = true := decide_eq_true h0
    rw [if_pos h0]
    clear hr hl hn hA
    go_enter Try.func19, Try.ntmps19
    go_wp2
    go_ret
    exact ⟨none, 0, 0, rfl, rfl, Sl.nil _, HX.out⟩
  · rw [if_neg (by omega)]
    exact ref07Nodes_bel l hl hn 20 p R n q keep w (by omega) h0 h1 hb hA
theorem find_take {l : List It} {P : It → Bool} {j : Nat} (hj : j < l.length) (h : (l.take j).find? P = none) : (l.take (j + 1)).find? P = if P l[j] then some l[j] else none := by
  rw [List.take_succ_eq_append_getElem hj, List.find?_append, h]
  simp only [Option.none_or, List.find?_cons, List.find?_nil]
  cases P l[j] <;> rfl
theorem find_hit {l : List It} {P : It → Bool} {j : Nat} (hj : j < l.length) (h : (l.take j).find? P = none) (hp : P l[j] = true) : l.find? P = some l[j] := by
  have h1 := find_take hj h
  rw [if_pos hp] at h1
  have h2 : l.find? P = (l.take (j + 1) ++ l.drop (j + 1)).find? P := by rw [List.take_append_drop]
  rw [h2, List.find?_append, h1]; rfl
def getV (o : Option Int) : Int := match o with | some v => v | none => 0
def getE (o : Option Int) : Int := match o with | some _ => 0 | none => 4
set_option maxRecDepth 100000 in
set_option maxHeartbeats 1600000 in
theorem ref07Get_any (R : Option Addr) (l : List HC) (n q : Nat) (keep keep' p key : Int) (w : World) (hl : AllR l) (hn : l.length ≤ 2000) (hr : rightR ⟨l, keep'⟩ p = true) (hA : HcSl w R n q l) :
    Calls Try.prog 22 #[.agg #[.slice R n q, .int .i64 keep], .int .i64 p, .int .i64 key] w fun e w' => e = .returned (.tuple #[.int .i64 (getV (getT l p key)), .int .i64 (getE (getT l p key))]) ∧ Ext w w' := by
  have hx0 := (Ext.refl w).alloc (.cells #[.slice R n q, .int .i64 keep] 24)
  have HX := Lib.hid hx0
  have HB := Lib.hid (Bx.new w #[.slice R n q, .int .i64 keep] 24)
  have HL := Lib.hid (ref07List_any R l n q keep keep' p _ hl hn hr (hA.ext hx0))
  have hgt : getT l p key = ((listT l p).find? (fun x => decide (x.1 = key))).map (·.2) := rfl
  rw [hgt]
  have hlen := listT_len hl hr
  generalize listT l p = t at *
  obtain ⟨p0, p1, p2⟩ := HB.out.read2
  clear hx0 hl hn hr hA hgt
  go_enter Try.func22, Try.ntmps22
  go_wp2_with (go_at_call 36; refine HL.out.mono ?_; rintro e w1 ⟨S, s, d, rfl, hs, hsl, hx⟩; have HX1 := Lib.hid (HX.out.trans hx); have HS := Lib.hid hs; have HSL := Lib.hid hsl; clear hs hsl hx p0 p1 p2)
  have hsb : s ≤ 1099511627776 := by rw [HS.out]; exact hlen
  go_loop [9] (fun i => ∃ j : Nat, j ≤ s ∧ i = .int .i64 j ∧ (t.take j).find? (fun x => decide (x.1 = key)) = none) (fun i => s - (intOf i).toNat)
  case atStart => exact ⟨0, Nat.zero_le _, rfl, by simp⟩
  case round =>
    obtain ⟨j, hj, rfl, hf⟩ := hrel
    have HF := Lib.hid hf
    clear hf
    rcases Nat.lt_or_ge j s with hlt | hlt
    · have hjt : j < t.length := by rw [← HS.out]; exact hlt
      obtain ⟨b, off, rfl, hb, i0, i1⟩ := it_at HSL.out hjt
      have hji : (j : Int) < (s : Int) := by omega
      have HH := Lib.hid (fun (h : t[j].1 = key) => (show (t.find? (fun x => decide (x.1 = key))).map (·.2) = some t[j].2 by rw [find_hit hjt HF.out (by simpa using h)]; rfl))
      have HN := Lib.hid (fun (h : ¬ t[j].1 = key) => (show (t.take (j + 1)).find? (fun x => decide (x.1 = key)) = none by rw [find_take hjt HF.out]; simp [h]))
      generalize t[j].2 = V at *
      generalize t[j].1 = K at *
      rcases Int.lt_trichotomy K key with he | rfl | he
      · have d0 : (K == key) = false := by rw [beq_eq_false_iff_ne]; omega
        have d1 : decide (K = key) = false := decide_eq_false (by omega)
        have HE := Lib.hid (HN.out (by omega))
        clear HH HN he hjt
        go_wp2
        go_round
        case rel => exact ⟨j + 1, by omega, by go_num, HE.out⟩
        case measure => simp [intOf]; omega
      · have HE := Lib.hid (HH.out rfl)
        clear HH HN hjt
        go_wp2
        go_ret2
        exact ⟨(by rw [HE.out]; rfl), HX1.out⟩
      · have d0 : (K == key) = false := by rw [beq_eq_false_iff_ne]; omega
        have d1 : decide (K = key) = false := decide_eq_false (by omega)
        have HE := Lib.hid (HN.out (by omega))
        clear HH HN he hjt
        go_wp2
        go_round
        case rel => exact ⟨j + 1, by omega, by go_num, HE.out⟩
        case measure => simp [intOf]; omega
    · obtain rfl : s = j := by omega
      have HE := Lib.hid (show t.find? (fun x => decide (x.1 = key)) = none from by have h := HF.out; rwa [HS.out, List.take_length] at h)
      clear hlt
      go_wp2
      go_ret2
      exact ⟨(by rw [HE.out]; rfl), HX1.out⟩
end Go.Proofs.Ythlencnlgnbpaaa
