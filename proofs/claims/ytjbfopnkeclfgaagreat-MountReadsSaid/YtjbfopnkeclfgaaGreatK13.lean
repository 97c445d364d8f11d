/- The book of a state without volumes and tasks: plain, and the reference's Print of layer 13. asked of the reference of layer 14: a write, if the disk doesn't hold that already. Plan of the reference of layer 14, of a state that uses no cell and holds no volumes and tasks. New of the reference of layer 12. Settled of the reference of layer 15, of a state that uses no cell and holds no volumes and tasks. -/
import Derived.Test.YtjbfopnkeclfgaaGreatK04
import Derived.Test.YtjbfopnkeclfgaaGreatK06
import Derived.Test.YtjbfopnkeclfgaaGreatK09
import Derived.Test.YtjbfopnkeclfgaaGreatK03
import Derived.Test.YtjbfopnkeclfgaaGreatK10
import Derived.Test.YtjbfopnkeclfgaaGreatK11
import Derived.Test.YtjbfopnkeclfgaaGreatK12
import Derived.Deep.RegionHeld3
namespace Go.Proofs.YtjbfopnkeclfgaaGreat
set_option maxRecDepth 20000
open Go.RowKit

/-- P13.1, of a state without volumes and tasks: the next volume's number, none, no tasks, Keep, how many cells, their Refs. -/
def bookP (next keep : Nat) (refs : List Nat) : List UInt8 := putL next 4 ++ putL 0 1 ++ putL 0 2 ++ putL keep 2 ++ putL refs.length 2 ++ refs.flatMap (fun r => putL r 2)
def bookH (next keep n : Nat) : List UInt8 := putL next 4 ++ putL 0 1 ++ putL 0 2 ++ putL keep 2 ++ putL n 2
def bookR (next keep n : Nat) (refs : List Nat) (k : Nat) : List UInt8 := bookH next keep n ++ (refs.take k).flatMap (fun r => putL r 2)
theorem bookR_zero (next keep n : Nat) (refs : List Nat) : bookR next keep n refs 0 = bookH next keep n := by unfold bookR; simp
theorem bookR_step {next keep n : Nat} {refs : List Nat} {k : Nat} (h : k < refs.length) : bookR next keep n refs (k + 1) = bookR next keep n refs k ++ putL refs[k] 2 := by
  unfold bookR
  rw [List.take_succ_eq_append_getElem h, List.flatMap_append, List.append_assoc]; simp
theorem bookR_end {next keep n : Nat} {refs : List Nat} (h : refs.length = n) : bookR next keep n refs n = bookP next keep refs := by
  subst h; unfold bookR bookP bookH; rw [List.take_length]
theorem ref01Put_o (n m : Nat) (w : World) (h1 : 1 ≤ m) (h2 : m ≤ 4) (h3 : n < 256 ^ m) :
    Calls Tryz.prog 130 #[.int .i64 n, .int .i64 m] w fun e w' => ∃ A cap, e = .returned (.slice A m cap) ∧ w'.ownsRow w.heap.size 5 1 (.slice A m cap) m ((putL n m).map bv) ∧ Ext w w' := by
  have h4 : n < 4294967296 := Nat.lt_of_lt_of_le h3 (Nat.pow_le_pow_right (n := 256) (by omega) h2)
  refine (ref01Put_own n m w (by omega) (by omega)).mono ?_
  rintro e w' ⟨v, rfl, h, hb⟩
  rw [putS_some h1 h2 h3, putL_length] at h
  obtain ⟨A, cap, rfl⟩ := own_shape h
  exact ⟨A, cap, rfl, h, hb⟩
theorem own_low {w : World} {B B' e s n : Nat} {v : Value} {xs : List Value} (h : w.ownsRow B e s v n xs) (hb : B' ≤ B) : w.ownsRow B' e s v n xs :=
  ⟨h.1, h.2.imp id (fun ⟨g, cap, cur, e0, hg, r⟩ => ⟨g, cap, cur, e0, Nat.le_trans hb hg, r⟩)⟩
theorem own_off {w : World} {k e s n : Nat} {v : Value} {xs : List Value} (h : w.ownsRow (k + 1) e s v n xs) : v.ownBlock ≠ some k := fun e => by have := (h.lt k e).1; omega
theorem st_at {w : World} {k : Nat} {a b c d e f : Value} (h : Bx w k #[a, b, c, d, e, f]) : w.cell? ⟨k, 0, none⟩ = some a ∧ w.cell? ⟨k, 1, none⟩ = some b ∧ w.cell? ⟨k, 2, none⟩ = some c ∧ w.cell? ⟨k, 3, none⟩ = some d ∧ w.cell? ⟨k, 4, none⟩ = some e :=
  ⟨h.at 0 _ rfl, h.at 1 _ rfl, h.at 2 _ rfl, h.at 3 _ rfl, h.at 4 _ rfl⟩
set_option maxHeartbeats 1600000 in
theorem ref06Print_nil (w : World) :
    Calls Tryz.prog 131 #[.slice none 0 0] w fun e w' => ∃ A cap, e = .returned (.slice A 2 cap) ∧ w'.ownsRow w.heap.size 5 1 (.slice A 2 cap) 2 ((putL 0 2).map bv) ∧ Ext w w' := by
  have HP := Lib.hid (fun w' => (show Calls Tryz.prog 130 #[.int .i64 0, .int .i64 2] w' fun e w'' => ∃ A cap, e = .returned (.slice A 2 cap) ∧ w''.ownsRow w'.heap.size 5 1 (.slice A 2 cap) 2 ((putL 0 2).map bv) ∧ Ext w' w'' from ref01Put_o 0 2 w' (by omega) (by omega) (by decide)))
  go_enter Tryz.func131, Tryz.ntmps131
  go_wp2_with (go_at_call 130; refine (HP.out _).mono ?_; rintro e w1 ⟨A, cap, rfl, ho, hx⟩; have HO := Lib.hid ho; have HX := Lib.hid hx; clear ho hx)
  go_loop [3, 4] (fun v k => k = .int .i64 0 ∧ v = .slice A 2 cap) (fun _ _ => 0)
  case atStart => exact ⟨rfl, rfl⟩
  case round =>
    obtain ⟨rfl, rfl⟩ := hrel
    go_wp2_with fail
    go_ret
    exact ⟨A, cap, rfl, HO.out, HX.out⟩
set_option maxRecDepth 100000 in
set_option maxHeartbeats 6400000 in
theorem ref13Print_any (R : Option Addr) (l : List HC) (n q next keep : Nat) (gen : Int) (w : World) (hnx : next < 4294967296) (hk : keep < 65536) (hn : n ≤ 2000) (hr : ∀ y ∈ l, 0 ≤ y.ref ∧ y.ref ≤ 65535) (hA : HcSl w R n q l) :
    Calls Tryz.prog 101 #[.agg #[.slice R n q, .int .i64 keep, .slice none 0 0, .slice none 0 0, .int .i64 next, .int .i64 gen]] w fun e w' => ∃ A cap, e = .returned (.tuple #[.slice A (11 + 2 * n) cap, .int .i64 0]) ∧ Sl w' A (11 + 2 * n) cap ((bookP next keep (l.map (fun y => y.ref.toNat))).map bv) ∧ Ext w w' := by
  have hb := Bx.new w #[.slice R n q, .int .i64 keep, .slice none 0 0, .slice none 0 0, .int .i64 next, .int .i64 gen] 34
  have HB := Lib.hid hb
  have HX := Lib.hid ((Ext.refl w).alloc (.cells #[.slice R n q, .int .i64 keep, .slice none 0 0, .slice none 0 0, .int .i64 next, .int .i64 gen] 34))
  have HA := Lib.hid hA
  have HR := Lib.hid hr
  have HL := Lib.hid hA.1
  clear hA hr hb
  obtain ⟨p0, p1, p2, p3, p4⟩ := st_at HB.out
  have HP1 := Lib.hid (fun w' => (show Calls Tryz.prog 130 #[.int .i64 next, .int .i64 4] w' fun e w'' => ∃ A cap, e = .returned (.slice A 4 cap) ∧ w''.ownsRow w'.heap.size 5 1 (.slice A 4 cap) 4 ((putL next 4).map bv) ∧ Ext w' w'' from ref01Put_o next 4 w' (by omega) (by omega) (by simpa using hnx)))
  have HP2 := Lib.hid (fun w' => (show Calls Tryz.prog 130 #[.int .i64 0, .int .i64 1] w' fun e w'' => ∃ A cap, e = .returned (.slice A 1 cap) ∧ w''.ownsRow w'.heap.size 5 1 (.slice A 1 cap) 1 ((putL 0 1).map bv) ∧ Ext w' w'' from ref01Put_o 0 1 w' (by omega) (by omega) (by decide)))
  have HP4 := Lib.hid (fun w' => (show Calls Tryz.prog 130 #[.int .i64 keep, .int .i64 2] w' fun e w'' => ∃ A cap, e = .returned (.slice A 2 cap) ∧ w''.ownsRow w'.heap.size 5 1 (.slice A 2 cap) 2 ((putL keep 2).map bv) ∧ Ext w' w'' from ref01Put_o keep 2 w' (by omega) (by omega) (by simpa using hk)))
  have HP5 := Lib.hid (fun w' => (show Calls Tryz.prog 130 #[.int .i64 n, .int .i64 2] w' fun e w'' => ∃ A cap, e = .returned (.slice A 2 cap) ∧ w''.ownsRow w'.heap.size 5 1 (.slice A 2 cap) 2 ((putL n 2).map bv) ∧ Ext w' w'' from ref01Put_o n 2 w' (by omega) (by omega) (by simp; omega)))
  clear hnx hk
  go_enter Tryz.func101, Tryz.ntmps101
  go_wp2_with (first
    | (go_at_call 130; first
      | (with_reducible refine (HP1.out _).mono ?_; rintro e w1 ⟨A1, c1, rfl, ho, hx⟩; have HO := Lib.hid (own_low ho (show w.heap.size + 1 ≤ _ by simp)); have HB := Lib.hid (HB.out.ext hx); have HX := Lib.hid (HX.out.trans hx); clear ho hx p0 p1 p2 p3 p4; obtain ⟨p0, p1, p2, p3, p4⟩ := st_at HB.out)
      | (with_reducible refine (HP2.out _).mono ?_; rintro e w2 ⟨A2, c2, rfl, ho, hx⟩; have HS2 := Lib.hid (own_sl ho); have HY := Lib.hid hx; clear ho hx))
    | (at_builtin; refine stop_here ?_))

  refine stop_on ?_
  refine app_bytes _ rfl _ _ rfl (w.heap.size + 1) _ 4 (putL next 4) rfl (own_below HO.out HY.out) _ 1 _ (putL 0 1) rfl (putL_length _ _) HS2.out.1 HS2.out.cells (by omega) (by have := (HB.out.ext HY.out).lt; omega) ?_
  intro A4 c4 w4 hown hg
  have HX := Lib.hid (show Ext w w4 from Below.grown (HX.out.trans HY.out) hg (HX.out.trans HY.out).size (fun q hq => by have := ((own_below HO.out HY.out).lt q hq).1; omega))
  have HB := Lib.hid ((HB.out.ext HY.out).grown hg (own_off (own_below HO.out HY.out)))
  have HO := Lib.hid (show w4.ownsRow (w.heap.size + 1) 5 1 (.slice A4 5 c4) 5 ((putL next 4 ++ putL 0 1).map bv) from hown)
  obtain ⟨p0, p1, p2, p3, p4⟩ := st_at HB.out
  clear hown hg HS2 HY
  go_wp2_with fail
  go_loop [4, 5] (fun v i => i = .int .i64 0 ∧ v = .slice A4 5 c4) (fun _ _ => 0)
  case atStart => exact ⟨rfl, rfl⟩
  case round =>
  obtain ⟨rfl, rfl⟩ := hrel
  go_wp2_with (first
    | (go_at_call 131; refine (ref06Print_nil _).mono ?_; rintro e w2 ⟨A2, c2, rfl, ho, hx⟩; have HS2 := Lib.hid (own_sl ho); have HY := Lib.hid hx; clear ho hx)
    | (at_builtin; refine stop_here ?_))
  refine stop_on ?_
  refine app_bytes _ rfl _ _ rfl (w.heap.size + 1) _ 5 (putL next 4 ++ putL 0 1) rfl (own_below HO.out HY.out) _ 2 _ (putL 0 2) rfl (putL_length _ _) HS2.out.1 HS2.out.cells (by omega) (by have := (HB.out.ext HY.out).lt; omega) ?_
  intro A4 c4 w4 hown hg
  have HX := Lib.hid (show Ext w w4 from Below.grown (HX.out.trans HY.out) hg (HX.out.trans HY.out).size (fun q hq => by have := ((own_below HO.out HY.out).lt q hq).1; omega))
  have HB := Lib.hid ((HB.out.ext HY.out).grown hg (own_off (own_below HO.out HY.out)))
  have HO := Lib.hid (show w4.ownsRow (w.heap.size + 1) 5 1 (.slice A4 7 c4) 7 ((putL next 4 ++ putL 0 1 ++ putL 0 2).map bv) from hown)
  obtain ⟨p0, p1, p2, p3, p4⟩ := st_at HB.out
  clear hown hg HS2 HY
  go_wp2_with (first
    | (go_at_call 130; with_reducible refine (HP4.out _).mono ?_; rintro e w2 ⟨A2, c2, rfl, ho, hx⟩; have HS2 := Lib.hid (own_sl ho); have HY := Lib.hid hx; clear ho hx)
    | (at_builtin; refine stop_here ?_))
  refine stop_on ?_
  refine app_bytes _ rfl _ _ rfl (w.heap.size + 1) _ 7 (putL next 4 ++ putL 0 1 ++ putL 0 2) rfl (own_below HO.out HY.out) _ 2 _ (putL keep 2) rfl (putL_length _ _) HS2.out.1 HS2.out.cells (by omega) (by have := (HB.out.ext HY.out).lt; omega) ?_
  intro A4 c4 w4 hown hg
  have HX := Lib.hid (show Ext w w4 from Below.grown (HX.out.trans HY.out) hg (HX.out.trans HY.out).size (fun q hq => by have := ((own_below HO.out HY.out).lt q hq).1; omega))
  have HB := Lib.hid ((HB.out.ext HY.out).grown hg (own_off (own_below HO.out HY.out)))
  have HO := Lib.hid (show w4.ownsRow (w.heap.size + 1) 5 1 (.slice A4 9 c4) 9 ((putL next 4 ++ putL 0 1 ++ putL 0 2 ++ putL keep 2).map bv) from hown)
  obtain ⟨p0, p1, p2, p3, p4⟩ := st_at HB.out
  clear hown hg HS2 HY
  go_wp2_with (first
    | (go_at_call 130; with_reducible refine (HP5.out _).mono ?_; rintro e w2 ⟨A2, c2, rfl, ho, hx⟩; have HS2 := Lib.hid (own_sl ho); have HY := Lib.hid hx; clear ho hx)
    | (at_builtin; refine stop_here ?_))
  refine stop_on ?_
  refine app_bytes _ rfl _ _ rfl (w.heap.size + 1) _ 9 (putL next 4 ++ putL 0 1 ++ putL 0 2 ++ putL keep 2) rfl (own_below HO.out HY.out) _ 2 _ (putL n 2) rfl (putL_length _ _) HS2.out.1 HS2.out.cells (by omega) (by have := (HB.out.ext HY.out).lt; omega) ?_
  intro A4 c4 w4 hown hg
  have HX := Lib.hid (show Ext w w4 from Below.grown (HX.out.trans HY.out) hg (HX.out.trans HY.out).size (fun q hq => by have := ((own_below HO.out HY.out).lt q hq).1; omega))
  have HB := Lib.hid ((HB.out.ext HY.out).grown hg (own_off (own_below HO.out HY.out)))
  have HO := Lib.hid (show w4.ownsRow (w.heap.size + 1) 5 1 (.slice A4 11 c4) 11 ((putL next 4 ++ putL 0 1 ++ putL 0 2 ++ putL keep 2 ++ putL n 2).map bv) from hown)
  obtain ⟨p0, p1, p2, p3, p4⟩ := st_at HB.out
  clear hown hg HS2 HY
  go_wp2_with fail
  have HO := Lib.hid (show w4.ownsRow (w.heap.size + 1) 5 1 (.slice A4 11 c4) 11 ((bookH next keep n).map bv) from HO.out)
  clear HP1 HP2 HP4 HP5
  go_loopw [4, 6] (fun v i wr => ∃ k : Nat, ∃ O oc, k ≤ n ∧ i = .int .i64 k ∧ v = .slice O (11 + 2 * k) oc ∧ wr.ownsRow (w.heap.size + 1) 5 1 (.slice O (11 + 2 * k) oc) (11 + 2 * k) ((bookR next keep n (l.map (fun y => y.ref.toNat)) k).map bv) ∧ Bx wr w.heap.size #[.slice R n q, .int .i64 keep, .slice none 0 0, .slice none 0 0, .int .i64 next, .int .i64 gen] ∧ Ext w wr) (fun _ i _ => n - (intOf i).toNat)
  case atStart => exact ⟨0, A4, c4, Nat.zero_le _, rfl, rfl, by rw [bookR_zero]; exact HO.out, HB.out, HX.out⟩
  case round =>
  obtain ⟨k, O, oc, hk, rfl, rfl, ho, hb, hx⟩ := hrel
  clear HX HB HO p0 p1 p2 p3 p4
  have GO := Lib.hid ho
  have GB := Lib.hid hb
  have GX := Lib.hid hx
  clear ho hb hx
  obtain ⟨p0, p1, p2, p3, p4⟩ := st_at GB.out
  rcases Nat.lt_or_ge k n with hlt | hge
  · have hkl : k < l.length := by rw [← HL.out]; exact hlt
    obtain ⟨b, off, rfl, _, A5, c5, r0, _, _, _, _⟩ := (HA.out.ext GX.out).cell hkl
    have hr0 := HR.out _ (List.getElem_mem hkl)
    have HS := Lib.hid (bookR_step (next := next) (keep := keep) (n := n) (refs := l.map (fun y => y.ref.toNat)) (k := k) (by rw [List.length_map]; exact hkl))
    rw [List.getElem_map] at HS
    obtain ⟨r, hr⟩ := Int.eq_ofNat_of_zero_le hr0.1
    have hr65 : r ≤ 65535 := by have := hr0.2; omega
    rw [hr] at r0 HS
    rw [Int.toNat_natCast] at HS
    clear hr hr0
    have hki : (k : Int) < (n : Int) := by omega
    have d1 : decide ((65535 : Int) < (r : Int)) = false := decide_eq_false (by omega)
    have d2 : decide (65535 < r) = false := decide_eq_false (by omega)
    have HP := Lib.hid (fun w' => (show Calls Tryz.prog 130 #[.int .i64 r, .int .i64 2] w' fun e w'' => ∃ A cap, e = .returned (.slice A 2 cap) ∧ w''.ownsRow w'.heap.size 5 1 (.slice A 2 cap) 2 ((putL r 2).map bv) ∧ Ext w' w'' from ref01Put_o r 2 w' (by omega) (by omega) (by simp; omega)))
    go_wp2_with (first
      | (go_at_call 130; with_reducible refine (HP.out _).mono ?_; rintro e w2 ⟨A2, c2, rfl, ho, hx⟩; have HS2 := Lib.hid (own_sl ho); have HY := Lib.hid hx; clear ho hx)
      | (at_builtin; refine stop_here ?_))
    refine stop_on ?_
    refine app_bytes _ rfl _ _ rfl (w.heap.size + 1) _ (11 + 2 * k) _ rfl (own_below GO.out HY.out) _ 2 _ (putL r 2) rfl (putL_length _ _) HS2.out.1 HS2.out.cells (by omega) (by have := (GB.out.ext HY.out).lt; omega) ?_
    intro A4 c4 w5 hown hg
    have GX := Lib.hid (show Ext w w5 from Below.grown (GX.out.trans HY.out) hg (GX.out.trans HY.out).size (fun q hq => by have := ((own_below GO.out HY.out).lt q hq).1; omega))
    have GB := Lib.hid ((GB.out.ext HY.out).grown hg (own_off (own_below GO.out HY.out)))
    rw [← HS.out, show 11 + 2 * k + 2 = 11 + 2 * (k + 1) by omega] at hown
    have GO := Lib.hid hown
    clear hown hg HS2 HY
    rw [show 11 + 2 * k + 2 = 11 + 2 * (k + 1) by omega]
    go_wp2_with fail
    go_roundw
    case rel => exact ⟨k + 1, A4, c4, by omega, by go_num, rfl, GO.out, GB.out, GX.out⟩
    case measure => simp [intOf]; omega
  · obtain rfl : n = k := by omega
    clear hge
    have HE := Lib.hid (bookR_end (next := next) (keep := keep) (n := n) (refs := l.map (fun y => y.ref.toNat)) (by rw [List.length_map]; exact HL.out.symm))
    go_wp2_with fail
    go_ret2
    exact ⟨O, oc, rfl, by rw [← HE.out]; exact own_sl GO.out, GX.out⟩
end Go.Proofs.YtjbfopnkeclfgaaGreat
namespace Go.Proofs.YtjbfopnkeclfgaaGreat
set_option maxRecDepth 20000
open Go.RowKit

theorem wvs_app (a b : List Wr) : wvs (a ++ b) = wvs a ++ wvs b := by
  induction a with
  | nil => rfl
  | cons x a ih => simp [wvs, ih]
/-- append of writes onto a row of the call's own. -/
theorem app_wvs (w : World) {ops : Array Oper} {rest : List Oper} {o : Oper} {a : Act} {Q : Exit → Act → World → Prop} (hgd : o.guard = none) (s x : Operand)
    (ho : o.op = .call { callee := .builtin .append, args := #[s, x], argTypes := #[23, 23] })
    (B : Nat) (v : Value) (n : Nat) (l : List Wr) (hs : a.eval s = v) (hown : w.ownsRow B 85 2 v n (wvs l))
    (A : Option Addr) (m c : Nat) (k : List Wr) (hx : a.eval x = .slice A m c) (hl : k.length = m) (hS : Sl w A m c (wvs k))
    (hsz : n + m ≤ 100000) (hB : B ≤ w.heap.size)
    (h : ∀ A' c' w', w'.ownsRow B 85 2 (.slice A' (n + m) c') (n + m) (wvs (l ++ k)) → w.grownBy w' v.ownBlock → wpList Tryz.prog ops Q rest (a.put o.dst (.slice A' (n + m) c')) w') : wpList Tryz.prog ops Q (o :: rest) a w := by
  refine wpList_app_sl w hgd s x 23 ho B 85 (.agg #[.int .i64 0, .string (ByteArray.mk #[])]) 2 24 Tryz.underlying23 infoW rfl (by omega) v n (wvs l) hs hown A m c (wvs k) hx (by rw [wvs_length, hl]) hS (wvs_oneCell k) (by unfold maxLen; omega) (by omega) hB ?_
  intro A' c' w' h1 h2
  rw [← wvs_app] at h1
  exact h A' c' w' h1 h2
theorem ext_grown {w w' : World} (h : Ext w w') (row : Option Nat) : w.grownBy w' row := ⟨h.os, h.tape, h.output, h.size, fun k hk _ => h.block k hk⟩
/-- P14.2: a write more, where the disk doesn't hold that already. -/
def askW (b : List ByteArray) (l : List Wr) (at_ : Int) (s : ByteArray) (ws : List Wr) : List Wr := if (readS b l at_).toList == s.toList then ws else ws ++ [(at_, s)]
set_option maxRecDepth 100000 in
set_option maxHeartbeats 3200000 in
theorem ref14asked_any (A A' O : Option Addr) (b : List ByteArray) (l ws : List Wr) (c c' n oc B : Nat) (at_ : Int) (s : ByteArray) (w : World) (hb : b.length ≤ maxLen) (hl : l.length ≤ maxLen) (hn : n ≤ 90000) (hB : B ≤ w.heap.size)
    (hA : Sl w A b.length c (b.map sv)) (hA' : Sl w A' l.length c' (wvs l)) (ho : w.ownsRow B 85 2 (.slice O n oc) n (wvs ws)) :
    Calls Tryz.prog 103 #[.agg #[.slice A b.length c, .slice A' l.length c'], .slice O n oc, .int .i64 at_, .string s] w fun e w' => ∃ O' n' oc', n' ≤ n + 1 ∧ e = .returned (.slice O' n' oc') ∧ w'.ownsRow B 85 2 (.slice O' n' oc') n' (wvs (askW b l at_ s ws)) ∧ w.grownBy w' (Value.slice O n oc).ownBlock := by
  have HX := Lib.hid ((Ext.refl w).alloc (.cells #[.slice A b.length c, .slice A' l.length c'] 25))
  have HBx := Lib.hid (Bx.new w #[.slice A b.length c, .slice A' l.length c'] 25)
  have p0 := HBx.out.at 0 _ rfl
  have p1 := HBx.out.at 1 _ rfl
  have HA := Lib.hid hA
  have HA' := Lib.hid hA'
  have HO := Lib.hid ho
  have HN := Lib.hid hB
  have HR := Lib.hid (fun w' (hx : Ext w w') => readR_any A A' b l c c' at_ w' hb hl (hA.cells.ext hx) (hA'.cells.ext hx))
  unfold askW
  clear hA hA' ho hB
  generalize readS b l at_ = r at *
  generalize readE b at_ = re at *
  generalize b.length = nb at *
  generalize l.length = nl at *
  cases hd : r.toList == s.toList
  · go_enter Tryz.func103, Tryz.ntmps103
    go_wp2_with (first
      | (go_at_call 134; refine (HR.out _ HX.out).mono ?_; rintro e w1 ⟨rfl, hx⟩; have HY := Lib.hid (HX.out.trans hx); clear hx p0 p1)
      | (at_builtin; refine stop_here ?_))
    refine stop_on ?_
    have HY2 := Lib.hid (HY.out.alloc (.cells #[.int .i64 at_, .string s] 85))
    refine app_wvs _ rfl _ _ rfl B (.slice O n oc) n ws rfl (own_ext HO.out HY2.out) (some ⟨w1.heap.size, 0, none⟩) 1 1 [(at_, s)] rfl rfl (sl_lit w1 _ 1 (wvs [(at_, s)]) (by unfold maxLen; omega)) (by omega) (Nat.le_trans HN.out HY2.out.size) ?_
    intro O' oc' w2 hown hg
    have HG := Lib.hid (grown_trans (ext_grown HY2.out _) hg)
    have HO2 := Lib.hid hown
    clear hown hg
    go_wp2
    go_ret
    exact ⟨O', n + 1, by omega, oc', rfl, HO2.out, HG.out⟩
  · go_enter Tryz.func103, Tryz.ntmps103
    go_wp2_with (go_at_call 134; refine (HR.out _ HX.out).mono ?_; rintro e w1 ⟨rfl, hx⟩; have HY := Lib.hid (HX.out.trans hx); clear hx p0 p1)
    go_ret
    exact ⟨O, n, by omega, oc, rfl, own_ext HO.out HY.out, ext_grown HY.out _⟩
end Go.Proofs.YtjbfopnkeclfgaaGreat
namespace Go.Proofs.YtjbfopnkeclfgaaGreat
set_option maxRecDepth 20000
open Go.RowKit
attribute [local go_sem ↓] Go.wp_at_zero Go.wp_at_succ

theorem chunkF_le : ∀ (f : Nat) (l : Bl), (chunkF f l).length ≤ f
  | 0, _ => by simp [chunkF]
  | f + 1, l => by
    rw [chunkF]
    split
    · simp
    · rw [List.length_cons]; have := chunkF_le f (l.drop 40); omega
theorem chunks_le (l : Bl) : (chunksP l).length ≤ l.length := chunkF_le _ _
/-- A book's blocks, as texts. -/
def chB (l : Bl) : List ByteArray := (chunksP l).map (fun c => (⟨c.toArray⟩ : ByteArray))
theorem chB_of {L : List ByteArray} {l : Bl} (h : L.map txP = chunksP l) : L = chB l := by
  unfold chB
  rw [← h, List.map_map]
  conv => lhs; rw [← List.map_id L]
  exact List.map_congr_left (fun s _ => by cases s; simp [txP])
theorem chB_len (l : Bl) : (chB l).length = (chunksP l).length := by unfold chB; rw [List.length_map]
/-- P14.2: what is asked of the disk, block for block. -/
def asks (b : List ByteArray) (dl : List Wr) (base : Nat) (L : List ByteArray) : Nat → List Wr
  | 0 => []
  | k + 1 => askW b dl ((base + k : Nat) : Int) (L[k]?.getD ⟨#[]⟩) (asks b dl base L k)
def planW (b : List ByteArray) (dl : List Wr) (n keep next gen : Nat) : List Wr :=
  asks b dl (2 + (gen + 1) % 2 * areaP n) (chB (bookP next keep (List.replicate n 0))) (chB (bookP next keep (List.replicate n 0))).length ++ [(-1, ⟨#[]⟩)] ++ [((((gen + 1) % 2 : Nat) : Int), supB ⟨((gen + 1 : Nat) : Int), ((11 + 2 * n : Nat) : Int), (crc (bookP next keep (List.replicate n 0)) : Nat)⟩)] ++ [(-1, ⟨#[]⟩)]
set_option maxRecDepth 100000 in
set_option maxHeartbeats 6400000 in
theorem ref14Plan_new (A A' R : Option Addr) (b : List ByteArray) (dl : List Wr) (n q c c' next keep gen : Nat) (w : World) (hb : b.length ≤ 4000) (hdl : dl.length ≤ maxLen) (hn : cellsP b.length = n) (hn2 : n ≤ 2000) (hnx : next < 4294967296) (hk : keep < 65536) (hgn : gen < 2147483647)
    (hA : Sl w A b.length c (b.map sv)) (hA' : Sl w A' dl.length c' (wvs dl)) (hR : HcSl w R n q (List.replicate n HC.none)) :
    Calls Tryz.prog 63 #[.agg #[.slice A b.length c, .slice A' dl.length c'], .agg #[.slice R n q, .int .i64 keep, .slice none 0 0, .slice none 0 0, .int .i64 next, .int .i64 gen]] w fun e w' => ∃ P m cp, e = .returned (.tuple #[.slice P m cp, .int .i64 0]) ∧ w'.ownsRow w.heap.size 85 2 (.slice P m cp) m (wvs (planW b dl n keep next gen)) ∧ Ext w w' := by
  have hbd := (Bx.new w #[.slice A b.length c, .slice A' dl.length c'] 25).ext ((Ext.refl _).alloc (.cells #[.slice R n q, .int .i64 keep, .slice none 0 0, .slice none 0 0, .int .i64 next, .int .i64 gen] 34))
  have hbs := Bx.new (w.alloc (.cells #[.slice A b.length c, .slice A' dl.length c'] 25)) #[.slice R n q, .int .i64 keep, .slice none 0 0, .slice none 0 0, .int .i64 next, .int .i64 gen] 34
  rw [World.size_alloc] at hbs
  have hx := ((Ext.refl w).alloc (.cells #[.slice A b.length c, .slice A' dl.length c'] 25)).alloc (.cells #[.slice R n q, .int .i64 keep, .slice none 0 0, .slice none 0 0, .int .i64 next, .int .i64 gen] 34)
  have HD := Lib.hid hbd
  have HS := Lib.hid hbs
  have HX := Lib.hid hx
  have HA := Lib.hid hA
  have HA' := Lib.hid hA'
  have HR := Lib.hid hR
  have p0 := HD.out.at 0 _ rfl
  have p1 := HD.out.at 1 _ rfl
  obtain ⟨s0, s1, s2, s3, s4⟩ := st_at HS.out
  have s5 := HS.out.at 5 _ rfl
  have RC := Lib.hid (fun w' => ref14Cells_any b.length w' (by omega))
  rw [hn] at RC
  have HN := Lib.hid hn
  obtain ⟨gg, hgg⟩ : ∃ gg, gen + 1 = gg := ⟨_, rfl⟩
  have hv1 : (gen : Int) + 1 = (gg : Int) := by omega
  have HPW := Lib.hid (show planW b dl n keep next gen = asks b dl (2 + (gen + 1) % 2 * areaP n) (chB (bookP next keep (List.replicate n 0))) (chB (bookP next keep (List.replicate n 0))).length ++ [(-1, ⟨#[]⟩)] ++ [((((gen + 1) % 2 : Nat) : Int), supB ⟨((gen + 1 : Nat) : Int), ((11 + 2 * n : Nat) : Int), (crc (bookP next keep (List.replicate n 0)) : Nat)⟩)] ++ [(-1, ⟨#[]⟩)] from rfl)
  rw [hgg] at HPW
  have HGG := Lib.hid hgg
  have hgg2 : gg ≤ 2147483647 := by omega
  clear hgg
  generalize planW b dl n keep next gen = PW at *
  have RP := Lib.hid (fun w' (h : HcSl w' R n q (List.replicate n HC.none)) => ref13Print_any R (List.replicate n HC.none) n q next keep gen w' hnx hk hn2 (fun y hy => by obtain ⟨_, rfl⟩ := List.mem_replicate.1 hy; exact ⟨by decide, by decide⟩) h)
  rw [List.map_replicate, show HC.none.ref.toNat = 0 from rfl] at RP
  have RA := Lib.hid (fun w' => ref14Area_any n w' (by omega))
  have d0 : ((n : Int) != (n : Int)) = false := by simp
  have d1 : ((gen : Int) == 2147483647) = false := beq_eq_false_iff_ne.2 (by omega)
  have d2 : (gen == 2147483647) = false := beq_eq_false_iff_ne.2 (by omega)
  have v1 : IntKind.i64.wrap ((gen : Int) + 1) = (gg : Int) := by rw [IntKind.wrap_i64]; omega
  clear hv1
  have har : areaP n ≤ 200 := by have := area_room n; omega
  have HBL := Lib.hid (show (bookP next keep (List.replicate n 0)).length = 11 + 2 * n from by
    rw [← bookR_end (refs := List.replicate n 0) (n := n) (by simp)]
    unfold bookR bookH
    simp [putL_length]
    omega)
  generalize bookP next keep (List.replicate n 0) = bk at *
  have hz9 : 11 + 2 * n ≤ 4011 := by omega
  generalize 11 + 2 * n = z at *
  generalize areaP n = ar at *
  clear hA hA' hR hbd hbs hx hn hnx hk
  go_enter Tryz.func63, Tryz.ntmps63
  go_wp2_with (first
    | (go_at_call 33; refine (RC.out _).mono ?_; rintro e w1 ⟨rfl, rfl⟩)
    | (go_at_call 101; refine (RP.out _ (HR.out.ext HX.out)).mono ?_; rintro e w1 ⟨A1, c1, rfl, hs, hx⟩; have S1 := Lib.hid hs; have D1 := Lib.hid (HD.out.ext hx); have T1 := Lib.hid (HS.out.ext hx); have X1 := Lib.hid (HX.out.trans hx); clear hs hx p0 p1 s0 s1 s2 s3 s4 s5; obtain ⟨s0, s1, s2, s3, s4⟩ := st_at T1.out; have s5 := T1.out.at 5 _ rfl; have p0 := D1.out.at 0 _ rfl; have p1 := D1.out.at 1 _ rfl))
  go_loop [10, 11] (fun o i => ∃ k : Nat, k ≤ n ∧ i = .int .i64 k ∧ o = .slice none 0 0) (fun _ i => n - (intOf i).toNat)
  case atStart => exact ⟨0, Nat.zero_le _, rfl, rfl⟩
  case round =>
  obtain ⟨k, hk, rfl, rfl⟩ := hrel
  rcases Nat.lt_or_ge k n with hlt | hge
  · have hkl : k < (List.replicate n HC.none).length := by rw [List.length_replicate]; exact hlt
    obtain ⟨b5, off, rfl, _, A5, c5, r0, _, _, _, _⟩ := (HR.out.ext X1.out).cell hkl
    rw [List.getElem_replicate] at r0
    have r1 := (show w1.cell? ⟨b5, off + k * 4, none⟩ = some (.int .i64 0) from r0)
    clear r0
    have hki : (k : Int) < (n : Int) := by omega
    go_wp2_with fail
    go_round
    case rel => exact ⟨k + 1, by omega, by go_num, rfl⟩
    case measure => simp [intOf]; omega
  · obtain rfl : n = k := by omega
    clear hge
    have RH := Lib.hid (ref14Chunks_any A1 bk z c1 w1 HBL.out.symm (by omega) S1.out)
    go_wp2_with (go_at_call 104; refine RH.out.mono ?_; rintro e w2 ⟨B2, c2, L, rfl, hs, hl, hx⟩; have S2 := Lib.hid hs; have E2 := Lib.hid (chB_of hl); have D2 := Lib.hid (D1.out.ext hx); have T2 := Lib.hid (T1.out.ext hx); have X2 := Lib.hid (X1.out.trans hx); have SB := Lib.hid (S1.out.ext hx); clear hs hx hl p0 p1 s0 s1 s2 s3 s4 s5)
    have HLN := Lib.hid (show L.length = (chunksP bk).length from by rw [E2.out, chB_len])
    have hNb : (chunksP bk).length ≤ z := by rw [← HBL.out]; exact chunks_le bk
    have HL := Lib.hid (chB_len bk)
    rw [HL.out, ← E2.out] at HPW
    clear HL RH
    generalize (chunksP bk).length = N at *
    obtain ⟨par, hpar⟩ : ∃ p, gg % 2 = p := ⟨_, rfl⟩
    rw [hpar] at HPW
    have hp2 : par ≤ 1 := by omega
    obtain ⟨mm, hmm⟩ : ∃ m, par * ar = m := ⟨_, rfl⟩
    have hmm2 : mm ≤ 200 := by rw [← hmm]; exact Nat.le_trans (Nat.mul_le_mul_right ar hp2) (by omega)
    rw [hmm] at HPW
    have g1 : ((gg : Int)).tmod 2 = (par : Int) := by rw [Int.tmod_eq_emod_of_nonneg (by omega)]; omega
    have g1b : (gg : Int) % 2 = (par : Int) := by omega
    have g2 : IntKind.i64.wrap (par : Int) = (par : Int) := by rw [IntKind.wrap_i64]; omega
    have g3 : IntKind.i64.wrap ((par : Int) * (ar : Int)) = (mm : Int) := by
      rw [show (par : Int) * (ar : Int) = ((par * ar : Nat) : Int) by simp, hmm, IntKind.wrap_i64]; omega
    obtain ⟨m2, hm2⟩ : ∃ m, 2 + mm = m := ⟨_, rfl⟩
    have g4 : IntKind.i64.wrap (2 + (mm : Int)) = (m2 : Int) := by rw [IntKind.wrap_i64]; omega
    rw [hm2] at HPW
    have hm22 : m2 ≤ 202 := by omega
    clear hpar hmm hm2 v1 d1 d2 d0
    go_loopw [10, 15] (fun o i wr => ∃ k m : Nat, ∃ O oc, k ≤ N ∧ m ≤ k ∧ i = .int .i64 k ∧ o = .slice O m oc ∧ wr.ownsRow w2.heap.size 85 2 (.slice O m oc) m (wvs (asks b dl m2 L k)) ∧ Ext w2 wr) (fun _ i _ => N - (intOf i).toNat)
    case atStart => exact ⟨0, 0, none, 0, Nat.zero_le _, Nat.le_refl _, rfl, rfl, World.ownsRow_nil _ _ _ _, Ext.refl _⟩
    case round =>
      obtain ⟨k, m, O, oc, hk2, hmk, rfl, rfl, ho, hx⟩ := hrel
      have HO := Lib.hid ho
      have HW := Lib.hid hx
      have D3 := Lib.hid (D2.out.ext hx)
      have p0 := D3.out.at 0 _ rfl
      have p1 := D3.out.at 1 _ rfl
      rcases Nat.lt_or_ge k N with hlt | hge
      · have hkl : k < L.length := by rw [HLN.out]; exact hlt
        obtain ⟨b6, o6, rfl, hb6, hc6⟩ := S2.out.cells.str hkl
        have r6w := hc6 k hkl
        have hki : (k : Int) < (N : Int) := by omega
        obtain ⟨pos, hpos⟩ : ∃ p, m2 + k = p := ⟨_, rfl⟩
        have HST := Lib.hid (show asks b dl m2 L (k + 1) = askW b dl (pos : Int) L[k] (asks b dl m2 L k) from by
          show askW _ _ _ (L[k]?.getD _) _ = _
          rw [List.getElem?_eq_getElem hkl, hpos]; rfl)
        generalize L[k] = x at *
        have HK := Lib.hid (fun w' (hy : Ext w2 w') => (show w'.cell? ⟨w.heap.size, 0, none⟩ = some (.slice A b.length c) ∧ w'.cell? ⟨w.heap.size, 1, none⟩ = some (.slice A' dl.length c') ∧ w'.cell? ⟨b6, o6 + k, none⟩ = some (.string x) from ⟨(D2.out.ext hy).at 0 _ rfl, (D2.out.ext hy).at 1 _ rfl, (hy.cell (p := ⟨b6, o6 + k, none⟩) hb6).trans r6w⟩))
        have r6 := (HK.out _ hx).2.2
        have g5 : IntKind.i64.wrap ((m2 : Int) + (k : Int)) = (pos : Int) := by rw [IntKind.wrap_i64]; omega
        have HQ := Lib.hid (fun w' (hy : Ext wr w') => ref14asked_any A A' O b dl (asks b dl m2 L k) c c' m oc w2.heap.size (pos : Int) x w' (by unfold maxLen; omega) hdl (by omega) (Nat.le_trans HW.out.size hy.size) (HA.out.ext ((X2.out.trans HW.out).trans hy)) (HA'.out.ext ((X2.out.trans HW.out).trans hy)) (own_ext HO.out hy))
        rw [← HST.out] at HQ
        clear hc6 ho hx HST r6w hpos
        go_wp2_with fail
        go_region_held3 (fun w' => w'.cell? ⟨w.heap.size, 0, none⟩ = some (.slice A b.length c) ∧ w'.cell? ⟨w.heap.size, 1, none⟩ = some (.slice A' dl.length c') ∧ w'.cell? ⟨b6, o6 + k, none⟩ = some (.string x))
          (first | exact HK.out _ X5.out | exact HK.out _ HW.out.drew | exact HK.out _ HW.out)
          (first
            | ((go_at_call 103
                with_reducible refine (HQ.out _ ?_).mono ?_
                (first | exact Ext.refl _ | exact (Ext.refl _).drew)
                rintro e w5 ⟨O', m', oc', hm', rfl, ho5, hg5⟩
                have O5 := Lib.hid ho5
                have X5 := Lib.hid (show Ext w2 w5 from by first | exact HW.out.app HO.out (Nat.le_refl _) hg5 | exact HW.out.drew.app HO.out.drew (Nat.le_refl _) hg5)
                clear ho5 hg5))
            | ((go_at_call 100
                with_reducible refine (RA.out _).mono ?_
                rintro e w4 ⟨rfl, rfl⟩)))
        all_goals
          go_wp2_with fail
          go_roundw
          case rel => exact ⟨k + 1, m', O', oc', by omega, by omega, by go_num, rfl, O5.out, X5.out⟩
          case measure => simp [intOf]; omega
      · obtain rfl : N = k := by omega
        clear hge hx
        have RBk := Lib.hid (ref03Book_any A1 bk z c1 wr HBL.out.symm (SB.out.ext HW.out))
        have RPr := Lib.hid (fun w' (y : Nat) => ref03Print_any (gg : Int) (z : Int) (y : Int) w')
        generalize crc bk = y at *
        have RPr := Lib.hid (fun w' => RPr.out w' y)
        generalize supB ⟨(gg : Int), (z : Int), (y : Int)⟩ = sb at *
        generalize supE ⟨(gg : Int), (z : Int), (y : Int)⟩ = se at *
        generalize asks b dl m2 L N = ws at *
        go_wp2_with (first
          | (go_at_call 105; refine RBk.out.mono ?_; rintro e w4 ⟨rfl, rfl⟩)
          | (go_at_call 106; with_reducible refine (RPr.out _).mono ?_; rintro e w4 ⟨rfl, hx⟩; have X4 := Lib.hid (HW.out.trans hx); have O4 := Lib.hid (own_ext ho hx); clear hx)
          | (at_builtin; refine stop_here ?_))
        refine stop_on ?_
        have Y1 := Lib.hid (X4.out.alloc (.cells #[.int .i64 (-1), .string ⟨#[]⟩] 85))
        refine app_wvs _ rfl _ _ rfl w2.heap.size (.slice O m oc) (m) (ws) rfl (O4.out.alloc _) (some ⟨w4.heap.size, 0, none⟩) 1 1 [((-1), ⟨#[]⟩)] rfl rfl (sl_lit w4 _ 1 (wvs [((-1), ⟨#[]⟩)]) (by unfold maxLen; omega)) (by omega) Y1.out.size ?_
        intro Q1 z1 W1 hown hg
        have X5 := Lib.hid (Y1.out.app (O4.out.alloc _) (Nat.le_refl _) hg)
        have O5 := Lib.hid hown
        clear hown hg
        go_wp2_with (at_builtin; refine stop_here ?_)
        refine stop_on ?_
        have Y2 := Lib.hid (X5.out.alloc (.cells #[.int .i64 (par : Int), .string sb] 85))
        refine app_wvs _ rfl _ _ rfl w2.heap.size (.slice Q1 (m + 1) z1) (m + 1) (ws ++ [(-1, ⟨#[]⟩)]) rfl (O5.out.alloc _) (some ⟨W1.heap.size, 0, none⟩) 1 1 [((par : Int), sb)] rfl rfl (sl_lit W1 _ 1 (wvs [((par : Int), sb)]) (by unfold maxLen; omega)) (by omega) Y2.out.size ?_
        intro Q2 z2 W2 hown hg
        have X6 := Lib.hid (Y2.out.app (O5.out.alloc _) (Nat.le_refl _) hg)
        have O6 := Lib.hid hown
        clear hown hg
        go_wp2_with (at_builtin; refine stop_here ?_)
        refine stop_on ?_
        have Y3 := Lib.hid (X6.out.alloc (.cells #[.int .i64 (-1), .string ⟨#[]⟩] 85))
        refine app_wvs _ rfl _ _ rfl w2.heap.size (.slice Q2 (m + 1 + 1) z2) (m + 1 + 1) (ws ++ [(-1, ⟨#[]⟩)] ++ [((par : Int), sb)]) rfl (O6.out.alloc _) (some ⟨W2.heap.size, 0, none⟩) 1 1 [((-1), ⟨#[]⟩)] rfl rfl (sl_lit W2 _ 1 (wvs [((-1), ⟨#[]⟩)]) (by unfold maxLen; omega)) (by omega) Y3.out.size ?_
        intro Q3 z3 W3 hown hg
        have X7 := Lib.hid (Y3.out.app (O6.out.alloc _) (Nat.le_refl _) hg)
        have O7 := Lib.hid hown
        clear hown hg
        go_wp2_with fail
        go_ret2
        exact ⟨Q3, m + 1 + 1 + 1, z3, rfl, by rw [HPW.out]; exact own_low O7.out X2.out.size, X2.out.trans X7.out⟩
end Go.Proofs.YtjbfopnkeclfgaaGreat
namespace Go.Proofs.YtjbfopnkeclfgaaGreat
set_option maxRecDepth 20000
open Go.RowKit
attribute [local go_sem ↓] Go.wp_at_zero Go.wp_at_succ

theorem st_at6 {w : World} {k : Nat} {a b c d e f : Value} (h : Bx w k #[a, b, c, d, e, f]) : w.cell? ⟨k, 0, none⟩ = some a ∧ w.cell? ⟨k, 1, none⟩ = some b ∧ w.cell? ⟨k, 2, none⟩ = some c ∧ w.cell? ⟨k, 3, none⟩ = some d ∧ w.cell? ⟨k, 4, none⟩ = some e ∧ w.cell? ⟨k, 5, none⟩ = some f :=
  ⟨h.at 0 _ rfl, h.at 1 _ rfl, h.at 2 _ rfl, h.at 3 _ rfl, h.at 4 _ rfl, h.at 5 _ rfl⟩
theorem st_free6 {w : World} {k : Nat} {cs : Array Value} (h : Bx w k cs) : w.frozen? ⟨k, 0, none⟩ = false ∧ w.frozen? ⟨k, 1, none⟩ = false ∧ w.frozen? ⟨k, 2, none⟩ = false ∧ w.frozen? ⟨k, 3, none⟩ = false ∧ w.frozen? ⟨k, 4, none⟩ = false ∧ w.frozen? ⟨k, 5, none⟩ = false :=
  ⟨h.free 0, h.free 1, h.free 2, h.free 3, h.free 4, h.free 5⟩
/-- A function's end whose first result lies in a box of six. -/
theorem ret6_cell {P : Program} {fn : Func} {R : Ending → World → Prop} {a : Act} {W : World} {v : Value} {k : Nat} {x y z u s t : Value} (hb : Bx W k #[x, y, z, u, s, t])
    (h : W.cell? ⟨k, 0, none⟩ = some x → W.cell? ⟨k, 1, none⟩ = some y → W.cell? ⟨k, 2, none⟩ = some z → W.cell? ⟨k, 3, none⟩ = some u → W.cell? ⟨k, 4, none⟩ = some s → W.cell? ⟨k, 5, none⟩ = some t → (results fn a.tmps).run P W = .ok v W) (hd : a.defers = []) (hR : R (.returned v) W) : bodyPost P fn R .ret a W := by
  obtain ⟨h0, h1, h2, h3, h4, h5⟩ := st_at6 hb
  exact bodyPost_ret (h h0 h1 h2 h3 h4 h5) hd hR
theorem st_set6 {w : World} {k : Nat} {a b c d e f : Value} (h : Bx w k #[a, b, c, d, e, f]) (x y z u s t : Value) : Bx ((((((w.setCell ⟨k, 0, none⟩ x).setCell ⟨k, 1, none⟩ y).setCell ⟨k, 2, none⟩ z).setCell ⟨k, 3, none⟩ u).setCell ⟨k, 4, none⟩ s).setCell ⟨k, 5, none⟩ t) k #[x, y, z, u, s, t] :=
  (((((h.set 0 x).set 1 y).set 2 z).set 3 u).set 4 s).set 5 t
theorem ext_store6 {w0 w : World} (h : Ext w0 w) {k : Nat} (hk : w0.heap.size ≤ k) (x y z u s t : Value) : Ext w0 ((((((w.setCell ⟨k, 0, none⟩ x).setCell ⟨k, 1, none⟩ y).setCell ⟨k, 2, none⟩ z).setCell ⟨k, 3, none⟩ u).setCell ⟨k, 4, none⟩ s).setCell ⟨k, 5, none⟩ t) :=
  (((((h.set (p := ⟨k, 0, none⟩) hk x).set (p := ⟨k, 1, none⟩) hk y).set (p := ⟨k, 2, none⟩) hk z).set (p := ⟨k, 3, none⟩) hk u).set (p := ⟨k, 4, none⟩) hk s).set (p := ⟨k, 5, none⟩) hk t
theorem grown_one (w : World) (k j : Nat) (x : Value) : w.grownBy (w.setCell ⟨k, j, none⟩ x) (some k) :=
  ⟨rfl, rfl, rfl, by simp [World.setCell], fun i _ hi => by rw [Below.heap_setCell _ _ _ _ (by simpa using hi)]⟩
theorem grown_store6 (w : World) (k : Nat) (x y z u s t : Value) : w.grownBy ((((((w.setCell ⟨k, 0, none⟩ x).setCell ⟨k, 1, none⟩ y).setCell ⟨k, 2, none⟩ z).setCell ⟨k, 3, none⟩ u).setCell ⟨k, 4, none⟩ s).setCell ⟨k, 5, none⟩ t) (some k) :=
  grown_trans (grown_trans (grown_trans (grown_trans (grown_trans (grown_one _ _ _ _) (grown_one _ _ _ _)) (grown_one _ _ _ _)) (grown_one _ _ _ _)) (grown_one _ _ _ _)) (grown_one _ _ _ _)
theorem no_box6 {w : World} {b off k : Nat} {A1 A2 A3 : Option Addr} {n1 c1 n2 c2 n3 c3 : Nat} {z y x : Int} (hb : Bx w k #[.slice A1 n1 c1, .int .i64 z, .slice A2 n2 c2, .slice A3 n3 c3, .int .i64 y, .int .i64 x]) {r : Int} {u : Bool} (h0 : w.cell? ⟨b, off, none⟩ = some (.int .i64 r)) (h1 : w.cell? ⟨b, off + 1, none⟩ = some (.bool u)) : k ≠ b := fun e => by
  subst e
  obtain ⟨t, hb⟩ := hb
  unfold World.cell? at h0 h1
  rw [show w.heap[(⟨k, off, none⟩ : Addr).block]? = _ from hb] at h0
  rw [show w.heap[(⟨k, off + 1, none⟩ : Addr).block]? = _ from hb] at h1
  match off, h0, h1 with
  | 0, h0, _ => simp at h0
  | 1, _, h1 => simp at h1
  | 2, h0, _ => simp at h0
  | 3, h0, _ => simp at h0
  | 4, _, h1 => simp at h1
  | 5, _, h1 => simp at h1
  | n + 6, h0, _ => simp at h0
/-- Cells without items lie in no state's box. -/
theorem hcs_boxed6 {w : World} {R : Option Addr} {m q : Nat} {l : List HC} (hit : ∀ y ∈ l, y.it = []) (h : HcSl w R m q l) {k : Nat} {A1 A2 A3 : Option Addr} {n1 c1 n2 c2 n3 c3 : Nat} {z1 y1 x1 : Int} (hb : Bx w k #[.slice A1 n1 c1, .int .i64 z1, .slice A2 n2 c2, .slice A3 n3 c3, .int .i64 y1, .int .i64 x1]) (x y z u s t : Value) :
    HcSl ((((((w.setCell ⟨k, 0, none⟩ x).setCell ⟨k, 1, none⟩ y).setCell ⟨k, 2, none⟩ z).setCell ⟨k, 3, none⟩ u).setCell ⟨k, 4, none⟩ s).setCell ⟨k, 5, none⟩ t) R m q l := by
  obtain ⟨h1, cs, h2, h3⟩ := h
  refine ⟨h1, cs, ?_, h3.1, fun i hi => ?_⟩
  · refine h2.grown (grown_store6 w k x y z u s t) (fun hx p hp e => ?_)
    obtain ⟨b, off, e', hlt, hc⟩ := h2.cells hx
    rw [hp] at e'
    cases e'
    have hl := h3.1
    have hpos : 0 < l.length := by
      rcases Nat.eq_zero_or_pos l.length with h0 | h0
      · rw [h0] at hl; exact absurd (List.eq_nil_of_length_eq_zero hl) hx
      · exact h0
    obtain ⟨A, c, e1, e2, _⟩ := h3.2 0 hpos
    have g0 := hc _ _ e1
    have g1 := hc _ _ e2
    simp only [Nat.zero_mul, Nat.add_zero, Nat.zero_add] at g0 g1
    exact no_box6 hb g0 g1 (Option.some.inj e)
  · obtain ⟨A, c, e1, e2, e3, e4, h5⟩ := h3.2 i hi
    have hn := hit _ (List.getElem_mem hi)
    refine ⟨A, c, e1, e2, e3, e4, h5.1, h5.2.1, h5.2.2.1, ?_⟩
    rw [hn]
    exact Cells.nil _ _
set_option maxRecDepth 100000 in
set_option maxHeartbeats 3200000 in
theorem ref12New_any (n keep : Int) (w : World) :
    Calls Tryz.prog 32 #[.int .i64 n, .int .i64 keep] w fun e w' => ∃ S d, e = .returned (.tuple #[.agg #[.slice S (newH n keep).c.length d, .int .i64 (newH n keep).keep, .slice none 0 0, .slice none 0 0, .int .i64 (1 - newHE n keep), .int .i64 0], .int .i64 (newHE n keep)]) ∧ HcSl w' S (newH n keep).c.length d (newH n keep).c ∧ Ext w w' := by
  have hb := Bx.new w #[.slice none 0 0, .int .i64 0, .slice none 0 0, .slice none 0 0, .int .i64 0, .int .i64 0] 34
  have HB := Lib.hid hb
  have HX := Lib.hid ((Ext.refl w).alloc (.cells #[.slice none 0 0, .int .i64 0, .slice none 0 0, .slice none 0 0, .int .i64 0, .int .i64 0] 34))
  clear hb
  have RN := Lib.hid (fun w' => ref05New_any n keep w')
  by_cases hok : newOk n keep
  · have he : newHE n keep = 0 := by unfold newHE; rw [if_pos hok]
    rw [he] at RN ⊢
    have HIT := Lib.hid (show ∀ y ∈ (newH n keep).c, y.it = [] from by
      unfold newH; rw [if_pos hok]
      intro y hy
      obtain ⟨_, rfl⟩ := List.mem_replicate.1 hy
      rfl)
    clear he hok
    generalize newH n keep = h at *
    obtain ⟨l, kp⟩ := h
    simp only at RN HIT ⊢
    generalize hm : l.length = m at *
    go_enter Tryz.func32, Tryz.ntmps32
    go_wp2_with (go_at_call 61; refine (RN.out _).mono ?_; rintro e w2 ⟨S, d, rfl, hs, hx⟩; have HS := Lib.hid hs; have X2 := Lib.hid (HX.out.trans hx); have B2 := Lib.hid (HB.out.ext hx); have z2 := B2.out.lt; obtain ⟨f0, f1, f2, f3, f4, f5⟩ := st_free6 B2.out; obtain ⟨q0, q1, q2, q3, q4, q5⟩ := st_at6 B2.out; clear hs hx)
    refine ret6_cell (k := w.heap.size) (v := .tuple #[.agg #[.slice S m d, .int .i64 kp, .slice none 0 0, .slice none 0 0, .int .i64 1, .int .i64 0], .int .i64 0]) ((st_set6 B2.out _ _ _ _ _ _).ext ((Ext.refl _).alloc _)) (fun r0 r1 r2 r3 r4 r5 => by simp [results, Tryz.results32, go_sem, r0, r1, r2, r3, r4, r5]) rfl ⟨S, d, rfl, (hcs_boxed6 HIT.out HS.out B2.out _ _ _ _ _ _).ext ((Ext.refl _).alloc _), (ext_store6 X2.out (Nat.le_refl _) _ _ _ _ _ _).alloc _⟩
  · have he : newHE n keep = 1 := by unfold newHE; rw [if_neg hok]
    have hh : newH n keep = ⟨[], 0⟩ := by unfold newH; rw [if_neg hok]
    rw [he, hh] at RN ⊢
    clear he hh hok
    simp only [List.length_nil] at RN ⊢
    go_enter Tryz.func32, Tryz.ntmps32
    go_wp2_with (go_at_call 61; refine (RN.out _).mono ?_; rintro e w2 ⟨S, d, rfl, hs, hx⟩; have HS := Lib.hid hs; have X2 := Lib.hid (HX.out.trans hx); have B2 := Lib.hid (HB.out.ext hx); have z2 := B2.out.lt; obtain ⟨f0, f1, f2, f3, f4, f5⟩ := st_free6 B2.out; obtain ⟨q0, q1, q2, q3, q4, q5⟩ := st_at6 B2.out; clear hs hx)
    refine ret6_cell (k := w.heap.size) (v := .tuple #[.agg #[.slice none 0 0, .int .i64 0, .slice none 0 0, .slice none 0 0, .int .i64 0, .int .i64 0], .int .i64 1]) ((st_set6 B2.out _ _ _ _ _ _).ext ((Ext.refl _).alloc _)) (fun r0 r1 r2 r3 r4 r5 => by simp [results, Tryz.results32, go_sem, r0, r1, r2, r3, r4, r5]) rfl ⟨none, 0, rfl, ⟨rfl, [], Sl.nil _, HcAt.nil _⟩, (ext_store6 X2.out (Nat.le_refl _) _ _ _ _ _ _).alloc _⟩
end Go.Proofs.YtjbfopnkeclfgaaGreat
namespace Go.Proofs.YtjbfopnkeclfgaaGreat
set_option maxRecDepth 20000
open Go.RowKit
attribute [local go_sem ↓] Go.wp_at_zero Go.wp_at_succ

theorem settle_none (n : Nat) (keep : Int) : (settleH ⟨List.replicate n HC.none, keep⟩).c = List.replicate n HC.none := by
  simp [settleH, HC.none]
theorem bx_other6 {w : World} {k j : Nat} {cs : Array Value} (h : Bx w k cs) (hk : j ≠ k) (x y z u s t : Value) : Bx ((((((w.setCell ⟨j, 0, none⟩ x).setCell ⟨j, 1, none⟩ y).setCell ⟨j, 2, none⟩ z).setCell ⟨j, 3, none⟩ u).setCell ⟨j, 4, none⟩ s).setCell ⟨j, 5, none⟩ t) k cs :=
  (((((h.set_other (p := ⟨j, 0, none⟩) hk x).set_other (p := ⟨j, 1, none⟩) hk y).set_other (p := ⟨j, 2, none⟩) hk z).set_other (p := ⟨j, 3, none⟩) hk u).set_other (p := ⟨j, 4, none⟩) hk s).set_other (p := ⟨j, 5, none⟩) hk t
set_option maxRecDepth 100000 in
set_option maxHeartbeats 1600000 in
theorem ref15Settled_new (R : Option Addr) (n q next gen gg : Nat) (keep : Int) (w : World) (hn : n ≤ 2000) (hgn : gen < 2147483647) (hgg : gen + 1 = gg) (hR : HcSl w R n q (List.replicate n HC.none)) :
    Calls Tryz.prog 65 #[.agg #[.slice R n q, .int .i64 keep, .slice none 0 0, .slice none 0 0, .int .i64 next, .int .i64 gen]] w fun e w' => ∃ S d, e = .returned (.agg #[.slice S n d, .int .i64 keep, .slice none 0 0, .slice none 0 0, .int .i64 next, .int .i64 gg]) ∧ HcSl w' S n d (List.replicate n HC.none) ∧ Ext w w' := by
  have hb1 := (Bx.new w #[.slice R n q, .int .i64 keep, .slice none 0 0, .slice none 0 0, .int .i64 next, .int .i64 gen] 34).ext ((Ext.refl _).alloc (.cells #[.slice none 0 0, .int .i64 0, .slice none 0 0, .slice none 0 0, .int .i64 0, .int .i64 0] 34))
  have hb2 := Bx.new (w.alloc (.cells #[.slice R n q, .int .i64 keep, .slice none 0 0, .slice none 0 0, .int .i64 next, .int .i64 gen] 34)) #[.slice none 0 0, .int .i64 0, .slice none 0 0, .slice none 0 0, .int .i64 0, .int .i64 0] 34
  rw [World.size_alloc] at hb2
  have hx := ((Ext.refl w).alloc (.cells #[.slice R n q, .int .i64 keep, .slice none 0 0, .slice none 0 0, .int .i64 next, .int .i64 gen] 34)).alloc (.cells #[.slice none 0 0, .int .i64 0, .slice none 0 0, .slice none 0 0, .int .i64 0, .int .i64 0] 34)
  generalize hW : ((w.alloc _).alloc _) = W1 at hb1 hb2 hx
  have HB1 := Lib.hid hb1
  have HB2 := Lib.hid hb2
  have HX := Lib.hid hx
  have HIT := Lib.hid (show ∀ y ∈ List.replicate n HC.none, y.it = [] from by
    intro y hy; obtain ⟨_, rfl⟩ := List.mem_replicate.1 hy; rfl)
  have RS := Lib.hid (fun w' (h : HcSl w' R n q (List.replicate n HC.none)) => ref05Settle_any R (List.replicate n HC.none) n q keep w' (by omega) h)
  rw [settle_none] at RS
  have HR := Lib.hid (hR.ext hx)
  have v1 : IntKind.i64.wrap ((gen : Int) + 1) = (gg : Int) := by rw [IntKind.wrap_i64]; omega
  have HK := Lib.hid (fun w' (hy : Ext W1 w') => (show w'.cell? ⟨w.heap.size, 0, none⟩ = some (.slice R n q) ∧ w'.cell? ⟨w.heap.size, 1, none⟩ = some (.int .i64 keep) ∧ w'.cell? ⟨w.heap.size, 2, none⟩ = some (.slice none 0 0) ∧ w'.cell? ⟨w.heap.size, 3, none⟩ = some (.slice none 0 0) ∧ w'.cell? ⟨w.heap.size, 4, none⟩ = some (.int .i64 next) ∧ w'.cell? ⟨w.heap.size, 5, none⟩ = some (.int .i64 gen) from st_at6 (hb1.ext hy)))
  obtain ⟨s0, s1, s2, s3, s4, s5⟩ := HK.out _ (Ext.refl _)
  clear hb1 hb2 hx hR hgg
  generalize List.replicate n HC.none = l at *
  go_enter Tryz.func65, Tryz.ntmps65
  go_wp2_with fail
  clear hW
  go_region_held3 (fun w' => w'.cell? ⟨w.heap.size, 0, none⟩ = some (.slice R n q) ∧ w'.cell? ⟨w.heap.size, 1, none⟩ = some (.int .i64 keep) ∧ w'.cell? ⟨w.heap.size, 2, none⟩ = some (.slice none 0 0) ∧ w'.cell? ⟨w.heap.size, 3, none⟩ = some (.slice none 0 0) ∧ w'.cell? ⟨w.heap.size, 4, none⟩ = some (.int .i64 next) ∧ w'.cell? ⟨w.heap.size, 5, none⟩ = some (.int .i64 gen))
    (first | (with_reducible exact HK.out _ X5.out) | (with_reducible exact HK.out _ ((Ext.refl W1).drew)) | (with_reducible exact HK.out _ (Ext.refl W1)) | (with_reducible exact st_at6 (E5.out _ _ _ _ _ _)))
    (first
      | ((go_at_call 108
          with_reducible refine (RS.out _ ?_).mono ?_
          (first | exact HR.out.ext (Ext.refl _).drew | exact HR.out)
          rintro e w5 ⟨S, d, rfl, hs, hx⟩
          have X5 := Lib.hid (show Ext W1 w5 from by first | exact (Ext.refl W1).drew.trans hx | exact hx)
          have S5 := Lib.hid hs
          have B5 := Lib.hid (HB2.out.ext X5.out)
          have z5 := B5.out.lt
          obtain ⟨f0, f1, f2, f3, f4, f5⟩ := st_free6 B5.out
          obtain ⟨q0, q1, q2, q3, q4, q5⟩ := st_at6 B5.out
          have E5 := Lib.hid (fun x y z u s t => bx_other6 (HB1.out.ext X5.out) (show w.heap.size + 1 ≠ w.heap.size by omega) x y z u s t)
          clear hs hx)))
  all_goals
    go_wp2_with fail
    refine ret6_cell (k := w.heap.size + 1) (v := .agg #[.slice S n d, .int .i64 keep, .slice none 0 0, .slice none 0 0, .int .i64 next, .int .i64 gg]) (st_set6 B5.out _ _ _ _ _ _) (fun r0 r1 r2 r3 r4 r5 => by simp [results, Tryz.results65, go_sem, r0, r1, r2, r3, r4, r5]) rfl ⟨S, d, rfl, hcs_boxed6 HIT.out S5.out B5.out _ _ _ _ _ _, ext_store6 (HX.out.trans X5.out) (Nat.le_succ _) _ _ _ _ _ _⟩
end Go.Proofs.YtjbfopnkeclfgaaGreat
