/- The book of a state without volumes and tasks: plain, and the reference's Print of layer 13. Walks of the small functions of package disk and of the reference: has, takes, isFlush, may. The walks of copied, at both kinds. The walks of both Put. The walk of write. The library's iterators over a slice of writes: Backward and Values. -/
import Derived.Test.YtnlkakbpcdfgfaaGreatK03
import Derived.Test.YtnlkakbpcdfgfaaGreatK04
import Derived.Test.YtnlkakbpcdfgfaaGreatRows
import Derived.Test.YtnlkakbpcdfgfaaGreatK02
import Derived.Deep.RegionHeld3
import Derived.Deep.AppendLies
import Derived.Deep.DrawnRows
import Derived.RangeFuncNested
import Derived.RangeFuncBound
import Derived.RangeFuncCalls
import Derived.RangeFuncLeaves
import Derived.Shelf.Abstract
import Derived.Shelf.RegionOpen
import Derived.OwnWalkIn
import Derived.TacticsInMore
import Derived.LoopNIn
import Derived.LoopIn
namespace Go.Proofs.YtnlkakbpcdfgfaaGreat
set_option maxRecDepth 20000
open Go.RowKit

/-- P13.1, of a state without volumes and tasks: the next volume's number, none, no tasks, Keep, how many cells, their Refs. -/
def bookP (next keep : Nat) (refs : List Nat) : List UInt8 := putL next 4 ++ putL 0 1 ++ putL 0 2 ++ putL keep 2 ++ putL refs.length 2 ++ refs.flatMap (fun r => putL r 2)
def bookH (next keep n : Nat) : List UInt8 := putL next 4 ++ putL 0 1 ++ putL 0 2 ++ putL keep 2 ++ putL n 2
def bookR (next keep n : Nat) (refs : List Nat) (k : Nat) : List UInt8 := bookH next keep n ++ (refs.take k).flatMap (fun r => putL r 2)
theorem bookR_zero (next keep n : Nat) (refs : List Nat) : bookR next keep n refs 0 = bookH next keep n := by unfold bookR; simp
theorem bookR_step {next keep n : Nat} {refs : List Nat} {k : Nat} (h : k < refs.length) : bookR next keep n refs (k + 1) = bookR next keep n refs k ++ putL refs[k] 2 := by
  unfold bookR
  rw [List.take_succ_eq_append_getElem h, List.flatMap_append, List.append_assoc]; simp
theorem bookR_end {next keep n : Nat} {refs : List Nat} (h : refs.length = n) : bookR next keep n refs n = bookP next keep refs := by
  subst h; unfold bookR bookP bookH; rw [List.take_length]
theorem ref01Put_o (n m : Nat) (w : World) (h1 : 1 ≤ m) (h2 : m ≤ 4) (h3 : n < 256 ^ m) :
    Calls Tryz.prog 83 #[.int .i64 n, .int .i64 m] w fun e w' => ∃ A cap, e = .returned (.slice A m cap) ∧ w'.ownsRow w.heap.size 5 1 (.slice A m cap) m ((putL n m).map bv) ∧ Ext w w' := by
  have h4 : n < 4294967296 := Nat.lt_of_lt_of_le h3 (Nat.pow_le_pow_right (n := 256) (by omega) h2)
  refine (ref01Put_own n m w (by omega) (by omega)).mono ?_
  rintro e w' ⟨v, rfl, h, hb⟩
  rw [putS_some h1 h2 h3, putL_length] at h
  obtain ⟨A, cap, rfl⟩ := own_shape h
  exact ⟨A, cap, rfl, h, hb⟩
theorem own_low {w : World} {B B' e s n : Nat} {v : Value} {xs : List Value} (h : w.ownsRow B e s v n xs) (hb : B' ≤ B) : w.ownsRow B' e s v n xs :=
  ⟨h.1, h.2.imp id (fun ⟨g, cap, cur, e0, hg, r⟩ => ⟨g, cap, cur, e0, Nat.le_trans hb hg, r⟩)⟩
theorem own_off {w : World} {k e s n : Nat} {v : Value} {xs : List Value} (h : w.ownsRow (k + 1) e s v n xs) : v.ownBlock ≠ some k := fun e => by have := (h.lt k e).1; omega
theorem st_at {w : World} {k : Nat} {a b c d e f : Value} (h : Bx w k #[a, b, c, d, e, f]) : w.cell? ⟨k, 0, none⟩ = some a ∧ w.cell? ⟨k, 1, none⟩ = some b ∧ w.cell? ⟨k, 2, none⟩ = some c ∧ w.cell? ⟨k, 3, none⟩ = some d ∧ w.cell? ⟨k, 4, none⟩ = some e :=
  ⟨h.at 0 _ rfl, h.at 1 _ rfl, h.at 2 _ rfl, h.at 3 _ rfl, h.at 4 _ rfl⟩
set_option maxHeartbeats 1600000 in
theorem ref06Print_nil (w : World) :
    Calls Tryz.prog 84 #[.slice none 0 0] w fun e w' => ∃ A cap, e = .returned (.slice A 2 cap) ∧ w'.ownsRow w.heap.size 5 1 (.slice A 2 cap) 2 ((putL 0 2).map bv) ∧ Ext w w' := by
  have HP := Lib.hid (fun w' => (show Calls Tryz.prog 83 #[.int .i64 0, .int .i64 2] w' fun e w'' => ∃ A cap, e = .returned (.slice A 2 cap) ∧ w''.ownsRow w'.heap.size 5 1 (.slice A 2 cap) 2 ((putL 0 2).map bv) ∧ Ext w' w'' from ref01Put_o 0 2 w' (by omega) (by omega) (by decide)))
  go_enter Tryz.func84, Tryz.ntmps84
  go_wp2_with (go_at_call 83; refine (HP.out _).mono ?_; rintro e w1 ⟨A, cap, rfl, ho, hx⟩; have HO := Lib.hid ho; have HX := Lib.hid hx; clear ho hx)
  go_loop [3, 4] (fun v k => k = .int .i64 0 ∧ v = .slice A 2 cap) (fun _ _ => 0)
  case atStart => exact ⟨rfl, rfl⟩
  case round =>
    obtain ⟨rfl, rfl⟩ := hrel
    go_wp2_with fail
    go_ret
    exact ⟨A, cap, rfl, HO.out, HX.out⟩
set_option maxRecDepth 100000 in
set_option maxHeartbeats 6400000 in
theorem ref13Print_any (R : Option Addr) (l : List HC) (n q next keep : Nat) (gen : Int) (w : World) (hnx : next < 4294967296) (hk : keep < 65536) (hn : n ≤ 2000) (hr : ∀ y ∈ l, 0 ≤ y.ref ∧ y.ref ≤ 65535) (hA : HcSl w R n q l) :
    Calls Tryz.prog 53 #[.agg #[.slice R n q, .int .i64 keep, .slice none 0 0, .slice none 0 0, .int .i64 next, .int .i64 gen]] w fun e w' => ∃ A cap, e = .returned (.tuple #[.slice A (11 + 2 * n) cap, .int .i64 0]) ∧ Sl w' A (11 + 2 * n) cap ((bookP next keep (l.map (fun y => y.ref.toNat))).map bv) ∧ Ext w w' := by
  have hb := Bx.new w #[.slice R n q, .int .i64 keep, .slice none 0 0, .slice none 0 0, .int .i64 next, .int .i64 gen] 33
  have HB := Lib.hid hb
  have HX := Lib.hid ((Ext.refl w).alloc (.cells #[.slice R n q, .int .i64 keep, .slice none 0 0, .slice none 0 0, .int .i64 next, .int .i64 gen] 33))
  have HA := Lib.hid hA
  have HR := Lib.hid hr
  have HL := Lib.hid hA.1
  clear hA hr hb
  obtain ⟨p0, p1, p2, p3, p4⟩ := st_at HB.out
  have HP1 := Lib.hid (fun w' => (show Calls Tryz.prog 83 #[.int .i64 next, .int .i64 4] w' fun e w'' => ∃ A cap, e = .returned (.slice A 4 cap) ∧ w''.ownsRow w'.heap.size 5 1 (.slice A 4 cap) 4 ((putL next 4).map bv) ∧ Ext w' w'' from ref01Put_o next 4 w' (by omega) (by omega) (by simpa using hnx)))
  have HP2 := Lib.hid (fun w' => (show Calls Tryz.prog 83 #[.int .i64 0, .int .i64 1] w' fun e w'' => ∃ A cap, e = .returned (.slice A 1 cap) ∧ w''.ownsRow w'.heap.size 5 1 (.slice A 1 cap) 1 ((putL 0 1).map bv) ∧ Ext w' w'' from ref01Put_o 0 1 w' (by omega) (by omega) (by decide)))
  have HP4 := Lib.hid (fun w' => (show Calls Tryz.prog 83 #[.int .i64 keep, .int .i64 2] w' fun e w'' => ∃ A cap, e = .returned (.slice A 2 cap) ∧ w''.ownsRow w'.heap.size 5 1 (.slice A 2 cap) 2 ((putL keep 2).map bv) ∧ Ext w' w'' from ref01Put_o keep 2 w' (by omega) (by omega) (by simpa using hk)))
  have HP5 := Lib.hid (fun w' => (show Calls Tryz.prog 83 #[.int .i64 n, .int .i64 2] w' fun e w'' => ∃ A cap, e = .returned (.slice A 2 cap) ∧ w''.ownsRow w'.heap.size 5 1 (.slice A 2 cap) 2 ((putL n 2).map bv) ∧ Ext w' w'' from ref01Put_o n 2 w' (by omega) (by omega) (by simp; omega)))
  clear hnx hk
  go_enter Tryz.func53, Tryz.ntmps53
  go_wp2_with (first
    | (go_at_call 83; first
      | (with_reducible refine (HP1.out _).mono ?_; rintro e w1 ⟨A1, c1, rfl, ho, hx⟩; have HO := Lib.hid (own_low ho (show w.heap.size + 1 ≤ _ by simp)); have HB := Lib.hid (HB.out.ext hx); have HX := Lib.hid (HX.out.trans hx); clear ho hx p0 p1 p2 p3 p4; obtain ⟨p0, p1, p2, p3, p4⟩ := st_at HB.out)
      | (with_reducible refine (HP2.out _).mono ?_; rintro e w2 ⟨A2, c2, rfl, ho, hx⟩; have HS2 := Lib.hid (own_sl ho); have HY := Lib.hid hx; clear ho hx))
    | (at_builtin; refine stop_here ?_))

  refine stop_on ?_
  refine app_bytes _ rfl _ _ rfl (w.heap.size + 1) _ 4 (putL next 4) rfl (own_below HO.out HY.out) _ 1 _ (putL 0 1) rfl (putL_length _ _) HS2.out.1 HS2.out.cells (by omega) (by have := (HB.out.ext HY.out).lt; omega) ?_
  intro A4 c4 w4 hown hg
  have HX := Lib.hid (show Ext w w4 from Below.grown (HX.out.trans HY.out) hg (HX.out.trans HY.out).size (fun q hq => by have := ((own_below HO.out HY.out).lt q hq).1; omega))
  have HB := Lib.hid ((HB.out.ext HY.out).grown hg (own_off (own_below HO.out HY.out)))
  have HO := Lib.hid (show w4.ownsRow (w.heap.size + 1) 5 1 (.slice A4 5 c4) 5 ((putL next 4 ++ putL 0 1).map bv) from hown)
  obtain ⟨p0, p1, p2, p3, p4⟩ := st_at HB.out
  clear hown hg HS2 HY
  go_wp2_with fail
  go_loop [4, 5] (fun v i => i = .int .i64 0 ∧ v = .slice A4 5 c4) (fun _ _ => 0)
  case atStart => exact ⟨rfl, rfl⟩
  case round =>
  obtain ⟨rfl, rfl⟩ := hrel
  go_wp2_with (first
    | (go_at_call 84; refine (ref06Print_nil _).mono ?_; rintro e w2 ⟨A2, c2, rfl, ho, hx⟩; have HS2 := Lib.hid (own_sl ho); have HY := Lib.hid hx; clear ho hx)
    | (at_builtin; refine stop_here ?_))
  refine stop_on ?_
  refine app_bytes _ rfl _ _ rfl (w.heap.size + 1) _ 5 (putL next 4 ++ putL 0 1) rfl (own_below HO.out HY.out) _ 2 _ (putL 0 2) rfl (putL_length _ _) HS2.out.1 HS2.out.cells (by omega) (by have := (HB.out.ext HY.out).lt; omega) ?_
  intro A4 c4 w4 hown hg
  have HX := Lib.hid (show Ext w w4 from Below.grown (HX.out.trans HY.out) hg (HX.out.trans HY.out).size (fun q hq => by have := ((own_below HO.out HY.out).lt q hq).1; omega))
  have HB := Lib.hid ((HB.out.ext HY.out).grown hg (own_off (own_below HO.out HY.out)))
  have HO := Lib.hid (show w4.ownsRow (w.heap.size + 1) 5 1 (.slice A4 7 c4) 7 ((putL next 4 ++ putL 0 1 ++ putL 0 2).map bv) from hown)
  obtain ⟨p0, p1, p2, p3, p4⟩ := st_at HB.out
  clear hown hg HS2 HY
  go_wp2_with (first
    | (go_at_call 83; with_reducible refine (HP4.out _).mono ?_; rintro e w2 ⟨A2, c2, rfl, ho, hx⟩; have HS2 := Lib.hid (own_sl ho); have HY := Lib.hid hx; clear ho hx)
    | (at_builtin; refine stop_here ?_))
  refine stop_on ?_
  refine app_bytes _ rfl _ _ rfl (w.heap.size + 1) _ 7 (putL next 4 ++ putL 0 1 ++ putL 0 2) rfl (own_below HO.out HY.out) _ 2 _ (putL keep 2) rfl (putL_length _ _) HS2.out.1 HS2.out.cells (by omega) (by have := (HB.out.ext HY.out).lt; omega) ?_
  intro A4 c4 w4 hown hg
  have HX := Lib.hid (show Ext w w4 from Below.grown (HX.out.trans HY.out) hg (HX.out.trans HY.out).size (fun q hq => by have := ((own_below HO.out HY.out).lt q hq).1; omega))
  have HB := Lib.hid ((HB.out.ext HY.out).grown hg (own_off (own_below HO.out HY.out)))
  have HO := Lib.hid (show w4.ownsRow (w.heap.size + 1) 5 1 (.slice A4 9 c4) 9 ((putL next 4 ++ putL 0 1 ++ putL 0 2 ++ putL keep 2).map bv) from hown)
  obtain ⟨p0, p1, p2, p3, p4⟩ := st_at HB.out
  clear hown hg HS2 HY
  go_wp2_with (first
    | (go_at_call 83; with_reducible refine (HP5.out _).mono ?_; rintro e w2 ⟨A2, c2, rfl, ho, hx⟩; have HS2 := Lib.hid (own_sl ho); have HY := Lib.hid hx; clear ho hx)
    | (at_builtin; refine stop_here ?_))
  refine stop_on ?_
  refine app_bytes _ rfl _ _ rfl (w.heap.size + 1) _ 9 (putL next 4 ++ putL 0 1 ++ putL 0 2 ++ putL keep 2) rfl (own_below HO.out HY.out) _ 2 _ (putL n 2) rfl (putL_length _ _) HS2.out.1 HS2.out.cells (by omega) (by have := (HB.out.ext HY.out).lt; omega) ?_
  intro A4 c4 w4 hown hg
  have HX := Lib.hid (show Ext w w4 from Below.grown (HX.out.trans HY.out) hg (HX.out.trans HY.out).size (fun q hq => by have := ((own_below HO.out HY.out).lt q hq).1; omega))
  have HB := Lib.hid ((HB.out.ext HY.out).grown hg (own_off (own_below HO.out HY.out)))
  have HO := Lib.hid (show w4.ownsRow (w.heap.size + 1) 5 1 (.slice A4 11 c4) 11 ((putL next 4 ++ putL 0 1 ++ putL 0 2 ++ putL keep 2 ++ putL n 2).map bv) from hown)
  obtain ⟨p0, p1, p2, p3, p4⟩ := st_at HB.out
  clear hown hg HS2 HY
  go_wp2_with fail
  have HO := Lib.hid (show w4.ownsRow (w.heap.size + 1) 5 1 (.slice A4 11 c4) 11 ((bookH next keep n).map bv) from HO.out)
  clear HP1 HP2 HP4 HP5
  go_loopw [4, 6] (fun v i wr => ∃ k : Nat, ∃ O oc, k ≤ n ∧ i = .int .i64 k ∧ v = .slice O (11 + 2 * k) oc ∧ wr.ownsRow (w.heap.size + 1) 5 1 (.slice O (11 + 2 * k) oc) (11 + 2 * k) ((bookR next keep n (l.map (fun y => y.ref.toNat)) k).map bv) ∧ Bx wr w.heap.size #[.slice R n q, .int .i64 keep, .slice none 0 0, .slice none 0 0, .int .i64 next, .int .i64 gen] ∧ Ext w wr) (fun _ i _ => n - (intOf i).toNat)
  case atStart => exact ⟨0, A4, c4, Nat.zero_le _, rfl, rfl, by rw [bookR_zero]; exact HO.out, HB.out, HX.out⟩
  case round =>
  obtain ⟨k, O, oc, hk, rfl, rfl, ho, hb, hx⟩ := hrel
  clear HX HB HO p0 p1 p2 p3 p4
  have GO := Lib.hid ho
  have GB := Lib.hid hb
  have GX := Lib.hid hx
  clear ho hb hx
  obtain ⟨p0, p1, p2, p3, p4⟩ := st_at GB.out
  rcases Nat.lt_or_ge k n with hlt | hge
  · have hkl : k < l.length := by rw [← HL.out]; exact hlt
    obtain ⟨b, off, rfl, _, A5, c5, r0, _, _, _, _⟩ := (HA.out.ext GX.out).cell hkl
    have hr0 := HR.out _ (List.getElem_mem hkl)
    have HS := Lib.hid (bookR_step (next := next) (keep := keep) (n := n) (refs := l.map (fun y => y.ref.toNat)) (k := k) (by rw [List.length_map]; exact hkl))
    rw [List.getElem_map] at HS
    obtain ⟨r, hr⟩ := Int.eq_ofNat_of_zero_le hr0.1
    have hr65 : r ≤ 65535 := by have := hr0.2; omega
    rw [hr] at r0 HS
    rw [Int.toNat_natCast] at HS
    clear hr hr0
    have hki : (k : Int) < (n : Int) := by omega
    have d1 : decide ((65535 : Int) < (r : Int)) = false := decide_eq_false (by omega)
    have d2 : decide (65535 < r) = false := decide_eq_false (by omega)
    have HP := Lib.hid (fun w' => (show Calls Tryz.prog 83 #[.int .i64 r, .int .i64 2] w' fun e w'' => ∃ A cap, e = .returned (.slice A 2 cap) ∧ w''.ownsRow w'.heap.size 5 1 (.slice A 2 cap) 2 ((putL r 2).map bv) ∧ Ext w' w'' from ref01Put_o r 2 w' (by omega) (by omega) (by simp; omega)))
    go_wp2_with (first
      | (go_at_call 83; with_reducible refine (HP.out _).mono ?_; rintro e w2 ⟨A2, c2, rfl, ho, hx⟩; have HS2 := Lib.hid (own_sl ho); have HY := Lib.hid hx; clear ho hx)
      | (at_builtin; refine stop_here ?_))
    refine stop_on ?_
    refine app_bytes _ rfl _ _ rfl (w.heap.size + 1) _ (11 + 2 * k) _ rfl (own_below GO.out HY.out) _ 2 _ (putL r 2) rfl (putL_length _ _) HS2.out.1 HS2.out.cells (by omega) (by have := (GB.out.ext HY.out).lt; omega) ?_
    intro A4 c4 w5 hown hg
    have GX := Lib.hid (show Ext w w5 from Below.grown (GX.out.trans HY.out) hg (GX.out.trans HY.out).size (fun q hq => by have := ((own_below GO.out HY.out).lt q hq).1; omega))
    have GB := Lib.hid ((GB.out.ext HY.out).grown hg (own_off (own_below GO.out HY.out)))
    rw [← HS.out, show 11 + 2 * k + 2 = 11 + 2 * (k + 1) by omega] at hown
    have GO := Lib.hid hown
    clear hown hg HS2 HY
    rw [show 11 + 2 * k + 2 = 11 + 2 * (k + 1) by omega]
    go_wp2_with fail
    go_roundw
    case rel => exact ⟨k + 1, A4, c4, by omega, by go_num, rfl, GO.out, GB.out, GX.out⟩
    case measure => simp [intOf]; omega
  · obtain rfl : n = k := by omega
    clear hge
    have HE := Lib.hid (bookR_end (next := next) (keep := keep) (n := n) (refs := l.map (fun y => y.ref.toNat)) (by rw [List.length_map]; exact HL.out.symm))
    go_wp2_with fail
    go_ret2
    exact ⟨O, oc, rfl, by rw [← HE.out]; exact own_sl GO.out, GX.out⟩
end Go.Proofs.YtnlkakbpcdfgfaaGreat
namespace Go.Proofs.YtnlkakbpcdfgfaaGreat
set_option maxRecDepth 20000
open Go.RowKit

def hasS (n : Nat) (at_ : Int) : Bool := decide (0 ≤ at_) && decide (at_ < n)
def takesS (n : Nat) (x : Wr) : Bool := hasS n x.1 && ((x.2.size : Int) == 40)
def isFl (x : Wr) : Bool := (x.1 == -1) && x.2.toList.isEmpty

set_option maxHeartbeats 1000000 in
theorem has_any (A : Option Addr) (n c : Nat) (at_ : Int) (w : World) :
    Calls Tryz.prog 101 #[.slice A n c, .int .i64 at_] w fun e w' => e = .returned (.bool (hasS n at_)) ∧ w = w' := by
  unfold hasS
  by_cases h1 : 0 ≤ at_ <;> by_cases h2 : at_ < n
  all_goals
    go_enter Tryz.func101, Tryz.ntmps101
    go_wp2
    go_ret
    exact ⟨by simp [*], rfl⟩

set_option maxHeartbeats 1000000 in
theorem isFlush_any (a : Int) (s : ByteArray) (w : World) :
    Calls Tryz.prog 106 #[.agg #[.int .i64 a, .string s]] w fun e w' => e = .returned (.bool (isFl (a, s))) ∧ Ext w w' := by
  unfold isFl
  have HA := fun v => Lib.hid ((Ext.refl w).alloc (.cells #[.int .i64 v, .string s] 58))
  rcases Decidable.em (a = -1) with rfl | h1 <;> cases h2 : s.toList.isEmpty
  all_goals
    go_enter Tryz.func106, Tryz.ntmps106
    go_wp2
    go_ret
    exact ⟨by simp_all, (HA _).out⟩

set_option maxHeartbeats 1000000 in
theorem takes_any (A : Option Addr) (n c : Nat) (a : Int) (s : ByteArray) (w : World) :
    Calls Tryz.prog 107 #[.slice A n c, .agg #[.int .i64 a, .string s]] w fun e w' => e = .returned (.bool (takesS n (a, s))) ∧ Ext w w' := by
  unfold takesS
  have HA := Lib.hid ((Ext.refl w).alloc (.cells #[.int .i64 a, .string s] 58))
  cases h1 : hasS n a
  · go_enter Tryz.func107, Tryz.ntmps107
    go_wp2_with (go_at_call 101; refine (has_any _ _ _ _ _).mono ?_; rintro e w' ⟨rfl, rfl⟩)
    go_ret
    exact ⟨by simp_all <;> omega, HA.out⟩
  · go_enter Tryz.func107, Tryz.ntmps107
    go_wp2_with (go_at_call 101; refine (has_any _ _ _ _ _).mono ?_; rintro e w' ⟨rfl, rfl⟩)
    go_ret
    exact ⟨by simp_all <;> omega, HA.out⟩

set_option maxHeartbeats 1000000 in
theorem may_any (A A' : Option Addr) (n c n' c' : Nat) (a : Int) (s : ByteArray) (w : World) :
    Calls Tryz.prog 24 #[.agg #[.slice A n c, .slice A' n' c'], .int .i64 a, .string s] w fun e w' => e = .returned (.bool (takesS n (a, s))) ∧ Ext w w' := by
  unfold takesS hasS
  have HA := Lib.hid ((Ext.refl w).alloc (.cells #[.slice A n c, .slice A' n' c'] 26))
  by_cases h1 : 0 ≤ a <;> by_cases h2 : a < n
  all_goals
    go_enter Tryz.func24, Tryz.ntmps24
    go_wp2
    go_ret
    exact ⟨by simp_all <;> omega, HA.out⟩
end Go.Proofs.YtnlkakbpcdfgfaaGreat
namespace Go.Proofs.YtnlkakbpcdfgfaaGreat
set_option maxRecDepth 20000
open Go.RowKit

theorem infoS : (Tryz.prog.info? 9).map (fun i => (i.zero, i.size, i.bytes)) = some (some (.string (ByteArray.mk #[])), 1, 16) := by kernel_rfl
theorem infoW : (Tryz.prog.info? 58).map (fun i => (i.zero, i.size, i.bytes)) = some (some (.agg #[.int .i64 0, .string (ByteArray.mk #[])]), 2, 24) := by kernel_rfl

set_option maxHeartbeats 1000000 in
set_option maxRecDepth 20000 in
theorem copiedB_any (A : Option Addr) (l : List ByteArray) (c more : Nat) (w : World) (hl : l.length ≤ 1000000) (hm : more ≤ 1) (hn : A = none → c = 0) (hA : Cells w A (l.map sv)) :
    Calls Tryz.prog 69 #[.slice A l.length c, .int .i64 more] w fun e w' => e = .returned (.slice (some ⟨w.heap.size, 0, none⟩) l.length (l.length + more)) ∧
      w'.ownsRow w.heap.size 9 1 (.slice (some ⟨w.heap.size, 0, none⟩) l.length (l.length + more)) l.length (l.map sv) ∧ Ext w w' := by
  have HA := Lib.hid hA
  have HN := Lib.hid hn
  clear hA hn
  obtain ⟨i0, hi, hz0, hz1, hz2⟩ := info_parts infoS
  have HI := Lib.hid hi
  have HZ0 := Lib.hid hz0
  have HZ1 := Lib.hid hz1
  have HZ2 := Lib.hid hz2
  clear hi hz0 hz1 hz2
  go_enter Tryz.func69, Tryz.ntmps69
  go_wp2_with (at_make; refine stop_here ?_)
  refine stop_on ?_

  refine wpList_make_cap _ rfl _ _ 23 rfl 9 i0 _ Tryz.underlying23 HI.out HZ0.out _ _ _ _ l.length (l.length + more) rfl rfl (by omega) (by omega) (by omega) (by rw [HZ2.out]; omega) (by unfold maxLen; omega) ?_
  rw [HZ1.out]
  obtain ⟨cur, hcur⟩ : ∃ cur, cur = madeCells (Value.string (ByteArray.mk #[])).cells ((l.length + more) * 1) := ⟨_, rfl⟩
  have hsz : cur.size = (l.length + more) * 1 := by rw [hcur]; exact size_madeCells _ _
  rw [← hcur]
  clear hcur
  have HS := Lib.hid hsz
  clear hsz
  have HO := Lib.hid (own_copied w l.length (l.length + more) 1 9 cur (l.map sv) (by unfold maxLen; omega) (by omega) HS.out (by simp))
  have hrun := run_copy_head (P := Tryz.prog) (w.alloc (.cells cur 9)) 23 23 3 9 i0 Tryz.underlying23 HI.out w.heap.size l.length (l.length + more) c A cur 9 (heap_alloc_new w _) (l.map sv) (by rw [HZ1.out]; simp) HN.out (HA.out.ext ((Ext.refl w).alloc _)) (by rw [HS.out]; simp) (svs_oneCell l) (fun h => by have := (HA.out).len_none h; simpa using this)
  obtain ⟨w1, hw1⟩ : ∃ w1, w1 = (w.alloc (.cells cur 9)).setRow w.heap.size (l.map sv ++ cur.toList.drop (l.map sv).length).toArray := ⟨_, rfl⟩
  rw [← hw1] at HO hrun
  clear hw1
  go_wp2
  go_ret
  exact ⟨rfl, HO.out⟩

set_option maxHeartbeats 1000000 in
set_option maxRecDepth 20000 in
theorem copiedW_any (A : Option Addr) (l : List Wr) (c more : Nat) (w : World) (hl : l.length ≤ 1000000) (hm : more ≤ 1) (hn : A = none → c = 0) (hA : Cells w A (wvs l)) :
    Calls Tryz.prog 70 #[.slice A l.length c, .int .i64 more] w fun e w' => e = .returned (.slice (some ⟨w.heap.size, 0, none⟩) l.length (l.length + more)) ∧
      w'.ownsRow w.heap.size 58 2 (.slice (some ⟨w.heap.size, 0, none⟩) l.length (l.length + more)) l.length (wvs l) ∧ Ext w w' := by
  have HA := Lib.hid hA
  have HN := Lib.hid hn
  clear hA hn
  obtain ⟨i0, hi, hz0, hz1, hz2⟩ := info_parts infoW
  have HI := Lib.hid hi
  have HZ0 := Lib.hid hz0
  have HZ1 := Lib.hid hz1
  have HZ2 := Lib.hid hz2
  clear hi hz0 hz1 hz2
  go_enter Tryz.func70, Tryz.ntmps70
  go_wp2_with (at_make; refine stop_here ?_)
  refine stop_on ?_
  refine wpList_make_cap _ rfl _ _ 24 rfl 58 i0 _ Tryz.underlying24 HI.out HZ0.out _ _ _ _ l.length (l.length + more) rfl rfl (by omega) (by omega) (by omega) (by rw [HZ2.out]; omega) (by unfold maxLen; omega) ?_
  rw [HZ1.out]
  obtain ⟨cur, hcur⟩ : ∃ cur, cur = madeCells (Value.agg #[.int .i64 0, .string (ByteArray.mk #[])]).cells ((l.length + more) * 2) := ⟨_, rfl⟩
  have hsz : cur.size = (l.length + more) * 2 := by rw [hcur]; exact size_madeCells _ _
  rw [← hcur]
  clear hcur
  have HS := Lib.hid hsz
  clear hsz
  have HO := Lib.hid (own_copied w l.length (l.length + more) 2 58 cur (wvs l) (by unfold maxLen; omega) (by omega) HS.out (wvs_length l))
  have hrun := run_copy_head (P := Tryz.prog) (w.alloc (.cells cur 58)) 24 24 3 58 i0 Tryz.underlying24 HI.out w.heap.size l.length (l.length + more) c A cur 58 (heap_alloc_new w _) (wvs l) (by rw [HZ1.out]; exact wvs_length l) HN.out (HA.out.ext ((Ext.refl w).alloc _)) (by rw [HS.out, wvs_length]; omega) (wvs_oneCell l) (fun h => by have := (HA.out).len_none h; rw [wvs_length] at this; omega)
  obtain ⟨w1, hw1⟩ : ∃ w1, w1 = (w.alloc (.cells cur 58)).setRow w.heap.size (wvs l ++ cur.toList.drop (wvs l).length).toArray := ⟨_, rfl⟩
  rw [← hw1] at HO hrun
  clear hw1
  go_wp2
  go_ret
  exact ⟨rfl, HO.out⟩

theorem copiedB0 (A : Option Addr) (l : List ByteArray) (c : Nat) (w : World) (hl : l.length ≤ 1000000) (hn : A = none → c = 0) (hA : Cells w A (l.map sv)) :
    Calls Tryz.prog 69 #[.slice A l.length c, .int .i64 0] w fun e w' => e = .returned (.slice (some ⟨w.heap.size, 0, none⟩) l.length l.length) ∧
      w'.ownsRow w.heap.size 9 1 (.slice (some ⟨w.heap.size, 0, none⟩) l.length l.length) l.length (l.map sv) ∧ Ext w w' :=
  copiedB_any A l c 0 w hl (by omega) hn hA
theorem copiedW0 (A : Option Addr) (l : List Wr) (c : Nat) (w : World) (hl : l.length ≤ 1000000) (hn : A = none → c = 0) (hA : Cells w A (wvs l)) :
    Calls Tryz.prog 70 #[.slice A l.length c, .int .i64 0] w fun e w' => e = .returned (.slice (some ⟨w.heap.size, 0, none⟩) l.length l.length) ∧
      w'.ownsRow w.heap.size 58 2 (.slice (some ⟨w.heap.size, 0, none⟩) l.length l.length) l.length (wvs l) ∧ Ext w w' :=
  copiedW_any A l c 0 w hl (by omega) hn hA
theorem copiedW1 (A : Option Addr) (l : List Wr) (c : Nat) (w : World) (hl : l.length ≤ 1000000) (hn : A = none → c = 0) (hA : Cells w A (wvs l)) :
    Calls Tryz.prog 70 #[.slice A l.length c, .int .i64 1] w fun e w' => e = .returned (.slice (some ⟨w.heap.size, 0, none⟩) l.length (l.length + 1)) ∧
      w'.ownsRow w.heap.size 58 2 (.slice (some ⟨w.heap.size, 0, none⟩) l.length (l.length + 1)) l.length (wvs l) ∧ Ext w w' :=
  copiedW_any A l c 1 w hl (by omega) hn hA
end Go.Proofs.YtnlkakbpcdfgfaaGreat
namespace Go.Proofs.YtnlkakbpcdfgfaaGreat
set_option maxRecDepth 20000
open Go.RowKit
attribute [local go_sem ↓] Go.wp_at_zero Go.wp_at_succ

/-- P2.2: a write is taken, or not. -/
def putW (b : List ByteArray) (l : List Wr) (x : Wr) : List Wr := if takesS b.length x then l ++ [x] else l
def putE (b : List ByteArray) (x : Wr) : Int := if takesS b.length x then 0 else 1

/-- A world in which three boxes lie, one behind the other. -/
theorem three_boxes (w : World) (a b c d e f : Value) (t u v : TypeId) : ∀ w1, w1 = ((w.alloc (.cells #[a, b] t)).alloc (.cells #[c, d] u)).alloc (.cells #[e, f] v) →
    Ext w w1 ∧ w1.heap.size = w.heap.size + 1 + 1 + 1 ∧ Box2 w1 w.heap.size a b ∧ Box2 w1 (w.heap.size + 1) c d ∧ Box2 w1 (w.heap.size + 1 + 1) e f := by
  rintro w1 rfl
  have b0 := Box2.new w a b t
  have b1 := Box2.new (w.alloc (.cells #[a, b] t)) c d u
  have b2 := Box2.new ((w.alloc (.cells #[a, b] t)).alloc (.cells #[c, d] u)) e f v
  rw [World.size_alloc] at b1
  rw [World.size_alloc, World.size_alloc] at b2
  have x1 := (Ext.refl (w.alloc (.cells #[a, b] t))).alloc (.cells #[c, d] u)
  have x2 := (Ext.refl ((w.alloc (.cells #[a, b] t)).alloc (.cells #[c, d] u))).alloc (.cells #[e, f] v)
  exact ⟨(((Ext.refl w).alloc _).alloc _).alloc _, by simp, (b0.ext (by simp) x1).ext (by simp; omega) x2, b1.ext (by simp) x2, b2⟩

end Go.Proofs.YtnlkakbpcdfgfaaGreat
namespace Go.Proofs.YtnlkakbpcdfgfaaGreat
set_option maxRecDepth 20000
open Go.RowKit

/-- One write done; all of them, in order. -/
def write1 (b : List ByteArray) (x : Wr) : List ByteArray := if hasS b.length x.1 then b.set x.1.toNat x.2 else b
def writeL (b : List ByteArray) (l : List Wr) : List ByteArray := l.foldl write1 b
theorem write1_length (b : List ByteArray) (x : Wr) : (write1 b x).length = b.length := by
  unfold write1; split <;> simp
theorem writeL_length (l : List Wr) : ∀ b, (writeL b l).length = b.length := by
  induction l with
  | nil => intro b; rfl
  | cons x l ih => intro b; exact (ih (write1 b x)).trans (write1_length b x)
theorem writeL_step (b : List ByteArray) (l : List Wr) (k : Nat) (h : k < l.length) : writeL b (l.take (k + 1)) = write1 (writeL b (l.take k)) l[k] := by
  unfold writeL; rw [List.take_succ_eq_append_getElem h, List.foldl_append]; rfl

set_option maxHeartbeats 2000000 in
theorem write_any (B0 g n cap : Nat) (bl : List ByteArray) (A : Option Addr) (l : List Wr) (c : Nat) (w : World) (hn : n ≤ 1000000) (hl : l.length ≤ maxLen)
    (hown : w.ownsRow B0 9 1 (.slice (some ⟨g, 0, none⟩) n cap) n (bl.map sv)) (hA : Cells w A (wvs l)) (hne : wvs l ≠ [] → ∀ p, A = some p → some g ≠ some p.block) :
    Calls Tryz.prog 97 #[.slice (some ⟨g, 0, none⟩) n cap, .slice A l.length c] w fun e w' => e = .returned (.tuple #[]) ∧
      w'.ownsRow B0 9 1 (.slice (some ⟨g, 0, none⟩) n cap) n ((writeL bl l).map sv) ∧ w.grownBy w' (some g) := by
  unfold maxLen at hl
  have hbn : bl.length = n := by have := hown.1; simpa using this
  have HO := Lib.hid hown
  have HA := Lib.hid hA
  have HNE := Lib.hid hne
  have HBN := Lib.hid hbn
  clear hown hA hne hbn
  go_enter Tryz.func97, Tryz.ntmps97
  go_wp2
  go_loopw [8] (fun i wr => ∃ k : Nat, k ≤ l.length ∧ i = .int .i64 k ∧ wr.ownsRow B0 9 1 (.slice (some ⟨g, 0, none⟩) n cap) n ((writeL bl (l.take k)).map sv) ∧ w.grownBy wr (some g)) (fun i _ => l.length - (intOf i).toNat)
  case atStart => exact ⟨0, Nat.zero_le _, rfl, HO.out, World.grownBy.refl _ _⟩
  case round =>
    obtain ⟨k, hk, rfl, ho, hg⟩ := hrel
    by_cases hlt : k < l.length
    · obtain ⟨ba, off, rfl, _, hc⟩ := (HA.out.grown hg HNE.out).wr hlt
      obtain ⟨hck, hcs⟩ := hc k hlt
      have HS := Lib.hid (writeL_step bl l k hlt)
      have hlen := (writeL_length (l.take k) bl).trans HBN.out
      clear hc
      generalize hq : l[k] = x at *
      clear hq
      obtain ⟨xa, xs⟩ := x
      simp only at hck hcs
      generalize hB : writeL bl (l.take k) = bk at *
      clear hB
      subst hlen
      have hgl := (ho.lt g rfl).2
      have HO2 := Lib.hid (ho.alloc (.cells #[.int .i64 xa, .string xs] 58))
      have HG := Lib.hid (grown_trans hg (World.grownBy_alloc wr (.cells #[.int .i64 xa, .string xs] 58) (some g)))
      have HH := Lib.hid (has_any (some ⟨g, 0, none⟩) bk.length cap xa (wr.alloc (.cells #[.int .i64 xa, .string xs] 58)))
      cases hh : hasS bk.length xa
      · have HZ := Lib.hid hh
        clear hh ho hg
        go_wp2_with (go_at_call 101; refine HH.out.mono ?_; rintro e w2 ⟨rfl, rfl⟩; rw [HZ.out])
        go_roundw
        case rel => exact ⟨k + 1, by omega, by go_num, by rw [HS.out]; unfold write1; rw [if_neg (by simp [HZ.out])]; exact HO2.out, HG.out⟩
        case measure => simp [intOf]; omega
      · have HZ := Lib.hid hh
        obtain ⟨m, rfl⟩ : ∃ m : Nat, xa = m := by
          unfold hasS at hh
          simp at hh
          exact ⟨xa.toNat, by omega⟩
        have hmlt : m < bk.length := by
          unfold hasS at hh
          simp at hh
          omega
        have hmi : (m : Int) < (bk.length : Int) := by omega
        have HST := Lib.hid (show ((wr.setCell ⟨g, m, none⟩ (.string xs)).alloc (.cells #[.int .i64 m, .string xs] 58)).ownsRow B0 9 1 (.slice (some ⟨g, 0, none⟩) bk.length cap) bk.length ((bk.set m xs).map sv) ∧ w.grownBy ((wr.setCell ⟨g, m, none⟩ (.string xs)).alloc (.cells #[.int .i64 m, .string xs] 58)) (some g) from ⟨by rw [List.map_set]; exact (ho.stored m (.string xs)).1.alloc _, grown_trans (grown_trans hg (ho.stored m (.string xs)).2) (World.grownBy_alloc _ _ _)⟩)
        have hf := HO2.out.frozenAt m
        obtain ⟨u, hu⟩ : ∃ u, (wr.alloc (.cells #[.int .i64 m, .string xs] 58)).cell? ⟨g, m, none⟩ = some u := by
          rw [HO2.out.cellAt m (by omega)]
          exact ⟨_, List.getElem?_eq_getElem (by simpa using hmlt)⟩
        clear hh ho hg
        go_wp2_with (go_at_call 101; refine HH.out.mono ?_; rintro e w2 ⟨rfl, rfl⟩; rw [HZ.out])
        go_roundw
        case rel => exact ⟨k + 1, by omega, by go_num, by rw [HS.out]; unfold write1; rw [if_pos HZ.out, Int.toNat_natCast]; exact HST.out.1, HST.out.2⟩
        case measure => simp [intOf]; omega
    · obtain rfl : k = l.length := by omega
      rw [List.take_length] at ho
      have HO := Lib.hid ho
      have HG := Lib.hid hg
      clear ho hg
      go_wp2
      go_end0
      exact ⟨rfl, HO.out, HG.out⟩
end Go.Proofs.YtnlkakbpcdfgfaaGreat
namespace Go.Proofs.YtnlkakbpcdfgfaaGreat
set_option maxRecDepth 20000
open Go.RowKit Go.Shelf
attribute [local go_sem] Oper.semAt_some

/-- What has come when k rounds over l from behind are over. -/
def backK (l : List Wr) (k : Nat) : List (Int × Wr) := (List.range k).map fun (j : Nat) => ((l.length : Int) - 1 - (j : Int), l[l.length - 1 - j]?.getD (0, ByteArray.mk #[]))
theorem backK_succ (l : List Wr) (k : Nat) : backK l (k + 1) = backK l k ++ [((l.length : Int) - 1 - k, l[l.length - 1 - k]?.getD (0, ByteArray.mk #[]))] := by simp [backK, List.range_succ]
theorem backK_length (l : List Wr) (k : Nat) : (backK l k).length = k := by simp [backK]

/-- A slice of writes that lies below n₀. -/
def WrsAt (n₀ : Nat) (W : World) (A : Option Addr) (l : List Wr) : Prop := l ≠ [] → ∃ b off, A = some ⟨b, off, none⟩ ∧ b < n₀ ∧ ∀ j (hj : j < l.length), W.cell? ⟨b, off + j * 2, none⟩ = some (.int .i64 l[j].1) ∧ W.cell? ⟨b, off + j * 2 + 1, none⟩ = some (.string l[j].2)
theorem WrsAt.below {n₀ : Nat} {X Y : World} (hb : Below n₀ X Y) {A : Option Addr} {l : List Wr} (h : WrsAt n₀ X A l) : WrsAt n₀ Y A l := fun hl => by
  obtain ⟨b, off, e, hlt, hc⟩ := h hl
  exact ⟨b, off, e, hlt, fun j hj => ⟨(hb.cell (p := ⟨b, off + j * 2, none⟩) hlt).trans (hc j hj).1, (hb.cell (p := ⟨b, off + j * 2 + 1, none⟩) hlt).trans (hc j hj).2⟩⟩
theorem WrsAt.of {w : World} {A : Option Addr} {l : List Wr} (h : Cells w A (wvs l)) : WrsAt w.heap.size w A l := fun hl => by
  cases l with
  | nil => exact absurd rfl hl
  | cons x l => exact h.wr (k := 0) (by simp)

set_option maxRecDepth 100000 in
set_option maxHeartbeats 2000000 in
theorem back1_in (F : Fence) (n : Nat) (h8 : F.fn 125) (hro : F.round = none) (hn : 1 ≤ n) (r Bs n₀ : Nat) (A : Option Addr) (cap : Nat) (l : List Wr) (hreach : l.length ≤ 1000000) (hBn : Bs < n₀) (J Jx : List (Int × Wr) → World → Prop)
    (hY : ∀ pre x W, J pre W → pre.length < l.length → YieldAt F (n - 1) Tryz.prog r #[.int .i64 x.1, .agg #[.int .i64 x.2.1, .string x.2.2]] W fun e W' =>
      (e = .returned (.bool true) ∧ J (pre ++ [x]) W' ∧ Below n₀ W W') ∨ (e = .returned (.bool false) ∧ Jx (pre ++ [x]) W'))
    (W : World) (hBs : W.cell? ⟨Bs, 0, none⟩ = some (.slice A l.length cap)) (hc : WrsAt n₀ W A l) (h0 : J [] W) :
    CallsIn F n Tryz.prog 125 #[.func (.yield r) #[] #[], .pointer (some ⟨Bs, 0, none⟩)] W fun e W' => (∃ v, e = .returned v) ∧
      ((∃ ys, ys = backK l l.length ∧ J ys W') ∨ (∃ pre, (∃ k, k ≤ l.length ∧ pre = backK l k) ∧ Jx pre W')) := by
  have HC := Lib.hid hc
  have HBs := Lib.hid hBs
  clear hc hBs
  have hBs := HBs.out
  refine callsIn_of_wp Tryz.func125 rfl h8 ?_ hro
  simp only [Tryz.ntmps125, List.size_toArray, List.length_cons, List.length_nil, Nat.reduceAdd, Nat.reduceSub, Array.replicate_succ, Array.replicate_zero, List.push_toArray, List.append_toArray, List.nil_append, List.cons_append]
  gi_wp2
  gi_loopw [3] (fun i wr => ∃ k : Nat, k ≤ l.length ∧ i = .int .i64 ((l.length : Int) - 1 - k) ∧ J (backK l k) wr ∧ Below n₀ W wr)
    (fun i _ => (intOf i + 1).toNat)
  case atStart => exact ⟨0, Nat.zero_le _, by simp, h0, Below.refl _ _⟩
  case round =>
    obtain ⟨k, hk, rfl, hJs, hnx⟩ := hrel
    have hBw := (hnx.cell (p := ⟨Bs, 0, none⟩) hBn).trans HBs.out
    by_cases hlt : k < l.length
    · obtain ⟨b, off, rfl, hb, hcs⟩ := HC.out.below hnx (by intro e; subst e; simp at hlt)
      obtain ⟨q, hq⟩ : ∃ q, q = l.length - 1 - k := ⟨_, rfl⟩
      have hql : q < l.length := by omega
      have hqi : (l.length : Int) - 1 - k = (q : Int) := by omega
      have hget : l[l.length - 1 - k]?.getD (0, ByteArray.mk #[]) = l[q] := by rw [← hq]; simp [hql]
      obtain ⟨hc1, hc2⟩ := hcs q hql
      obtain ⟨fn, tmps, assign, body, hy, hR⟩ := hY _ ((l.length : Int) - 1 - k, l[q]) wr hJs (by rw [backK_length]; exact hlt)
      dsimp only at hy
      have HS := Lib.hid (show backK l (k + 1) = backK l k ++ [((l.length : Int) - 1 - k, l[q])] by rw [backK_succ, hget])
      have HQI := Lib.hid hqi
      have HQ := Lib.hid hq
      have HG := Lib.hid hget
      clear hget hq hcs
      generalize hx : l[q] = x at *
      clear hx
      obtain ⟨xa, xs⟩ := x
      rw [hqi] at hy ⊢
      clear hqi
      gi_wp2
      refine hR.mono ?_
      rintro e W3 (⟨rfl, hJ3, hk3⟩ | ⟨rfl, hJx3⟩)
      · gi_wp2
        go_roundw
        case rel => exact ⟨k + 1, by omega, by have := HQI.out; congr 1; omega, by rw [HS.out]; exact hJ3, hnx.trans hk3⟩
        case measure => simp [intOf]
      · gi_wp2
        refine bodyPost_ret (results_none rfl _ _ _) rfl ?_
        exact ⟨⟨_, rfl⟩, .inr ⟨_, ⟨k + 1, by omega, HS.out.symm⟩, hJx3⟩⟩
    · obtain rfl : k = l.length := by omega
      rw [show (l.length : Int) - 1 - l.length = -1 by omega]
      gi_wp2
      go_end0
      exact ⟨⟨_, rfl⟩, .inl ⟨_, rfl, hJs⟩⟩

set_option maxHeartbeats 1000000 in
theorem back_in (F : Fence) (n : Nat) (h5 : F.fn 102) (hro : F.round = none) (a : Option Addr) (len cap : Nat) (w : World) :
    CallsIn F n Tryz.prog 102 #[.slice a len cap] w fun e w' => e = .returned (.func (.func 125) #[] #[.pointer (some ⟨w.heap.size, 0, none⟩)]) ∧ w' = w.alloc (.cells #[.slice a len cap] 24) := by
  refine callsIn_of_wp Tryz.func102 rfl h5 ?_ hro
  simp only [Tryz.ntmps102, List.size_toArray, List.length_cons, List.length_nil, Nat.reduceAdd, Nat.reduceSub, Array.replicate_succ, Array.replicate_zero, List.push_toArray, List.append_toArray, List.nil_append, List.cons_append]
  gi_wp2
  go_ret
  exact ⟨rfl, rfl⟩

theorem back_stops (F : Fence) (n : Nat) (h7 : F.fn 125) (hro : F.round = none) (hn : 1 ≤ n) (Bs n₀ : Nat) (A : Option Addr) (cap : Nat) (l : List Wr) (hreach : l.length ≤ 1000000) (w : World) (hBs : Bs < n₀) (hn₀ : n₀ ≤ w.heap.size)
    (hc : w.cell? ⟨Bs, 0, none⟩ = some (.slice A l.length cap)) (hI : WrsAt n₀ w A l) :
    SeqStopsK F n Tryz.prog 125 #[.pointer (some ⟨Bs, 0, none⟩)] (fun x : Int × Wr => #[Value.int .i64 x.1, .agg #[.int .i64 x.2.1, .string x.2.2]]) (Below n₀) (fun ys => ys = backK l l.length) (fun pre => ∃ k, k ≤ l.length ∧ pre = backK l k) l.length w := fun r J Jx W hW _ _ hY h0 => by
  have hc' := (hW.cell (p := ⟨Bs, 0, none⟩) (Nat.lt_of_lt_of_le hBs hn₀)).trans hc
  exact back1_in F n h7 hro hn r Bs n₀ A cap l hreach hBs J Jx hY W hc' (hI.below (hW.mono hn₀)) h0

theorem take_snoc' (l : List Wr) (k : Nat) (h : k < l.length) : l.take (k + 1) = l.take k ++ [l[k]] := List.take_succ_eq_append_getElem h

set_option maxRecDepth 100000 in
set_option maxHeartbeats 2000000 in
theorem vals1_in (F : Fence) (n : Nat) (h8 : F.fn 130) (hro : F.round = none) (hn : 1 ≤ n) (r Bs n₀ : Nat) (A : Option Addr) (cap : Nat) (l : List Wr) (hreach : l.length ≤ 1000000) (J Jx : List Wr → World → Prop)
    (hY : ∀ pre x W, J pre W → pre.length < l.length → YieldAt F (n - 1) Tryz.prog r #[.agg #[.int .i64 x.1, .string x.2]] W fun e W' =>
      (e = .returned (.bool true) ∧ J (pre ++ [x]) W' ∧ Below n₀ W W') ∨ (e = .returned (.bool false) ∧ Jx (pre ++ [x]) W'))
    (W : World) (hBs : W.cell? ⟨Bs, 0, none⟩ = some (.slice A l.length cap)) (hc : WrsAt n₀ W A l) (hn₀ : n₀ ≤ W.heap.size) (hJ : AbidesFrom W.heap.size J) (h0 : J [] W) :
    CallsIn F n Tryz.prog 130 #[.func (.yield r) #[] #[], .pointer (some ⟨Bs, 0, none⟩)] W fun e W' => (∃ v, e = .returned v) ∧
      ((∃ ys, ys = l ∧ J ys W') ∨ (∃ pre, (∃ k, k ≤ l.length ∧ pre = l.take k) ∧ Jx pre W')) := by
  have HC := Lib.hid hc
  clear hc
  refine callsIn_of_wp Tryz.func130 rfl h8 ?_ hro
  simp only [Tryz.ntmps130, List.size_toArray, List.length_cons, List.length_nil, Nat.reduceAdd, Nat.reduceSub, Array.replicate_succ, Array.replicate_zero, List.push_toArray, List.append_toArray, List.nil_append, List.cons_append]
  gi_wp2
  clear hBs
  gi_loopw [7] (fun i wr => ∃ k : Nat, k ≤ l.length ∧ i = .int .i64 k ∧ J (l.take k) wr ∧ Below n₀ W wr)
    (fun i _ => l.length - (intOf i).toNat)
  case atStart => exact ⟨0, Nat.zero_le _, rfl, h0, Below.refl _ _⟩
  case round =>
    obtain ⟨k, hk, rfl, hJs, hnx⟩ := hrel
    by_cases hlt : k < l.length
    · obtain ⟨b, off, rfl, hb, hcs⟩ := HC.out.below hnx (by intro e; subst e; simp at hlt)
      obtain ⟨hc1, hc2⟩ := hcs k hlt
      have HS := Lib.hid (take_snoc' l k hlt)
      have HL := Lib.hid (show (l.take k).length < l.length by simp; omega)
      clear hcs
      generalize hx : l[k] = x at *
      clear hx
      obtain ⟨xa, xs⟩ := x
      simp only at hc1 hc2
      have hJ2 : J (l.take k) (wr.alloc (.cells #[.int .i64 xa, .string xs] 58)) := hJ _ _ _ none hJs (World.grownBy_alloc _ _ _) (fun r e => by cases e)
      obtain ⟨fn, tmps, assign, body, hy, hR⟩ := hY _ (xa, xs) _ hJ2 HL.out
      dsimp only at hy
      gi_wp2
      refine hR.mono ?_
      rintro e W3 (⟨rfl, hJ3, hk3⟩ | ⟨rfl, hJx3⟩)
      · have HX := Lib.hid ((hnx.alloc (Nat.le_trans hn₀ hnx.size) _).trans hk3)
        clear hk3
        gi_wp2
        go_roundw
        case rel => exact ⟨k + 1, by omega, by go_num, by rw [HS.out]; exact hJ3, HX.out⟩
        case measure => simp [intOf]; omega
      · gi_wp2
        refine bodyPost_ret (results_none rfl _ _ _) rfl ?_
        exact ⟨⟨_, rfl⟩, .inr ⟨_, ⟨k + 1, by omega, HS.out.symm⟩, hJx3⟩⟩
    · obtain rfl : k = l.length := by omega
      rw [List.take_length] at hJs
      gi_wp2
      go_end0
      exact ⟨⟨_, rfl⟩, .inl ⟨_, rfl, hJs⟩⟩

set_option maxHeartbeats 1000000 in
theorem vals_in (F : Fence) (n : Nat) (h5 : F.fn 105) (hro : F.round = none) (a : Option Addr) (len cap : Nat) (w : World) :
    CallsIn F n Tryz.prog 105 #[.slice a len cap] w fun e w' => e = .returned (.func (.func 130) #[] #[.pointer (some ⟨w.heap.size, 0, none⟩)]) ∧ w' = w.alloc (.cells #[.slice a len cap] 24) := by
  refine callsIn_of_wp Tryz.func105 rfl h5 ?_ hro
  simp only [Tryz.ntmps105, List.size_toArray, List.length_cons, List.length_nil, Nat.reduceAdd, Nat.reduceSub, Array.replicate_succ, Array.replicate_zero, List.push_toArray, List.append_toArray, List.nil_append, List.cons_append]
  gi_wp2
  go_ret
  exact ⟨rfl, rfl⟩

theorem vals_stops (F : Fence) (n : Nat) (h7 : F.fn 130) (hro : F.round = none) (hn : 1 ≤ n) (Bs n₀ : Nat) (A : Option Addr) (cap : Nat) (l : List Wr) (hreach : l.length ≤ 1000000) (w : World) (hBs : Bs < w.heap.size) (hn₀ : n₀ ≤ w.heap.size)
    (hc : w.cell? ⟨Bs, 0, none⟩ = some (.slice A l.length cap)) (hI : WrsAt n₀ w A l) :
    SeqStopsK F n Tryz.prog 130 #[.pointer (some ⟨Bs, 0, none⟩)] (fun x : Wr => #[.agg #[.int .i64 x.1, .string x.2]]) (Below n₀) (fun ys => ys = l) (fun pre => ∃ k, k ≤ l.length ∧ pre = l.take k) l.length w := fun r J Jx W hW hJ _ hY h0 => by
  have hc' := (hW.cell (p := ⟨Bs, 0, none⟩) hBs).trans hc
  exact vals1_in F n h7 hro hn r Bs n₀ A cap l hreach J Jx hY W hc' (hI.below (hW.mono hn₀)) (Nat.le_trans hn₀ hW.size) hJ h0
end Go.Proofs.YtnlkakbpcdfgfaaGreat
