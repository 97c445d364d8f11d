/- What tells a commit, as plain numbers and bytes; no program in sight but bytes' own. The library's iterators over a slice of writes: Backward and Values. Walks of the small functions of package disk and of the reference: has, takes, isFlush, may. Walks of the functions that look through a disk: Short, Small, and both Right. Walks of what compares disks: slices.Equal at both kinds, and both Same. Walks of both Same. The walk of the reference's Read. The walk of Read. The walks of copied, at both kinds. The walk of write. -/
import Derived.Test.YtpcimjccngidgaaK04
import Derived.Test.YtpcimjccngidgaaK01
import Derived.Test.YtpcimjccngidgaaRows
import Derived.RangeFuncNested
import Derived.RangeFuncBound
import Derived.RangeFuncCalls
import Derived.RangeFuncLeaves
import Derived.Shelf.Abstract
import Derived.Shelf.RegionOpen
import Derived.OwnWalkIn
import Derived.TacticsInMore
import Derived.LoopNIn
import Derived.LoopIn
import Derived.Deep.QuietTactic
import Derived.BigQuiet
import Derived.StillTailTactics
namespace Go.Proofs.Ytpcimjccngidgaa
set_option maxRecDepth 20000
open Go.RowKit

structure Sup where
  g : Int
  z : Int
  s : Int
deriving DecidableEq
def Sup.v (x : Sup) : Value := .agg #[.int .i64 x.g, .int .i64 x.z, .int .i64 x.s]
def supR (x : Sup) : Bool := decide (1 ≤ x.g) && (decide (x.g ≤ 2147483647) && (decide (0 ≤ x.z) && (decide (x.z ≤ 2147483647) && (decide (0 ≤ x.s) && decide (x.s ≤ 4294967295)))))
theorem supR_iff (x : Sup) : supR x = true ↔ (1 ≤ x.g ∧ x.g ≤ 2147483647) ∧ (0 ≤ x.z ∧ x.z ≤ 2147483647) ∧ (0 ≤ x.s ∧ x.s ≤ 4294967295) := by
  unfold supR; simp only [Bool.and_eq_true, decide_eq_true_eq]; omega
def supL (x : Sup) : List UInt8 := [97, 115] ++ putL x.g.toNat 4 ++ putL x.z.toNat 4 ++ putL x.s.toNat 4
theorem supL_length (x : Sup) : (supL x).length = 14 := by simp [supL, putL_length]
def supB (x : Sup) : ByteArray := if supR x then sealB (supL x) else ⟨#[]⟩
def supE (x : Sup) : Int := if supR x then 0 else 1
def sup0 : Sup := ⟨0, 0, 0⟩
/-- What stands in a block's places. -/
def supAt (l : List UInt8) : Sup := ⟨(leNat ((l.drop 2).take 4) : Nat), (leNat ((l.drop 6).take 4) : Nat), (leNat ((l.drop 10).take 4) : Nat)⟩
def parS (b : ByteArray) : Option Sup := if openE b.data.toList = 0 ∧ supR (supAt (openL b.data.toList)) = true ∧ supB (supAt (openL b.data.toList)) = b then some (supAt (openL b.data.toList)) else none
def parX (b : ByteArray) : Sup := (parS b).getD sup0
def parE (b : ByteArray) : Int := if (parS b).isSome then 0 else 2
def pickI (a b : ByteArray) : Int := match parS a, parS b with
  | some x, some y => if x.g < y.g then 1 else 0
  | none, some _ => 1
  | _, none => 0
def pickX (a b : ByteArray) : Sup := match parS a, parS b with
  | some x, some y => if x.g < y.g then y else x
  | none, some y => y
  | some x, none => x
  | none, none => sup0
def pickE (a b : ByteArray) : Int := match parS a, parS b with
  | none, none => 4
  | _, _ => 0

theorem sup_ext {x y : Sup} (h1 : x.g = y.g) (h2 : x.z = y.z) (h3 : x.s = y.s) : x = y := by cases x; cases y; simp_all
theorem supL_at (x : Sup) (h : supR x = true) (m : List UInt8) : supAt (supL x ++ m) = x := by
  rw [supR_iff] at h
  obtain ⟨⟨h1, h2⟩, ⟨h3, h4⟩, h5, h6⟩ := h
  have e0 : ([97, 115] : List UInt8).length = 2 := rfl
  have l4 := fun n => putL_length 4 n
  unfold supAt supL
  have t1 : ((([97, 115] ++ putL x.g.toNat 4 ++ putL x.z.toNat 4 ++ putL x.s.toNat 4 ++ m).drop 2).take 4) = putL x.g.toNat 4 := by
    simp only [List.append_assoc]
    rw [List.drop_append_of_le_length (by simp)]
    simp only [List.drop_succ_cons, List.drop_nil, List.nil_append]
    rw [List.take_append_of_le_length (by rw [l4]; exact Nat.le_refl _), List.take_of_length_le (by rw [l4]; exact Nat.le_refl _)]
  have t2 : ((([97, 115] ++ putL x.g.toNat 4 ++ putL x.z.toNat 4 ++ putL x.s.toNat 4 ++ m).drop 6).take 4) = putL x.z.toNat 4 := by
    have e : ([97, 115] ++ putL x.g.toNat 4 ++ putL x.z.toNat 4 ++ putL x.s.toNat 4 ++ m) = ([97, 115] ++ putL x.g.toNat 4) ++ (putL x.z.toNat 4 ++ (putL x.s.toNat 4 ++ m)) := by simp only [List.append_assoc]
    rw [e, List.drop_left' (by simp [l4]), List.take_append_of_le_length (by rw [l4]; exact Nat.le_refl _), List.take_of_length_le (by rw [l4]; exact Nat.le_refl _)]
  have t3 : ((([97, 115] ++ putL x.g.toNat 4 ++ putL x.z.toNat 4 ++ putL x.s.toNat 4 ++ m).drop 10).take 4) = putL x.s.toNat 4 := by
    have e : ([97, 115] ++ putL x.g.toNat 4 ++ putL x.z.toNat 4 ++ putL x.s.toNat 4 ++ m) = ([97, 115] ++ putL x.g.toNat 4 ++ putL x.z.toNat 4) ++ (putL x.s.toNat 4 ++ m) := by simp only [List.append_assoc]
    rw [e, List.drop_left' (by simp [l4]), List.take_append_of_le_length (by rw [l4]; exact Nat.le_refl _), List.take_of_length_le (by rw [l4]; exact Nat.le_refl _)]
  rw [t1, t2, t3, leNat_putL, leNat_putL, leNat_putL]
  exact sup_ext (by show ((x.g.toNat % 256 ^ 4 : Nat) : Int) = x.g; omega) (by show ((x.z.toNat % 256 ^ 4 : Nat) : Int) = x.z; omega) (by show ((x.s.toNat % 256 ^ 4 : Nat) : Int) = x.s; omega)
theorem sup_open (x : Sup) (h : supR x = true) : openE (supB x).data.toList = 0 ∧ supAt (openL (supB x).data.toList) = x := by
  have ho := open_sealB (supL x)
  have hl := supL_length x
  unfold supB
  rw [if_pos h]
  refine ⟨by rw [ho.2.1, if_pos (by omega)], ?_⟩
  rw [ho.1]
  unfold unsealed padL
  rw [if_pos (by omega)]
  exact supL_at x h _
theorem par_print (x : Sup) (h : supR x = true) : parS (supB x) = some x := by
  obtain ⟨h1, h2⟩ := sup_open x h
  unfold parS
  rw [h2, if_pos ⟨h1, h, rfl⟩]
theorem par_right {b : ByteArray} {x : Sup} (h : parS b = some x) : supR x = true ∧ supB x = b := by
  unfold parS at h
  split at h
  · rename_i hh
    cases h
    exact ⟨hh.2.1, hh.2.2⟩
  · cases h
theorem supB_size (x : Sup) (h : supR x = true) : (supB x).size = 40 := by
  unfold supB; rw [if_pos h]
  have := (open_sealB (supL x)).2.2
  rw [this, if_pos (by rw [supL_length]; omega)]
theorem supB_inj {x y : Sup} (hx : supR x = true) (hy : supR y = true) (h : supB x = supB y) : x = y := by
  have h1 := par_print x hx
  rw [h, par_print y hy] at h1
  exact (Option.some.inj h1).symm
end Go.Proofs.Ytpcimjccngidgaa
namespace Go.Proofs.Ytpcimjccngidgaa
set_option maxRecDepth 20000
open Go.RowKit Go.Shelf
attribute [local go_sem] Oper.semAt_some

/-- What has come when k rounds over l from behind are over. -/
def backK (l : List Wr) (k : Nat) : List (Int × Wr) := (List.range k).map fun (j : Nat) => ((l.length : Int) - 1 - (j : Int), l[l.length - 1 - j]?.getD (0, ByteArray.mk #[]))
theorem backK_succ (l : List Wr) (k : Nat) : backK l (k + 1) = backK l k ++ [((l.length : Int) - 1 - k, l[l.length - 1 - k]?.getD (0, ByteArray.mk #[]))] := by simp [backK, List.range_succ]
theorem backK_length (l : List Wr) (k : Nat) : (backK l k).length = k := by simp [backK]

/-- A slice of writes that lies below n₀. -/
def WrsAt (n₀ : Nat) (W : World) (A : Option Addr) (l : List Wr) : Prop := l ≠ [] → ∃ b off, A = some ⟨b, off, none⟩ ∧ b < n₀ ∧ ∀ j (hj : j < l.length), W.cell? ⟨b, off + j * 2, none⟩ = some (.int .i64 l[j].1) ∧ W.cell? ⟨b, off + j * 2 + 1, none⟩ = some (.string l[j].2)
theorem WrsAt.below {n₀ : Nat} {X Y : World} (hb : Below n₀ X Y) {A : Option Addr} {l : List Wr} (h : WrsAt n₀ X A l) : WrsAt n₀ Y A l := fun hl => by
  obtain ⟨b, off, e, hlt, hc⟩ := h hl
  exact ⟨b, off, e, hlt, fun j hj => ⟨(hb.cell (p := ⟨b, off + j * 2, none⟩) hlt).trans (hc j hj).1, (hb.cell (p := ⟨b, off + j * 2 + 1, none⟩) hlt).trans (hc j hj).2⟩⟩
theorem WrsAt.of {w : World} {A : Option Addr} {l : List Wr} (h : Cells w A (wvs l)) : WrsAt w.heap.size w A l := fun hl => by
  cases l with
  | nil => exact absurd rfl hl
  | cons x l => exact h.wr (k := 0) (by simp)

set_option maxRecDepth 100000 in
set_option maxHeartbeats 2000000 in
theorem back1_in (F : Fence) (n : Nat) (h8 : F.fn 65) (hro : F.round = none) (hn : 1 ≤ n) (r Bs n₀ : Nat) (A : Option Addr) (cap : Nat) (l : List Wr) (hreach : l.length ≤ 1000000) (hBn : Bs < n₀) (J Jx : List (Int × Wr) → World → Prop)
    (hY : ∀ pre x W, J pre W → pre.length < l.length → YieldAt F (n - 1) Try.prog r #[.int .i64 x.1, .agg #[.int .i64 x.2.1, .string x.2.2]] W fun e W' =>
      (e = .returned (.bool true) ∧ J (pre ++ [x]) W' ∧ Below n₀ W W') ∨ (e = .returned (.bool false) ∧ Jx (pre ++ [x]) W'))
    (W : World) (hBs : W.cell? ⟨Bs, 0, none⟩ = some (.slice A l.length cap)) (hc : WrsAt n₀ W A l) (h0 : J [] W) :
    CallsIn F n Try.prog 65 #[.func (.yield r) #[] #[], .pointer (some ⟨Bs, 0, none⟩)] W fun e W' => (∃ v, e = .returned v) ∧
      ((∃ ys, ys = backK l l.length ∧ J ys W') ∨ (∃ pre, (∃ k, k ≤ l.length ∧ pre = backK l k) ∧ Jx pre W')) := by
  have HC := Lib.hid hc
  have HBs := Lib.hid hBs
  clear hc hBs
  have hBs := HBs.out
  refine callsIn_of_wp Try.func65 rfl h8 ?_ hro
  simp only [Try.ntmps65, List.size_toArray, List.length_cons, List.length_nil, Nat.reduceAdd, Nat.reduceSub, Array.replicate_succ, Array.replicate_zero, List.push_toArray, List.append_toArray, List.nil_append, List.cons_append]
  gi_wp2
  gi_loopw [3] (fun i wr => ∃ k : Nat, k ≤ l.length ∧ i = .int .i64 ((l.length : Int) - 1 - k) ∧ J (backK l k) wr ∧ Below n₀ W wr)
    (fun i _ => (intOf i + 1).toNat)
  case atStart => exact ⟨0, Nat.zero_le _, by simp, h0, Below.refl _ _⟩
  case round =>
    obtain ⟨k, hk, rfl, hJs, hnx⟩ := hrel
    have hBw := (hnx.cell (p := ⟨Bs, 0, none⟩) hBn).trans HBs.out
    by_cases hlt : k < l.length
    · obtain ⟨b, off, rfl, hb, hcs⟩ := HC.out.below hnx (by intro e; subst e; simp at hlt)
      obtain ⟨q, hq⟩ : ∃ q, q = l.length - 1 - k := ⟨_, rfl⟩
      have hql : q < l.length := by omega
      have hqi : (l.length : Int) - 1 - k = (q : Int) := by omega
      have hget : l[l.length - 1 - k]?.getD (0, ByteArray.mk #[]) = l[q] := by rw [← hq]; simp [hql]
      obtain ⟨hc1, hc2⟩ := hcs q hql
      obtain ⟨fn, tmps, assign, body, hy, hR⟩ := hY _ ((l.length : Int) - 1 - k, l[q]) wr hJs (by rw [backK_length]; exact hlt)
      dsimp only at hy
      have HS := Lib.hid (show backK l (k + 1) = backK l k ++ [((l.length : Int) - 1 - k, l[q])] by rw [backK_succ, hget])
      have HQI := Lib.hid hqi
      have HQ := Lib.hid hq
      have HG := Lib.hid hget
      clear hget hq hcs
      generalize hx : l[q] = x at *
      clear hx
      obtain ⟨xa, xs⟩ := x
      rw [hqi] at hy ⊢
      clear hqi
      gi_wp2
      refine hR.mono ?_
      rintro e W3 (⟨rfl, hJ3, hk3⟩ | ⟨rfl, hJx3⟩)
      · gi_wp2
        go_roundw
        case rel => exact ⟨k + 1, by omega, by have := HQI.out; congr 1; omega, by rw [HS.out]; exact hJ3, hnx.trans hk3⟩
        case measure => simp [intOf]
      · gi_wp2
        refine bodyPost_ret (results_none rfl _ _ _) rfl ?_
        exact ⟨⟨_, rfl⟩, .inr ⟨_, ⟨k + 1, by omega, HS.out.symm⟩, hJx3⟩⟩
    · obtain rfl : k = l.length := by omega
      rw [show (l.length : Int) - 1 - l.length = -1 by omega]
      gi_wp2
      go_end0
      exact ⟨⟨_, rfl⟩, .inl ⟨_, rfl, hJs⟩⟩

set_option maxHeartbeats 1000000 in
theorem back_in (F : Fence) (n : Nat) (h5 : F.fn 48) (hro : F.round = none) (a : Option Addr) (len cap : Nat) (w : World) :
    CallsIn F n Try.prog 48 #[.slice a len cap] w fun e w' => e = .returned (.func (.func 65) #[] #[.pointer (some ⟨w.heap.size, 0, none⟩)]) ∧ w' = w.alloc (.cells #[.slice a len cap] 31) := by
  refine callsIn_of_wp Try.func48 rfl h5 ?_ hro
  simp only [Try.ntmps48, List.size_toArray, List.length_cons, List.length_nil, Nat.reduceAdd, Nat.reduceSub, Array.replicate_succ, Array.replicate_zero, List.push_toArray, List.append_toArray, List.nil_append, List.cons_append]
  gi_wp2
  go_ret
  exact ⟨rfl, rfl⟩

theorem back_stops (F : Fence) (n : Nat) (h7 : F.fn 65) (hro : F.round = none) (hn : 1 ≤ n) (Bs n₀ : Nat) (A : Option Addr) (cap : Nat) (l : List Wr) (hreach : l.length ≤ 1000000) (w : World) (hBs : Bs < n₀) (hn₀ : n₀ ≤ w.heap.size)
    (hc : w.cell? ⟨Bs, 0, none⟩ = some (.slice A l.length cap)) (hI : WrsAt n₀ w A l) :
    SeqStopsK F n Try.prog 65 #[.pointer (some ⟨Bs, 0, none⟩)] (fun x : Int × Wr => #[Value.int .i64 x.1, .agg #[.int .i64 x.2.1, .string x.2.2]]) (Below n₀) (fun ys => ys = backK l l.length) (fun pre => ∃ k, k ≤ l.length ∧ pre = backK l k) l.length w := fun r J Jx W hW _ _ hY h0 => by
  have hc' := (hW.cell (p := ⟨Bs, 0, none⟩) (Nat.lt_of_lt_of_le hBs hn₀)).trans hc
  exact back1_in F n h7 hro hn r Bs n₀ A cap l hreach hBs J Jx hY W hc' (hI.below (hW.mono hn₀)) h0

theorem take_snoc' (l : List Wr) (k : Nat) (h : k < l.length) : l.take (k + 1) = l.take k ++ [l[k]] := List.take_succ_eq_append_getElem h

end Go.Proofs.Ytpcimjccngidgaa
namespace Go.Proofs.Ytpcimjccngidgaa
set_option maxRecDepth 20000
open Go.RowKit

def hasS (n : Nat) (at_ : Int) : Bool := decide (0 ≤ at_) && decide (at_ < n)
def takesS (n : Nat) (x : Wr) : Bool := hasS n x.1 && ((x.2.size : Int) == 40)
def isFl (x : Wr) : Bool := (x.1 == -1) && x.2.toList.isEmpty

set_option maxHeartbeats 1000000 in
theorem has_any (A : Option Addr) (n c : Nat) (at_ : Int) (w : World) :
    Calls Try.prog 47 #[.slice A n c, .int .i64 at_] w fun e w' => e = .returned (.bool (hasS n at_)) ∧ w = w' := by
  unfold hasS
  by_cases h1 : 0 ≤ at_ <;> by_cases h2 : at_ < n
  all_goals
    go_enter Try.func47, Try.ntmps47
    go_wp2
    go_ret
    exact ⟨by simp [*], rfl⟩

end Go.Proofs.Ytpcimjccngidgaa
namespace Go.Proofs.Ytpcimjccngidgaa
set_option maxRecDepth 20000
open Go.RowKit

theorem all_false {α : Type} {p : α → Bool} {l : List α} (k : Nat) (h : k < l.length) (hp : p l[k] = false) : l.all p = false := by
  rw [List.all_eq_false]
  exact ⟨l[k], List.getElem_mem h, by simp [hp]⟩
theorem all_step {α : Type} {p : α → Bool} {l : List α} (k : Nat) (h : k < l.length) (h0 : (l.take k).all p = true) (hp : p l[k] = true) : (l.take (k + 1)).all p = true := by
  rw [List.take_succ_eq_append_getElem h, List.all_append, h0]; simp [hp]
theorem all_end {α : Type} {p : α → Bool} {l : List α} (h0 : (l.take l.length).all p = true) : l.all p = true := by
  rw [List.take_length] at h0; exact h0


def fewB (s : ByteArray) : Bool := decide ((s.size : Int) ≤ 100)
def fewW (x : Wr) : Bool := decide ((x.2.size : Int) ≤ 100)
def shortS (l : List Wr) (most : Int) : Bool := decide ((l.length : Int) ≤ most) && l.all fewW
def smallS (b : List ByteArray) (l : List Wr) (most : Int) : Bool := decide ((b.length : Int) ≤ most) && (b.all fewB && shortS l most)

def okB (s : ByteArray) : Bool := (s.size : Int) == 40
def rightS (b : List ByteArray) (l : List Wr) : Bool := decide (1 ≤ (b.length : Int)) && (decide ((b.length : Int) ≤ 4000) && (b.all okB && l.all (takesS b.length)))

end Go.Proofs.Ytpcimjccngidgaa
namespace Go.Proofs.Ytpcimjccngidgaa
set_option maxRecDepth 20000
open Go.RowKit

theorem bytes_inj (a b : ByteArray) (h : a.toList = b.toList) : a = b := by
  rw [ByteArray.toList_eq, ByteArray.toList_eq] at h
  obtain ⟨⟨l⟩⟩ := a
  obtain ⟨⟨m⟩⟩ := b
  simp only at h
  rw [h]
theorem bytes_same (a b : ByteArray) : (a.toList == b.toList) = decide (a = b) := by
  by_cases h : a = b
  · subst h; simp
  · rw [decide_eq_false h]
    simp only [beq_eq_false_iff_ne, ne_eq]
    exact fun e => h (bytes_inj a b e)

theorem ne_at {α : Type} {a b : List α} (k : Nat) (h : k < a.length) (h' : k < b.length) (hne : a[k] ≠ b[k]) : a ≠ b := by
  intro e; subst e; exact hne rfl
theorem eq_step {α : Type} {a b : List α} (k : Nat) (h : k < a.length) (h' : k < b.length) (h0 : a.take k = b.take k) (he : a[k] = b[k]) : a.take (k + 1) = b.take (k + 1) := by
  rw [List.take_succ_eq_append_getElem h, List.take_succ_eq_append_getElem h', h0, he]
theorem eq_end {α : Type} {a b : List α} (hl : a.length = b.length) (h0 : a.take a.length = b.take a.length) : a = b := by
  rw [List.take_length, hl, List.take_length] at h0; exact h0

/-- How two writes are compared. -/
theorem eq_wr (a c : Int) (s t : ByteArray) (w : World) : (Op.equalIn 10000 47 (.agg #[.int .i64 a, .string s]) (.agg #[.int .i64 c, .string t])).run Try.prog w = .ok (decide ((a, s) = (c, t))) w := by
  have u3 := Try.underlying3
  have a3 := Try.isAgg3
  have z3 := Try.sizeOf3
  have u9 := Try.underlying9
  have a9 := Try.isAgg9
  have z9 := Try.sizeOf9
  have hS : Try.prog.underlying 47 = some (.struct (Try.prog.fieldsOf 47)) := by kernel_rfl
  have hp : Try.prog.stoodInHeld 47 = false := by kernel_rfl
  rw [show (10000 : Nat) = 9999 + 1 from rfl, run_equalIn_agg w 9999 47 _ _ hS hp]
  simp only [Program.fieldsOf, Try.underlying47]
  go_simp
  by_cases h1 : a = c <;> by_cases h2 : s = t
  · subst h2; simp [h1]
  · have h3 : ¬ s.toList = t.toList := fun e => h2 (bytes_inj s t e)
    simp [h1, h2, h3]
  · simp [h1]
  · simp [h1]

def sameB (a b : List ByteArray) : Bool := decide (a = b)
def sameW (a b : List Wr) : Bool := decide (a = b)

end Go.Proofs.Ytpcimjccngidgaa
namespace Go.Proofs.Ytpcimjccngidgaa
set_option maxRecDepth 20000
open Go.RowKit

def sameD (b : List ByteArray) (l : List Wr) (b' : List ByteArray) (l' : List Wr) : Bool := sameB b b' && sameW l l'

/-- A disk as it lies in two boxes, one behind the other. -/
theorem two_boxes (w : World) (a b c d : Value) (t : TypeId) : ∀ wr, Ext ((w.alloc (.cells #[a, b] t)).alloc (.cells #[c, d] t)) wr →
    Ext w wr ∧ w.heap.size + 1 < wr.heap.size ∧ wr.cell? ⟨w.heap.size, 0, none⟩ = some a ∧ wr.cell? ⟨w.heap.size, 1, none⟩ = some b ∧ wr.cell? ⟨w.heap.size + 1, 0, none⟩ = some c ∧ wr.cell? ⟨w.heap.size + 1, 1, none⟩ = some d := by
  intro wr h
  have hs := h.size
  simp only [World.size_alloc] at hs
  have e1 := cell_new0 (w.alloc (.cells #[a, b] t)) c d t
  have e2 := cell_new1 (w.alloc (.cells #[a, b] t)) c d t
  rw [World.size_alloc] at e1 e2
  have f := (Ext.refl (w.alloc (.cells #[a, b] t))).alloc (.cells #[c, d] t)
  refine ⟨(((Ext.refl w).alloc _).alloc _).trans h, by omega, ?_, ?_, ?_, ?_⟩
  · rw [h.cell (p := ⟨w.heap.size, 0, none⟩) (by simp; omega), f.cell (p := ⟨w.heap.size, 0, none⟩) (by simp)]; exact cell_new0 _ _ _ _
  · rw [h.cell (p := ⟨w.heap.size, 1, none⟩) (by simp; omega), f.cell (p := ⟨w.heap.size, 1, none⟩) (by simp)]; exact cell_new1 _ _ _ _
  · rw [h.cell (p := ⟨w.heap.size + 1, 0, none⟩) (by simp)]; exact e1
  · rw [h.cell (p := ⟨w.heap.size + 1, 1, none⟩) (by simp)]; exact e2

end Go.Proofs.Ytpcimjccngidgaa
namespace Go.Proofs.Ytpcimjccngidgaa
set_option maxRecDepth 20000
open Go.RowKit

/-- What the last write to a block says, or s. -/
def lastW (l : List Wr) (at_ : Int) (s : ByteArray) : ByteArray := l.foldl (fun s x => if x.1 = at_ then x.2 else s) s
theorem lastW_step (l : List Wr) (at_ : Int) (s : ByteArray) (k : Nat) (h : k < l.length) : lastW (l.take (k + 1)) at_ s = if l[k].1 = at_ then l[k].2 else lastW (l.take k) at_ s := by
  unfold lastW; rw [List.take_succ_eq_append_getElem h, List.foldl_append]; rfl
/-- P2.2: what stands in a block. -/
def readS (b : List ByteArray) (l : List Wr) (at_ : Int) : ByteArray := if hasS b.length at_ then lastW l at_ (b[at_.toNat]?.getD (ByteArray.mk #[])) else ByteArray.mk #[]
def readE (b : List ByteArray) (at_ : Int) : Int := if hasS b.length at_ then 0 else 1

theorem ret_pair {a a' : ByteArray} {k : IntKind} {b b' : Int} (h : a = a') (h' : b = b') : Ending.returned (.tuple #[.string a, .int k b]) = .returned (.tuple #[.string a', .int k b']) := by rw [h, h']

end Go.Proofs.Ytpcimjccngidgaa
namespace Go.Proofs.Ytpcimjccngidgaa
set_option maxRecDepth 20000
open Go.RowKit Go.Shelf
attribute [local go_sem] Oper.semAt_some

theorem lastW_none (l : List Wr) (at_ : Int) (s : ByteArray) (h : ∀ x ∈ l, x.1 ≠ at_) : lastW l at_ s = s := by
  induction l generalizing s with
  | nil => rfl
  | cons x l ih =>
    unfold lastW
    rw [List.foldl_cons, if_neg (h x (by simp))]
    exact ih s (fun y hy => h y (by simp [hy]))
theorem lastW_hit (l : List Wr) (at_ : Int) (s : ByteArray) (q : Nat) (hq : q < l.length) (he : l[q].1 = at_) (hn : ∀ j (hj : j < l.length), q < j → l[j].1 ≠ at_) : lastW l at_ s = l[q].2 := by
  have e : l = l.take (q + 1) ++ l.drop (q + 1) := (List.take_append_drop _ _).symm
  have h1 : lastW l at_ s = lastW (l.drop (q + 1)) at_ (lastW (l.take (q + 1)) at_ s) := by
    conv => lhs; rw [e]
    unfold lastW; rw [List.foldl_append]
  rw [h1, lastW_step l at_ s q hq, if_pos he]
  refine lastW_none _ _ _ fun x hx => ?_
  obtain ⟨j, hj, rfl⟩ := List.getElem_of_mem hx
  rw [List.getElem_drop]
  exact hn _ _ (by omega)
theorem backK_mem (l : List Wr) (k : Nat) (hk : k ≤ l.length) (j : Nat) (hj : j < l.length) (h : l.length - 1 - j < k) : ((j : Int), l[j]) ∈ backK l k := by
  unfold backK
  rw [List.mem_map]
  refine ⟨l.length - 1 - j, by simpa using h, ?_⟩
  have e : l.length - 1 - (l.length - 1 - j) = j := by omega
  rw [e]
  simp [hj]
  omega

theorem box2_own {β : Type} (k : Nat) (a b : β → Value) : Own (fun s W => Box2 W k (a s) (b s)) := fun s X Y row hs hg hrow => by
  obtain ⟨t, h⟩ := hs
  refine ⟨t, (hg.block k (Array.getElem?_eq_some_iff.1 h).1 (fun e => ?_)).trans h⟩
  obtain ⟨o, ho, hc⟩ := hrow k e.symm
  rw [h] at ho
  cases ho
  cases hc

theorem boxed_ext {w w' : World} {k : Nat} {t : TypeId} {v : Value} (h : Boxed w k t v) (hx : Ext w w') : Boxed w' k t v := (hx.block k h.lt).trans h
theorem read_boxes (w : World) (a b c d e f : Value) (t0 t1 t2 t3 t4 : TypeId) : ∀ W, W = ((((w.alloc (.cells #[a, b] t0)).alloc (.cells #[c] t1)).alloc (.cells #[d] t2)).alloc (.cells #[e] t3)).alloc (.cells #[f] t4) →
    Ext w W ∧ W.heap.size = w.heap.size + 1 + 1 + 1 + 1 + 1 ∧ Box2 W w.heap.size a b ∧ Boxed W (w.heap.size + 1) t1 c ∧ Boxed W (w.heap.size + 1 + 1) t2 d ∧ Boxed W (w.heap.size + 1 + 1 + 1) t3 e ∧ Boxed W (w.heap.size + 1 + 1 + 1 + 1) t4 f := by
  rintro W rfl
  have b0 := Box2.new w a b t0
  have b1 := Boxed.new (w.alloc (.cells #[a, b] t0)) t1 c
  have b2 := Boxed.new ((w.alloc (.cells #[a, b] t0)).alloc (.cells #[c] t1)) t2 d
  have b3 := Boxed.new (((w.alloc (.cells #[a, b] t0)).alloc (.cells #[c] t1)).alloc (.cells #[d] t2)) t3 e
  have b4 := Boxed.new ((((w.alloc (.cells #[a, b] t0)).alloc (.cells #[c] t1)).alloc (.cells #[d] t2)).alloc (.cells #[e] t3)) t4 f
  simp only [World.size_alloc] at b1 b2 b3 b4
  have z0 := (((((Ext.refl (w.alloc (.cells #[a, b] t0))).alloc (.cells #[c] t1)).alloc (.cells #[d] t2)).alloc (.cells #[e] t3)).alloc (.cells #[f] t4))
  exact ⟨(((((Ext.refl w).alloc _).alloc _).alloc _).alloc _).alloc _, by simp, b0.ext (by simp) z0, (((b1.alloc _).alloc _).alloc _), ((b2.alloc _).alloc _), (b3.alloc _), b4⟩

def noAt (at_ : Int) (pre : List (Int × Wr)) : Prop := ∀ p ∈ pre, p.2.1 ≠ at_
def hitAt (h : Nat) (at_ : Int) (pre : List (Int × Wr)) (W : World) : Prop := ∃ ini last, pre = ini ++ [last] ∧ noAt at_ ini ∧ last.2.1 = at_ ∧ Boxed W (h + 1 + 1) 9 (.string last.2.2) ∧ Boxed W (h + 1 + 1 + 1) 43 (.int .i64 0)
theorem hitAt_own (h : Nat) (at_ : Int) (c : Code) : Own (fun (s : List (Int × Wr)) W => c = .ret ∧ hitAt h at_ s W) := fun s X Y row hs hg hr => by
  obtain ⟨hc, ini, last, e1, e2, e3, e4, e5⟩ := hs
  exact ⟨hc, ini, last, e1, e2, e3, boxed_own _ _ (fun (_ : Unit) => Value.string last.2.2) () X Y row e4 hg hr, boxed_own _ _ (fun (_ : Unit) => Value.int .i64 0) () X Y row e5 hg hr⟩

set_option maxRecDepth 100000 in
set_option maxHeartbeats 4000000 in
theorem readD_in (A A' : Option Addr) (b : List ByteArray) (l : List Wr) (c c' : Nat) (at_ : Int) (w : World) (_hb : b.length ≤ 1000000) (hl : l.length ≤ 1000000) (hA : Cells w A (b.map sv)) (hA' : Cells w A' (wvs l)) (hh : hasS b.length at_ = true) :
    CallsIn Fence.wide 3 Try.prog 27 #[.agg #[.slice A b.length c, .slice A' l.length c'], .int .i64 at_] w fun e w' => e = .returned (.tuple #[.string (readS b l at_), .int .i64 (readE b at_)]) ∧ Ext w w' := by
  have HA := Lib.hid hA
  have HA' := Lib.hid hA'
  clear hA hA'
  have HH := Lib.hid (fun W => callsIn_wide (n := 2).2 (has_any A b.length c at_ W))
  · have HZ := Lib.hid hh
    refine callsIn_of_wp_marks Try.func27 rfl trivial ?_ rfl
    simp only [Try.ntmps27, List.size_toArray, List.length_cons, List.length_nil, Nat.reduceAdd, Nat.reduceSub, Array.replicate_succ, Array.replicate_zero, List.push_toArray, List.append_toArray, List.nil_append, List.cons_append]
    gi_wp2_with (first | (refine ⟨trivial, ?_⟩; gi_at_call 47; refine (HH.out _).mono ?_; rintro e w' ⟨rfl, rfl⟩; rw [HZ.out]) | (refine ⟨trivial, ?_⟩; gi_at_call 48; refine (back_in Fence.wide 2 trivial rfl _ _ _ _).mono ?_; rintro e w' ⟨rfl, rfl⟩))
    obtain ⟨W0, hW0⟩ : ∃ W0, W0 = ((((w.alloc (.cells #[.slice A b.length c, .slice A' l.length c'] 33)).alloc (.cells #[.int .i64 at_] 3)).alloc (.cells #[.string (ByteArray.mk #[])] 9)).alloc (.cells #[.int .i64 0] 43)).alloc (.cells #[.slice A' l.length c'] 31) := ⟨_, rfl⟩
    obtain ⟨hX0, hz0, b0, b1, b2, b3, b4⟩ := read_boxes w _ _ _ _ _ _ _ _ _ _ _ W0 hW0
    rw [← hW0]
    clear hW0
    refine wpIn_rangeFunc_ownH rfl (by omega) (gf := 65) (lb := #[.pointer (some ⟨w.heap.size + 1 + 1 + 1 + 1, 0, none⟩)]) rfl trivial (enters_of Try.func65 (by kernel_rfl) rfl)
      (back_stops Fence.wide 2 trivial rfl (by omega) (w.heap.size + 1 + 1 + 1 + 1) W0.heap.size A' c' l hl W0 (by omega) (Nat.le_refl _) b4.cell (WrsAt.of (HA'.out.ext hX0))) belowK_t (belowK_b (Nat.le_refl _)) (Below.refl _ _) (fun _ => rfl)
      (fun pre W => noAt at_ pre ∧ Below W0.heap.size W0 W)
      (fun c pre W => (c = .ret ∧ hitAt w.heap.size at_ pre W) ∧ Below w.heap.size w W)
      (OwnFrom.and (ownFrom_pure _ _) (ownFrom_below (Nat.le_refl _) (Nat.le_refl _)))
      (fun c => OwnFrom.and (Own.from (hitAt_own _ _ c) _) (ownFrom_below (Nat.le_refl _) hX0.size))
      ⟨(fun p hp => by simp at hp), Below.refl _ _⟩
      (fun x a' W => ∃ Bx, W0.heap.size ≤ Bx ∧ Bx < W.heap.size ∧ Box2 W Bx (.int .i64 x.2.1) (.string x.2.2) ∧ a' = { tmps := #[.agg #[.slice A b.length c, .slice A' l.length c'], .int .i64 at_, .pointer (some ⟨w.heap.size, 0, none⟩), .pointer (some ⟨w.heap.size + 1, 0, none⟩), .pointer (some ⟨w.heap.size + 1 + 1, 0, none⟩), .pointer (some ⟨w.heap.size + 1 + 1 + 1, 0, none⟩), undef, .pointer (some ⟨Bx, 0, none⟩), .pointer (some ⟨w.heap.size, 0, none⟩), .slice A b.length c, .int .i64 at_, .bool true, .bool false, .pointer (some ⟨w.heap.size, 1, none⟩), .slice A' l.length c', .func (.func 65) #[] #[.pointer (some ⟨w.heap.size + 1 + 1 + 1 + 1, 0, none⟩)], .int .i64 x.1, .agg #[.int .i64 x.2.1, .string x.2.2], undef, undef, undef, undef, undef, undef, undef, undef, undef, undef, undef], defers := [] })
      (fun x a' _ X Y row hs hg hr => by
        obtain ⟨Bx, h1, h2, h3, h4⟩ := hs
        exact ⟨Bx, h1, Nat.lt_of_lt_of_le h2 hg.size, box2_own Bx (fun (_ : Unit) => Value.int .i64 x.2.1) (fun _ => .string x.2.2) () X Y row h3 hg (fun r e => (hr r e).2), h4⟩)
      ?assign ?body ?done ?stop
    case assign =>
      rintro l2 pre ⟨x1, xa, xs⟩ W K ⟨hp, hB⟩ hK
      gi_wp2
      exact hK _ _ ((KeepsOthers.alloc _ _).from _) ((Below.refl _ W).alloc hB.size _) ⟨hp, hB.alloc hB.size _⟩ ⟨W.heap.size, hB.size, by simp, Box2.new W _ _ _, rfl⟩
    case body =>
      rintro l2 pre ⟨x1, xa, xs⟩ a' W hl2 ⟨r, hr⟩ ⟨hp, hB⟩ ⟨Bx, hBx, hBx2, bX, rfl⟩ hlt
      have hAt := (boxed_ext b1 hB).cell
      have bS := boxed_ext b2 hB
      have bE := boxed_ext b3 hB
      have cS := bS.cell
      have fS := bS.frozen
      have cE := bE.cell
      have fE := bE.frozen
      obtain ⟨cX0, cX1, _, _⟩ := bX.read
      rcases Decidable.em (xa = at_) with he | he
      · have hz : (xa == at_) = true := by simpa using he
        have HE := Lib.hid he
        clear he
        gi_wp2
        exact ⟨((KeepsOthers.setCell _ _ _).from _).trans ((KeepsOthers.setCell _ _ _).from _), ⟨rfl, pre, (x1, xa, xs), rfl, hp, HE.out, (bS.set _).other (by omega) _, (bE.other (by omega) _).set _⟩, ((hX0.trans hB).set (p := ⟨w.heap.size + 1 + 1, 0, none⟩) (by simp; omega) _).set (p := ⟨w.heap.size + 1 + 1 + 1, 0, none⟩) (by simp; omega) _⟩
      · have hz : (xa == at_) = false := by simpa using he
        have HE := Lib.hid he
        clear he
        gi_wp2
        exact ⟨KeepsFrom.refl _ _, Below.refl _ _, fun p hp' => (List.mem_append.1 hp').elim (hp p) (fun e => by simp at e; subst e; exact HE.out), by rw [← hz0]; exact hB⟩
    case done =>
      rintro D ys W hD rfl ⟨hne, hB⟩ hK
      obtain ⟨m, rfl⟩ : ∃ m : Nat, at_ = m := by
        unfold hasS at hh
        simp at hh
        exact ⟨at_.toNat, by omega⟩
      have hm : m < b.length := by
        unfold hasS at hh
        simp at hh
        omega
      have hmi : (m : Int) < (b.length : Int) := by omega
      have hAt := (boxed_ext b1 hB).cell
      have bS := boxed_ext b2 hB
      have bE := boxed_ext b3 hB
      have cS := bS.cell
      have fS := bS.frozen
      have cE := bE.cell
      have fE := bE.frozen
      obtain ⟨cD0, cD1, _, _⟩ := (b0.ext (by omega) hB).read
      obtain ⟨bb, off, rfl, _, hcb⟩ := (HA.out.ext (hX0.trans hB)).str hm
      have hcm := hcb m hm
      have hR : readS b l (m : Int) = b[m] := by
        unfold readS
        rw [HZ.out, if_pos rfl, Int.toNat_natCast, lastW_none]
        · simp [hm]
        · intro x hx
          obtain ⟨j, hj, rfl⟩ := List.getElem_of_mem hx
          exact hne _ (backK_mem l l.length (Nat.le_refl _) j hj (by omega))
      have hE : readE b (m : Int) = 0 := by unfold readE; rw [HZ.out]; rfl
      have HR := Lib.hid hR
      have HE := Lib.hid hE
      have HK := Lib.hid hK
      have HB := Lib.hid (hX0.trans hB)
      have HBS := Lib.hid bS
      have HBE := Lib.hid bE
      clear hcb hR hE hne hK hB bS bE b0 b1 b2 b3 b4
      generalize hq : b[m] = q at *
      clear hq
      gi_wp2
      have hK' := (KeepsOthers.setCell (W.setCell ⟨w.heap.size + 1 + 1, 0, none⟩ (.string q)) ⟨w.heap.size + 1 + 1 + 1, 0, none⟩ (.int .i64 0)).same D _ ((KeepsOthers.setCell W ⟨w.heap.size + 1 + 1, 0, none⟩ (.string q)).same D _ HK.out rfl) rfl
      refine ⟨by simp, .inl ⟨_, _, rfl, run_takeDeferred hK', ?_⟩⟩
      have b5 := ((HBS.out.set (.string q)).other (B' := w.heap.size + 1 + 1 + 1) (by omega) (.int .i64 0))
      have b6 := ((HBE.out.other (B' := w.heap.size + 1 + 1) (by omega) (.string q)).set (.int .i64 0))
      have c5 := cell_kept b5.cell (grownBy_putObj' _ D (.deferred none)) (fun r e => by cases e; exact ⟨_, hK', rfl⟩)
      have c6 := cell_kept b6.cell (grownBy_putObj' _ D (.deferred none)) (fun r e => by cases e; exact ⟨_, hK', rfl⟩)
      refine ⟨.tuple #[.string q, .int .i64 0], ?_, by rw [HR.out, HE.out], Below.trans ((HB.out.set (p := ⟨w.heap.size + 1 + 1, 0, none⟩) (by simp; omega) _).set (p := ⟨w.heap.size + 1 + 1 + 1, 0, none⟩) (by simp; omega) _) (belowK_b (w := w) (Nat.le_refl _) _ D _ _ (by have := hX0.size; omega) hK' rfl rfl)⟩
      simp [results, Try.f27, go_sem, c5, c6]
    case stop =>
      rintro D c pre W hD ⟨k, hk, rfl⟩ ⟨⟨rfl, ini, last, e1, e2, e3, bS, bE⟩, hB⟩ hK
      gi_wp2
      refine ⟨by simp, .inl ⟨_, _, rfl, run_takeDeferred hK, ?_⟩⟩
      have c5 := cell_kept bS.cell (grownBy_putObj' _ D (.deferred none)) (fun r e => by cases e; exact ⟨_, hK, rfl⟩)
      have c6 := cell_kept bE.cell (grownBy_putObj' _ D (.deferred none)) (fun r e => by cases e; exact ⟨_, hK, rfl⟩)
      obtain ⟨k', rfl⟩ : ∃ k', k = k' + 1 := by
        cases k with
        | zero => simp [backK] at e1
        | succ k' => exact ⟨k', rfl⟩
      rw [backK_succ] at e1
      obtain ⟨rfl, e5⟩ := List.append_inj' e1 rfl
      have hql : l.length - 1 - k' < l.length := by omega
      obtain ⟨rfl⟩ : (((l.length : Int) - 1 - k', l[l.length - 1 - k']) = last) := by simpa [hql] using e5
      have hR : readS b l at_ = l[l.length - 1 - k'].2 := by
        unfold readS
        rw [HZ.out, if_pos rfl]
        refine lastW_hit l at_ _ _ hql e3 fun j hj hlt => e2 _ (backK_mem l k' (by omega) j hj (by omega))
      have hE : readE b at_ = 0 := by unfold readE; rw [HZ.out]; rfl
      refine ⟨.tuple #[.string l[l.length - 1 - k'].2, .int .i64 0], ?_, by rw [hR, hE], Below.trans hB (belowK_b (w := w) (Nat.le_refl _) W D _ _ (by have := hX0.size; omega) hK rfl rfl)⟩
      simp [results, Try.f27, go_sem, c5, c6]

set_option maxHeartbeats 1000000 in
theorem readD_any (A A' : Option Addr) (b : List ByteArray) (l : List Wr) (c c' : Nat) (at_ : Int) (w : World) (hb : b.length ≤ 1000000) (hl : l.length ≤ 1000000) (hA : Cells w A (b.map sv)) (hA' : Cells w A' (wvs l)) :
    Calls Try.prog 27 #[.agg #[.slice A b.length c, .slice A' l.length c'], .int .i64 at_] w fun e w' => e = .returned (.tuple #[.string (readS b l at_), .int .i64 (readE b at_)]) ∧ Ext w w' := by
  cases hh : hasS b.length at_
  · have HZ := Lib.hid hh
    have HR := Lib.hid (show readS b l at_ = ByteArray.mk #[] by unfold readS; rw [hh]; rfl)
    have HE := Lib.hid (show readE b at_ = 1 by unfold readE; rw [hh]; rfl)
    have HX := Lib.hid (fun v u => ((((Ext.refl w).alloc (.cells #[.slice A b.length c, .slice A' l.length c'] 33)).alloc (.cells #[.int .i64 at_] 3)).alloc (.cells #[v] 9)).alloc (.cells #[u] 43))
    clear hA hA' hh
    go_enter Try.func27, Try.ntmps27
    go_wp2_with (go_at_call 47; refine (has_any _ _ _ _ _).mono ?_; rintro e w' ⟨rfl, rfl⟩; rw [HZ.out])
    refine bodyPost_ret (v := .tuple #[.string (ByteArray.mk #[]), .int .i64 1]) (by simp [results, Try.results27, go_sem]) rfl ?_
    rw [HR.out, HE.out]
    exact ⟨rfl, HX.out _ _⟩
  · exact callsIn_wide.1 (readD_in A A' b l c c' at_ w hb hl hA hA' hh)
end Go.Proofs.Ytpcimjccngidgaa
namespace Go.Proofs.Ytpcimjccngidgaa
set_option maxRecDepth 20000
open Go.RowKit

theorem infoS : (Try.prog.info? 9).map (fun i => (i.zero, i.size, i.bytes)) = some (some (.string (ByteArray.mk #[])), 1, 16) := by kernel_rfl
theorem infoW : (Try.prog.info? 47).map (fun i => (i.zero, i.size, i.bytes)) = some (some (.agg #[.int .i64 0, .string (ByteArray.mk #[])]), 2, 24) := by kernel_rfl

set_option maxHeartbeats 1000000 in
set_option maxRecDepth 20000 in
theorem copiedB_any (A : Option Addr) (l : List ByteArray) (c more : Nat) (w : World) (hl : l.length ≤ 1000000) (hm : more ≤ 1) (hn : A = none → c = 0) (hA : Cells w A (l.map sv)) :
    Calls Try.prog 42 #[.slice A l.length c, .int .i64 more] w fun e w' => e = .returned (.slice (some ⟨w.heap.size, 0, none⟩) l.length (l.length + more)) ∧
      w'.ownsRow w.heap.size 9 1 (.slice (some ⟨w.heap.size, 0, none⟩) l.length (l.length + more)) l.length (l.map sv) ∧ Ext w w' := by
  have HA := Lib.hid hA
  have HN := Lib.hid hn
  clear hA hn
  obtain ⟨i0, hi, hz0, hz1, hz2⟩ := info_parts infoS
  have HI := Lib.hid hi
  have HZ0 := Lib.hid hz0
  have HZ1 := Lib.hid hz1
  have HZ2 := Lib.hid hz2
  clear hi hz0 hz1 hz2
  go_enter Try.func42, Try.ntmps42
  go_wp2_with (at_make; refine stop_here ?_)
  refine stop_on ?_

  refine wpList_make_cap _ rfl _ _ 25 rfl 9 i0 _ Try.underlying25 HI.out HZ0.out _ _ _ _ l.length (l.length + more) rfl rfl (by omega) (by omega) (by omega) (by rw [HZ2.out]; omega) (by unfold maxLen; omega) ?_
  rw [HZ1.out]
  obtain ⟨cur, hcur⟩ : ∃ cur, cur = madeCells (Value.string (ByteArray.mk #[])).cells ((l.length + more) * 1) := ⟨_, rfl⟩
  have hsz : cur.size = (l.length + more) * 1 := by rw [hcur]; exact size_madeCells _ _
  rw [← hcur]
  clear hcur
  have HS := Lib.hid hsz
  clear hsz
  have HO := Lib.hid (own_copied w l.length (l.length + more) 1 9 cur (l.map sv) (by unfold maxLen; omega) (by omega) HS.out (by simp))
  have hrun := run_copy_head (P := Try.prog) (w.alloc (.cells cur 9)) 25 25 3 9 i0 Try.underlying25 HI.out w.heap.size l.length (l.length + more) c A cur 9 (heap_alloc_new w _) (l.map sv) (by rw [HZ1.out]; simp) HN.out (HA.out.ext ((Ext.refl w).alloc _)) (by rw [HS.out]; simp) (svs_oneCell l) (fun h => by have := (HA.out).len_none h; simpa using this)
  obtain ⟨w1, hw1⟩ : ∃ w1, w1 = (w.alloc (.cells cur 9)).setRow w.heap.size (l.map sv ++ cur.toList.drop (l.map sv).length).toArray := ⟨_, rfl⟩
  rw [← hw1] at HO hrun
  clear hw1
  go_wp2
  go_ret
  exact ⟨rfl, HO.out⟩

theorem copiedB0 (A : Option Addr) (l : List ByteArray) (c : Nat) (w : World) (hl : l.length ≤ 1000000) (hn : A = none → c = 0) (hA : Cells w A (l.map sv)) :
    Calls Try.prog 42 #[.slice A l.length c, .int .i64 0] w fun e w' => e = .returned (.slice (some ⟨w.heap.size, 0, none⟩) l.length l.length) ∧
      w'.ownsRow w.heap.size 9 1 (.slice (some ⟨w.heap.size, 0, none⟩) l.length l.length) l.length (l.map sv) ∧ Ext w w' :=
  copiedB_any A l c 0 w hl (by omega) hn hA
end Go.Proofs.Ytpcimjccngidgaa
namespace Go.Proofs.Ytpcimjccngidgaa
set_option maxRecDepth 20000
open Go.RowKit

/-- One write done; all of them, in order. -/
def write1 (b : List ByteArray) (x : Wr) : List ByteArray := if hasS b.length x.1 then b.set x.1.toNat x.2 else b
def writeL (b : List ByteArray) (l : List Wr) : List ByteArray := l.foldl write1 b
theorem write1_length (b : List ByteArray) (x : Wr) : (write1 b x).length = b.length := by
  unfold write1; split <;> simp
theorem writeL_length (l : List Wr) : ∀ b, (writeL b l).length = b.length := by
  induction l with
  | nil => intro b; rfl
  | cons x l ih => intro b; exact (ih (write1 b x)).trans (write1_length b x)
theorem writeL_step (b : List ByteArray) (l : List Wr) (k : Nat) (h : k < l.length) : writeL b (l.take (k + 1)) = write1 (writeL b (l.take k)) l[k] := by
  unfold writeL; rw [List.take_succ_eq_append_getElem h, List.foldl_append]; rfl

set_option maxHeartbeats 2000000 in
theorem write_any (B0 g n cap : Nat) (bl : List ByteArray) (A : Option Addr) (l : List Wr) (c : Nat) (w : World) (hn : n ≤ 1000000) (hl : l.length ≤ maxLen)
    (hown : w.ownsRow B0 9 1 (.slice (some ⟨g, 0, none⟩) n cap) n (bl.map sv)) (hA : Cells w A (wvs l)) (hne : wvs l ≠ [] → ∀ p, A = some p → some g ≠ some p.block) :
    Calls Try.prog 43 #[.slice (some ⟨g, 0, none⟩) n cap, .slice A l.length c] w fun e w' => e = .returned (.tuple #[]) ∧
      w'.ownsRow B0 9 1 (.slice (some ⟨g, 0, none⟩) n cap) n ((writeL bl l).map sv) ∧ w.grownBy w' (some g) := by
  unfold maxLen at hl
  have hbn : bl.length = n := by have := hown.1; simpa using this
  have HO := Lib.hid hown
  have HA := Lib.hid hA
  have HNE := Lib.hid hne
  have HBN := Lib.hid hbn
  clear hown hA hne hbn
  go_enter Try.func43, Try.ntmps43
  go_wp2
  go_loopw [8] (fun i wr => ∃ k : Nat, k ≤ l.length ∧ i = .int .i64 k ∧ wr.ownsRow B0 9 1 (.slice (some ⟨g, 0, none⟩) n cap) n ((writeL bl (l.take k)).map sv) ∧ w.grownBy wr (some g)) (fun i _ => l.length - (intOf i).toNat)
  case atStart => exact ⟨0, Nat.zero_le _, rfl, HO.out, World.grownBy.refl _ _⟩
  case round =>
    obtain ⟨k, hk, rfl, ho, hg⟩ := hrel
    by_cases hlt : k < l.length
    · obtain ⟨ba, off, rfl, _, hc⟩ := (HA.out.grown hg HNE.out).wr hlt
      obtain ⟨hck, hcs⟩ := hc k hlt
      have HS := Lib.hid (writeL_step bl l k hlt)
      have hlen := (writeL_length (l.take k) bl).trans HBN.out
      clear hc
      generalize hq : l[k] = x at *
      clear hq
      obtain ⟨xa, xs⟩ := x
      simp only at hck hcs
      generalize hB : writeL bl (l.take k) = bk at *
      clear hB
      subst hlen
      have hgl := (ho.lt g rfl).2
      have HO2 := Lib.hid (ho.alloc (.cells #[.int .i64 xa, .string xs] 47))
      have HG := Lib.hid (grown_trans hg (World.grownBy_alloc wr (.cells #[.int .i64 xa, .string xs] 47) (some g)))
      have HH := Lib.hid (has_any (some ⟨g, 0, none⟩) bk.length cap xa (wr.alloc (.cells #[.int .i64 xa, .string xs] 47)))
      cases hh : hasS bk.length xa
      · have HZ := Lib.hid hh
        clear hh ho hg
        go_wp2_with (go_at_call 47; refine HH.out.mono ?_; rintro e w2 ⟨rfl, rfl⟩; rw [HZ.out])
        go_roundw
        case rel => exact ⟨k + 1, by omega, by go_num, by rw [HS.out]; unfold write1; rw [if_neg (by simp [HZ.out])]; exact HO2.out, HG.out⟩
        case measure => simp [intOf]; omega
      · have HZ := Lib.hid hh
        obtain ⟨m, rfl⟩ : ∃ m : Nat, xa = m := by
          unfold hasS at hh
          simp at hh
          exact ⟨xa.toNat, by omega⟩
        have hmlt : m < bk.length := by
          unfold hasS at hh
          simp at hh
          omega
        have hmi : (m : Int) < (bk.length : Int) := by omega
        have HST := Lib.hid (show ((wr.setCell ⟨g, m, none⟩ (.string xs)).alloc (.cells #[.int .i64 m, .string xs] 47)).ownsRow B0 9 1 (.slice (some ⟨g, 0, none⟩) bk.length cap) bk.length ((bk.set m xs).map sv) ∧ w.grownBy ((wr.setCell ⟨g, m, none⟩ (.string xs)).alloc (.cells #[.int .i64 m, .string xs] 47)) (some g) from ⟨by rw [List.map_set]; exact (ho.stored m (.string xs)).1.alloc _, grown_trans (grown_trans hg (ho.stored m (.string xs)).2) (World.grownBy_alloc _ _ _)⟩)
        have hf := HO2.out.frozenAt m
        obtain ⟨u, hu⟩ : ∃ u, (wr.alloc (.cells #[.int .i64 m, .string xs] 47)).cell? ⟨g, m, none⟩ = some u := by
          rw [HO2.out.cellAt m (by omega)]
          exact ⟨_, List.getElem?_eq_getElem (by simpa using hmlt)⟩
        clear hh ho hg
        go_wp2_with (go_at_call 47; refine HH.out.mono ?_; rintro e w2 ⟨rfl, rfl⟩; rw [HZ.out])
        go_roundw
        case rel => exact ⟨k + 1, by omega, by go_num, by rw [HS.out]; unfold write1; rw [if_pos HZ.out, Int.toNat_natCast]; exact HST.out.1, HST.out.2⟩
        case measure => simp [intOf]; omega
    · obtain rfl : k = l.length := by omega
      rw [List.take_length] at ho
      have HO := Lib.hid ho
      have HG := Lib.hid hg
      clear ho hg
      go_wp2
      go_end0
      exact ⟨rfl, HO.out, HG.out⟩
end Go.Proofs.Ytpcimjccngidgaa
