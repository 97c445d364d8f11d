/- What tells a commit, as plain numbers and bytes; no program in sight but bytes' own. -/
import Derived.Test.YthaebcljehmhmaaNumB
import Derived.Test.YthaebcljehmhmaaLaw
namespace Go.Proofs.Ythaebcljehmhmaa
open Go.RowKit

structure Sup where
  g : Int
  z : Int
  s : Int
deriving DecidableEq
def Sup.v (x : Sup) : Value := .agg #[.int .i64 x.g, .int .i64 x.z, .int .i64 x.s]
def supR (x : Sup) : Bool := decide (1 ≤ x.g) && (decide (x.g ≤ 2147483647) && (decide (0 ≤ x.z) && (decide (x.z ≤ 2147483647) && (decide (0 ≤ x.s) && decide (x.s ≤ 4294967295)))))
theorem supR_iff (x : Sup) : supR x = true ↔ (1 ≤ x.g ∧ x.g ≤ 2147483647) ∧ (0 ≤ x.z ∧ x.z ≤ 2147483647) ∧ (0 ≤ x.s ∧ x.s ≤ 4294967295) := by
  unfold supR; simp only [Bool.and_eq_true, decide_eq_true_eq]; omega
def supL (x : Sup) : List UInt8 := [97, 115] ++ putL x.g.toNat 4 ++ putL x.z.toNat 4 ++ putL x.s.toNat 4
theorem supL_length (x : Sup) : (supL x).length = 14 := by simp [supL, putL_length]
def supB (x : Sup) : ByteArray := if supR x then sealB (supL x) else ⟨#[]⟩
def supE (x : Sup) : Int := if supR x then 0 else 1
def sup0 : Sup := ⟨0, 0, 0⟩
/-- What stands in a block's places. -/
def supAt (l : List UInt8) : Sup := ⟨(leNat ((l.drop 2).take 4) : Nat), (leNat ((l.drop 6).take 4) : Nat), (leNat ((l.drop 10).take 4) : Nat)⟩
def parS (b : ByteArray) : Option Sup := if openE b.data.toList = 0 ∧ supR (supAt (openL b.data.toList)) = true ∧ supB (supAt (openL b.data.toList)) = b then some (supAt (openL b.data.toList)) else none
def parX (b : ByteArray) : Sup := (parS b).getD sup0
def parE (b : ByteArray) : Int := if (parS b).isSome then 0 else 2
def pickI (a b : ByteArray) : Int := match parS a, parS b with
  | some x, some y => if x.g < y.g then 1 else 0
  | none, some _ => 1
  | _, none => 0
def pickX (a b : ByteArray) : Sup := match parS a, parS b with
  | some x, some y => if x.g < y.g then y else x
  | none, some y => y
  | some x, none => x
  | none, none => sup0
def pickE (a b : ByteArray) : Int := match parS a, parS b with
  | none, none => 4
  | _, _ => 0

theorem sup_ext {x y : Sup} (h1 : x.g = y.g) (h2 : x.z = y.z) (h3 : x.s = y.s) : x = y := by cases x; cases y; simp_all
theorem supL_at (x : Sup) (h : supR x = true) (m : List UInt8) : supAt (supL x ++ m) = x := by
  rw [supR_iff] at h
  obtain ⟨⟨h1, h2⟩, ⟨h3, h4⟩, h5, h6⟩ := h
  have e0 : ([97, 115] : List UInt8).length = 2 := rfl
  have l4 := fun n => putL_length 4 n
  unfold supAt supL
  have t1 : ((([97, 115] ++ putL x.g.toNat 4 ++ putL x.z.toNat 4 ++ putL x.s.toNat 4 ++ m).drop 2).take 4) = putL x.g.toNat 4 := by
    simp only [List.append_assoc]
    rw [List.drop_append_of_le_length (by simp)]
    simp only [List.drop_succ_cons, List.drop_nil, List.nil_append]
    rw [List.take_append_of_le_length (by rw [l4]; exact Nat.le_refl _), List.take_of_length_le (by rw [l4]; exact Nat.le_refl _)]
  have t2 : ((([97, 115] ++ putL x.g.toNat 4 ++ putL x.z.toNat 4 ++ putL x.s.toNat 4 ++ m).drop 6).take 4) = putL x.z.toNat 4 := by
    have e : ([97, 115] ++ putL x.g.toNat 4 ++ putL x.z.toNat 4 ++ putL x.s.toNat 4 ++ m) = ([97, 115] ++ putL x.g.toNat 4) ++ (putL x.z.toNat 4 ++ (putL x.s.toNat 4 ++ m)) := by simp only [List.append_assoc]
    rw [e, List.drop_left' (by simp [l4]), List.take_append_of_le_length (by rw [l4]; exact Nat.le_refl _), List.take_of_length_le (by rw [l4]; exact Nat.le_refl _)]
  have t3 : ((([97, 115] ++ putL x.g.toNat 4 ++ putL x.z.toNat 4 ++ putL x.s.toNat 4 ++ m).drop 10).take 4) = putL x.s.toNat 4 := by
    have e : ([97, 115] ++ putL x.g.toNat 4 ++ putL x.z.toNat 4 ++ putL x.s.toNat 4 ++ m) = ([97, 115] ++ putL x.g.toNat 4 ++ putL x.z.toNat 4) ++ (putL x.s.toNat 4 ++ m) := by simp only [List.append_assoc]
    rw [e, List.drop_left' (by simp [l4]), List.take_append_of_le_length (by rw [l4]; exact Nat.le_refl _), List.take_of_length_le (by rw [l4]; exact Nat.le_refl _)]
  rw [t1, t2, t3, leNat_putL, leNat_putL, leNat_putL]
  exact sup_ext (by show ((x.g.toNat % 256 ^ 4 : Nat) : Int) = x.g; omega) (by show ((x.z.toNat % 256 ^ 4 : Nat) : Int) = x.z; omega) (by show ((x.s.toNat % 256 ^ 4 : Nat) : Int) = x.s; omega)
theorem sup_open (x : Sup) (h : supR x = true) : openE (supB x).data.toList = 0 ∧ supAt (openL (supB x).data.toList) = x := by
  have ho := open_sealB (supL x)
  have hl := supL_length x
  unfold supB
  rw [if_pos h]
  refine ⟨by rw [ho.2.1, if_pos (by omega)], ?_⟩
  rw [ho.1]
  unfold unsealed padL
  rw [if_pos (by omega)]
  exact supL_at x h _
theorem par_print (x : Sup) (h : supR x = true) : parS (supB x) = some x := by
  obtain ⟨h1, h2⟩ := sup_open x h
  unfold parS
  rw [h2, if_pos ⟨h1, h, rfl⟩]
theorem par_right {b : ByteArray} {x : Sup} (h : parS b = some x) : supR x = true ∧ supB x = b := by
  unfold parS at h
  split at h
  · rename_i hh
    cases h
    exact ⟨hh.2.1, hh.2.2⟩
  · cases h
theorem supB_size (x : Sup) (h : supR x = true) : (supB x).size = 40 := by
  unfold supB; rw [if_pos h]
  have := (open_sealB (supL x)).2.2
  rw [this, if_pos (by rw [supL_length]; omega)]
theorem supB_inj {x y : Sup} (hx : supR x = true) (hy : supR y = true) (h : supB x = supB y) : x = y := by
  have h1 := par_print x hx
  rw [h, par_print y hy] at h1
  exact (Option.some.inj h1).symm
end Go.Proofs.Ythaebcljehmhmaa
