/- The walks of vol, cell and both rows of package book's reader. The contracts of bytes and sealed blocks, with lengths as numbers of their own. The reference's contracts for layer 3. Walks of numbers and Right of package slot. Walk of Print of package slot. Walk of the reference's Print. Walks of taken, Book and the reference's Book. What package plan asks of a commit: its turn, its slot, and the iterators over its writes. nodes of a commit that uses no cell: nothing. pages of a commit: the book's blocks, one by one. -/
import Derived.Test.YtpcimjccngidgaaK12
import Derived.Test.YtpcimjccngidgaaK04
import Derived.Test.YtpcimjccngidgaaK01
import Derived.Test.YtpcimjccngidgaaK05
import Derived.Test.YtpcimjccngidgaaK11
import Derived.Lib.SlBytesConst
import Derived.Test.YtpcimjccngidgaaK09
import Derived.Test.YtpcimjccngidgaaK10
namespace Go.Proofs.Ytpcimjccngidgaa
set_option maxRecDepth 20000
open Go.RowKit
attribute [local go_sem ↓] Go.wp_at_zero Go.wp_at_succ

/-- The volume whose bytes stand at a place. -/
def volP (l : List UInt8) (a : Int) : Option It :=
  match takeS l a 4 with
  | none => none
  | some i => match takeS l (a + 4) 2 with
    | none => none
    | some r => some ((i : Int), (r : Int) - 1)
theorem volP_small {l : List UInt8} {a : Int} {x : It} (h : volP l a = some x) : 0 ≤ a ∧ a + 6 ≤ l.length ∧ 0 ≤ x.1 ∧ -1 ≤ x.2 ∧ x.2 < 65535 := by
  unfold volP at h
  split at h
  · cases h
  · rename_i p h1
    split at h
    · cases h
    · rename_i k h2
      cases h
      have h3 := takeS_at h1
      have h4 := takeS_at h2
      have h5 := takeS_small h2 (by omega)
      refine ⟨h3.1, by omega, ?_, ?_, ?_⟩
      · show (0 : Int) ≤ (p : Int)
        omega
      · show (-1 : Int) ≤ (k : Int) - 1
        omega
      · show (k : Int) - 1 < 65535
        omega
/-- So many volumes whose bytes stand from a place on. -/
def rowV (l : List UInt8) : Nat → Int → Option (List It)
  | 0, _ => some []
  | m + 1, a => match volP l a with
    | none => none
    | some x => (rowV l m (a + 6)).map (x :: ·)
def volsP (l : List UInt8) (a : Int) : Option (List It × Int) :=
  match takeS l a 1 with
  | none => none
  | some n => (rowV l n (a + 1)).map (fun r => (r, a + 1 + 6 * n))
/-- So many Refs whose bytes stand from a place on. -/
def rowC (l : List UInt8) : Nat → Int → Option (List Int)
  | 0, _ => some []
  | m + 1, a => match takeS l a 2 with
    | none => none
    | some x => (rowC l m (a + 2)).map ((x : Int) :: ·)
def cellsR (l : List UInt8) (a : Int) : Option (List Int × Int) :=
  match takeS l a 2 with
  | none => none
  | some n => (rowC l n (a + 2)).map (fun r => (r, a + 2 + 2 * n))
/-- A cell without a node. -/
def hcOf (r : Int) : HC := ⟨r, false, false, []⟩
def hcV : List Int → List Value
  | [] => []
  | r :: l => .int .i64 r :: .bool false :: .bool false :: .slice none 0 0 :: hcV l
theorem hcV_app (l k : List Int) : hcV (l ++ k) = hcV l ++ hcV k := by
  induction l with
  | nil => rfl
  | cons x l ih => simp [hcV, ih]
theorem hcV_one (l : List Int) : ∀ u ∈ hcV l, u.oneCell' = true := by
  induction l with
  | nil => intro u h; cases h
  | cons x l ih =>
    intro u h
    simp only [hcV, List.mem_cons] at h
    rcases h with rfl | rfl | rfl | rfl | h
    · rfl
    · rfl
    · rfl
    · rfl
    · exact ih u h
theorem hcV_at (w : World) : ∀ l : List Int, HcAt w (hcV l) (l.map hcOf)
  | [] => HcAt.nil w
  | r :: l => by
    have h1 := HcAt.one (w := w) (A := none) (c := 0) (hcOf r) (by
      refine ⟨fun _ => rfl, Nat.le_refl _, by unfold maxLen; omega, Cells.nil _ _⟩)
    have h2 := hcV_at w l
    exact HcAt.app h1 h2
end Go.Proofs.Ytpcimjccngidgaa
namespace Go.Proofs.Ytpcimjccngidgaa
set_option maxRecDepth 20000
open Go.RowKit

theorem openL_len {s : List UInt8} (h : openE s = 0) : (openL s).length = 36 := by
  unfold openE at h
  unfold openL
  cases hs : openS s with
  | none => rw [hs] at h; simp at h
  | some l =>
    unfold openS at hs
    split at hs
    · rename_i hh
      cases hs
      simp [hh.1]
    · cases hs
theorem openL_none {s : List UInt8} (h : openE s ≠ 0) : openL s = [] ∧ openE s = 2 := by
  unfold openE at h ⊢
  unfold openL
  cases hs : openS s with
  | none => simp
  | some l => rw [hs] at h; simp at h
theorem Got.sl {w : World} {v : Value} {l : List UInt8} (h : Got w v l) {n : Nat} (hn : l.length = n) : ∃ A cap, v = .slice A n cap ∧ Sl w A n cap (l.map bv) := by
  obtain ⟨A, cap, rfl, h1, h2, h3, h4⟩ := h
  subst hn
  exact ⟨A, cap, rfl, h3, h1, h2, h4⟩
theorem putS_four {g : Int} (h0 : 0 ≤ g) (h1 : g < 4294967296) : putS g 4 = putL g.toNat 4 := by
  have e : (256 : Int) ^ (4 : Int).toNat = 4294967296 := by decide
  unfold putS; rw [if_pos ⟨by omega, by omega, h0, by rw [e]; exact h1⟩]; rfl

section
variable (g : Int) (w : World) (h0 : 0 ≤ g) (h1 : g < 4294967296)
include h0 h1
theorem numPut_n : Calls Try.prog 68 #[.int .i64 g, .int .i64 4] w fun e w' => ∃ A cap, e = .returned (.slice A 4 cap) ∧ Sl w' A 4 cap ((putL g.toNat 4).map bv) ∧ Ext w w' := by
  refine (numPut_any g 4 w (by omega) (by omega)).mono ?_
  rintro e w' ⟨v, rfl, h, hb⟩
  rw [putS_four h0 h1] at h
  obtain ⟨A, cap, rfl, hs⟩ := h.sl (putL_length 4 _)
  exact ⟨A, cap, rfl, hs, hb⟩
end
theorem takeV_four {l : List UInt8} {at_ : Int} {k : Nat} (hk : at_ = (k : Int)) (h : k + 4 ≤ l.length) (z : Int) : takeV l at_ 4 z = .tuple #[.int .i64 (leNat ((l.drop k).take 4) : Nat), .int .i64 (at_ + 4), .int .i64 0] := by
  subst hk
  unfold takeV takeS
  rw [if_pos (by omega)]
  rfl
section
variable (A : Option Addr) (l : List UInt8) (n c : Nat) (at_ : Int) (k : Nat) (w : World) (hn : n = l.length) (hk : at_ = (k : Int)) (h : k + 4 ≤ n) (hS : Sl w A n c (l.map bv))
include hn hk h hS
end
section
variable (s : ByteArray) (w : World) (hs : s.size ≤ maxLen)
include hs
end
theorem sealV_short {l : List UInt8} (h : l.length ≤ 36) : sealV l = .tuple #[.string (sealB l), .int .i64 0] := by
  unfold sealV sealE; rw [if_pos h]
section
variable (A : Option Addr) (l : List UInt8) (n c : Nat) (w : World) (hn : n = l.length) (h : n ≤ 36) (hS : Sl w A n c (l.map bv))
include hn h hS
theorem numSeal_n : Calls Try.prog 69 #[.slice A n c] w fun e w' => e = .returned (.tuple #[.string (sealB l), .int .i64 0]) ∧ Ext w w' := by
  subst hn
  rw [← sealV_short h]
  exact numSeal_any A l c w hS.len hS.cells
end
section
variable (A : Option Addr) (l : List UInt8) (n c : Nat) (w : World) (hn : n = l.length) (hS : Sl w A n c (l.map bv))
include hn hS
theorem numSum_n : Calls Try.prog 61 #[.slice A n c] w fun e w' => e = .returned (.int .i64 (crc l : Nat)) ∧ w = w' := by
  subst hn; exact numSum_any A l c w hS.len hS.cells
end
end Go.Proofs.Ytpcimjccngidgaa
namespace Go.Proofs.Ytpcimjccngidgaa
set_option maxRecDepth 20000
open Go.RowKit

theorem supR_no {x : Sup} (h : ¬ ((1 ≤ x.g ∧ x.g ≤ 2147483647) ∧ (0 ≤ x.z ∧ x.z ≤ 2147483647) ∧ (0 ≤ x.s ∧ x.s ≤ 4294967295))) : supR x = false := by
  rcases Bool.eq_false_or_eq_true (supR x) with e | e
  · exact absurd ((supR_iff x).1 e) h
  · exact e
end Go.Proofs.Ytpcimjccngidgaa
namespace Go.Proofs.Ytpcimjccngidgaa
set_option maxRecDepth 20000
open Go.RowKit

theorem Bx.read3 {w : World} {k : Nat} {a b c : Value} (h : Bx w k #[a, b, c]) : w.cell? ⟨k, 0, none⟩ = some a ∧ w.cell? ⟨k, 1, none⟩ = some b ∧ w.cell? ⟨k, 2, none⟩ = some c :=
  ⟨h.at 0 _ rfl, h.at 1 _ rfl, h.at 2 _ rfl⟩
theorem Bx.drewN {w : World} {k : Nat} {cs : Array Value} (h : Bx w k cs) (n : Nat) : Bx (w.drewN n) k cs := h

set_option maxHeartbeats 1000000 in
theorem slotNumbers_any (g z s : Int) (w : World) :
    Calls Try.prog 67 #[.agg #[.int .i64 g, .int .i64 z, .int .i64 s]] w fun e w' => e = .returned (.agg #[.int .i64 g, .int .i64 z, .int .i64 s]) ∧ Ext w w' := by
  go_enter Try.func67, Try.ntmps67
  go_wp2
  generalize hW : (World.alloc (World.alloc w _) _) = W
  obtain ⟨hx, hb0, hb1⟩ := allocs2 hW
  obtain ⟨r0, r1, r2⟩ := hb1.read3
  refine bodyPost_ret (v := .agg #[.int .i64 g, .int .i64 z, .int .i64 s]) (by simp [results, Try.results67, go_sem, r0, r1, r2]) rfl ⟨rfl, hx⟩

def supK (g z s : Int) (k : Nat) : Prop := (1 ≤ k → 1 ≤ g ∧ g ≤ 2147483647) ∧ (2 ≤ k → 0 ≤ z ∧ z ≤ 2147483647) ∧ (3 ≤ k → 0 ≤ s ∧ s ≤ 4294967295)
set_option maxHeartbeats 2000000 in
theorem slotRight_any (g z s : Int) (w : World) :
    Calls Try.prog 66 #[.agg #[.int .i64 g, .int .i64 z, .int .i64 s]] w fun e w' => e = .returned (.bool (supR ⟨g, z, s⟩)) ∧ Ext w w' := by
  go_enter Try.func66, Try.ntmps66
  go_wp2_with (go_at_call 67; refine (slotNumbers_any _ _ _ _).mono ?_; rintro e w1 ⟨rfl, hx⟩; have HX := Lib.hid hx; clear hx)
  generalize hW : (World.alloc (World.alloc (World.alloc w1 _) _) _) = W
  obtain ⟨hx, hb0, hb1, hb2⟩ := allocs3 hW
  have HX2 := Lib.hid (show Ext w W from ((Ext.refl w).alloc _).trans (HX.out.trans hx))
  obtain ⟨a0, a1, a2⟩ := hb0.read3
  obtain ⟨b0, b1, b2⟩ := hb1.read3
  obtain ⟨c0, c1, c2⟩ := hb2.read3
  have z0 := hb0.lt
  have z1 := hb1.lt
  have z2 := hb2.lt
  clear hb0 hb1 hb2 hx hW HX
  go_loopw [11] (fun i wr => ∃ k q : Nat, k ≤ 3 ∧ i = .int .i64 k ∧ wr = W.drewN q ∧ supK g z s k) (fun i _ => 3 - (intOf i).toNat)
  case atStart => exact ⟨0, 0, by omega, rfl, rfl, by unfold supK; omega⟩
  case round =>
    obtain ⟨k, q, hk, rfl, rfl, hs⟩ := hrel
    have HS := Lib.hid hs
    clear hs
    have hk3 : k = 0 ∨ k = 1 ∨ k = 2 ∨ k = 3 := by omega
    rcases hk3 with rfl | rfl | rfl | rfl
    · by_cases h1 : g < 1
      · go_wp2
        go_quiet (fail)
        go_wp2
        go_ret
        exact ⟨ret_bool (supR_no (by simp only; omega)).symm, (HX2.out.drewN _).drewN _⟩
      · by_cases h2 : 2147483647 < g
        · go_wp2
          go_quiet (fail)
          go_wp2
          go_ret
          exact ⟨ret_bool (supR_no (by simp only; omega)).symm, (HX2.out.drewN _).drewN _⟩
        · go_wp2
          go_quiet (fail)
          go_wp2
          go_roundw
          case rel => exact ⟨1, q + nq, by omega, by go_num, rfl, by have := HS.out; unfold supK at *; omega⟩
          case measure => simp [intOf]
    · by_cases h1 : z < 0
      · go_wp2
        go_quiet (fail)
        go_wp2
        go_ret
        exact ⟨ret_bool (supR_no (by simp only; omega)).symm, (HX2.out.drewN _).drewN _⟩
      · by_cases h2 : 2147483647 < z
        · go_wp2
          go_quiet (fail)
          go_wp2
          go_ret
          exact ⟨ret_bool (supR_no (by simp only; omega)).symm, (HX2.out.drewN _).drewN _⟩
        · go_wp2
          go_quiet (fail)
          go_wp2
          go_roundw
          case rel => exact ⟨2, q + nq, by omega, by go_num, rfl, by have := HS.out; unfold supK at *; omega⟩
          case measure => simp [intOf]
    · by_cases h1 : s < 0
      · go_wp2
        go_quiet (fail)
        go_wp2
        go_ret
        exact ⟨ret_bool (supR_no (by simp only; omega)).symm, (HX2.out.drewN _).drewN _⟩
      · by_cases h2 : 4294967295 < s
        · go_wp2
          go_quiet (fail)
          go_wp2
          go_ret
          exact ⟨ret_bool (supR_no (by simp only; omega)).symm, (HX2.out.drewN _).drewN _⟩
        · go_wp2
          go_quiet (fail)
          go_wp2
          go_roundw
          case rel => exact ⟨3, q + nq, by omega, by go_num, rfl, by have := HS.out; unfold supK at *; omega⟩
          case measure => simp [intOf]
    · go_wp2
      go_ret
      exact ⟨ret_bool ((supR_iff _).2 (by have := HS.out; unfold supK at this; simp only; omega)).symm, HX2.out.drewN _⟩
end Go.Proofs.Ytpcimjccngidgaa
namespace Go.Proofs.Ytpcimjccngidgaa
set_option maxRecDepth 20000
open Go.RowKit

/-- A row of bytes isn't a box of numbers. -/
theorem own_neS {w : World} {B n c : Nat} {A : Option Addr} {u : UInt8} {l : List UInt8} {k : Nat} {x : Int} {cs : Array Value} (h : w.ownsRow B 5 1 (.slice A n c) n ((u :: l).map bv)) (hb : Bx w k cs) (hx : cs[0]? = some (.int .i64 x)) :
    (Value.slice A n c).ownBlock ≠ some k := by
  intro e
  rcases h.2 with ⟨e1, h0⟩ | ⟨g, cap', cur, e1, hg, hh, hnc, hcm, _⟩
  · cases e1; cases e
  · cases e1
    cases e
    have h1 := h.cellAt 0 (by have := h.1; simp at this ⊢; omega)
    rw [hb.at 0 _ hx] at h1
    simp [bv] at h1
def supP (x : Sup) : Nat → List UInt8
  | 0 => [97, 115]
  | 1 => [97, 115] ++ putL x.g.toNat 4
  | 2 => [97, 115] ++ putL x.g.toNat 4 ++ putL x.z.toNat 4
  | _ => [97, 115] ++ putL x.g.toNat 4 ++ putL x.z.toNat 4 ++ putL x.s.toNat 4

/-- append of bytes onto a row of bytes that is full, whoever owns it: a new row. -/
theorem app_full (w : World) {ops : Array Oper} {rest : List Oper} {o : Oper} {a : Act} {Q : Exit → Act → World → Prop} (hgd : o.guard = none) (s x : Operand)
    (ho : o.op = .call { callee := .builtin .append, args := #[s, x], argTypes := #[23, 23] })
    (ad : Addr) (n c : Nat) (l : List UInt8) (hs : a.eval s = .slice (some ad) n c) (hc0 : Cells w (some ad) (l.map bv)) (hln : l.length = n)
    (A : Option Addr) (m cx : Nat) (k : List UInt8) (hx : a.eval x = .slice A m cx) (hl : k.length = m) (hk : Cells w A (k.map bv)) (hm : 0 < m) (hn : 0 < n)
    (hfull : c < n + m) (hsz : n + m ≤ 100000)
    (h : ∀ A' c' w', w'.ownsRow w.heap.size 5 1 (.slice A' (n + m) c') (n + m) ((l ++ k).map bv) → Ext w w' → wpList Try.prog ops Q rest (a.put o.dst (.slice A' (n + m) c')) w') : wpList Try.prog ops Q (o :: rest) a w := by
  obtain ⟨i0, hi, hz0, hz1, hz2⟩ := info_parts info5
  subst hl hln
  obtain ⟨ad', he, h0⟩ := hc0.some_ (by simpa using hn)
  cases he
  obtain ⟨ad2, rfl, h1⟩ := hk.some_ (by simpa using hm)
  refine wpList_plain hgd fun K hK => ?_
  have hr := run_append_grow (P := Try.prog) w 23 o.type 5 i0 (.int .u8 0) Try.underlying23 hi hz0 ad l.length c (l.map bv) (by simp [hz1]) h0 ad2 k.length cx (k.map bv) (by simp [hz1]) h1 hfull (by omega) (growslice_fits (by omega) (by rw [hz2]; omega))
  unfold Oper.wp execOp
  simp only [ho, resolve, invoke, builtin, Sem.run_bind, Sem.run_pure, Result.andThen_ok, List.map_toArray, List.map_cons, List.map_nil, hs, hx, hr]
  refine hK _ _ (h _ _ _ ?_ ?_)
  · have hge := grownCap_ge w (l.length + k.length) c 5
    have hcm : grownCap w (l.length + k.length) c 5 ≤ maxLen := grownCap_le_maxLen w _ c 5 (by unfold maxLen; omega)
    refine ⟨by simp, .inr ⟨w.heap.size, _, _, rfl, Nat.le_refl _, heap_alloc_new w.drew _, hge, hcm, ?_, ?_⟩⟩
    · have hzc : (Value.int .u8 0).cells.size = 1 := rfl
      simp only [Array.size_append, List.size_toArray, size_zeroCells, hzc, List.length_map]; omega
    · simp only [Array.toList_append, List.map_append]
      exact List.take_left' (by simp)
  · exact (Ext.refl w).drew.alloc _
theorem lit2 (w : World) : Cells (w.alloc (.cells #[.int .u8 97, .int .u8 115] 5 (2, 3))) (some ⟨w.heap.size, 0, none⟩) (([97, 115] : List UInt8).map bv) := fun _ => by
  refine ⟨_, 0, rfl, by simp, fun j u hu => ?_⟩
  rw [Nat.zero_add, cell_of_row _ _ j #[.int .u8 97, .int .u8 115] 5 (2, 3) (heap_alloc_new w _), ← hu]
  have hj := (List.getElem?_eq_some_iff.1 hu).1
  simp at hj
  rcases (by omega : j = 0 ∨ j = 1) with rfl | rfl <;> rfl
theorem own_monoS {w : World} {B C n c : Nat} {A : Option Addr} {xs : List Value} (h : w.ownsRow C 5 1 (.slice A n c) n xs) (hB : B ≤ C) : w.ownsRow B 5 1 (.slice A n c) n xs := by
  refine ⟨h.1, ?_⟩
  rcases h.2 with e | ⟨g, cap, cur, e, hg, r⟩
  · exact .inl e
  · exact .inr ⟨g, cap, cur, e, Nat.le_trans hB hg, r⟩
/-- How the row stands ahead of the round k. -/
def supSt (B : Nat) (g z s : Int) (L : Addr) (k : Nat) (v : Value) (w : World) : Prop :=
  (k = 0 ∧ v = .slice (some L) 2 2 ∧ Cells w (some L) (([97, 115] : List UInt8).map bv)) ∨
  (1 ≤ k ∧ ∃ A c, v = .slice A (2 + 4 * k) c ∧ w.ownsRow B 5 1 (.slice A (2 + 4 * k) c) (2 + 4 * k) ((supP ⟨g, z, s⟩ k).map bv))
set_option maxRecDepth 100000 in
set_option maxHeartbeats 2000000 in
theorem slotPrint_any (g z s : Int) (w : World) :
    Calls Try.prog 49 #[.agg #[.int .i64 g, .int .i64 z, .int .i64 s]] w fun e w' => e = .returned (.tuple #[.string (supB ⟨g, z, s⟩), .int .i64 (supE ⟨g, z, s⟩)]) ∧ Ext w w' := by
  unfold supB supE
  cases hs : supR ⟨g, z, s⟩
  · have HS := Lib.hid hs
    go_enter Try.func49, Try.ntmps49
    go_wp2_with (go_at_call 66; refine (slotRight_any _ _ _ _).mono ?_; rintro e w1 ⟨rfl, hx⟩; simp only [HS.out]; have HX := Lib.hid (((Ext.refl w).alloc _).trans hx); clear hx)
    go_ret2
    exact ⟨rfl, HX.out⟩
  · obtain ⟨⟨g1, g2⟩, ⟨z1, z2⟩, s1, s2⟩ := (supR_iff _).1 hs
    simp only at g1 g2 z1 z2 s1 s2
    have HS := Lib.hid hs
    clear hs
    have kc := fun (w : World) (C : Array Value) (n c : Nat) => Lib.run_convert_bytes_const (P := Try.prog) w 23 5 C n c Try.underlying23 Try.underlying5
    go_enter Try.func49, Try.ntmps49
    go_wp2_with (first
      | (go_at_call 66; refine (slotRight_any _ _ _ _).mono ?_; rintro e w1 ⟨rfl, hx⟩; simp only [HS.out]; have HX := Lib.hid (((Ext.refl w).alloc _).trans hx); have hb0 := (Bx.new w #[.int .i64 g, .int .i64 z, .int .i64 s] 58).ext hx; obtain ⟨r0, r1, r2⟩ := hb0.read3; have r3 := hb0.lt; clear hx hb0)
      | (go_at_call 67; refine (slotNumbers_any _ _ _ _).mono ?_; rintro e w2 ⟨rfl, hx⟩; have HX1 := Lib.hid hx; clear hx))
    generalize hW : (World.alloc w2 _) = W
    obtain ⟨hx, hb⟩ := allocs1 hW
    have HX2 := Lib.hid (show Ext w W from HX.out.trans (((Ext.refl w1).alloc _).trans (HX1.out.trans hx)))
    have HB := Lib.hid hb
    have HL := Lib.hid (show Cells W (some ⟨w1.heap.size, 0, none⟩) (([97, 115] : List UInt8).map bv) from (lit2 w1).ext (HX1.out.trans hx))
    clear hx hb hW r0 r1 r2 r3 HX HX1
    go_loopw [4, 14] (fun v i wr => ∃ k : Nat, k ≤ 3 ∧ i = .int .i64 k ∧ supSt w.heap.size g z s ⟨w1.heap.size, 0, none⟩ k v wr ∧ Ext w wr ∧ Bx wr w2.heap.size #[.int .i64 g, .int .i64 z, .int .i64 s]) (fun _ i _ => 3 - (intOf i).toNat)
    case atStart => exact ⟨0, by omega, rfl, .inl ⟨rfl, rfl, HL.out⟩, HX2.out, HB.out⟩
    case round =>
      obtain ⟨k, hk, rfl, hst, hxr, hbr⟩ := hrel
      have HXR := Lib.hid hxr
      have HBR := Lib.hid hbr
      have HST := Lib.hid hst
      obtain ⟨r0, r1, r2⟩ := hbr.read3
      have r3 := hbr.lt
      clear hst hxr hbr
      have hk3 : k = 0 ∨ k = 1 ∨ k = 2 ∨ k = 3 := by omega
      rcases hk3 with rfl | rfl | rfl | rfl
      · have HP := Lib.hid (fun w' => numPut_n g w' (by omega) (by omega))
        obtain ⟨-, rfl, hl⟩ | ⟨h, _⟩ := HST.out
        rotate_left
        · omega
        have HC := Lib.hid hl
        clear hl HST
        go_wp2_with (first | (at_builtin; refine stop_here ?_) | (go_at_call 68; refine (HP.out _).mono ?_; rintro e w3 ⟨A', cap', rfl, hS, hx⟩; have HS3 := Lib.hid hS; have HX3 := Lib.hid hx; clear hS hx))
        refine stop_on ?_
        refine app_full _ rfl _ _ rfl ⟨w1.heap.size, 0, none⟩ 2 2 [97, 115] rfl (HC.out.ext HX3.out) rfl A' 4 cap' (putL g.toNat 4) rfl (putL_length 4 _) HS3.out.cells (by omega) (by omega) (by omega) (by omega) ?_
        intro A4 c4 w4 hown hx4
        have HX4 := Lib.hid (HXR.out.trans (HX3.out.trans hx4))
        have HB4 := Lib.hid (HBR.out.ext (HX3.out.trans hx4))
        have HO4 := Lib.hid (own_monoS hown (show w.heap.size ≤ w3.heap.size by have := HXR.out.size; have := HX3.out.size; omega))
        clear hown hx4 HC HBR HXR HS3 HX3
        go_wp2
        go_roundw
        case rel => exact ⟨1, by omega, by go_num, .inr ⟨by omega, A4, c4, rfl, HO4.out⟩, HX4.out, HB4.out⟩
        case measure => simp [intOf]
      · have HP := Lib.hid (fun w' => numPut_n z w' (by omega) (by omega))
        obtain ⟨h, _⟩ | ⟨-, A, c, rfl, ho⟩ := HST.out
        · omega
        have HO := Lib.hid ho
        clear ho HST
        go_wp2_with (first | (at_builtin; refine stop_here ?_) | (go_at_call 68; refine (HP.out _).mono ?_; rintro e w3 ⟨A', cap', rfl, hS, hx⟩; have HS3 := Lib.hid hS; have HX3 := Lib.hid hx; clear hS hx))
        refine stop_on ?_
        refine app_bytes _ rfl _ _ rfl w.heap.size _ 6 (supP ⟨g, z, s⟩ 1) rfl (own_below HO.out HX3.out) A' 4 cap' (putL z.toNat 4) rfl (putL_length 4 _) HS3.out.1 HS3.out.cells (by omega) (by have := HXR.out.size; have := HX3.out.size; omega) ?_
        intro A4 c4 w4 hown hg4
        have HX4 := Lib.hid (show Ext w w4 from Below.grown (HXR.out.trans HX3.out) hg4 (by have := HXR.out.size; have := HX3.out.size; omega) (fun q hq => ((own_below HO.out HX3.out).lt q hq).1))
        have HB4 := Lib.hid ((HBR.out.ext HX3.out).grown hg4 (own_neS (u := 97) (own_below HO.out HX3.out) (HBR.out.ext HX3.out) rfl))
        have HO4 := Lib.hid hown
        clear hown hg4 HO HBR HXR HS3 HX3
        go_wp2
        go_roundw
        case rel => exact ⟨2, by omega, by go_num, .inr ⟨by omega, A4, c4, rfl, HO4.out⟩, HX4.out, HB4.out⟩
        case measure => simp [intOf]
      · have HP := Lib.hid (fun w' => numPut_n s w' (by omega) (by omega))
        obtain ⟨h, _⟩ | ⟨-, A, c, rfl, ho⟩ := HST.out
        · omega
        have HO := Lib.hid ho
        clear ho HST
        go_wp2_with (first | (at_builtin; refine stop_here ?_) | (go_at_call 68; refine (HP.out _).mono ?_; rintro e w3 ⟨A', cap', rfl, hS, hx⟩; have HS3 := Lib.hid hS; have HX3 := Lib.hid hx; clear hS hx))
        refine stop_on ?_
        refine app_bytes _ rfl _ _ rfl w.heap.size _ 10 (supP ⟨g, z, s⟩ 2) rfl (own_below HO.out HX3.out) A' 4 cap' (putL s.toNat 4) rfl (putL_length 4 _) HS3.out.1 HS3.out.cells (by omega) (by have := HXR.out.size; have := HX3.out.size; omega) ?_
        intro A4 c4 w4 hown hg4
        have HX4 := Lib.hid (show Ext w w4 from Below.grown (HXR.out.trans HX3.out) hg4 (by have := HXR.out.size; have := HX3.out.size; omega) (fun q hq => ((own_below HO.out HX3.out).lt q hq).1))
        have HB4 := Lib.hid ((HBR.out.ext HX3.out).grown hg4 (own_neS (u := 97) (own_below HO.out HX3.out) (HBR.out.ext HX3.out) rfl))
        have HO4 := Lib.hid hown
        clear hown hg4 HO HBR HXR HS3 HX3
        go_wp2
        go_roundw
        case rel => exact ⟨3, by omega, by go_num, .inr ⟨by omega, A4, c4, rfl, HO4.out⟩, HX4.out, HB4.out⟩
        case measure => simp [intOf]
      · obtain ⟨h, _⟩ | ⟨-, A, c, rfl, ho⟩ := HST.out
        · omega
        have HSL := Lib.hid (own_sl ho)
        clear ho HST
        have HV := Lib.hid (numSeal_n A (supL ⟨g, z, s⟩) 14 c wr (by rw [supL_length]) (by omega) HSL.out)
        go_wp2_with (go_at_call 69; refine HV.out.mono ?_; rintro e w3 ⟨rfl, hx⟩; have HX4 := Lib.hid (HXR.out.trans hx); clear hx)
        go_ret2
        exact ⟨rfl, HX4.out⟩
end Go.Proofs.Ytpcimjccngidgaa
namespace Go.Proofs.Ytpcimjccngidgaa
set_option maxRecDepth 20000
open Go.RowKit

end Go.Proofs.Ytpcimjccngidgaa
namespace Go.Proofs.Ytpcimjccngidgaa
set_option maxRecDepth 20000
open Go.RowKit

theorem Bx.set3 {w : World} {k : Nat} {a b c : Value} (h : Bx w k #[a, b, c]) (x y z : Value) : Bx (((w.setCell ⟨k, 0, none⟩ x).setCell ⟨k, 1, none⟩ y).setCell ⟨k, 2, none⟩ z) k #[x, y, z] :=
  ((h.set 0 x).set 1 y).set 2 z
theorem Ext.store3 {w0 w : World} (h : Ext w0 w) {k : Nat} (hk : w0.heap.size ≤ k) (x y z : Value) : Ext w0 (((w.setCell ⟨k, 0, none⟩ x).setCell ⟨k, 1, none⟩ y).setCell ⟨k, 2, none⟩ z) :=
  ((h.set (p := ⟨k, 0, none⟩) hk x).set (p := ⟨k, 1, none⟩) hk y).set (p := ⟨k, 2, none⟩) hk z
theorem Bx.free3 {w : World} {k : Nat} {a b c : Value} (h : Bx w k #[a, b, c]) : w.frozen? ⟨k, 0, none⟩ = false ∧ w.frozen? ⟨k, 1, none⟩ = false ∧ w.frozen? ⟨k, 2, none⟩ = false := ⟨h.free 0, h.free 1, h.free 2⟩

def takK (a b c : Int) : Nat → Array Value
  | 0 => #[.int .i64 0, .int .i64 0, .int .i64 0]
  | 1 => #[.int .i64 a, .int .i64 0, .int .i64 0]
  | 2 => #[.int .i64 a, .int .i64 b, .int .i64 0]
  | _ => #[.int .i64 a, .int .i64 b, .int .i64 c]

set_option maxHeartbeats 1000000 in
theorem slotBook_any (A : Option Addr) (l : List UInt8) (n c : Nat) (w : World) (hn : n = l.length) (hS : Sl w A n c (l.map bv)) :
    Calls Try.prog 41 #[.slice A n c] w fun e w' => e = .returned (.tuple #[.int .i64 n, .int .i64 (crc l : Nat)]) ∧ w = w' := by
  have HS := Lib.hid (numSum_n A l n c w hn hS)
  clear hS hn
  go_enter Try.func41, Try.ntmps41
  go_wp2_with (go_at_call 61; refine HS.out.mono ?_; rintro e w' ⟨rfl, rfl⟩)
  go_ret2
  exact ⟨rfl, rfl⟩
end Go.Proofs.Ytpcimjccngidgaa
namespace Go.Proofs.Ytpcimjccngidgaa
set_option maxRecDepth 20000
open Go.RowKit Go.Shelf

theorem flush_is (w : World) : Calls Try.prog 28 #[] w fun e w' => e = .returned (.agg #[.int .i64 (-1), .string (ByteArray.mk #[])]) ∧ Ext w w' := by
  have hb := Bx.new w #[.int .i64 0, .string (ByteArray.mk #[])] 47
  obtain ⟨p0, p1, p2⟩ := hb.read2
  have f0 := hb.free 0
  have f1 := hb.free 1
  clear hb
  go_enter Try.func28, Try.ntmps28
  go_wp2_with fail
  refine ret2_cell (k := w.heap.size) (x := .int .i64 (-1)) (y := .string (ByteArray.mk #[])) (v := .agg #[.int .i64 (-1), .string (ByteArray.mk #[])]) (Bx.new w _ 47) (fun r0 r1 => by simp [results, Try.results28, go_sem, r0, r1]) rfl ?_
  exact ⟨rfl, (Ext.refl w).alloc _⟩
theorem told_turn (n g z s : Nat) (A : Option Addr) (m c : Nat) (w : World) :
    Calls Try.prog 50 #[.agg #[.int .i64 n, .int .i64 g, .int .i64 z, .int .i64 s, .slice A m c]] w fun e w' => e = .returned (.int .i64 ((g % 2 : Nat) : Int)) ∧ Ext w w' := by
  have hb := Bx.new w #[.int .i64 n, .int .i64 g, .int .i64 z, .int .i64 s, .slice A m c] 60
  have HX := Lib.hid ((Ext.refl w).alloc (.cells #[.int .i64 n, .int .i64 g, .int .i64 z, .int .i64 s, .slice A m c] 60))
  have p1 := hb.at 1 _ rfl
  have g1 : ((g : Int)).tmod 2 = ((g % 2 : Nat) : Int) := by rw [Int.tmod_eq_emod_of_nonneg (by omega)]; omega
  have g2 : IntKind.i64.wrap ((g % 2 : Nat) : Int) = ((g % 2 : Nat) : Int) := by rw [IntKind.wrap_i64]; omega
  generalize g % 2 = q at *
  clear hb
  go_enter Try.func50, Try.ntmps50
  go_wp2_with fail
  go_ret
  exact ⟨rfl, HX.out⟩
set_option maxHeartbeats 1600000 in
theorem told_slot (n g z s : Nat) (A : Option Addr) (m c : Nat) (w : World) :
    Calls Try.prog 29 #[.agg #[.int .i64 n, .int .i64 g, .int .i64 z, .int .i64 s, .slice A m c]] w fun e w' => e = .returned (.agg #[.int .i64 ((g % 2 : Nat) : Int), .string (supB ⟨g, z, s⟩)]) ∧ Ext w w' := by
  have hb1 := (Bx.new w #[.int .i64 n, .int .i64 g, .int .i64 z, .int .i64 s, .slice A m c] 60).ext ((Ext.refl _).alloc (.cells #[.int .i64 0, .string (ByteArray.mk #[])] 47))
  have hb2 := Bx.new (w.alloc (.cells #[.int .i64 n, .int .i64 g, .int .i64 z, .int .i64 s, .slice A m c] 60)) #[.int .i64 0, .string (ByteArray.mk #[])] 47
  rw [World.size_alloc] at hb2
  have hx := ((Ext.refl w).alloc (.cells #[.int .i64 n, .int .i64 g, .int .i64 z, .int .i64 s, .slice A m c] 60)).alloc (.cells #[.int .i64 0, .string (ByteArray.mk #[])] 47)
  have HB := Lib.hid hb1
  have HB2 := Lib.hid hb2
  have HX := Lib.hid hx
  have p0 := hb1.at 0 _ rfl
  have p1 := hb1.at 1 _ rfl
  have p2 := hb1.at 2 _ rfl
  have p3 := hb1.at 3 _ rfl
  have p4 := hb1.at 4 _ rfl
  have HP := Lib.hid (fun w' => slotPrint_any (g : Int) z s w')
  have HT := Lib.hid (fun w' => told_turn n g z s A m c w')
  generalize supB ⟨(g : Int), (z : Int), (s : Int)⟩ = sb at *
  generalize supE ⟨(g : Int), (z : Int), (s : Int)⟩ = se at *
  clear hb1 hb2 hx
  go_enter Try.func29, Try.ntmps29
  go_wp2_with (first
    | (go_at_call 49; refine (HP.out _).mono ?_; rintro e w1 ⟨rfl, hx⟩; have HX1 := Lib.hid (HX.out.trans hx); have HB1 := Lib.hid (HB.out.ext hx); have HC1 := Lib.hid (HB2.out.ext hx); clear hx p0 p1 p2 p3 p4; have p0 := HB1.out.at 0 _ rfl; have p1 := HB1.out.at 1 _ rfl; have p2 := HB1.out.at 2 _ rfl; have p3 := HB1.out.at 3 _ rfl; have p4 := HB1.out.at 4 _ rfl)
    | (go_at_call 50; refine (HT.out _).mono ?_; rintro e w2 ⟨rfl, hx⟩; have HX2 := Lib.hid (HX1.out.trans hx); have HC2 := Lib.hid (HC1.out.ext hx); clear hx p0 p1 p2 p3 p4; obtain ⟨c0, c1, c2⟩ := HC2.out.read2; have f0 := HC2.out.free 0; have f1 := HC2.out.free 1))
  refine ret2_cell (k := w.heap.size + 1) (x := .int .i64 ((g % 2 : Nat) : Int)) (y := .string sb) (v := .agg #[.int .i64 ((g % 2 : Nat) : Int), .string sb]) (HC2.out.set2 _ _) (fun r0 r1 => by simp [results, Try.results29, go_sem, r0, r1]) rfl ?_
  exact ⟨rfl, HX2.out.store2 (by omega) _ _⟩
theorem ahead_in (d : Nat) (cs : Array Value) (w : World) :
    CallsIn Fence.wide d Try.prog 26 #[.agg cs] w fun e w' =>
      e = .returned (.func (.func 44) #[] #[.pointer (some ⟨w.heap.size, 0, none⟩)]) ∧ w' = w.alloc (.cells cs 62) := by
  refine callsIn_of_wp Try.func26 rfl trivial ?_ rfl
  simp only [Try.ntmps26, List.size_toArray, List.length_cons, List.length_nil, Nat.reduceAdd, Nat.reduceSub, Array.replicate_succ, Array.replicate_zero, List.push_toArray, List.append_toArray, List.nil_append, List.cons_append]
  gi_wp2
  go_ret
  exact ⟨rfl, rfl⟩
theorem nodes_in (d : Nat) (cs : Array Value) (w : World) :
    CallsIn Fence.wide d Try.prog 45 #[.agg cs] w fun e w' =>
      e = .returned (.func (.func 62) #[] #[.pointer (some ⟨w.heap.size, 0, none⟩)]) ∧ w' = w.alloc (.cells cs 62) := by
  refine callsIn_of_wp Try.func45 rfl trivial ?_ rfl
  simp only [Try.ntmps45, List.size_toArray, List.length_cons, List.length_nil, Nat.reduceAdd, Nat.reduceSub, Array.replicate_succ, Array.replicate_zero, List.push_toArray, List.append_toArray, List.nil_append, List.cons_append]
  gi_wp2
  go_ret
  exact ⟨rfl, rfl⟩
theorem pages_in (d : Nat) (cs : Array Value) (w : World) :
    CallsIn Fence.wide d Try.prog 46 #[.agg cs] w fun e w' =>
      e = .returned (.func (.func 64) #[] #[.pointer (some ⟨w.heap.size, 0, none⟩)]) ∧ w' = w.alloc (.cells cs 60) := by
  refine callsIn_of_wp Try.func46 rfl trivial ?_ rfl
  simp only [Try.ntmps46, List.size_toArray, List.length_cons, List.length_nil, Nat.reduceAdd, Nat.reduceSub, Array.replicate_succ, Array.replicate_zero, List.push_toArray, List.append_toArray, List.nil_append, List.cons_append]
  gi_wp2
  go_ret
  exact ⟨rfl, rfl⟩
end Go.Proofs.Ytpcimjccngidgaa
namespace Go.Proofs.Ytpcimjccngidgaa
set_option maxRecDepth 20000
open Go.RowKit Go.Shelf
attribute [local go_sem] Oper.semAt_some

def encW (x : Wr) : Array Value := #[.agg #[.int .i64 x.1, .string x.2]]
set_option maxRecDepth 100000 in
set_option maxHeartbeats 1600000 in
theorem nodes_none (n q bc n₀ n0 : Nat) (g z s keep : Int) (R BA : Option Addr) (bm bq : Nat) (w : World) (hn2 : n ≤ 2000) (hR : HcSl w R n q (List.replicate n HC.none)) (hb : Bt w bc 62 #[.int .i64 n0, .int .i64 g, .int .i64 z, .int .i64 s, .slice BA bm bq, .slice R n q, .int .i64 keep]) :
    SeqW Try.prog 62 #[.pointer (some ⟨bc, 0, none⟩)] encW n₀ (fun k => k = bc) [] w := by
  intro r J Jx W d hx hJ hJx hY h0
  refine (callsIn_wide (n := d)).2 (callsIn_wide.1 (?_ : CallsIn Fence.wide 3 _ _ _ _ _))
  have H0 := Lib.hid h0
  have HR := Lib.hid (hR.ext hx)
  have c5 := (hb.below hx).bx.at 5 _ rfl
  clear hJ hJx hY h0 hR hb
  refine callsIn_of_wp Try.func62 rfl trivial ?_ rfl
  simp only [Try.ntmps62, List.size_toArray, List.length_cons, List.length_nil, Nat.reduceAdd, Nat.reduceSub, Array.replicate_succ, Array.replicate_zero, List.push_toArray, List.append_toArray, List.nil_append, List.cons_append]
  gi_wp2
  clear c5
  gi_loopw [11] (fun v wr => ∃ k : Nat, k ≤ n ∧ v = .int .i64 k ∧ Ext W wr) (fun v _ => n - (intOf v).toNat)
  case atStart => exact ⟨0, Nat.zero_le _, rfl, Ext.refl _⟩
  case round =>
    obtain ⟨k, hk, rfl, hy⟩ := hrel
    have HY := Lib.hid hy
    rcases Nat.lt_or_ge k n with hlt | hge
    · have hkl : k < (List.replicate n HC.none).length := by rw [List.length_replicate]; exact hlt
      obtain ⟨b5, off, rfl, _, A5, c5, r0, r1, r2, r3, _⟩ := (HR.out.ext hy).cell hkl
      rw [List.getElem_replicate] at r0 r1 r2 r3
      have r0 := (show wr.cell? ⟨b5, off + k * 4, none⟩ = some (.int .i64 0) from r0)
      have r1 := (show wr.cell? ⟨b5, off + k * 4 + 1, none⟩ = some (.bool false) from r1)
      have r2 := (show wr.cell? ⟨b5, off + k * 4 + 2, none⟩ = some (.bool false) from r2)
      have r3 := (show wr.cell? ⟨b5, off + k * 4 + 3, none⟩ = some (.slice A5 0 c5) from r3)
      have hki : (k : Int) < (n : Int) := by omega
      have b6 := (Bx.new wr #[.int .i64 0, .bool false, .bool false, .slice A5 0 c5] 92).at 0 _ rfl
      clear hy
      gi_wp2
      go_roundw
      case rel => exact ⟨k + 1, by omega, by go_num, HY.out.alloc _⟩
      case measure => simp [intOf]; omega
    · obtain rfl : n = k := by omega
      clear hge
      gi_wp2
      go_end0
      exact ⟨⟨_, rfl⟩, wr, HY.out, .inl (H0.out _ HY.out)⟩
end Go.Proofs.Ytpcimjccngidgaa
namespace Go.Proofs.Ytpcimjccngidgaa
set_option maxRecDepth 20000
open Go.RowKit Go.Shelf
attribute [local go_sem] Oper.semAt_some

/-- What a region leaves: this frame, and of the world this. -/
def atN (a0 : Act) (R : World → Prop) : Exit → Act → World → Prop
  | .normal, a, w => a = a0 ∧ R w
  | _, _, _ => False
theorem atN_is {a0 : Act} {R : World → Prop} {e : Exit} {a : Act} {w : World} (h : atN a0 R e a w) : e = .normal ∧ a = a0 ∧ R w := by
  cases e <;> first | exact ⟨rfl, h.1, h.2⟩ | exact h.elim
/-- Writes of these blocks, from that place on. -/
def pgs (first : Nat) (L : List ByteArray) : List Wr := L.mapIdx (fun i s => (((first + i : Nat) : Int), s))
theorem pgs_len (first : Nat) (L : List ByteArray) : (pgs first L).length = L.length := by unfold pgs; simp
theorem pgs_at {first : Nat} {L : List ByteArray} {k : Nat} (h : k < L.length) : (pgs first L)[k]'(by rw [pgs_len]; exact h) = (((first + k : Nat) : Int), L[k]) := by unfold pgs; simp
theorem take_pre {α : Type} {L : List α} {k : Nat} (h : k < L.length) : L.take k ++ [L[k]] <+: L := by
  rw [← List.take_succ_eq_append_getElem h]
  exact List.take_prefix _ _
set_option maxRecDepth 100000 in
set_option maxHeartbeats 1600000 in
theorem pages_seq (n g z s m c bt n₀ : Nat) (A : Option Addr) (l : Bl) (w : World) (hn : n ≤ 2000) (hl : m = l.length) (hm : m ≤ 100000) (hA : Sl w A m c (l.map bv)) (hb : Bt w bt 60 #[.int .i64 n, .int .i64 g, .int .i64 z, .int .i64 s, .slice A m c]) :
    SeqW Try.prog 64 #[.pointer (some ⟨bt, 0, none⟩)] encW n₀ (fun k => k = bt) (pgs (2 + g % 2 * areaP n) (chB l)) w := by
  obtain ⟨PG, hPG⟩ : ∃ PG, pgs (2 + g % 2 * areaP n) (chB l) = PG := ⟨_, rfl⟩
  rw [hPG]
  intro r J Jx W d hx hJ hJx hY h0
  refine (callsIn_wide (n := d)).2 (callsIn_wide.1 (?_ : CallsIn Fence.wide 3 _ _ _ _ _))
  have HB := Lib.hid (hb.below hx)
  have HA := Lib.hid (hA.ext hx)
  have HJ := Lib.hid hJ
  have HY := Lib.hid hY
  have H0 := Lib.hid h0
  have HT := Lib.hid (fun w' => told_turn n g z s A m c w')
  have HR := Lib.hid (fun w' => layArea_any n w' (by omega))
  have HC := Lib.hid (fun w' h => planChunks_any A l m c w' hl (by omega) h)
  have har : areaP n ≤ 200 := by unfold areaP; omega
  obtain ⟨par, hpar⟩ : ∃ p, g % 2 = p := ⟨_, rfl⟩
  have hp2 : par ≤ 1 := by omega
  rw [hpar] at HT hPG
  generalize areaP n = ar at *
  obtain ⟨mm, hmm⟩ : ∃ m, par * ar = m := ⟨_, rfl⟩
  have hmm2 : mm ≤ 200 := by rw [← hmm]; exact Nat.le_trans (Nat.mul_le_mul_right ar hp2) (by omega)
  have g3 : IntKind.i64.wrap ((par : Int) * (ar : Int)) = (mm : Int) := by
    rw [show (par : Int) * (ar : Int) = ((par * ar : Nat) : Int) by simp, hmm, IntKind.wrap_i64]; omega
  rw [hmm] at hPG
  obtain ⟨first, hfi⟩ : ∃ m, 2 + mm = m := ⟨_, rfl⟩
  have g4 : IntKind.i64.wrap (2 + (mm : Int)) = (first : Int) := by rw [IntKind.wrap_i64]; omega
  have hfi2 : first ≤ 202 := by omega
  rw [hfi] at hPG
  have HPG := Lib.hid hPG
  clear hPG
  have HRD := Lib.hid (fun w' (hy : Ext W w') => (show w'.cell? ⟨bt, 0, none⟩ = some (.int .i64 n) ∧ w'.cell? ⟨bt, 1, none⟩ = some (.int .i64 g) ∧ w'.cell? ⟨bt, 2, none⟩ = some (.int .i64 z) ∧ w'.cell? ⟨bt, 3, none⟩ = some (.int .i64 s) ∧ w'.cell? ⟨bt, 4, none⟩ = some (.slice A m c) from ⟨(HB.out.below hy).bx.at 0 _ rfl, (HB.out.below hy).bx.at 1 _ rfl, (HB.out.below hy).bx.at 2 _ rfl, (HB.out.below hy).bx.at 3 _ rfl, (HB.out.below hy).bx.at 4 _ rfl⟩))
  have HW := Lib.hid (Ext.refl W)
  have HWD := Lib.hid ((Ext.refl W).drew)
  obtain ⟨p0, p1, p2, p3, p4⟩ := HRD.out _ HWD.out
  have HLM := Lib.hid hl
  clear hb hA hJ hJx hY h0 hl hfi hmm hpar
  refine callsIn_of_wp Try.func64 rfl trivial ?_ rfl
  simp only [Try.ntmps64, List.size_toArray, List.length_cons, List.length_nil, Nat.reduceAdd, Nat.reduceSub, Array.replicate_succ, Array.replicate_zero, List.push_toArray, List.append_toArray, List.nil_append, List.cons_append]
  gi_wp2
  refine wpIn_wide.2 ?_
  refine Code.wp_mono (Q := atN { tmps := #[.func (.yield r) #[] #[], .pointer (some ⟨bt, 0, none⟩), undef, .int .i64 first, undef, undef, .agg #[.int .i64 n, .int .i64 g, .int .i64 z, .int .i64 s, .slice A m c], .int .i64 par, .pointer (some ⟨bt, 0, none⟩), .agg #[.int .i64 n], .int .i64 ar, .int .i64 mm, .int .i64 first, undef, undef, undef, undef, undef, undef, undef, undef, undef, undef, undef, undef, undef, undef, undef, undef, undef, undef], defers := [] } (Ext W)) ?mono ?region
  case region =>
    go_region_with (first
      | (go_at_call 50; refine (HT.out _).mono ?_; rintro e w2 ⟨rfl, hx2⟩; have HW3 := Lib.hid (Below.trans HWD.out (hx2.mono HWD.out.size)); have HWD := Lib.hid HW3.out; obtain ⟨p0, p1, p2, p3, p4⟩ := HRD.out _ HWD.out; clear hx2)
      | (go_at_call 19; refine (HR.out _).mono ?_; rintro e w2 ⟨rfl, hx2⟩; have HW3 := Lib.hid (Below.trans HWD.out (hx2.mono HWD.out.size)); have HWD := Lib.hid HW3.out; obtain ⟨p0, p1, p2, p3, p4⟩ := HRD.out _ HWD.out; clear hx2))
    all_goals exact ⟨rfl, HWD.out⟩
  case mono =>
    intro e a' w1 h1
    obtain ⟨rfl, rfl, hx1⟩ := atN_is h1
    clear h1
    have HX1 := Lib.hid hx1
    clear p0 p1 p2 p3 p4
    obtain ⟨p0, p1, p2, p3, p4⟩ := HRD.out _ hx1
    clear hx1
    gi_wp2_with (refine ⟨trivial, ?_⟩; gi_at_call 7; refine (callsIn_wide.2 (HC.out _ (HA.out.ext HX1.out))).mono ?_; rintro e w2 ⟨B, q, rfl, ho, hx2⟩)
    have X2 := Lib.hid (HX1.out.trans hx2)
    have HO := Lib.hid ho
    have HN := Lib.hid (show (pgs first (chB l)).length = pieces m from by rw [pgs_len, chB_len, chunks_len, ← HLM.out])
    have HNL := Lib.hid (show (chB l).length = pieces m from by rw [chB_len, chunks_len, ← HLM.out])
    have HJ2 := Lib.hid (HJ.out w2 X2.out)
    have HY2 := Lib.hid (fun pre x W1 m => HY.out w2 pre x W1 m X2.out)
    have H02 := Lib.hid (H0.out w2 X2.out)
    have hpc : pieces m ≤ 100000 := by unfold pieces; omega
    generalize pieces m = N at *
    generalize chB l = L at *
    obtain rfl := HPG.out
    clear ho hx2 p0 p1 p2 p3 p4
    gi_loopw [17] (fun v wr => ∃ k : Nat, k ≤ N ∧ v = .int .i64 k ∧ J w2 ((pgs first L).take k) wr ∧ Kp n₀ (fun k => k = bt ∨ (W.heap.size ≤ k ∧ k < w2.heap.size)) w2 wr) (fun v _ => N - (intOf v).toNat)
    case atStart => exact ⟨0, Nat.zero_le _, rfl, by rw [List.take_zero]; exact H02.out, Kp.refl _ _ _⟩
    case round =>
      obtain ⟨k, hk, rfl, hJk, hKk⟩ := hrel
      have HJK := Lib.hid hJk
      have HKK := Lib.hid hKk
      have HZK := Lib.hid hKk.old.size
      rcases Nat.lt_or_ge k N with hlt | hge
      · have hkL : k < L.length := by rw [HNL.out]; exact hlt
        have hkP : k < (pgs first L).length := by rw [pgs_len]; exact hkL
        have HS := Lib.hid (own_sl (own_keptP HO.out hKk (fun g h1 h2 => .inr ⟨Nat.le_trans HX1.out.size h1, h2⟩)))
        obtain ⟨bb, off, rfl, _, hcc⟩ := HS.out.cells.str hkL
        have r1 := hcc k hkL
        have HPA := Lib.hid (pgs_at (first := first) hkL)
        have HTP := Lib.hid (take_pre hkP)
        have HTK := Lib.hid (show (pgs first L).take (k + 1) = (pgs first L).take k ++ [(pgs first L)[k]] from List.take_succ_eq_append_getElem hkP)
        obtain ⟨fn, tmps, assign, body, hy, hR⟩ := HY2.out _ ((pgs first L)[k]) wr 2 HJK.out HZK.out HTP.out
        rw [HPA.out] at hy
        generalize L[k] = x at *
        have hki : (k : Int) < (N : Int) := by omega
        have g6 : IntKind.i64.wrap ((first : Int) + (k : Int)) = ((first + k : Nat) : Int) := by rw [IntKind.wrap_i64]; omega
        simp only [encW, Int.natCast_add] at hy
        clear hcc hJk hKk
        gi_wp2
        refine hR.mono ?_
        rintro e W3 ⟨hk3, (⟨rfl, hJ3⟩ | ⟨rfl, hJx3⟩)⟩
        · have HJ3 := Lib.hid hJ3
          have HK3 := Lib.hid (HKK.out.trans hk3)
          clear hk3 hJ3
          gi_wp2
          go_roundw
          case rel => exact ⟨k + 1, by omega, by go_num, by rw [HTK.out]; exact HJ3.out, HK3.out⟩
          case measure => simp [intOf]; omega
        · have HJ3 := Lib.hid hJx3
          clear hk3 hJx3
          gi_wp2
          refine bodyPost_ret (results_none rfl _ _ _) rfl ?_
          exact ⟨⟨_, rfl⟩, w2, X2.out, .inr ⟨_, HTP.out, HJ3.out⟩⟩
      · obtain rfl : N = k := by omega
        clear hge hJk hKk
        have HJE := Lib.hid (show J w2 (pgs first L) wr from by have h := HJK.out; rwa [← HN.out, List.take_length] at h)
        gi_wp2
        go_end0
        exact ⟨⟨_, rfl⟩, w2, X2.out, .inl HJE.out⟩
end Go.Proofs.Ytpcimjccngidgaa
