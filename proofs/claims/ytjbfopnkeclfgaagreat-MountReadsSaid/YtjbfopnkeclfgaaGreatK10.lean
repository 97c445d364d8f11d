/- What tells a commit, as plain numbers and bytes; no program in sight but bytes' own. The reference's contracts for layer 3. Walks of numbers and Right of package slot. Walk of Print of package slot. Walk of the reference's Print. Walks of taken, Book and the reference's Book. Walk of Print of package slot. Walk of the reference's Print. Walks of taken, Book and the reference's Book. Walks of both Parse. Walk of the reference's Pick. -/
import Derived.Test.YtjbfopnkeclfgaaGreatK04
import Derived.Test.YtjbfopnkeclfgaaGreatK03
import Derived.Test.YtjbfopnkeclfgaaGreatK05
import Derived.Lib.SlBytesConst
import Derived.Test.YtjbfopnkeclfgaaGreatK07
import Derived.RegionTactic
namespace Go.Proofs.YtjbfopnkeclfgaaGreat
set_option maxRecDepth 20000
open Go.RowKit

structure Sup where
  g : Int
  z : Int
  s : Int
deriving DecidableEq
def Sup.v (x : Sup) : Value := .agg #[.int .i64 x.g, .int .i64 x.z, .int .i64 x.s]
def supR (x : Sup) : Bool := decide (1 ≤ x.g) && (decide (x.g ≤ 2147483647) && (decide (0 ≤ x.z) && (decide (x.z ≤ 2147483647) && (decide (0 ≤ x.s) && decide (x.s ≤ 4294967295)))))
theorem supR_iff (x : Sup) : supR x = true ↔ (1 ≤ x.g ∧ x.g ≤ 2147483647) ∧ (0 ≤ x.z ∧ x.z ≤ 2147483647) ∧ (0 ≤ x.s ∧ x.s ≤ 4294967295) := by
  unfold supR; simp only [Bool.and_eq_true, decide_eq_true_eq]; omega
def supL (x : Sup) : List UInt8 := [97, 115] ++ putL x.g.toNat 4 ++ putL x.z.toNat 4 ++ putL x.s.toNat 4
theorem supL_length (x : Sup) : (supL x).length = 14 := by simp [supL, putL_length]
def supB (x : Sup) : ByteArray := if supR x then sealB (supL x) else ⟨#[]⟩
def supE (x : Sup) : Int := if supR x then 0 else 1
def sup0 : Sup := ⟨0, 0, 0⟩
/-- What stands in a block's places. -/
def supAt (l : List UInt8) : Sup := ⟨(leNat ((l.drop 2).take 4) : Nat), (leNat ((l.drop 6).take 4) : Nat), (leNat ((l.drop 10).take 4) : Nat)⟩
def parS (b : ByteArray) : Option Sup := if openE b.data.toList = 0 ∧ supR (supAt (openL b.data.toList)) = true ∧ supB (supAt (openL b.data.toList)) = b then some (supAt (openL b.data.toList)) else none
def parX (b : ByteArray) : Sup := (parS b).getD sup0
def parE (b : ByteArray) : Int := if (parS b).isSome then 0 else 2
def pickI (a b : ByteArray) : Int := match parS a, parS b with
  | some x, some y => if x.g < y.g then 1 else 0
  | none, some _ => 1
  | _, none => 0
def pickX (a b : ByteArray) : Sup := match parS a, parS b with
  | some x, some y => if x.g < y.g then y else x
  | none, some y => y
  | some x, none => x
  | none, none => sup0
def pickE (a b : ByteArray) : Int := match parS a, parS b with
  | none, none => 4
  | _, _ => 0

theorem par_right {b : ByteArray} {x : Sup} (h : parS b = some x) : supR x = true ∧ supB x = b := by
  unfold parS at h
  split at h
  · rename_i hh
    cases h
    exact ⟨hh.2.1, hh.2.2⟩
  · cases h
theorem supB_size (x : Sup) (h : supR x = true) : (supB x).size = 40 := by
  unfold supB; rw [if_pos h]
  have := (open_sealB (supL x)).2.2
  rw [this, if_pos (by rw [supL_length]; omega)]
end Go.Proofs.YtjbfopnkeclfgaaGreat
namespace Go.Proofs.YtjbfopnkeclfgaaGreat
set_option maxRecDepth 20000
open Go.RowKit

theorem supR_no {x : Sup} (h : ¬ ((1 ≤ x.g ∧ x.g ≤ 2147483647) ∧ (0 ≤ x.z ∧ x.z ≤ 2147483647) ∧ (0 ≤ x.s ∧ x.s ≤ 4294967295))) : supR x = false := by
  rcases Bool.eq_false_or_eq_true (supR x) with e | e
  · exact absurd ((supR_iff x).1 e) h
  · exact e
set_option maxRecDepth 100000 in
set_option maxHeartbeats 2000000 in
theorem ref03Right_any (g z s : Int) (w : World) : Calls Tryz.prog 136 #[.agg #[.int .i64 g, .int .i64 z, .int .i64 s]] w fun e w' => e = .returned (.bool (supR ⟨g, z, s⟩)) ∧ Ext w w' := by
  have HX := Lib.hid ((Ext.refl w).alloc (.cells #[.int .i64 g, .int .i64 z, .int .i64 s] 40))
  rcases Decidable.em (1 ≤ g) with h1 | h1
  rotate_left
  · go_enter Tryz.func136, Tryz.ntmps136
    go_wp2
    go_ret
    exact ⟨ret_bool (by first | exact (supR_no (by simp only; omega)).symm | (rw [supR_no (by simp only; omega)]; simp; omega)), HX.out⟩
  rcases Decidable.em (g ≤ 2147483647) with h2 | h2
  rotate_left
  · go_enter Tryz.func136, Tryz.ntmps136
    go_wp2
    go_ret
    exact ⟨ret_bool (by first | exact (supR_no (by simp only; omega)).symm | (rw [supR_no (by simp only; omega)]; simp; omega)), HX.out⟩
  rcases Decidable.em (0 ≤ z) with h3 | h3
  rotate_left
  · go_enter Tryz.func136, Tryz.ntmps136
    go_wp2
    go_ret
    exact ⟨ret_bool (by first | exact (supR_no (by simp only; omega)).symm | (rw [supR_no (by simp only; omega)]; simp; omega)), HX.out⟩
  rcases Decidable.em (z ≤ 2147483647) with h4 | h4
  rotate_left
  · go_enter Tryz.func136, Tryz.ntmps136
    go_wp2
    go_ret
    exact ⟨ret_bool (by first | exact (supR_no (by simp only; omega)).symm | (rw [supR_no (by simp only; omega)]; simp; omega)), HX.out⟩
  rcases Decidable.em (0 ≤ s) with h5 | h5
  rotate_left
  · go_enter Tryz.func136, Tryz.ntmps136
    go_wp2
    go_ret
    exact ⟨ret_bool (by first | exact (supR_no (by simp only; omega)).symm | (rw [supR_no (by simp only; omega)]; simp; omega)), HX.out⟩
  rcases Decidable.em (s ≤ 4294967295) with h6 | h6
  rotate_left
  · go_enter Tryz.func136, Tryz.ntmps136
    go_wp2
    go_ret
    exact ⟨ret_bool (by first | exact (supR_no (by simp only; omega)).symm | (rw [supR_no (by simp only; omega)]; simp; omega)), HX.out⟩
  go_enter Tryz.func136, Tryz.ntmps136
  go_wp2
  go_ret
  exact ⟨ret_bool (by rw [(supR_iff _).2 (by simp only; omega)]; try (simp; omega)), HX.out⟩
end Go.Proofs.YtjbfopnkeclfgaaGreat
namespace Go.Proofs.YtjbfopnkeclfgaaGreat
set_option maxRecDepth 20000
open Go.RowKit

theorem Bx.read3 {w : World} {k : Nat} {a b c : Value} (h : Bx w k #[a, b, c]) : w.cell? ⟨k, 0, none⟩ = some a ∧ w.cell? ⟨k, 1, none⟩ = some b ∧ w.cell? ⟨k, 2, none⟩ = some c :=
  ⟨h.at 0 _ rfl, h.at 1 _ rfl, h.at 2 _ rfl⟩
theorem Bx.drewN {w : World} {k : Nat} {cs : Array Value} (h : Bx w k cs) (n : Nat) : Bx (w.drewN n) k cs := h

set_option maxHeartbeats 1000000 in
theorem slotNumbers_any (g z s : Int) (w : World) :
    Calls Tryz.prog 124 #[.agg #[.int .i64 g, .int .i64 z, .int .i64 s]] w fun e w' => e = .returned (.agg #[.int .i64 g, .int .i64 z, .int .i64 s]) ∧ Ext w w' := by
  go_enter Tryz.func124, Tryz.ntmps124
  go_wp2
  generalize hW : (World.alloc (World.alloc w _) _) = W
  obtain ⟨hx, hb0, hb1⟩ := allocs2 hW
  obtain ⟨r0, r1, r2⟩ := hb1.read3
  refine bodyPost_ret (v := .agg #[.int .i64 g, .int .i64 z, .int .i64 s]) (by simp [results, Tryz.results124, go_sem, r0, r1, r2]) rfl ⟨rfl, hx⟩

def supK (g z s : Int) (k : Nat) : Prop := (1 ≤ k → 1 ≤ g ∧ g ≤ 2147483647) ∧ (2 ≤ k → 0 ≤ z ∧ z ≤ 2147483647) ∧ (3 ≤ k → 0 ≤ s ∧ s ≤ 4294967295)
set_option maxHeartbeats 2000000 in
theorem slotRight_any (g z s : Int) (w : World) :
    Calls Tryz.prog 123 #[.agg #[.int .i64 g, .int .i64 z, .int .i64 s]] w fun e w' => e = .returned (.bool (supR ⟨g, z, s⟩)) ∧ Ext w w' := by
  go_enter Tryz.func123, Tryz.ntmps123
  go_wp2_with (go_at_call 124; refine (slotNumbers_any _ _ _ _).mono ?_; rintro e w1 ⟨rfl, hx⟩; have HX := Lib.hid hx; clear hx)
  generalize hW : (World.alloc (World.alloc (World.alloc w1 _) _) _) = W
  obtain ⟨hx, hb0, hb1, hb2⟩ := allocs3 hW
  have HX2 := Lib.hid (show Ext w W from ((Ext.refl w).alloc _).trans (HX.out.trans hx))
  obtain ⟨a0, a1, a2⟩ := hb0.read3
  obtain ⟨b0, b1, b2⟩ := hb1.read3
  obtain ⟨c0, c1, c2⟩ := hb2.read3
  have z0 := hb0.lt
  have z1 := hb1.lt
  have z2 := hb2.lt
  clear hb0 hb1 hb2 hx hW HX
  go_loopw [11] (fun i wr => ∃ k q : Nat, k ≤ 3 ∧ i = .int .i64 k ∧ wr = W.drewN q ∧ supK g z s k) (fun i _ => 3 - (intOf i).toNat)
  case atStart => exact ⟨0, 0, by omega, rfl, rfl, by unfold supK; omega⟩
  case round =>
    obtain ⟨k, q, hk, rfl, rfl, hs⟩ := hrel
    have HS := Lib.hid hs
    clear hs
    have hk3 : k = 0 ∨ k = 1 ∨ k = 2 ∨ k = 3 := by omega
    rcases hk3 with rfl | rfl | rfl | rfl
    · by_cases h1 : g < 1
      · go_wp2
        go_quiet (fail)
        go_wp2
        go_ret
        exact ⟨ret_bool (supR_no (by simp only; omega)).symm, (HX2.out.drewN _).drewN _⟩
      · by_cases h2 : 2147483647 < g
        · go_wp2
          go_quiet (fail)
          go_wp2
          go_ret
          exact ⟨ret_bool (supR_no (by simp only; omega)).symm, (HX2.out.drewN _).drewN _⟩
        · go_wp2
          go_quiet (fail)
          go_wp2
          go_roundw
          case rel => exact ⟨1, q + nq, by omega, by go_num, rfl, by have := HS.out; unfold supK at *; omega⟩
          case measure => simp [intOf]
    · by_cases h1 : z < 0
      · go_wp2
        go_quiet (fail)
        go_wp2
        go_ret
        exact ⟨ret_bool (supR_no (by simp only; omega)).symm, (HX2.out.drewN _).drewN _⟩
      · by_cases h2 : 2147483647 < z
        · go_wp2
          go_quiet (fail)
          go_wp2
          go_ret
          exact ⟨ret_bool (supR_no (by simp only; omega)).symm, (HX2.out.drewN _).drewN _⟩
        · go_wp2
          go_quiet (fail)
          go_wp2
          go_roundw
          case rel => exact ⟨2, q + nq, by omega, by go_num, rfl, by have := HS.out; unfold supK at *; omega⟩
          case measure => simp [intOf]
    · by_cases h1 : s < 0
      · go_wp2
        go_quiet (fail)
        go_wp2
        go_ret
        exact ⟨ret_bool (supR_no (by simp only; omega)).symm, (HX2.out.drewN _).drewN _⟩
      · by_cases h2 : 4294967295 < s
        · go_wp2
          go_quiet (fail)
          go_wp2
          go_ret
          exact ⟨ret_bool (supR_no (by simp only; omega)).symm, (HX2.out.drewN _).drewN _⟩
        · go_wp2
          go_quiet (fail)
          go_wp2
          go_roundw
          case rel => exact ⟨3, q + nq, by omega, by go_num, rfl, by have := HS.out; unfold supK at *; omega⟩
          case measure => simp [intOf]
    · go_wp2
      go_ret
      exact ⟨ret_bool ((supR_iff _).2 (by have := HS.out; unfold supK at this; simp only; omega)).symm, HX2.out.drewN _⟩
end Go.Proofs.YtjbfopnkeclfgaaGreat
namespace Go.Proofs.YtjbfopnkeclfgaaGreat
set_option maxRecDepth 20000
open Go.RowKit

/-- A row of bytes isn't a box of numbers. -/
theorem own_neS {w : World} {B n c : Nat} {A : Option Addr} {u : UInt8} {l : List UInt8} {k : Nat} {x : Int} {cs : Array Value} (h : w.ownsRow B 5 1 (.slice A n c) n ((u :: l).map bv)) (hb : Bx w k cs) (hx : cs[0]? = some (.int .i64 x)) :
    (Value.slice A n c).ownBlock ≠ some k := by
  intro e
  rcases h.2 with ⟨e1, h0⟩ | ⟨g, cap', cur, e1, hg, hh, hnc, hcm, _⟩
  · cases e1; cases e
  · cases e1
    cases e
    have h1 := h.cellAt 0 (by have := h.1; simp at this ⊢; omega)
    rw [hb.at 0 _ hx] at h1
    simp [bv] at h1
def supP (x : Sup) : Nat → List UInt8
  | 0 => [97, 115]
  | 1 => [97, 115] ++ putL x.g.toNat 4
  | 2 => [97, 115] ++ putL x.g.toNat 4 ++ putL x.z.toNat 4
  | _ => [97, 115] ++ putL x.g.toNat 4 ++ putL x.z.toNat 4 ++ putL x.s.toNat 4

/-- append of bytes onto a row of bytes that is full, whoever owns it: a new row. -/
theorem app_full (w : World) {ops : Array Oper} {rest : List Oper} {o : Oper} {a : Act} {Q : Exit → Act → World → Prop} (hgd : o.guard = none) (s x : Operand)
    (ho : o.op = .call { callee := .builtin .append, args := #[s, x], argTypes := #[68, 68] })
    (ad : Addr) (n c : Nat) (l : List UInt8) (hs : a.eval s = .slice (some ad) n c) (hc0 : Cells w (some ad) (l.map bv)) (hln : l.length = n)
    (A : Option Addr) (m cx : Nat) (k : List UInt8) (hx : a.eval x = .slice A m cx) (hl : k.length = m) (hk : Cells w A (k.map bv)) (hm : 0 < m) (hn : 0 < n)
    (hfull : c < n + m) (hsz : n + m ≤ 100000)
    (h : ∀ A' c' w', w'.ownsRow w.heap.size 5 1 (.slice A' (n + m) c') (n + m) ((l ++ k).map bv) → Ext w w' → wpList Tryz.prog ops Q rest (a.put o.dst (.slice A' (n + m) c')) w') : wpList Tryz.prog ops Q (o :: rest) a w := by
  obtain ⟨i0, hi, hz0, hz1, hz2⟩ := info_parts info5
  subst hl hln
  obtain ⟨ad', he, h0⟩ := hc0.some_ (by simpa using hn)
  cases he
  obtain ⟨ad2, rfl, h1⟩ := hk.some_ (by simpa using hm)
  refine wpList_plain hgd fun K hK => ?_
  have hr := run_append_grow (P := Tryz.prog) w 68 o.type 5 i0 (.int .u8 0) Tryz.underlying68 hi hz0 ad l.length c (l.map bv) (by simp [hz1]) h0 ad2 k.length cx (k.map bv) (by simp [hz1]) h1 hfull (by omega) (growslice_fits (by omega) (by rw [hz2]; omega))
  unfold Oper.wp execOp
  simp only [ho, resolve, invoke, builtin, Sem.run_bind, Sem.run_pure, Result.andThen_ok, List.map_toArray, List.map_cons, List.map_nil, hs, hx, hr]
  refine hK _ _ (h _ _ _ ?_ ?_)
  · have hge := grownCap_ge w (l.length + k.length) c 5
    have hcm : grownCap w (l.length + k.length) c 5 ≤ maxLen := grownCap_le_maxLen w _ c 5 (by unfold maxLen; omega)
    refine ⟨by simp, .inr ⟨w.heap.size, _, _, rfl, Nat.le_refl _, heap_alloc_new w.drew _, hge, hcm, ?_, ?_⟩⟩
    · have hzc : (Value.int .u8 0).cells.size = 1 := rfl
      simp only [Array.size_append, List.size_toArray, size_zeroCells, hzc, List.length_map]; omega
    · simp only [Array.toList_append, List.map_append]
      exact List.take_left' (by simp)
  · exact (Ext.refl w).drew.alloc _
theorem lit2 (w : World) : Cells (w.alloc (.cells #[.int .u8 97, .int .u8 115] 5 (2, 3))) (some ⟨w.heap.size, 0, none⟩) (([97, 115] : List UInt8).map bv) := fun _ => by
  refine ⟨_, 0, rfl, by simp, fun j u hu => ?_⟩
  rw [Nat.zero_add, cell_of_row _ _ j #[.int .u8 97, .int .u8 115] 5 (2, 3) (heap_alloc_new w _), ← hu]
  have hj := (List.getElem?_eq_some_iff.1 hu).1
  simp at hj
  rcases (by omega : j = 0 ∨ j = 1) with rfl | rfl <;> rfl
theorem own_monoS {w : World} {B C n c : Nat} {A : Option Addr} {xs : List Value} (h : w.ownsRow C 5 1 (.slice A n c) n xs) (hB : B ≤ C) : w.ownsRow B 5 1 (.slice A n c) n xs := by
  refine ⟨h.1, ?_⟩
  rcases h.2 with e | ⟨g, cap, cur, e, hg, r⟩
  · exact .inl e
  · exact .inr ⟨g, cap, cur, e, Nat.le_trans hB hg, r⟩
/-- How the row stands ahead of the round k. -/
def supSt (B : Nat) (g z s : Int) (L : Addr) (k : Nat) (v : Value) (w : World) : Prop :=
  (k = 0 ∧ v = .slice (some L) 2 2 ∧ Cells w (some L) (([97, 115] : List UInt8).map bv)) ∨
  (1 ≤ k ∧ ∃ A c, v = .slice A (2 + 4 * k) c ∧ w.ownsRow B 5 1 (.slice A (2 + 4 * k) c) (2 + 4 * k) ((supP ⟨g, z, s⟩ k).map bv))
set_option maxRecDepth 100000 in
set_option maxHeartbeats 2000000 in
theorem slotPrint_any (g z s : Int) (w : World) :
    Calls Tryz.prog 78 #[.agg #[.int .i64 g, .int .i64 z, .int .i64 s]] w fun e w' => e = .returned (.tuple #[.string (supB ⟨g, z, s⟩), .int .i64 (supE ⟨g, z, s⟩)]) ∧ Ext w w' := by
  unfold supB supE
  cases hs : supR ⟨g, z, s⟩
  · have HS := Lib.hid hs
    go_enter Tryz.func78, Tryz.ntmps78
    go_wp2_with (go_at_call 123; refine (slotRight_any _ _ _ _).mono ?_; rintro e w1 ⟨rfl, hx⟩; simp only [HS.out]; have HX := Lib.hid (((Ext.refl w).alloc _).trans hx); clear hx)
    go_ret2
    exact ⟨rfl, HX.out⟩
  · obtain ⟨⟨g1, g2⟩, ⟨z1, z2⟩, s1, s2⟩ := (supR_iff _).1 hs
    simp only at g1 g2 z1 z2 s1 s2
    have HS := Lib.hid hs
    clear hs
    have kc := fun (w : World) (C : Array Value) (n c : Nat) => Lib.run_convert_bytes_const (P := Tryz.prog) w 68 5 C n c Tryz.underlying68 Tryz.underlying5
    go_enter Tryz.func78, Tryz.ntmps78
    go_wp2_with (first
      | (go_at_call 123; refine (slotRight_any _ _ _ _).mono ?_; rintro e w1 ⟨rfl, hx⟩; simp only [HS.out]; have HX := Lib.hid (((Ext.refl w).alloc _).trans hx); have hb0 := (Bx.new w #[.int .i64 g, .int .i64 z, .int .i64 s] 40).ext hx; obtain ⟨r0, r1, r2⟩ := hb0.read3; have r3 := hb0.lt; clear hx hb0)
      | (go_at_call 124; refine (slotNumbers_any _ _ _ _).mono ?_; rintro e w2 ⟨rfl, hx⟩; have HX1 := Lib.hid hx; clear hx))
    generalize hW : (World.alloc w2 _) = W
    obtain ⟨hx, hb⟩ := allocs1 hW
    have HX2 := Lib.hid (show Ext w W from HX.out.trans (((Ext.refl w1).alloc _).trans (HX1.out.trans hx)))
    have HB := Lib.hid hb
    have HL := Lib.hid (show Cells W (some ⟨w1.heap.size, 0, none⟩) (([97, 115] : List UInt8).map bv) from (lit2 w1).ext (HX1.out.trans hx))
    clear hx hb hW r0 r1 r2 r3 HX HX1
    go_loopw [4, 14] (fun v i wr => ∃ k : Nat, k ≤ 3 ∧ i = .int .i64 k ∧ supSt w.heap.size g z s ⟨w1.heap.size, 0, none⟩ k v wr ∧ Ext w wr ∧ Bx wr w2.heap.size #[.int .i64 g, .int .i64 z, .int .i64 s]) (fun _ i _ => 3 - (intOf i).toNat)
    case atStart => exact ⟨0, by omega, rfl, .inl ⟨rfl, rfl, HL.out⟩, HX2.out, HB.out⟩
    case round =>
      obtain ⟨k, hk, rfl, hst, hxr, hbr⟩ := hrel
      have HXR := Lib.hid hxr
      have HBR := Lib.hid hbr
      have HST := Lib.hid hst
      obtain ⟨r0, r1, r2⟩ := hbr.read3
      have r3 := hbr.lt
      clear hst hxr hbr
      have hk3 : k = 0 ∨ k = 1 ∨ k = 2 ∨ k = 3 := by omega
      rcases hk3 with rfl | rfl | rfl | rfl
      · have HP := Lib.hid (fun w' => numPut_n g w' (by omega) (by omega))
        obtain ⟨-, rfl, hl⟩ | ⟨h, _⟩ := HST.out
        rotate_left
        · omega
        have HC := Lib.hid hl
        clear hl HST
        go_wp2_with (first | (at_builtin; refine stop_here ?_) | (go_at_call 121; refine (HP.out _).mono ?_; rintro e w3 ⟨A', cap', rfl, hS, hx⟩; have HS3 := Lib.hid hS; have HX3 := Lib.hid hx; clear hS hx))
        refine stop_on ?_
        refine app_full _ rfl _ _ rfl ⟨w1.heap.size, 0, none⟩ 2 2 [97, 115] rfl (HC.out.ext HX3.out) rfl A' 4 cap' (putL g.toNat 4) rfl (putL_length 4 _) HS3.out.cells (by omega) (by omega) (by omega) (by omega) ?_
        intro A4 c4 w4 hown hx4
        have HX4 := Lib.hid (HXR.out.trans (HX3.out.trans hx4))
        have HB4 := Lib.hid (HBR.out.ext (HX3.out.trans hx4))
        have HO4 := Lib.hid (own_monoS hown (show w.heap.size ≤ w3.heap.size by have := HXR.out.size; have := HX3.out.size; omega))
        clear hown hx4 HC HBR HXR HS3 HX3
        go_wp2
        go_roundw
        case rel => exact ⟨1, by omega, by go_num, .inr ⟨by omega, A4, c4, rfl, HO4.out⟩, HX4.out, HB4.out⟩
        case measure => simp [intOf]
      · have HP := Lib.hid (fun w' => numPut_n z w' (by omega) (by omega))
        obtain ⟨h, _⟩ | ⟨-, A, c, rfl, ho⟩ := HST.out
        · omega
        have HO := Lib.hid ho
        clear ho HST
        go_wp2_with (first | (at_builtin; refine stop_here ?_) | (go_at_call 121; refine (HP.out _).mono ?_; rintro e w3 ⟨A', cap', rfl, hS, hx⟩; have HS3 := Lib.hid hS; have HX3 := Lib.hid hx; clear hS hx))
        refine stop_on ?_
        refine app_bytes _ rfl _ _ rfl w.heap.size _ 6 (supP ⟨g, z, s⟩ 1) rfl (own_below HO.out HX3.out) A' 4 cap' (putL z.toNat 4) rfl (putL_length 4 _) HS3.out.1 HS3.out.cells (by omega) (by have := HXR.out.size; have := HX3.out.size; omega) ?_
        intro A4 c4 w4 hown hg4
        have HX4 := Lib.hid (show Ext w w4 from Below.grown (HXR.out.trans HX3.out) hg4 (by have := HXR.out.size; have := HX3.out.size; omega) (fun q hq => ((own_below HO.out HX3.out).lt q hq).1))
        have HB4 := Lib.hid ((HBR.out.ext HX3.out).grown hg4 (own_neS (u := 97) (own_below HO.out HX3.out) (HBR.out.ext HX3.out) rfl))
        have HO4 := Lib.hid hown
        clear hown hg4 HO HBR HXR HS3 HX3
        go_wp2
        go_roundw
        case rel => exact ⟨2, by omega, by go_num, .inr ⟨by omega, A4, c4, rfl, HO4.out⟩, HX4.out, HB4.out⟩
        case measure => simp [intOf]
      · have HP := Lib.hid (fun w' => numPut_n s w' (by omega) (by omega))
        obtain ⟨h, _⟩ | ⟨-, A, c, rfl, ho⟩ := HST.out
        · omega
        have HO := Lib.hid ho
        clear ho HST
        go_wp2_with (first | (at_builtin; refine stop_here ?_) | (go_at_call 121; refine (HP.out _).mono ?_; rintro e w3 ⟨A', cap', rfl, hS, hx⟩; have HS3 := Lib.hid hS; have HX3 := Lib.hid hx; clear hS hx))
        refine stop_on ?_
        refine app_bytes _ rfl _ _ rfl w.heap.size _ 10 (supP ⟨g, z, s⟩ 2) rfl (own_below HO.out HX3.out) A' 4 cap' (putL s.toNat 4) rfl (putL_length 4 _) HS3.out.1 HS3.out.cells (by omega) (by have := HXR.out.size; have := HX3.out.size; omega) ?_
        intro A4 c4 w4 hown hg4
        have HX4 := Lib.hid (show Ext w w4 from Below.grown (HXR.out.trans HX3.out) hg4 (by have := HXR.out.size; have := HX3.out.size; omega) (fun q hq => ((own_below HO.out HX3.out).lt q hq).1))
        have HB4 := Lib.hid ((HBR.out.ext HX3.out).grown hg4 (own_neS (u := 97) (own_below HO.out HX3.out) (HBR.out.ext HX3.out) rfl))
        have HO4 := Lib.hid hown
        clear hown hg4 HO HBR HXR HS3 HX3
        go_wp2
        go_roundw
        case rel => exact ⟨3, by omega, by go_num, .inr ⟨by omega, A4, c4, rfl, HO4.out⟩, HX4.out, HB4.out⟩
        case measure => simp [intOf]
      · obtain ⟨h, _⟩ | ⟨-, A, c, rfl, ho⟩ := HST.out
        · omega
        have HSL := Lib.hid (own_sl ho)
        clear ho HST
        have HV := Lib.hid (numSeal_n A (supL ⟨g, z, s⟩) 14 c wr (by rw [supL_length]) (by omega) HSL.out)
        go_wp2_with (go_at_call 122; refine HV.out.mono ?_; rintro e w3 ⟨rfl, hx⟩; have HX4 := Lib.hid (HXR.out.trans hx); clear hx)
        go_ret2
        exact ⟨rfl, HX4.out⟩
end Go.Proofs.YtjbfopnkeclfgaaGreat
namespace Go.Proofs.YtjbfopnkeclfgaaGreat
set_option maxRecDepth 20000
open Go.RowKit

set_option maxRecDepth 100000 in
set_option maxHeartbeats 2000000 in
theorem ref03Print_any (g z s : Int) (w : World) :
    Calls Tryz.prog 106 #[.agg #[.int .i64 g, .int .i64 z, .int .i64 s]] w fun e w' => e = .returned (.tuple #[.string (supB ⟨g, z, s⟩), .int .i64 (supE ⟨g, z, s⟩)]) ∧ Ext w w' := by
  unfold supB supE
  cases hs : supR ⟨g, z, s⟩
  · have HS := Lib.hid hs
    go_enter Tryz.func106, Tryz.ntmps106
    go_wp2_with (go_at_call 136; refine (ref03Right_any _ _ _ _).mono ?_; rintro e w1 ⟨rfl, hx⟩; simp only [HS.out]; have HX := Lib.hid (((Ext.refl w).alloc _).trans hx); clear hx)
    go_ret2
    exact ⟨rfl, HX.out⟩
  · obtain ⟨⟨g1, g2⟩, ⟨z1, z2⟩, s1, s2⟩ := (supR_iff _).1 hs
    simp only at g1 g2 z1 z2 s1 s2
    have HS := Lib.hid hs
    clear hs
    have HP0 := Lib.hid (fun w' => ref01Put_n g w' (by omega) (by omega))
    have HP1 := Lib.hid (fun w' => ref01Put_n z w' (by omega) (by omega))
    have HP2 := Lib.hid (fun w' => ref01Put_n s w' (by omega) (by omega))
    go_enter Tryz.func106, Tryz.ntmps106
    go_wp2_with (first
      | (go_at_call 136; refine (ref03Right_any _ _ _ _).mono ?_; rintro e w1 ⟨rfl, hx⟩; simp only [HS.out]; have HX := Lib.hid (((Ext.refl w).alloc _).trans hx); have HB := Lib.hid ((Bx.new w #[.int .i64 g, .int .i64 z, .int .i64 s] 40).ext hx); obtain ⟨r0, r1, r2⟩ := HB.out.read3; have r3 := HB.out.lt; clear hx)
      | (at_builtin; refine stop_here ?_)
      | (go_at_call 130; refine (HP0.out _).mono ?_; rintro e w3 ⟨A', cap', rfl, hS, hx⟩; have HS3 := Lib.hid hS; have HX3 := Lib.hid hx; clear hS hx))
    refine stop_on ?_
    have HO := Lib.hid (show (w1.alloc (.cells #[.int .u8 97, .int .u8 115] 5)).ownsRow w.heap.size 5 1 (.slice (some ⟨w1.heap.size, 0, none⟩) 2 2) 2 (([97, 115] : List UInt8).map bv) from World.ownsRow_lit (base := w.heap.size) (e := 5) (size := 1) w1 #[.int .u8 97, .int .u8 115] 2 HX.out.size (by unfold maxLen; omega) rfl)
    have HB := Lib.hid (HB.out.ext ((Ext.refl w1).alloc (.cells #[.int .u8 97, .int .u8 115] 5)))
    have HX := Lib.hid (HX.out.alloc (.cells #[.int .u8 97, .int .u8 115] 5))
    refine app_bytes _ rfl _ _ rfl w.heap.size _ 2 (([97, 115] : List UInt8)) rfl (own_below HO.out HX3.out) A' 4 cap' (putL g.toNat 4) rfl (putL_length 4 _) HS3.out.1 HS3.out.cells (by omega) (by have := HX.out.size; have := HX3.out.size; omega) ?_
    intro A4 c4 w4 hown hg4
    have HB := Lib.hid ((HB.out.ext HX3.out).grown hg4 (own_neS (u := 97) (own_below HO.out HX3.out) (HB.out.ext HX3.out) rfl))
    have HX := Lib.hid (show Ext w w4 from Below.grown (HX.out.trans HX3.out) hg4 (by have := HX.out.size; have := HX3.out.size; omega) (fun q hq => ((own_below HO.out HX3.out).lt q hq).1))
    have HO := Lib.hid (show w4.ownsRow w.heap.size 5 1 (.slice A4 6 c4) 6 ((supP ⟨g, z, s⟩ 1).map bv) from hown)
    obtain ⟨r0, r1, r2⟩ := HB.out.read3
    have r3 := HB.out.lt
    clear hown hg4 HS3 HX3
    go_wp2_with (first
      | (at_builtin; refine stop_here ?_)
      | (go_at_call 130; refine (HP1.out _).mono ?_; rintro e w3 ⟨A', cap', rfl, hS, hx⟩; have HS3 := Lib.hid hS; have HX3 := Lib.hid hx; clear hS hx))
    refine stop_on ?_
    refine app_bytes _ rfl _ _ rfl w.heap.size _ 6 (supP ⟨g, z, s⟩ 1) rfl (own_below HO.out HX3.out) A' 4 cap' (putL z.toNat 4) rfl (putL_length 4 _) HS3.out.1 HS3.out.cells (by omega) (by have := HX.out.size; have := HX3.out.size; omega) ?_
    intro A4 c4 w4 hown hg4
    have HB := Lib.hid ((HB.out.ext HX3.out).grown hg4 (own_neS (u := 97) (own_below HO.out HX3.out) (HB.out.ext HX3.out) rfl))
    have HX := Lib.hid (show Ext w w4 from Below.grown (HX.out.trans HX3.out) hg4 (by have := HX.out.size; have := HX3.out.size; omega) (fun q hq => ((own_below HO.out HX3.out).lt q hq).1))
    have HO := Lib.hid (show w4.ownsRow w.heap.size 5 1 (.slice A4 10 c4) 10 ((supP ⟨g, z, s⟩ 2).map bv) from hown)
    obtain ⟨r0, r1, r2⟩ := HB.out.read3
    have r3 := HB.out.lt
    clear hown hg4 HS3 HX3
    go_wp2_with (first
      | (at_builtin; refine stop_here ?_)
      | (go_at_call 130; refine (HP2.out _).mono ?_; rintro e w3 ⟨A', cap', rfl, hS, hx⟩; have HS3 := Lib.hid hS; have HX3 := Lib.hid hx; clear hS hx))
    refine stop_on ?_
    refine app_bytes _ rfl _ _ rfl w.heap.size _ 10 (supP ⟨g, z, s⟩ 2) rfl (own_below HO.out HX3.out) A' 4 cap' (putL s.toNat 4) rfl (putL_length 4 _) HS3.out.1 HS3.out.cells (by omega) (by have := HX.out.size; have := HX3.out.size; omega) ?_
    intro A4 c4 w4 hown hg4
    have HB := Lib.hid ((HB.out.ext HX3.out).grown hg4 (own_neS (u := 97) (own_below HO.out HX3.out) (HB.out.ext HX3.out) rfl))
    have HX := Lib.hid (show Ext w w4 from Below.grown (HX.out.trans HX3.out) hg4 (by have := HX.out.size; have := HX3.out.size; omega) (fun q hq => ((own_below HO.out HX3.out).lt q hq).1))
    have HO := Lib.hid (show w4.ownsRow w.heap.size 5 1 (.slice A4 14 c4) 14 ((supP ⟨g, z, s⟩ 3).map bv) from hown)
    obtain ⟨r0, r1, r2⟩ := HB.out.read3
    have r3 := HB.out.lt
    clear hown hg4 HS3 HX3
    have HSL := Lib.hid (own_sl HO.out)
    have HV := Lib.hid (ref01Seal_n A4 (supL ⟨g, z, s⟩) 14 c4 w4 (by rw [supL_length]) (by omega) HSL.out)
    go_wp2_with (go_at_call 133; refine HV.out.mono ?_; rintro e w5 ⟨rfl, hx⟩; have HX4 := Lib.hid (HX.out.trans hx); clear hx)
    go_ret2
    exact ⟨rfl, HX4.out⟩
end Go.Proofs.YtjbfopnkeclfgaaGreat
namespace Go.Proofs.YtjbfopnkeclfgaaGreat
set_option maxRecDepth 20000
open Go.RowKit

theorem Bx.set3 {w : World} {k : Nat} {a b c : Value} (h : Bx w k #[a, b, c]) (x y z : Value) : Bx (((w.setCell ⟨k, 0, none⟩ x).setCell ⟨k, 1, none⟩ y).setCell ⟨k, 2, none⟩ z) k #[x, y, z] :=
  ((h.set 0 x).set 1 y).set 2 z
theorem Ext.store3 {w0 w : World} (h : Ext w0 w) {k : Nat} (hk : w0.heap.size ≤ k) (x y z : Value) : Ext w0 (((w.setCell ⟨k, 0, none⟩ x).setCell ⟨k, 1, none⟩ y).setCell ⟨k, 2, none⟩ z) :=
  ((h.set (p := ⟨k, 0, none⟩) hk x).set (p := ⟨k, 1, none⟩) hk y).set (p := ⟨k, 2, none⟩) hk z
theorem Bx.free3 {w : World} {k : Nat} {a b c : Value} (h : Bx w k #[a, b, c]) : w.frozen? ⟨k, 0, none⟩ = false ∧ w.frozen? ⟨k, 1, none⟩ = false ∧ w.frozen? ⟨k, 2, none⟩ = false := ⟨h.free 0, h.free 1, h.free 2⟩

def takK (a b c : Int) : Nat → Array Value
  | 0 => #[.int .i64 0, .int .i64 0, .int .i64 0]
  | 1 => #[.int .i64 a, .int .i64 0, .int .i64 0]
  | 2 => #[.int .i64 a, .int .i64 b, .int .i64 0]
  | _ => #[.int .i64 a, .int .i64 b, .int .i64 c]

set_option maxRecDepth 100000 in
set_option maxHeartbeats 2000000 in
theorem slotTaken_any (A : Option Addr) (l : List UInt8) (c : Nat) (w : World) (hl : l.length = 36) (hS : Sl w A 36 c (l.map bv)) :
    Calls Tryz.prog 77 #[.slice A 36 c] w fun e w' => e = .returned (Sup.v (supAt l)) ∧ Ext w w' := by
  have HT0 := Lib.hid (fun w' (hx : Ext w w') => numTake_n A l 36 c 2 2 w' hl.symm rfl (by omega) (hS.ext hx))
  have HT1 := Lib.hid (fun w' (hx : Ext w w') => numTake_n A l 36 c 6 6 w' hl.symm rfl (by omega) (hS.ext hx))
  have HT2 := Lib.hid (fun w' (hx : Ext w w') => numTake_n A l 36 c 10 10 w' hl.symm rfl (by omega) (hS.ext hx))
  unfold Sup.v supAt
  simp only
  generalize ((leNat ((l.drop 2).take 4) : Nat) : Int) = n0 at *
  generalize ((leNat ((l.drop 6).take 4) : Nat) : Int) = n1 at *
  generalize ((leNat ((l.drop 10).take 4) : Nat) : Int) = n2 at *
  clear hl hS
  go_enter Tryz.func77, Tryz.ntmps77
  go_wp2
  generalize hW : (World.alloc (World.alloc w _) _) = W
  obtain ⟨hx, hb0, hb1⟩ := allocs2 hW
  have HX := Lib.hid hx
  have HB0 := Lib.hid hb0
  have HB1 := Lib.hid hb1
  clear hx hb0 hb1 hW
  go_loopw [4, 6] (fun v i wr => ∃ k : Nat, k ≤ 3 ∧ i = .int .i64 k ∧ v = .int .i64 (2 + 4 * k) ∧ Ext w wr ∧ Bx wr w.heap.size #[.int .i64 0, .int .i64 0, .int .i64 0] ∧ Bx wr (w.heap.size + 1) (takK n0 n1 n2 k)) (fun _ i _ => 3 - (intOf i).toNat)
  case atStart => exact ⟨0, by omega, rfl, rfl, HX.out, HB0.out, HB1.out⟩
  case round =>
    obtain ⟨k, hk, rfl, rfl, hxr, hbr0, hbr1⟩ := hrel
    have HXR := Lib.hid hxr
    have HC0 := Lib.hid hbr0
    have HC1 := Lib.hid hbr1
    clear hxr hbr0 hbr1
    have hk3 : k = 0 ∨ k = 1 ∨ k = 2 ∨ k = 3 := by omega
    rcases hk3 with rfl | rfl | rfl | rfl
    · obtain ⟨r0, r1, r2⟩ := Bx.read3 (a := .int .i64 0) (b := .int .i64 0) (c := .int .i64 0) HC1.out
      obtain ⟨f0, f1, f2⟩ := Bx.free3 (a := .int .i64 0) (b := .int .i64 0) (c := .int .i64 0) HC1.out
      have r3 := HC1.out.lt
      go_wp2_with (go_at_call 119; refine (HT0.out _ HXR.out).mono ?_; rintro e w2 ⟨rfl, rfl⟩)
      go_roundw
      case rel => exact ⟨1, by omega, by go_num, by go_num, HXR.out.set (p := ⟨_, 0, none⟩) (by simp) _, HC0.out.set_other (p := ⟨_, 0, none⟩) (by simp) _, HC1.out.set 0 _⟩
      case measure => simp [intOf]
    · obtain ⟨r0, r1, r2⟩ := Bx.read3 (a := .int .i64 n0) (b := .int .i64 0) (c := .int .i64 0) HC1.out
      obtain ⟨f0, f1, f2⟩ := Bx.free3 (a := .int .i64 n0) (b := .int .i64 0) (c := .int .i64 0) HC1.out
      have r3 := HC1.out.lt
      go_wp2_with (go_at_call 119; refine (HT1.out _ HXR.out).mono ?_; rintro e w2 ⟨rfl, rfl⟩)
      go_roundw
      case rel => exact ⟨2, by omega, by go_num, by go_num, HXR.out.set (p := ⟨_, 1, none⟩) (by simp) _, HC0.out.set_other (p := ⟨_, 1, none⟩) (by simp) _, HC1.out.set 1 _⟩
      case measure => simp [intOf]
    · obtain ⟨r0, r1, r2⟩ := Bx.read3 (a := .int .i64 n0) (b := .int .i64 n1) (c := .int .i64 0) HC1.out
      obtain ⟨f0, f1, f2⟩ := Bx.free3 (a := .int .i64 n0) (b := .int .i64 n1) (c := .int .i64 0) HC1.out
      have r3 := HC1.out.lt
      go_wp2_with (go_at_call 119; refine (HT2.out _ HXR.out).mono ?_; rintro e w2 ⟨rfl, rfl⟩)
      go_roundw
      case rel => exact ⟨3, by omega, by go_num, by go_num, HXR.out.set (p := ⟨_, 2, none⟩) (by simp) _, HC0.out.set_other (p := ⟨_, 2, none⟩) (by simp) _, HC1.out.set 2 _⟩
      case measure => simp [intOf]
    · obtain ⟨r0, r1, r2⟩ := Bx.read3 (a := .int .i64 n0) (b := .int .i64 n1) (c := .int .i64 n2) HC1.out
      have r3 := HC1.out.lt
      obtain ⟨s0, s1, s2⟩ := HC0.out.read3
      obtain ⟨f0, f1, f2⟩ := HC0.out.free3
      have s3 := HC0.out.lt
      go_wp2
      have HB := Lib.hid (HC0.out.set3 (.int .i64 n0) (.int .i64 n1) (.int .i64 n2))
      have HX2 := Lib.hid (HXR.out.store3 (k := w.heap.size) (by omega) (.int .i64 n0) (.int .i64 n1) (.int .i64 n2))
      clear r0 r1 r2 s0 s1 s2 f0 f1 f2
      obtain ⟨r0, r1, r2⟩ := HB.out.read3
      refine bodyPost_ret (v := .agg #[.int .i64 n0, .int .i64 n1, .int .i64 n2]) (by simp [results, Tryz.results77, go_sem, r0, r1, r2]) rfl ⟨rfl, HX2.out⟩

set_option maxHeartbeats 1000000 in
theorem slotBook_any (A : Option Addr) (l : List UInt8) (n c : Nat) (w : World) (hn : n = l.length) (hS : Sl w A n c (l.map bv)) :
    Calls Tryz.prog 42 #[.slice A n c] w fun e w' => e = .returned (.tuple #[.int .i64 n, .int .i64 (crc l : Nat)]) ∧ w = w' := by
  have HS := Lib.hid (numSum_n A l n c w hn hS)
  clear hS hn
  go_enter Tryz.func42, Tryz.ntmps42
  go_wp2_with (go_at_call 70; refine HS.out.mono ?_; rintro e w' ⟨rfl, rfl⟩)
  go_ret2
  exact ⟨rfl, rfl⟩
set_option maxHeartbeats 1000000 in
theorem ref03Book_any (A : Option Addr) (l : List UInt8) (n c : Nat) (w : World) (hn : n = l.length) (hS : Sl w A n c (l.map bv)) :
    Calls Tryz.prog 105 #[.slice A n c] w fun e w' => e = .returned (.tuple #[.int .i64 n, .int .i64 (crc l : Nat)]) ∧ w = w' := by
  have HS := Lib.hid (ref01Sum_n A l n c w hn hS)
  clear hS hn
  go_enter Tryz.func105, Tryz.ntmps105
  go_wp2_with (go_at_call 135; refine HS.out.mono ?_; rintro e w' ⟨rfl, rfl⟩)
  go_ret2
  exact ⟨rfl, rfl⟩
end Go.Proofs.YtjbfopnkeclfgaaGreat
namespace Go.Proofs.YtjbfopnkeclfgaaGreat
set_option maxRecDepth 20000
open Go.RowKit

end Go.Proofs.YtjbfopnkeclfgaaGreat
namespace Go.Proofs.YtjbfopnkeclfgaaGreat
set_option maxRecDepth 20000
open Go.RowKit

end Go.Proofs.YtjbfopnkeclfgaaGreat
namespace Go.Proofs.YtjbfopnkeclfgaaGreat
set_option maxRecDepth 20000
open Go.RowKit

end Go.Proofs.YtjbfopnkeclfgaaGreat
namespace Go.Proofs.YtjbfopnkeclfgaaGreat
set_option maxRecDepth 20000
open Go.RowKit

theorem par_none {b : ByteArray} (h : ¬ (openE b.data.toList = 0 ∧ supR (supAt (openL b.data.toList)) = true ∧ supB (supAt (openL b.data.toList)) = b)) : parX b = sup0 ∧ parE b = 2 := by
  unfold parX parE parS; rw [if_neg h]; exact ⟨rfl, rfl⟩
theorem par_some {b : ByteArray} (h : openE b.data.toList = 0 ∧ supR (supAt (openL b.data.toList)) = true ∧ supB (supAt (openL b.data.toList)) = b) : parX b = supAt (openL b.data.toList) ∧ parE b = 0 := by
  unfold parX parE parS; rw [if_pos h]; exact ⟨rfl, rfl⟩

set_option maxRecDepth 100000 in
set_option maxHeartbeats 4000000 in
theorem slotParse_any (b : ByteArray) (w : World) (hs : b.size ≤ maxLen) :
    Calls Tryz.prog 49 #[.string b] w fun e w' => e = .returned (.tuple #[Sup.v (parX b), .int .i64 (parE b)]) ∧ Ext w w' := by
  by_cases ho : openE b.data.toList = 0
  · have HO := Lib.hid (fun w' => numOpen_y b w' hs ho)
    have hl := openL_len ho
    have hpn := fun h => par_none (b := b) h
    have hps := fun h => par_some (b := b) h
    generalize hx : supAt (openL b.data.toList) = x at *
    obtain ⟨g, z, s⟩ := x
    have HT := Lib.hid (show ∀ A c w', Sl w' A 36 c ((openL b.data.toList).map bv) → Calls Tryz.prog 77 #[.slice A 36 c] w' fun e w2 => e = .returned (.agg #[.int .i64 g, .int .i64 z, .int .i64 s]) ∧ Ext w' w2 from fun A c w' h => by
      have h := slotTaken_any A (openL b.data.toList) c w' hl h
      rw [hx] at h; exact h)
    clear hl hx
    rcases Bool.eq_false_or_eq_true (supR ⟨g, z, s⟩) with hr | hr
    rotate_left
    · have ⟨h1, h2⟩ := hpn (fun h => by rw [hr] at h; exact absurd h.2.1 (by simp))
      rw [h1, h2]
      have HP := Lib.hid (fun w' => slotPrint_any g z s w')
      unfold supE at HP
      rw [hr] at HP
      clear h1 h2 hpn hps hr
      go_enter Tryz.func49, Tryz.ntmps49
      go_wp2_with (first
        | (go_at_call 73; refine (HO.out _).mono ?_; rintro e w1 ⟨A, c, rfl, hS, hx⟩; have HS1 := Lib.hid hS; have HB1 := Lib.hid ((Bx.new w #[.int .i64 0, .int .i64 0, .int .i64 0] 40).ext hx); have HX1 := Lib.hid (((Ext.refl w).alloc _).trans hx); clear hS hx)
        | (go_at_call 77; refine (HT.out _ _ _ HS1.out).mono ?_; rintro e w2 ⟨rfl, hx⟩; have HB2 := Lib.hid (HB1.out.ext hx); have HX2 := Lib.hid (HX1.out.trans hx); clear hx)
        | (go_at_call 78; refine (HP.out _).mono ?_; rintro e w3 ⟨rfl, hx⟩; have HB3 := Lib.hid (HB2.out.ext (((Ext.refl w2).alloc _).trans hx)); have HS3 := Lib.hid ((Bx.new w2 #[.int .i64 g, .int .i64 z, .int .i64 s] 40).ext hx); have HX3 := Lib.hid (HX2.out.trans (((Ext.refl w2).alloc _).trans hx)); clear hx; obtain ⟨r0, r1, r2⟩ := HB3.out.read3; obtain ⟨f0, f1, f2⟩ := HB3.out.free3; have r3 := HB3.out.lt; obtain ⟨s0, s1, s2⟩ := HS3.out.read3; have s3 := HS3.out.lt))
      have HE := Lib.hid (HB3.out.set3 (.int .i64 0) (.int .i64 0) (.int .i64 0))
      have HXE := Lib.hid (HX3.out.store3 (k := w.heap.size) (by omega) (.int .i64 0) (.int .i64 0) (.int .i64 0))
      clear r0 r1 r2 f0 f1 f2
      obtain ⟨r0, r1, r2⟩ := HE.out.read3
      refine bodyPost_ret (v := .tuple #[.agg #[.int .i64 0, .int .i64 0, .int .i64 0], .int .i64 2]) (by simp [results, Tryz.results49, go_sem, r0, r1, r2]) rfl ⟨rfl, HXE.out⟩
    by_cases hb : supB ⟨g, z, s⟩ = b
    · have ⟨h1, h2⟩ := hps ⟨ho, hr, hb⟩
      rw [h1, h2]
      have HP := Lib.hid (fun w' => slotPrint_any g z s w')
      unfold supE at HP
      rw [hr, hb] at HP
      clear h1 h2 hpn hps hr hb
      go_enter Tryz.func49, Tryz.ntmps49
      go_wp2_with (first
        | (go_at_call 73; refine (HO.out _).mono ?_; rintro e w1 ⟨A, c, rfl, hS, hx⟩; have HS1 := Lib.hid hS; have HB1 := Lib.hid ((Bx.new w #[.int .i64 0, .int .i64 0, .int .i64 0] 40).ext hx); have HX1 := Lib.hid (((Ext.refl w).alloc _).trans hx); clear hS hx)
        | (go_at_call 77; refine (HT.out _ _ _ HS1.out).mono ?_; rintro e w2 ⟨rfl, hx⟩; have HB2 := Lib.hid (HB1.out.ext hx); have HX2 := Lib.hid (HX1.out.trans hx); clear hx)
        | (go_at_call 78; refine (HP.out _).mono ?_; rintro e w3 ⟨rfl, hx⟩; have HB3 := Lib.hid (HB2.out.ext (((Ext.refl w2).alloc _).trans hx)); have HS3 := Lib.hid ((Bx.new w2 #[.int .i64 g, .int .i64 z, .int .i64 s] 40).ext hx); have HX3 := Lib.hid (HX2.out.trans (((Ext.refl w2).alloc _).trans hx)); clear hx; obtain ⟨r0, r1, r2⟩ := HB3.out.read3; obtain ⟨f0, f1, f2⟩ := HB3.out.free3; have r3 := HB3.out.lt; obtain ⟨s0, s1, s2⟩ := HS3.out.read3; have s3 := HS3.out.lt))
      have HE := Lib.hid (HB3.out.set3 (.int .i64 g) (.int .i64 z) (.int .i64 s))
      have HXE := Lib.hid (HX3.out.store3 (k := w.heap.size) (by omega) (.int .i64 g) (.int .i64 z) (.int .i64 s))
      clear r0 r1 r2 f0 f1 f2
      obtain ⟨r0, r1, r2⟩ := HE.out.read3
      refine bodyPost_ret (v := .tuple #[.agg #[.int .i64 g, .int .i64 z, .int .i64 s], .int .i64 0]) (by simp [results, Tryz.results49, go_sem, r0, r1, r2]) rfl ⟨rfl, HXE.out⟩
    · have ⟨h1, h2⟩ := hpn (fun h => hb h.2.2)
      rw [h1, h2]
      have HP := Lib.hid (fun w' => slotPrint_any g z s w')
      unfold supE at HP
      rw [hr] at HP
      have hy : ((supB ⟨g, z, s⟩).toList == b.toList) = false := by rw [bytes_same, decide_eq_false hb]
      clear h1 h2 hpn hps hr hb
      generalize supB ⟨g, z, s⟩ = y at *
      go_enter Tryz.func49, Tryz.ntmps49
      go_wp2_with (first
        | (go_at_call 73; refine (HO.out _).mono ?_; rintro e w1 ⟨A, c, rfl, hS, hx⟩; have HS1 := Lib.hid hS; have HB1 := Lib.hid ((Bx.new w #[.int .i64 0, .int .i64 0, .int .i64 0] 40).ext hx); have HX1 := Lib.hid (((Ext.refl w).alloc _).trans hx); clear hS hx)
        | (go_at_call 77; refine (HT.out _ _ _ HS1.out).mono ?_; rintro e w2 ⟨rfl, hx⟩; have HB2 := Lib.hid (HB1.out.ext hx); have HX2 := Lib.hid (HX1.out.trans hx); clear hx)
        | (go_at_call 78; refine (HP.out _).mono ?_; rintro e w3 ⟨rfl, hx⟩; have HB3 := Lib.hid (HB2.out.ext (((Ext.refl w2).alloc _).trans hx)); have HS3 := Lib.hid ((Bx.new w2 #[.int .i64 g, .int .i64 z, .int .i64 s] 40).ext hx); have HX3 := Lib.hid (HX2.out.trans (((Ext.refl w2).alloc _).trans hx)); clear hx; obtain ⟨r0, r1, r2⟩ := HB3.out.read3; obtain ⟨f0, f1, f2⟩ := HB3.out.free3; have r3 := HB3.out.lt; obtain ⟨s0, s1, s2⟩ := HS3.out.read3; have s3 := HS3.out.lt))
      have HE := Lib.hid (HB3.out.set3 (.int .i64 0) (.int .i64 0) (.int .i64 0))
      have HXE := Lib.hid (HX3.out.store3 (k := w.heap.size) (by omega) (.int .i64 0) (.int .i64 0) (.int .i64 0))
      clear r0 r1 r2 f0 f1 f2
      obtain ⟨r0, r1, r2⟩ := HE.out.read3
      refine bodyPost_ret (v := .tuple #[.agg #[.int .i64 0, .int .i64 0, .int .i64 0], .int .i64 2]) (by simp [results, Tryz.results49, go_sem, r0, r1, r2]) rfl ⟨rfl, HXE.out⟩
  · have ⟨h1, h2⟩ := par_none (b := b) (fun h => ho h.1)
    rw [h1, h2]
    have HO := Lib.hid (fun w' => numOpen_n b w' hs ho)
    clear h1 h2 ho hs
    go_enter Tryz.func49, Tryz.ntmps49
    go_wp2_with (go_at_call 73; refine (HO.out _).mono ?_; rintro e w1 ⟨A, c, rfl, hx⟩; have HB := Lib.hid ((Bx.new w #[.int .i64 0, .int .i64 0, .int .i64 0] 40).ext hx); obtain ⟨r0, r1, r2⟩ := HB.out.read3; obtain ⟨f0, f1, f2⟩ := HB.out.free3; have r3 := HB.out.lt; have HX := Lib.hid (((Ext.refl w).alloc _).trans hx); clear hx)
    have HE := Lib.hid (HB.out.set3 (.int .i64 0) (.int .i64 0) (.int .i64 0))
    have HXE := Lib.hid (HX.out.store3 (k := w.heap.size) (by omega) (.int .i64 0) (.int .i64 0) (.int .i64 0))
    clear r0 r1 r2 f0 f1 f2
    obtain ⟨r0, r1, r2⟩ := HE.out.read3
    refine bodyPost_ret (v := .tuple #[.agg #[.int .i64 0, .int .i64 0, .int .i64 0], .int .i64 2]) (by simp [results, Tryz.results49, go_sem, r0, r1, r2]) rfl ⟨rfl, HXE.out⟩

end Go.Proofs.YtjbfopnkeclfgaaGreat
namespace Go.Proofs.YtjbfopnkeclfgaaGreat
set_option maxRecDepth 20000
open Go.RowKit

theorem par_yes {b : ByteArray} {x : Sup} (h : parS b = some x) : parX b = x ∧ parE b = 0 := by unfold parX parE; rw [h]; exact ⟨rfl, rfl⟩
theorem par_no {b : ByteArray} (h : parS b = none) : parX b = sup0 ∧ parE b = 2 := by unfold parX parE; rw [h]; exact ⟨rfl, rfl⟩
def pickV (a b : ByteArray) : Value := .tuple #[.int .i64 (pickI a b), Sup.v (pickX a b), .int .i64 (pickE a b)]

/-- A function's end whose result lies in a box of three. -/
theorem ret3_cell {P : Program} {fn : Func} {R : Ending → World → Prop} {a : Act} {W : World} {v : Value} {k : Nat} {x y z : Value} (hb : Bx W k #[x, y, z])
    (h : W.cell? ⟨k, 0, none⟩ = some x → W.cell? ⟨k, 1, none⟩ = some y → W.cell? ⟨k, 2, none⟩ = some z → (results fn a.tmps).run P W = .ok v W) (hd : a.defers = []) (hR : R (.returned v) W) : bodyPost P fn R .ret a W :=
  bodyPost_ret (h hb.read3.1 hb.read3.2.1 hb.read3.2.2) hd hR

section
variable (b : ByteArray) (w : World) (hs : b.size ≤ maxLen)
include hs
theorem slotParse_y {g z s : Int} (h : parS b = some ⟨g, z, s⟩) : Calls Tryz.prog 49 #[.string b] w fun e w' => e = .returned (.tuple #[.agg #[.int .i64 g, .int .i64 z, .int .i64 s], .int .i64 0]) ∧ Ext w w' := by
  have k := slotParse_any b w hs
  rw [(par_yes h).1, (par_yes h).2] at k; exact k
theorem slotParse_n (h : parS b = none) : Calls Tryz.prog 49 #[.string b] w fun e w' => e = .returned (.tuple #[.agg #[.int .i64 0, .int .i64 0, .int .i64 0], .int .i64 2]) ∧ Ext w w' := by
  have k := slotParse_any b w hs
  rw [(par_no h).1, (par_no h).2] at k; exact k
end

end Go.Proofs.YtjbfopnkeclfgaaGreat
