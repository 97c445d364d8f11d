/- asked of the reference of layer 14: a write, if the disk doesn't hold that already. What tells a commit, as plain numbers and bytes; no program in sight but bytes' own. The reference's contracts for layer 3. Walks of numbers and Right of package slot. Walk of Print of package slot. Walk of the reference's Print. Walks of taken, Book and the reference's Book. Walks of Used, In, Free, Fits and Small of the reference. Walks of leads, places, cell and Right of the reference. Walks of Right and May of the reference. -/
import Derived.Test.YtnlkakbpcdfgfaaGreatK09
import Derived.Test.YtnlkakbpcdfgfaaGreatK03
import Derived.Test.YtnlkakbpcdfgfaaGreatK04
import Derived.Lib.SlBytesConst
import Derived.Deep.AppendLies
import Derived.Deep.RegionHeld3
import Derived.Deep.DeepCutAuto
import Derived.Deep.DrawnRows
import Derived.RegionTactic
import Derived.StillTailTactics
namespace Go.Proofs.YtnlkakbpcdfgfaaGreat
set_option maxRecDepth 20000
open Go.RowKit

theorem wvs_app (a b : List Wr) : wvs (a ++ b) = wvs a ++ wvs b := by
  induction a with
  | nil => rfl
  | cons x a ih => simp [wvs, ih]
/-- append of writes onto a row of the call's own. -/
theorem app_wvs (w : World) {ops : Array Oper} {rest : List Oper} {o : Oper} {a : Act} {Q : Exit → Act → World → Prop} (hgd : o.guard = none) (s x : Operand)
    (ho : o.op = .call { callee := .builtin .append, args := #[s, x], argTypes := #[24, 24] })
    (B : Nat) (v : Value) (n : Nat) (l : List Wr) (hs : a.eval s = v) (hown : w.ownsRow B 58 2 v n (wvs l))
    (A : Option Addr) (m c : Nat) (k : List Wr) (hx : a.eval x = .slice A m c) (hl : k.length = m) (hS : Sl w A m c (wvs k))
    (hsz : n + m ≤ 100000) (hB : B ≤ w.heap.size)
    (h : ∀ A' c' w', w'.ownsRow B 58 2 (.slice A' (n + m) c') (n + m) (wvs (l ++ k)) → w.grownBy w' v.ownBlock → wpList Tryz.prog ops Q rest (a.put o.dst (.slice A' (n + m) c')) w') : wpList Tryz.prog ops Q (o :: rest) a w := by
  refine wpList_app_sl w hgd s x 24 ho B 58 (.agg #[.int .i64 0, .string (ByteArray.mk #[])]) 2 24 Tryz.underlying24 infoW rfl (by omega) v n (wvs l) hs hown A m c (wvs k) hx (by rw [wvs_length, hl]) hS (wvs_oneCell k) (by unfold maxLen; omega) (by omega) hB ?_
  intro A' c' w' h1 h2
  rw [← wvs_app] at h1
  exact h A' c' w' h1 h2
theorem ext_grown {w w' : World} (h : Ext w w') (row : Option Nat) : w.grownBy w' row := ⟨h.os, h.tape, h.output, h.size, fun k hk _ => h.block k hk⟩
/-- P14.2: a write more, where the disk doesn't hold that already. -/
def askW (b : List ByteArray) (l : List Wr) (at_ : Int) (s : ByteArray) (ws : List Wr) : List Wr := if (readS b l at_).toList == s.toList then ws else ws ++ [(at_, s)]
set_option maxRecDepth 100000 in
set_option maxHeartbeats 3200000 in
theorem ref14asked_any (A A' O : Option Addr) (b : List ByteArray) (l ws : List Wr) (c c' n oc B : Nat) (at_ : Int) (s : ByteArray) (w : World) (hb : b.length ≤ maxLen) (hl : l.length ≤ maxLen) (hn : n ≤ 90000) (hB : B ≤ w.heap.size)
    (hA : Sl w A b.length c (b.map sv)) (hA' : Sl w A' l.length c' (wvs l)) (ho : w.ownsRow B 58 2 (.slice O n oc) n (wvs ws)) :
    Calls Tryz.prog 55 #[.agg #[.slice A b.length c, .slice A' l.length c'], .slice O n oc, .int .i64 at_, .string s] w fun e w' => ∃ O' n' oc', n' ≤ n + 1 ∧ e = .returned (.slice O' n' oc') ∧ w'.ownsRow B 58 2 (.slice O' n' oc') n' (wvs (askW b l at_ s ws)) ∧ w.grownBy w' (Value.slice O n oc).ownBlock := by
  have HX := Lib.hid ((Ext.refl w).alloc (.cells #[.slice A b.length c, .slice A' l.length c'] 26))
  have HBx := Lib.hid (Bx.new w #[.slice A b.length c, .slice A' l.length c'] 26)
  have p0 := HBx.out.at 0 _ rfl
  have p1 := HBx.out.at 1 _ rfl
  have HA := Lib.hid hA
  have HA' := Lib.hid hA'
  have HO := Lib.hid ho
  have HN := Lib.hid hB
  have HR := Lib.hid (fun w' (hx : Ext w w') => readR_any A A' b l c c' at_ w' hb hl (hA.cells.ext hx) (hA'.cells.ext hx))
  unfold askW
  clear hA hA' ho hB
  generalize readS b l at_ = r at *
  generalize readE b at_ = re at *
  generalize b.length = nb at *
  generalize l.length = nl at *
  cases hd : r.toList == s.toList
  · go_enter Tryz.func55, Tryz.ntmps55
    go_wp2_with (first
      | (go_at_call 87; refine (HR.out _ HX.out).mono ?_; rintro e w1 ⟨rfl, hx⟩; have HY := Lib.hid (HX.out.trans hx); clear hx p0 p1)
      | (at_builtin; refine stop_here ?_))
    refine stop_on ?_
    have HY2 := Lib.hid (HY.out.alloc (.cells #[.int .i64 at_, .string s] 58))
    refine app_wvs _ rfl _ _ rfl B (.slice O n oc) n ws rfl (own_ext HO.out HY2.out) (some ⟨w1.heap.size, 0, none⟩) 1 1 [(at_, s)] rfl rfl (sl_lit w1 _ 1 (wvs [(at_, s)]) (by unfold maxLen; omega)) (by omega) (Nat.le_trans HN.out HY2.out.size) ?_
    intro O' oc' w2 hown hg
    have HG := Lib.hid (grown_trans (ext_grown HY2.out _) hg)
    have HO2 := Lib.hid hown
    clear hown hg
    go_wp2
    go_ret
    exact ⟨O', n + 1, by omega, oc', rfl, HO2.out, HG.out⟩
  · go_enter Tryz.func55, Tryz.ntmps55
    go_wp2_with (go_at_call 87; refine (HR.out _ HX.out).mono ?_; rintro e w1 ⟨rfl, hx⟩; have HY := Lib.hid (HX.out.trans hx); clear hx p0 p1)
    go_ret
    exact ⟨O, n, by omega, oc, rfl, own_ext HO.out HY.out, ext_grown HY.out _⟩
end Go.Proofs.YtnlkakbpcdfgfaaGreat
namespace Go.Proofs.YtnlkakbpcdfgfaaGreat
set_option maxRecDepth 20000
open Go.RowKit

structure Sup where
  g : Int
  z : Int
  s : Int
deriving DecidableEq
def Sup.v (x : Sup) : Value := .agg #[.int .i64 x.g, .int .i64 x.z, .int .i64 x.s]
def supR (x : Sup) : Bool := decide (1 ≤ x.g) && (decide (x.g ≤ 2147483647) && (decide (0 ≤ x.z) && (decide (x.z ≤ 2147483647) && (decide (0 ≤ x.s) && decide (x.s ≤ 4294967295)))))
theorem supR_iff (x : Sup) : supR x = true ↔ (1 ≤ x.g ∧ x.g ≤ 2147483647) ∧ (0 ≤ x.z ∧ x.z ≤ 2147483647) ∧ (0 ≤ x.s ∧ x.s ≤ 4294967295) := by
  unfold supR; simp only [Bool.and_eq_true, decide_eq_true_eq]; omega
def supL (x : Sup) : List UInt8 := [97, 115] ++ putL x.g.toNat 4 ++ putL x.z.toNat 4 ++ putL x.s.toNat 4
theorem supL_length (x : Sup) : (supL x).length = 14 := by simp [supL, putL_length]
def supB (x : Sup) : ByteArray := if supR x then sealB (supL x) else ⟨#[]⟩
def supE (x : Sup) : Int := if supR x then 0 else 1
def sup0 : Sup := ⟨0, 0, 0⟩
/-- What stands in a block's places. -/
def supAt (l : List UInt8) : Sup := ⟨(leNat ((l.drop 2).take 4) : Nat), (leNat ((l.drop 6).take 4) : Nat), (leNat ((l.drop 10).take 4) : Nat)⟩
def parS (b : ByteArray) : Option Sup := if openE b.data.toList = 0 ∧ supR (supAt (openL b.data.toList)) = true ∧ supB (supAt (openL b.data.toList)) = b then some (supAt (openL b.data.toList)) else none
def parX (b : ByteArray) : Sup := (parS b).getD sup0
def parE (b : ByteArray) : Int := if (parS b).isSome then 0 else 2
def pickI (a b : ByteArray) : Int := match parS a, parS b with
  | some x, some y => if x.g < y.g then 1 else 0
  | none, some _ => 1
  | _, none => 0
def pickX (a b : ByteArray) : Sup := match parS a, parS b with
  | some x, some y => if x.g < y.g then y else x
  | none, some y => y
  | some x, none => x
  | none, none => sup0
def pickE (a b : ByteArray) : Int := match parS a, parS b with
  | none, none => 4
  | _, _ => 0

theorem sup_ext {x y : Sup} (h1 : x.g = y.g) (h2 : x.z = y.z) (h3 : x.s = y.s) : x = y := by cases x; cases y; simp_all
theorem supL_at (x : Sup) (h : supR x = true) (m : List UInt8) : supAt (supL x ++ m) = x := by
  rw [supR_iff] at h
  obtain ⟨⟨h1, h2⟩, ⟨h3, h4⟩, h5, h6⟩ := h
  have e0 : ([97, 115] : List UInt8).length = 2 := rfl
  have l4 := fun n => putL_length 4 n
  unfold supAt supL
  have t1 : ((([97, 115] ++ putL x.g.toNat 4 ++ putL x.z.toNat 4 ++ putL x.s.toNat 4 ++ m).drop 2).take 4) = putL x.g.toNat 4 := by
    simp only [List.append_assoc]
    rw [List.drop_append_of_le_length (by simp)]
    simp only [List.drop_succ_cons, List.drop_nil, List.nil_append]
    rw [List.take_append_of_le_length (by rw [l4]; exact Nat.le_refl _), List.take_of_length_le (by rw [l4]; exact Nat.le_refl _)]
  have t2 : ((([97, 115] ++ putL x.g.toNat 4 ++ putL x.z.toNat 4 ++ putL x.s.toNat 4 ++ m).drop 6).take 4) = putL x.z.toNat 4 := by
    have e : ([97, 115] ++ putL x.g.toNat 4 ++ putL x.z.toNat 4 ++ putL x.s.toNat 4 ++ m) = ([97, 115] ++ putL x.g.toNat 4) ++ (putL x.z.toNat 4 ++ (putL x.s.toNat 4 ++ m)) := by simp only [List.append_assoc]
    rw [e, List.drop_left' (by simp [l4]), List.take_append_of_le_length (by rw [l4]; exact Nat.le_refl _), List.take_of_length_le (by rw [l4]; exact Nat.le_refl _)]
  have t3 : ((([97, 115] ++ putL x.g.toNat 4 ++ putL x.z.toNat 4 ++ putL x.s.toNat 4 ++ m).drop 10).take 4) = putL x.s.toNat 4 := by
    have e : ([97, 115] ++ putL x.g.toNat 4 ++ putL x.z.toNat 4 ++ putL x.s.toNat 4 ++ m) = ([97, 115] ++ putL x.g.toNat 4 ++ putL x.z.toNat 4) ++ (putL x.s.toNat 4 ++ m) := by simp only [List.append_assoc]
    rw [e, List.drop_left' (by simp [l4]), List.take_append_of_le_length (by rw [l4]; exact Nat.le_refl _), List.take_of_length_le (by rw [l4]; exact Nat.le_refl _)]
  rw [t1, t2, t3, leNat_putL, leNat_putL, leNat_putL]
  exact sup_ext (by show ((x.g.toNat % 256 ^ 4 : Nat) : Int) = x.g; omega) (by show ((x.z.toNat % 256 ^ 4 : Nat) : Int) = x.z; omega) (by show ((x.s.toNat % 256 ^ 4 : Nat) : Int) = x.s; omega)
theorem sup_open (x : Sup) (h : supR x = true) : openE (supB x).data.toList = 0 ∧ supAt (openL (supB x).data.toList) = x := by
  have ho := open_sealB (supL x)
  have hl := supL_length x
  unfold supB
  rw [if_pos h]
  refine ⟨by rw [ho.2.1, if_pos (by omega)], ?_⟩
  rw [ho.1]
  unfold unsealed padL
  rw [if_pos (by omega)]
  exact supL_at x h _
theorem par_print (x : Sup) (h : supR x = true) : parS (supB x) = some x := by
  obtain ⟨h1, h2⟩ := sup_open x h
  unfold parS
  rw [h2, if_pos ⟨h1, h, rfl⟩]
theorem par_right {b : ByteArray} {x : Sup} (h : parS b = some x) : supR x = true ∧ supB x = b := by
  unfold parS at h
  split at h
  · rename_i hh
    cases h
    exact ⟨hh.2.1, hh.2.2⟩
  · cases h
theorem supB_size (x : Sup) (h : supR x = true) : (supB x).size = 40 := by
  unfold supB; rw [if_pos h]
  have := (open_sealB (supL x)).2.2
  rw [this, if_pos (by rw [supL_length]; omega)]
theorem supB_inj {x y : Sup} (hx : supR x = true) (hy : supR y = true) (h : supB x = supB y) : x = y := by
  have h1 := par_print x hx
  rw [h, par_print y hy] at h1
  exact (Option.some.inj h1).symm
end Go.Proofs.YtnlkakbpcdfgfaaGreat
namespace Go.Proofs.YtnlkakbpcdfgfaaGreat
set_option maxRecDepth 20000
open Go.RowKit

theorem supR_no {x : Sup} (h : ¬ ((1 ≤ x.g ∧ x.g ≤ 2147483647) ∧ (0 ≤ x.z ∧ x.z ≤ 2147483647) ∧ (0 ≤ x.s ∧ x.s ≤ 4294967295))) : supR x = false := by
  rcases Bool.eq_false_or_eq_true (supR x) with e | e
  · exact absurd ((supR_iff x).1 e) h
  · exact e
set_option maxRecDepth 100000 in
set_option maxHeartbeats 2000000 in
theorem ref03Right_any (g z s : Int) (w : World) : Calls Tryz.prog 89 #[.agg #[.int .i64 g, .int .i64 z, .int .i64 s]] w fun e w' => e = .returned (.bool (supR ⟨g, z, s⟩)) ∧ Ext w w' := by
  have HX := Lib.hid ((Ext.refl w).alloc (.cells #[.int .i64 g, .int .i64 z, .int .i64 s] 119))
  rcases Decidable.em (1 ≤ g) with h1 | h1
  rotate_left
  · go_enter Tryz.func89, Tryz.ntmps89
    go_wp2
    go_ret
    exact ⟨ret_bool (by first | exact (supR_no (by simp only; omega)).symm | (rw [supR_no (by simp only; omega)]; simp; omega)), HX.out⟩
  rcases Decidable.em (g ≤ 2147483647) with h2 | h2
  rotate_left
  · go_enter Tryz.func89, Tryz.ntmps89
    go_wp2
    go_ret
    exact ⟨ret_bool (by first | exact (supR_no (by simp only; omega)).symm | (rw [supR_no (by simp only; omega)]; simp; omega)), HX.out⟩
  rcases Decidable.em (0 ≤ z) with h3 | h3
  rotate_left
  · go_enter Tryz.func89, Tryz.ntmps89
    go_wp2
    go_ret
    exact ⟨ret_bool (by first | exact (supR_no (by simp only; omega)).symm | (rw [supR_no (by simp only; omega)]; simp; omega)), HX.out⟩
  rcases Decidable.em (z ≤ 2147483647) with h4 | h4
  rotate_left
  · go_enter Tryz.func89, Tryz.ntmps89
    go_wp2
    go_ret
    exact ⟨ret_bool (by first | exact (supR_no (by simp only; omega)).symm | (rw [supR_no (by simp only; omega)]; simp; omega)), HX.out⟩
  rcases Decidable.em (0 ≤ s) with h5 | h5
  rotate_left
  · go_enter Tryz.func89, Tryz.ntmps89
    go_wp2
    go_ret
    exact ⟨ret_bool (by first | exact (supR_no (by simp only; omega)).symm | (rw [supR_no (by simp only; omega)]; simp; omega)), HX.out⟩
  rcases Decidable.em (s ≤ 4294967295) with h6 | h6
  rotate_left
  · go_enter Tryz.func89, Tryz.ntmps89
    go_wp2
    go_ret
    exact ⟨ret_bool (by first | exact (supR_no (by simp only; omega)).symm | (rw [supR_no (by simp only; omega)]; simp; omega)), HX.out⟩
  go_enter Tryz.func89, Tryz.ntmps89
  go_wp2
  go_ret
  exact ⟨ret_bool (by rw [(supR_iff _).2 (by simp only; omega)]; try (simp; omega)), HX.out⟩
end Go.Proofs.YtnlkakbpcdfgfaaGreat
namespace Go.Proofs.YtnlkakbpcdfgfaaGreat
set_option maxRecDepth 20000
open Go.RowKit

theorem Bx.read3 {w : World} {k : Nat} {a b c : Value} (h : Bx w k #[a, b, c]) : w.cell? ⟨k, 0, none⟩ = some a ∧ w.cell? ⟨k, 1, none⟩ = some b ∧ w.cell? ⟨k, 2, none⟩ = some c :=
  ⟨h.at 0 _ rfl, h.at 1 _ rfl, h.at 2 _ rfl⟩
theorem Bx.drewN {w : World} {k : Nat} {cs : Array Value} (h : Bx w k cs) (n : Nat) : Bx (w.drewN n) k cs := h

set_option maxHeartbeats 1000000 in
theorem slotNumbers_any (g z s : Int) (w : World) :
    Calls Tryz.prog 127 #[.agg #[.int .i64 g, .int .i64 z, .int .i64 s]] w fun e w' => e = .returned (.agg #[.int .i64 g, .int .i64 z, .int .i64 s]) ∧ Ext w w' := by
  go_enter Tryz.func127, Tryz.ntmps127
  go_wp2
  generalize hW : (World.alloc (World.alloc w _) _) = W
  obtain ⟨hx, hb0, hb1⟩ := allocs2 hW
  obtain ⟨r0, r1, r2⟩ := hb1.read3
  refine bodyPost_ret (v := .agg #[.int .i64 g, .int .i64 z, .int .i64 s]) (by simp [results, Tryz.results127, go_sem, r0, r1, r2]) rfl ⟨rfl, hx⟩

def supK (g z s : Int) (k : Nat) : Prop := (1 ≤ k → 1 ≤ g ∧ g ≤ 2147483647) ∧ (2 ≤ k → 0 ≤ z ∧ z ≤ 2147483647) ∧ (3 ≤ k → 0 ≤ s ∧ s ≤ 4294967295)
set_option maxHeartbeats 2000000 in
theorem slotRight_any (g z s : Int) (w : World) :
    Calls Tryz.prog 126 #[.agg #[.int .i64 g, .int .i64 z, .int .i64 s]] w fun e w' => e = .returned (.bool (supR ⟨g, z, s⟩)) ∧ Ext w w' := by
  go_enter Tryz.func126, Tryz.ntmps126
  go_wp2_with (go_at_call 127; refine (slotNumbers_any _ _ _ _).mono ?_; rintro e w1 ⟨rfl, hx⟩; have HX := Lib.hid hx; clear hx)
  generalize hW : (World.alloc (World.alloc (World.alloc w1 _) _) _) = W
  obtain ⟨hx, hb0, hb1, hb2⟩ := allocs3 hW
  have HX2 := Lib.hid (show Ext w W from ((Ext.refl w).alloc _).trans (HX.out.trans hx))
  obtain ⟨a0, a1, a2⟩ := hb0.read3
  obtain ⟨b0, b1, b2⟩ := hb1.read3
  obtain ⟨c0, c1, c2⟩ := hb2.read3
  have z0 := hb0.lt
  have z1 := hb1.lt
  have z2 := hb2.lt
  clear hb0 hb1 hb2 hx hW HX
  go_loopw [11] (fun i wr => ∃ k q : Nat, k ≤ 3 ∧ i = .int .i64 k ∧ wr = W.drewN q ∧ supK g z s k) (fun i _ => 3 - (intOf i).toNat)
  case atStart => exact ⟨0, 0, by omega, rfl, rfl, by unfold supK; omega⟩
  case round =>
    obtain ⟨k, q, hk, rfl, rfl, hs⟩ := hrel
    have HS := Lib.hid hs
    clear hs
    have hk3 : k = 0 ∨ k = 1 ∨ k = 2 ∨ k = 3 := by omega
    rcases hk3 with rfl | rfl | rfl | rfl
    · by_cases h1 : g < 1
      · go_wp2
        go_quiet (fail)
        go_wp2
        go_ret
        exact ⟨ret_bool (supR_no (by simp only; omega)).symm, (HX2.out.drewN _).drewN _⟩
      · by_cases h2 : 2147483647 < g
        · go_wp2
          go_quiet (fail)
          go_wp2
          go_ret
          exact ⟨ret_bool (supR_no (by simp only; omega)).symm, (HX2.out.drewN _).drewN _⟩
        · go_wp2
          go_quiet (fail)
          go_wp2
          go_roundw
          case rel => exact ⟨1, q + nq, by omega, by go_num, rfl, by have := HS.out; unfold supK at *; omega⟩
          case measure => simp [intOf]
    · by_cases h1 : z < 0
      · go_wp2
        go_quiet (fail)
        go_wp2
        go_ret
        exact ⟨ret_bool (supR_no (by simp only; omega)).symm, (HX2.out.drewN _).drewN _⟩
      · by_cases h2 : 2147483647 < z
        · go_wp2
          go_quiet (fail)
          go_wp2
          go_ret
          exact ⟨ret_bool (supR_no (by simp only; omega)).symm, (HX2.out.drewN _).drewN _⟩
        · go_wp2
          go_quiet (fail)
          go_wp2
          go_roundw
          case rel => exact ⟨2, q + nq, by omega, by go_num, rfl, by have := HS.out; unfold supK at *; omega⟩
          case measure => simp [intOf]
    · by_cases h1 : s < 0
      · go_wp2
        go_quiet (fail)
        go_wp2
        go_ret
        exact ⟨ret_bool (supR_no (by simp only; omega)).symm, (HX2.out.drewN _).drewN _⟩
      · by_cases h2 : 4294967295 < s
        · go_wp2
          go_quiet (fail)
          go_wp2
          go_ret
          exact ⟨ret_bool (supR_no (by simp only; omega)).symm, (HX2.out.drewN _).drewN _⟩
        · go_wp2
          go_quiet (fail)
          go_wp2
          go_roundw
          case rel => exact ⟨3, q + nq, by omega, by go_num, rfl, by have := HS.out; unfold supK at *; omega⟩
          case measure => simp [intOf]
    · go_wp2
      go_ret
      exact ⟨ret_bool ((supR_iff _).2 (by have := HS.out; unfold supK at this; simp only; omega)).symm, HX2.out.drewN _⟩
end Go.Proofs.YtnlkakbpcdfgfaaGreat
namespace Go.Proofs.YtnlkakbpcdfgfaaGreat
set_option maxRecDepth 20000
open Go.RowKit

/-- A row of bytes isn't a box of numbers. -/
theorem own_neS {w : World} {B n c : Nat} {A : Option Addr} {u : UInt8} {l : List UInt8} {k : Nat} {x : Int} {cs : Array Value} (h : w.ownsRow B 5 1 (.slice A n c) n ((u :: l).map bv)) (hb : Bx w k cs) (hx : cs[0]? = some (.int .i64 x)) :
    (Value.slice A n c).ownBlock ≠ some k := by
  intro e
  rcases h.2 with ⟨e1, h0⟩ | ⟨g, cap', cur, e1, hg, hh, hnc, hcm, _⟩
  · cases e1; cases e
  · cases e1
    cases e
    have h1 := h.cellAt 0 (by have := h.1; simp at this ⊢; omega)
    rw [hb.at 0 _ hx] at h1
    simp [bv] at h1
def supP (x : Sup) : Nat → List UInt8
  | 0 => [97, 115]
  | 1 => [97, 115] ++ putL x.g.toNat 4
  | 2 => [97, 115] ++ putL x.g.toNat 4 ++ putL x.z.toNat 4
  | _ => [97, 115] ++ putL x.g.toNat 4 ++ putL x.z.toNat 4 ++ putL x.s.toNat 4

/-- append of bytes onto a row of bytes that is full, whoever owns it: a new row. -/
theorem app_full (w : World) {ops : Array Oper} {rest : List Oper} {o : Oper} {a : Act} {Q : Exit → Act → World → Prop} (hgd : o.guard = none) (s x : Operand)
    (ho : o.op = .call { callee := .builtin .append, args := #[s, x], argTypes := #[83, 83] })
    (ad : Addr) (n c : Nat) (l : List UInt8) (hs : a.eval s = .slice (some ad) n c) (hc0 : Cells w (some ad) (l.map bv)) (hln : l.length = n)
    (A : Option Addr) (m cx : Nat) (k : List UInt8) (hx : a.eval x = .slice A m cx) (hl : k.length = m) (hk : Cells w A (k.map bv)) (hm : 0 < m) (hn : 0 < n)
    (hfull : c < n + m) (hsz : n + m ≤ 100000)
    (h : ∀ A' c' w', w'.ownsRow w.heap.size 5 1 (.slice A' (n + m) c') (n + m) ((l ++ k).map bv) → Ext w w' → wpList Tryz.prog ops Q rest (a.put o.dst (.slice A' (n + m) c')) w') : wpList Tryz.prog ops Q (o :: rest) a w := by
  obtain ⟨i0, hi, hz0, hz1, hz2⟩ := info_parts info5
  subst hl hln
  obtain ⟨ad', he, h0⟩ := hc0.some_ (by simpa using hn)
  cases he
  obtain ⟨ad2, rfl, h1⟩ := hk.some_ (by simpa using hm)
  refine wpList_plain hgd fun K hK => ?_
  have hr := run_append_grow (P := Tryz.prog) w 83 o.type 5 i0 (.int .u8 0) Tryz.underlying83 hi hz0 ad l.length c (l.map bv) (by simp [hz1]) h0 ad2 k.length cx (k.map bv) (by simp [hz1]) h1 hfull (by omega) (growslice_fits (by omega) (by rw [hz2]; omega))
  unfold Oper.wp execOp
  simp only [ho, resolve, invoke, builtin, Sem.run_bind, Sem.run_pure, Result.andThen_ok, List.map_toArray, List.map_cons, List.map_nil, hs, hx, hr]
  refine hK _ _ (h _ _ _ ?_ ?_)
  · have hge := grownCap_ge w (l.length + k.length) c 5
    have hcm : grownCap w (l.length + k.length) c 5 ≤ maxLen := grownCap_le_maxLen w _ c 5 (by unfold maxLen; omega)
    refine ⟨by simp, .inr ⟨w.heap.size, _, _, rfl, Nat.le_refl _, heap_alloc_new w.drew _, hge, hcm, ?_, ?_⟩⟩
    · have hzc : (Value.int .u8 0).cells.size = 1 := rfl
      simp only [Array.size_append, List.size_toArray, size_zeroCells, hzc, List.length_map]; omega
    · simp only [Array.toList_append, List.map_append]
      exact List.take_left' (by simp)
  · exact (Ext.refl w).drew.alloc _
theorem lit2 (w : World) : Cells (w.alloc (.cells #[.int .u8 97, .int .u8 115] 5 (2, 3))) (some ⟨w.heap.size, 0, none⟩) (([97, 115] : List UInt8).map bv) := fun _ => by
  refine ⟨_, 0, rfl, by simp, fun j u hu => ?_⟩
  rw [Nat.zero_add, cell_of_row _ _ j #[.int .u8 97, .int .u8 115] 5 (2, 3) (heap_alloc_new w _), ← hu]
  have hj := (List.getElem?_eq_some_iff.1 hu).1
  simp at hj
  rcases (by omega : j = 0 ∨ j = 1) with rfl | rfl <;> rfl
theorem own_monoS {w : World} {B C n c : Nat} {A : Option Addr} {xs : List Value} (h : w.ownsRow C 5 1 (.slice A n c) n xs) (hB : B ≤ C) : w.ownsRow B 5 1 (.slice A n c) n xs := by
  refine ⟨h.1, ?_⟩
  rcases h.2 with e | ⟨g, cap, cur, e, hg, r⟩
  · exact .inl e
  · exact .inr ⟨g, cap, cur, e, Nat.le_trans hB hg, r⟩
/-- How the row stands ahead of the round k. -/
def supSt (B : Nat) (g z s : Int) (L : Addr) (k : Nat) (v : Value) (w : World) : Prop :=
  (k = 0 ∧ v = .slice (some L) 2 2 ∧ Cells w (some L) (([97, 115] : List UInt8).map bv)) ∨
  (1 ≤ k ∧ ∃ A c, v = .slice A (2 + 4 * k) c ∧ w.ownsRow B 5 1 (.slice A (2 + 4 * k) c) (2 + 4 * k) ((supP ⟨g, z, s⟩ k).map bv))
set_option maxRecDepth 100000 in
set_option maxHeartbeats 2000000 in
theorem slotPrint_any (g z s : Int) (w : World) :
    Calls Tryz.prog 103 #[.agg #[.int .i64 g, .int .i64 z, .int .i64 s]] w fun e w' => e = .returned (.tuple #[.string (supB ⟨g, z, s⟩), .int .i64 (supE ⟨g, z, s⟩)]) ∧ Ext w w' := by
  unfold supB supE
  cases hs : supR ⟨g, z, s⟩
  · have HS := Lib.hid hs
    go_enter Tryz.func103, Tryz.ntmps103
    go_wp2_with (go_at_call 126; refine (slotRight_any _ _ _ _).mono ?_; rintro e w1 ⟨rfl, hx⟩; simp only [HS.out]; have HX := Lib.hid (((Ext.refl w).alloc _).trans hx); clear hx)
    go_ret2
    exact ⟨rfl, HX.out⟩
  · obtain ⟨⟨g1, g2⟩, ⟨z1, z2⟩, s1, s2⟩ := (supR_iff _).1 hs
    simp only at g1 g2 z1 z2 s1 s2
    have HS := Lib.hid hs
    clear hs
    have kc := fun (w : World) (C : Array Value) (n c : Nat) => Lib.run_convert_bytes_const (P := Tryz.prog) w 83 5 C n c Tryz.underlying83 Tryz.underlying5
    go_enter Tryz.func103, Tryz.ntmps103
    go_wp2_with (first
      | (go_at_call 126; refine (slotRight_any _ _ _ _).mono ?_; rintro e w1 ⟨rfl, hx⟩; simp only [HS.out]; have HX := Lib.hid (((Ext.refl w).alloc _).trans hx); have hb0 := (Bx.new w #[.int .i64 g, .int .i64 z, .int .i64 s] 119).ext hx; obtain ⟨r0, r1, r2⟩ := hb0.read3; have r3 := hb0.lt; clear hx hb0)
      | (go_at_call 127; refine (slotNumbers_any _ _ _ _).mono ?_; rintro e w2 ⟨rfl, hx⟩; have HX1 := Lib.hid hx; clear hx))
    generalize hW : (World.alloc w2 _) = W
    obtain ⟨hx, hb⟩ := allocs1 hW
    have HX2 := Lib.hid (show Ext w W from HX.out.trans (((Ext.refl w1).alloc _).trans (HX1.out.trans hx)))
    have HB := Lib.hid hb
    have HL := Lib.hid (show Cells W (some ⟨w1.heap.size, 0, none⟩) (([97, 115] : List UInt8).map bv) from (lit2 w1).ext (HX1.out.trans hx))
    clear hx hb hW r0 r1 r2 r3 HX HX1
    go_loopw [4, 14] (fun v i wr => ∃ k : Nat, k ≤ 3 ∧ i = .int .i64 k ∧ supSt w.heap.size g z s ⟨w1.heap.size, 0, none⟩ k v wr ∧ Ext w wr ∧ Bx wr w2.heap.size #[.int .i64 g, .int .i64 z, .int .i64 s]) (fun _ i _ => 3 - (intOf i).toNat)
    case atStart => exact ⟨0, by omega, rfl, .inl ⟨rfl, rfl, HL.out⟩, HX2.out, HB.out⟩
    case round =>
      obtain ⟨k, hk, rfl, hst, hxr, hbr⟩ := hrel
      have HXR := Lib.hid hxr
      have HBR := Lib.hid hbr
      have HST := Lib.hid hst
      obtain ⟨r0, r1, r2⟩ := hbr.read3
      have r3 := hbr.lt
      clear hst hxr hbr
      have hk3 : k = 0 ∨ k = 1 ∨ k = 2 ∨ k = 3 := by omega
      rcases hk3 with rfl | rfl | rfl | rfl
      · have HP := Lib.hid (fun w' => numPut_n g w' (by omega) (by omega))
        obtain ⟨-, rfl, hl⟩ | ⟨h, _⟩ := HST.out
        rotate_left
        · omega
        have HC := Lib.hid hl
        clear hl HST
        go_wp2_with (first | (at_builtin; refine stop_here ?_) | (go_at_call 128; refine (HP.out _).mono ?_; rintro e w3 ⟨A', cap', rfl, hS, hx⟩; have HS3 := Lib.hid hS; have HX3 := Lib.hid hx; clear hS hx))
        refine stop_on ?_
        refine app_full _ rfl _ _ rfl ⟨w1.heap.size, 0, none⟩ 2 2 [97, 115] rfl (HC.out.ext HX3.out) rfl A' 4 cap' (putL g.toNat 4) rfl (putL_length 4 _) HS3.out.cells (by omega) (by omega) (by omega) (by omega) ?_
        intro A4 c4 w4 hown hx4
        have HX4 := Lib.hid (HXR.out.trans (HX3.out.trans hx4))
        have HB4 := Lib.hid (HBR.out.ext (HX3.out.trans hx4))
        have HO4 := Lib.hid (own_monoS hown (show w.heap.size ≤ w3.heap.size by have := HXR.out.size; have := HX3.out.size; omega))
        clear hown hx4 HC HBR HXR HS3 HX3
        go_wp2
        go_roundw
        case rel => exact ⟨1, by omega, by go_num, .inr ⟨by omega, A4, c4, rfl, HO4.out⟩, HX4.out, HB4.out⟩
        case measure => simp [intOf]
      · have HP := Lib.hid (fun w' => numPut_n z w' (by omega) (by omega))
        obtain ⟨h, _⟩ | ⟨-, A, c, rfl, ho⟩ := HST.out
        · omega
        have HO := Lib.hid ho
        clear ho HST
        go_wp2_with (first | (at_builtin; refine stop_here ?_) | (go_at_call 128; refine (HP.out _).mono ?_; rintro e w3 ⟨A', cap', rfl, hS, hx⟩; have HS3 := Lib.hid hS; have HX3 := Lib.hid hx; clear hS hx))
        refine stop_on ?_
        refine app_bytes _ rfl _ _ rfl w.heap.size _ 6 (supP ⟨g, z, s⟩ 1) rfl (own_below HO.out HX3.out) A' 4 cap' (putL z.toNat 4) rfl (putL_length 4 _) HS3.out.1 HS3.out.cells (by omega) (by have := HXR.out.size; have := HX3.out.size; omega) ?_
        intro A4 c4 w4 hown hg4
        have HX4 := Lib.hid (show Ext w w4 from Below.grown (HXR.out.trans HX3.out) hg4 (by have := HXR.out.size; have := HX3.out.size; omega) (fun q hq => ((own_below HO.out HX3.out).lt q hq).1))
        have HB4 := Lib.hid ((HBR.out.ext HX3.out).grown hg4 (own_neS (u := 97) (own_below HO.out HX3.out) (HBR.out.ext HX3.out) rfl))
        have HO4 := Lib.hid hown
        clear hown hg4 HO HBR HXR HS3 HX3
        go_wp2
        go_roundw
        case rel => exact ⟨2, by omega, by go_num, .inr ⟨by omega, A4, c4, rfl, HO4.out⟩, HX4.out, HB4.out⟩
        case measure => simp [intOf]
      · have HP := Lib.hid (fun w' => numPut_n s w' (by omega) (by omega))
        obtain ⟨h, _⟩ | ⟨-, A, c, rfl, ho⟩ := HST.out
        · omega
        have HO := Lib.hid ho
        clear ho HST
        go_wp2_with (first | (at_builtin; refine stop_here ?_) | (go_at_call 128; refine (HP.out _).mono ?_; rintro e w3 ⟨A', cap', rfl, hS, hx⟩; have HS3 := Lib.hid hS; have HX3 := Lib.hid hx; clear hS hx))
        refine stop_on ?_
        refine app_bytes _ rfl _ _ rfl w.heap.size _ 10 (supP ⟨g, z, s⟩ 2) rfl (own_below HO.out HX3.out) A' 4 cap' (putL s.toNat 4) rfl (putL_length 4 _) HS3.out.1 HS3.out.cells (by omega) (by have := HXR.out.size; have := HX3.out.size; omega) ?_
        intro A4 c4 w4 hown hg4
        have HX4 := Lib.hid (show Ext w w4 from Below.grown (HXR.out.trans HX3.out) hg4 (by have := HXR.out.size; have := HX3.out.size; omega) (fun q hq => ((own_below HO.out HX3.out).lt q hq).1))
        have HB4 := Lib.hid ((HBR.out.ext HX3.out).grown hg4 (own_neS (u := 97) (own_below HO.out HX3.out) (HBR.out.ext HX3.out) rfl))
        have HO4 := Lib.hid hown
        clear hown hg4 HO HBR HXR HS3 HX3
        go_wp2
        go_roundw
        case rel => exact ⟨3, by omega, by go_num, .inr ⟨by omega, A4, c4, rfl, HO4.out⟩, HX4.out, HB4.out⟩
        case measure => simp [intOf]
      · obtain ⟨h, _⟩ | ⟨-, A, c, rfl, ho⟩ := HST.out
        · omega
        have HSL := Lib.hid (own_sl ho)
        clear ho HST
        have HV := Lib.hid (numSeal_n A (supL ⟨g, z, s⟩) 14 c wr (by rw [supL_length]) (by omega) HSL.out)
        go_wp2_with (go_at_call 129; refine HV.out.mono ?_; rintro e w3 ⟨rfl, hx⟩; have HX4 := Lib.hid (HXR.out.trans hx); clear hx)
        go_ret2
        exact ⟨rfl, HX4.out⟩
end Go.Proofs.YtnlkakbpcdfgfaaGreat
namespace Go.Proofs.YtnlkakbpcdfgfaaGreat
set_option maxRecDepth 20000
open Go.RowKit

set_option maxRecDepth 100000 in
set_option maxHeartbeats 2000000 in
theorem ref03Print_any (g z s : Int) (w : World) :
    Calls Tryz.prog 58 #[.agg #[.int .i64 g, .int .i64 z, .int .i64 s]] w fun e w' => e = .returned (.tuple #[.string (supB ⟨g, z, s⟩), .int .i64 (supE ⟨g, z, s⟩)]) ∧ Ext w w' := by
  unfold supB supE
  cases hs : supR ⟨g, z, s⟩
  · have HS := Lib.hid hs
    go_enter Tryz.func58, Tryz.ntmps58
    go_wp2_with (go_at_call 89; refine (ref03Right_any _ _ _ _).mono ?_; rintro e w1 ⟨rfl, hx⟩; simp only [HS.out]; have HX := Lib.hid (((Ext.refl w).alloc _).trans hx); clear hx)
    go_ret2
    exact ⟨rfl, HX.out⟩
  · obtain ⟨⟨g1, g2⟩, ⟨z1, z2⟩, s1, s2⟩ := (supR_iff _).1 hs
    simp only at g1 g2 z1 z2 s1 s2
    have HS := Lib.hid hs
    clear hs
    have HP0 := Lib.hid (fun w' => ref01Put_n g w' (by omega) (by omega))
    have HP1 := Lib.hid (fun w' => ref01Put_n z w' (by omega) (by omega))
    have HP2 := Lib.hid (fun w' => ref01Put_n s w' (by omega) (by omega))
    go_enter Tryz.func58, Tryz.ntmps58
    go_wp2_with (first
      | (go_at_call 89; refine (ref03Right_any _ _ _ _).mono ?_; rintro e w1 ⟨rfl, hx⟩; simp only [HS.out]; have HX := Lib.hid (((Ext.refl w).alloc _).trans hx); have HB := Lib.hid ((Bx.new w #[.int .i64 g, .int .i64 z, .int .i64 s] 119).ext hx); obtain ⟨r0, r1, r2⟩ := HB.out.read3; have r3 := HB.out.lt; clear hx)
      | (at_builtin; refine stop_here ?_)
      | (go_at_call 83; refine (HP0.out _).mono ?_; rintro e w3 ⟨A', cap', rfl, hS, hx⟩; have HS3 := Lib.hid hS; have HX3 := Lib.hid hx; clear hS hx))
    refine stop_on ?_
    have HO := Lib.hid (show (w1.alloc (.cells #[.int .u8 97, .int .u8 115] 5)).ownsRow w.heap.size 5 1 (.slice (some ⟨w1.heap.size, 0, none⟩) 2 2) 2 (([97, 115] : List UInt8).map bv) from World.ownsRow_lit (base := w.heap.size) (e := 5) (size := 1) w1 #[.int .u8 97, .int .u8 115] 2 HX.out.size (by unfold maxLen; omega) rfl)
    have HB := Lib.hid (HB.out.ext ((Ext.refl w1).alloc (.cells #[.int .u8 97, .int .u8 115] 5)))
    have HX := Lib.hid (HX.out.alloc (.cells #[.int .u8 97, .int .u8 115] 5))
    refine app_bytes _ rfl _ _ rfl w.heap.size _ 2 (([97, 115] : List UInt8)) rfl (own_below HO.out HX3.out) A' 4 cap' (putL g.toNat 4) rfl (putL_length 4 _) HS3.out.1 HS3.out.cells (by omega) (by have := HX.out.size; have := HX3.out.size; omega) ?_
    intro A4 c4 w4 hown hg4
    have HB := Lib.hid ((HB.out.ext HX3.out).grown hg4 (own_neS (u := 97) (own_below HO.out HX3.out) (HB.out.ext HX3.out) rfl))
    have HX := Lib.hid (show Ext w w4 from Below.grown (HX.out.trans HX3.out) hg4 (by have := HX.out.size; have := HX3.out.size; omega) (fun q hq => ((own_below HO.out HX3.out).lt q hq).1))
    have HO := Lib.hid (show w4.ownsRow w.heap.size 5 1 (.slice A4 6 c4) 6 ((supP ⟨g, z, s⟩ 1).map bv) from hown)
    obtain ⟨r0, r1, r2⟩ := HB.out.read3
    have r3 := HB.out.lt
    clear hown hg4 HS3 HX3
    go_wp2_with (first
      | (at_builtin; refine stop_here ?_)
      | (go_at_call 83; refine (HP1.out _).mono ?_; rintro e w3 ⟨A', cap', rfl, hS, hx⟩; have HS3 := Lib.hid hS; have HX3 := Lib.hid hx; clear hS hx))
    refine stop_on ?_
    refine app_bytes _ rfl _ _ rfl w.heap.size _ 6 (supP ⟨g, z, s⟩ 1) rfl (own_below HO.out HX3.out) A' 4 cap' (putL z.toNat 4) rfl (putL_length 4 _) HS3.out.1 HS3.out.cells (by omega) (by have := HX.out.size; have := HX3.out.size; omega) ?_
    intro A4 c4 w4 hown hg4
    have HB := Lib.hid ((HB.out.ext HX3.out).grown hg4 (own_neS (u := 97) (own_below HO.out HX3.out) (HB.out.ext HX3.out) rfl))
    have HX := Lib.hid (show Ext w w4 from Below.grown (HX.out.trans HX3.out) hg4 (by have := HX.out.size; have := HX3.out.size; omega) (fun q hq => ((own_below HO.out HX3.out).lt q hq).1))
    have HO := Lib.hid (show w4.ownsRow w.heap.size 5 1 (.slice A4 10 c4) 10 ((supP ⟨g, z, s⟩ 2).map bv) from hown)
    obtain ⟨r0, r1, r2⟩ := HB.out.read3
    have r3 := HB.out.lt
    clear hown hg4 HS3 HX3
    go_wp2_with (first
      | (at_builtin; refine stop_here ?_)
      | (go_at_call 83; refine (HP2.out _).mono ?_; rintro e w3 ⟨A', cap', rfl, hS, hx⟩; have HS3 := Lib.hid hS; have HX3 := Lib.hid hx; clear hS hx))
    refine stop_on ?_
    refine app_bytes _ rfl _ _ rfl w.heap.size _ 10 (supP ⟨g, z, s⟩ 2) rfl (own_below HO.out HX3.out) A' 4 cap' (putL s.toNat 4) rfl (putL_length 4 _) HS3.out.1 HS3.out.cells (by omega) (by have := HX.out.size; have := HX3.out.size; omega) ?_
    intro A4 c4 w4 hown hg4
    have HB := Lib.hid ((HB.out.ext HX3.out).grown hg4 (own_neS (u := 97) (own_below HO.out HX3.out) (HB.out.ext HX3.out) rfl))
    have HX := Lib.hid (show Ext w w4 from Below.grown (HX.out.trans HX3.out) hg4 (by have := HX.out.size; have := HX3.out.size; omega) (fun q hq => ((own_below HO.out HX3.out).lt q hq).1))
    have HO := Lib.hid (show w4.ownsRow w.heap.size 5 1 (.slice A4 14 c4) 14 ((supP ⟨g, z, s⟩ 3).map bv) from hown)
    obtain ⟨r0, r1, r2⟩ := HB.out.read3
    have r3 := HB.out.lt
    clear hown hg4 HS3 HX3
    have HSL := Lib.hid (own_sl HO.out)
    have HV := Lib.hid (ref01Seal_n A4 (supL ⟨g, z, s⟩) 14 c4 w4 (by rw [supL_length]) (by omega) HSL.out)
    go_wp2_with (go_at_call 86; refine HV.out.mono ?_; rintro e w5 ⟨rfl, hx⟩; have HX4 := Lib.hid (HX.out.trans hx); clear hx)
    go_ret2
    exact ⟨rfl, HX4.out⟩
end Go.Proofs.YtnlkakbpcdfgfaaGreat
namespace Go.Proofs.YtnlkakbpcdfgfaaGreat
set_option maxRecDepth 20000
open Go.RowKit

theorem Bx.set3 {w : World} {k : Nat} {a b c : Value} (h : Bx w k #[a, b, c]) (x y z : Value) : Bx (((w.setCell ⟨k, 0, none⟩ x).setCell ⟨k, 1, none⟩ y).setCell ⟨k, 2, none⟩ z) k #[x, y, z] :=
  ((h.set 0 x).set 1 y).set 2 z
theorem Ext.store3 {w0 w : World} (h : Ext w0 w) {k : Nat} (hk : w0.heap.size ≤ k) (x y z : Value) : Ext w0 (((w.setCell ⟨k, 0, none⟩ x).setCell ⟨k, 1, none⟩ y).setCell ⟨k, 2, none⟩ z) :=
  ((h.set (p := ⟨k, 0, none⟩) hk x).set (p := ⟨k, 1, none⟩) hk y).set (p := ⟨k, 2, none⟩) hk z
theorem Bx.free3 {w : World} {k : Nat} {a b c : Value} (h : Bx w k #[a, b, c]) : w.frozen? ⟨k, 0, none⟩ = false ∧ w.frozen? ⟨k, 1, none⟩ = false ∧ w.frozen? ⟨k, 2, none⟩ = false := ⟨h.free 0, h.free 1, h.free 2⟩

def takK (a b c : Int) : Nat → Array Value
  | 0 => #[.int .i64 0, .int .i64 0, .int .i64 0]
  | 1 => #[.int .i64 a, .int .i64 0, .int .i64 0]
  | 2 => #[.int .i64 a, .int .i64 b, .int .i64 0]
  | _ => #[.int .i64 a, .int .i64 b, .int .i64 c]

set_option maxHeartbeats 1000000 in
theorem slotBook_any (A : Option Addr) (l : List UInt8) (n c : Nat) (w : World) (hn : n = l.length) (hS : Sl w A n c (l.map bv)) :
    Calls Tryz.prog 96 #[.slice A n c] w fun e w' => e = .returned (.tuple #[.int .i64 n, .int .i64 (crc l : Nat)]) ∧ w = w' := by
  have HS := Lib.hid (numSum_n A l n c w hn hS)
  clear hS hn
  go_enter Tryz.func96, Tryz.ntmps96
  go_wp2_with (go_at_call 120; refine HS.out.mono ?_; rintro e w' ⟨rfl, rfl⟩)
  go_ret2
  exact ⟨rfl, rfl⟩
set_option maxHeartbeats 1000000 in
theorem ref03Book_any (A : Option Addr) (l : List UInt8) (n c : Nat) (w : World) (hn : n = l.length) (hS : Sl w A n c (l.map bv)) :
    Calls Tryz.prog 57 #[.slice A n c] w fun e w' => e = .returned (.tuple #[.int .i64 n, .int .i64 (crc l : Nat)]) ∧ w = w' := by
  have HS := Lib.hid (ref01Sum_n A l n c w hn hS)
  clear hS hn
  go_enter Tryz.func57, Tryz.ntmps57
  go_wp2_with (go_at_call 88; refine HS.out.mono ?_; rintro e w' ⟨rfl, rfl⟩)
  go_ret2
  exact ⟨rfl, rfl⟩
end Go.Proofs.YtnlkakbpcdfgfaaGreat
namespace Go.Proofs.YtnlkakbpcdfgfaaGreat
set_option maxRecDepth 20000
open Go.RowKit
attribute [local go_sem ↓] Go.wp_at_zero Go.wp_at_succ

theorem countP_take1 {α : Type} (l : List α) (p : α → Bool) (k : Nat) (hk : k < l.length) : (l.take (k + 1)).countP p = (l.take k).countP p + (if p l[k] then 1 else 0) := by
  rw [List.take_succ_eq_append_getElem hk, List.countP_append]; simp [List.countP_cons]
end Go.Proofs.YtnlkakbpcdfgfaaGreat
namespace Go.Proofs.YtnlkakbpcdfgfaaGreat
set_option maxRecDepth 20000
open Go.RowKit
attribute [local go_sem ↓] Go.wp_at_zero Go.wp_at_succ

theorem all_no {it : List It} {p : It → Bool} {k : Nat} (hk : k < it.length) (h : p it[k] = false) : it.all p = false := by
  rw [List.all_eq_false]; exact ⟨it[k], List.getElem_mem hk, by simp [h]⟩
theorem all_yes {it : List It} {p : It → Bool} (h : ∀ j (hj : j < it.length), p it[j] = true) : it.all p = true := by
  rw [List.all_eq_true]; intro x hx
  obtain ⟨j, hj, rfl⟩ := List.mem_iff_getElem.1 hx
  exact h j hj
theorem Bx.read4 {w : World} {k : Nat} {a b c d : Value} (h : Bx w k #[a, b, c, d]) : w.cell? ⟨k, 0, none⟩ = some a ∧ w.cell? ⟨k, 1, none⟩ = some b ∧ w.cell? ⟨k, 2, none⟩ = some c ∧ w.cell? ⟨k, 3, none⟩ = some d :=
  ⟨h.at 0 _ rfl, h.at 1 _ rfl, h.at 2 _ rfl, h.at 3 _ rfl⟩
end Go.Proofs.YtnlkakbpcdfgfaaGreat
namespace Go.Proofs.YtnlkakbpcdfgfaaGreat
set_option maxRecDepth 20000
open Go.RowKit
attribute [local go_sem ↓] Go.wp_at_zero Go.wp_at_succ

theorem rightH_no {l : List HC} {keep : Int} (h : ¬ ((1 ≤ l.length ∧ l.length ≤ 2000) ∧ (0 ≤ keep ∧ keep ≤ l.length))) : rightH ⟨l, keep⟩ = false := by
  unfold rightH; simp only; rw [decide_eq_false h]; rfl
theorem rightH_bad {l : List HC} {keep : Int} {k : Nat} (hk : k < l.length) (h : cellR l.length l[k] = false) : rightH ⟨l, keep⟩ = false := by
  unfold rightH; simp only
  rw [show l.all (cellR l.length) = false from by rw [List.all_eq_false]; exact ⟨l[k], List.getElem_mem hk, by simp [h]⟩]
  simp
theorem rightH_yes {l : List HC} {keep : Int} (h : (1 ≤ l.length ∧ l.length ≤ 2000) ∧ (0 ≤ keep ∧ keep ≤ l.length)) (h2 : ∀ k (hk : k < l.length), cellR l.length l[k] = true) : rightH ⟨l, keep⟩ = true := by
  unfold rightH; simp only
  rw [decide_eq_true h, show l.all (cellR l.length) = true from by
    rw [List.all_eq_true]; intro x hx
    obtain ⟨j, hj, rfl⟩ := List.mem_iff_getElem.1 hx
    exact h2 j hj]
  rfl
theorem rightH_iff {l : List HC} {keep : Int} (h : rightH ⟨l, keep⟩ = true) : ((1 ≤ l.length ∧ l.length ≤ 2000) ∧ (0 ≤ keep ∧ keep ≤ l.length)) ∧ ∀ k (hk : k < l.length), cellR l.length l[k] = true := by
  unfold rightH at h
  simp only [Bool.and_eq_true, decide_eq_true_eq, List.all_eq_true] at h
  exact ⟨h.1, fun k hk => h.2 _ (List.getElem_mem hk)⟩

def mayH (h : Hp) (most : Int) : Bool := smallH h most && rightH h
end Go.Proofs.YtnlkakbpcdfgfaaGreat
