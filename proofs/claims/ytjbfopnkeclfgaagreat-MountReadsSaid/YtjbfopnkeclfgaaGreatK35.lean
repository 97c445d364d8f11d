/- Items, nodes and their blocks, as plain lists and bytes; slices of items. No program in sight but bytes' own. Walks of the reference's Items and Right. Walk of the reference's Right. Walks of isNumber, mark and Right of package node. Walk of the reference's Print. Walk of Print of package node. Walks of the reference's Same, At and With. Walk of the reference's With. Walk of the reference's Parse. -/
import Derived.Test.YtjbfopnkeclfgaaGreatK05
import Derived.Test.YtjbfopnkeclfgaaGreatK34
import Derived.Test.YtjbfopnkeclfgaaGreatK04
import Derived.Test.YtjbfopnkeclfgaaGreatK03
import Derived.Deep.QuietTactic
import Derived.BigQuiet
import Derived.ChangeSame
import Derived.Deep.AppendLies
import Derived.Deep.RegionHeld3
import Derived.Deep.DeepCutAuto
import Derived.Deep.DrawnRows
import Derived.RegionTactic
import Derived.StillTailTactics
import Derived.Test.YtjbfopnkeclfgaaGreatK07
namespace Go.Proofs.YtjbfopnkeclfgaaGreat
set_option maxRecDepth 20000
open Go.RowKit

instance (x : It) : Decidable (okIt x) := by unfold okIt; infer_instance
instance (l : List It) : Decidable (NdR l) := by unfold NdR; infer_instance
def itB (x : It) : List UInt8 := putL x.1.toNat 4 ++ putL x.2.toNat 4
theorem itB_length (x : It) : (itB x).length = 8 := by simp [itB, putL_length]
def itsB (l : List It) : List UInt8 := l.flatMap itB
theorem itsB_length (l : List It) : (itsB l).length = l.length * 8 := by
  induction l with
  | nil => rfl
  | cons x l ih => simp only [itsB, List.flatMap_cons, List.length_append, itB_length, List.length_cons] at *; omega
theorem itsB_append (l m : List It) : itsB (l ++ m) = itsB l ++ itsB m := by simp [itsB]
def ndH (leaf : Bool) (n : Nat) : List UInt8 := [if leaf then 1 else 2, UInt8.ofNat n]
def ndL (leaf : Bool) (l : List It) : List UInt8 := ndH leaf l.length ++ itsB l
theorem ndL_length (leaf : Bool) (l : List It) : (ndL leaf l).length = 2 + l.length * 8 := by simp [ndL, ndH, itsB_length]; omega
def ndB (leaf : Bool) (l : List It) : ByteArray := if ndR l then sealB (ndL leaf l) else ⟨#[]⟩
def ndE (l : List It) : Int := if ndR l then 0 else 1
def rawIt (o : List UInt8) : Nat → List It
  | 0 => []
  | n + 1 => rawIt o n ++ [(((leNat ((o.drop (2 + 8 * n)).take 4) : Nat) : Int), ((leNat ((o.drop (6 + 8 * n)).take 4) : Nat) : Int))]
theorem rawIt_length (o : List UInt8) (n : Nat) : (rawIt o n).length = n := by
  induction n with
  | zero => rfl
  | succ n ih => simp [rawIt, ih]
def rawLeaf (o : List UInt8) : Bool := o[0]? == some 1
def rawN (o : List UInt8) : Nat := (o[1]?.getD 0).toNat
/-- P4.1: what node a block is. -/
def ndP (b : ByteArray) : Option (Bool × List It) :=
  if openE b.data.toList = 0 ∧ rawN (openL b.data.toList) ≤ 4 ∧ ndR (rawIt (openL b.data.toList) (rawN (openL b.data.toList))) = true ∧ ndB (rawLeaf (openL b.data.toList)) (rawIt (openL b.data.toList) (rawN (openL b.data.toList))) = b
  then some (rawLeaf (openL b.data.toList), rawIt (openL b.data.toList) (rawN (openL b.data.toList))) else none
def ndPL (b : ByteArray) : Bool := match ndP b with | some p => p.1 | none => false
def ndPI (b : ByteArray) : List It := match ndP b with | some p => p.2 | none => []
def ndPE (b : ByteArray) : Int := if (ndP b).isSome then 0 else 2

theorem rawIt_take (l : List It) (h : ∀ x ∈ l, okIt x) (p : List UInt8) (hp : p.length = 2) (m : List UInt8) : ∀ k, k ≤ l.length → rawIt (p ++ (itsB l ++ m)) k = l.take k
  | 0, _ => rfl
  | k + 1, hk => by
    have hk' : k < l.length := hk
    rw [rawIt, rawIt_take l h p hp m k (by omega), List.take_succ_eq_append_getElem hk']
    have hx := h l[k] (List.getElem_mem hk')
    generalize hxe : l[k] = x at *
    unfold okIt at hx
    have l4 := fun n => putL_length 4 n
    have hs : itsB l = itsB (l.take k) ++ (itB x ++ itsB (l.drop (k + 1))) := by
      conv => lhs; rw [← List.take_append_drop k l, List.drop_eq_getElem_cons hk', hxe]
      rw [itsB_append]; simp [itsB]
    have hl : (itsB (l.take k)).length = k * 8 := by rw [itsB_length, List.length_take, Nat.min_eq_left (by omega)]
    have e1 : p ++ (itsB l ++ m) = (p ++ itsB (l.take k)) ++ (putL x.1.toNat 4 ++ (putL x.2.toNat 4 ++ (itsB (l.drop (k + 1)) ++ m))) := by rw [hs]; simp [itB]
    have e2 : p ++ (itsB l ++ m) = (p ++ itsB (l.take k) ++ putL x.1.toNat 4) ++ (putL x.2.toNat 4 ++ (itsB (l.drop (k + 1)) ++ m)) := by rw [hs]; simp [itB]
    have t1 : ((p ++ (itsB l ++ m)).drop (2 + 8 * k)).take 4 = putL x.1.toNat 4 := by
      rw [e1, List.drop_left' (by rw [List.length_append, hp, hl]; omega), List.take_append_of_le_length (by rw [l4]; exact Nat.le_refl _), List.take_of_length_le (by rw [l4]; exact Nat.le_refl _)]
    have t2 : ((p ++ (itsB l ++ m)).drop (6 + 8 * k)).take 4 = putL x.2.toNat 4 := by
      rw [e2, List.drop_left' (by rw [List.length_append, List.length_append, hp, hl, l4]; omega), List.take_append_of_le_length (by rw [l4]; exact Nat.le_refl _), List.take_of_length_le (by rw [l4]; exact Nat.le_refl _)]
    rw [t1, t2, leNat_putL, leNat_putL]
    congr 2
    exact Prod.ext (by show ((x.1.toNat % 256 ^ 4 : Nat) : Int) = x.1; omega) (by show ((x.2.toNat % 256 ^ 4 : Nat) : Int) = x.2; omega)
theorem rawIt_app (l : List It) (h : ∀ x ∈ l, okIt x) (p : List UInt8) (hp : p.length = 2) (m : List UInt8) : rawIt (p ++ (itsB l ++ m)) l.length = l := by
  rw [rawIt_take l h p hp m l.length (Nat.le_refl _), List.take_length]
theorem nd_open (leaf : Bool) (l : List It) (h : ndR l = true) : openE (ndB leaf l).data.toList = 0 ∧ rawN (openL (ndB leaf l).data.toList) = l.length ∧ rawLeaf (openL (ndB leaf l).data.toList) = leaf ∧ rawIt (openL (ndB leaf l).data.toList) l.length = l := by
  have hN := (ndR_iff l).1 h
  have ho := open_sealB (ndL leaf l)
  have hl := ndL_length leaf l
  have h4 := hN.1
  unfold ndB
  rw [if_pos h]
  refine ⟨by rw [ho.2.1, if_pos (by omega)], ?_⟩
  rw [ho.1]
  unfold unsealed padL
  rw [if_pos (by omega)]
  unfold ndL
  rw [List.append_assoc]
  refine ⟨?_, ?_, rawIt_app l hN.ok _ rfl _⟩
  · unfold rawN ndH
    simp
    omega
  · unfold rawLeaf ndH
    cases leaf <;> simp
end Go.Proofs.YtjbfopnkeclfgaaGreat
namespace Go.Proofs.YtjbfopnkeclfgaaGreat
set_option maxRecDepth 20000
open Go.RowKit

end Go.Proofs.YtjbfopnkeclfgaaGreat
namespace Go.Proofs.YtjbfopnkeclfgaaGreat
set_option maxRecDepth 20000
open Go.RowKit

end Go.Proofs.YtjbfopnkeclfgaaGreat
namespace Go.Proofs.YtjbfopnkeclfgaaGreat
set_option maxRecDepth 20000
open Go.RowKit

set_option maxHeartbeats 400000 in
theorem nodeMark_any (leaf : Bool) (v : Value) (w : World) :
    Calls Tryz.prog 120 #[.agg #[.bool leaf, v]] w fun e w' => e = .returned (.int .u8 (if leaf then 1 else 2)) ∧ Ext w w' := by
  have HX := Lib.hid ((Ext.refl w).alloc (.cells #[.bool leaf, v] 59))
  obtain ⟨b0, b1, b2⟩ := (Bx.new w #[.bool leaf, v] 59).read2
  cases leaf
  all_goals
    go_enter Tryz.func120, Tryz.ntmps120
    go_wp2
    go_ret
    exact ⟨rfl, HX.out⟩

end Go.Proofs.YtjbfopnkeclfgaaGreat
namespace Go.Proofs.YtjbfopnkeclfgaaGreat
set_option maxRecDepth 20000
open Go.RowKit

theorem ndH_val (leaf : Bool) (n : Nat) (hn : n ≤ 4) : (ndH leaf n).map bv = [.int .u8 (if leaf then 1 else 2), .int .u8 (n : Int)] := by
  have e : n % 256 = n := by omega
  cases leaf <;> simp [ndH, bv, e] <;> omega
theorem itsB_take (l : List It) (k : Nat) (hk : k < l.length) : itsB (l.take (k + 1)) = itsB (l.take k) ++ (putL l[k].1.toNat 4 ++ putL l[k].2.toNat 4) := by
  rw [List.take_succ_eq_append_getElem hk, itsB_append]; simp [itsB, itB]

end Go.Proofs.YtjbfopnkeclfgaaGreat
namespace Go.Proofs.YtjbfopnkeclfgaaGreat
set_option maxRecDepth 20000
open Go.RowKit
attribute [local go_sem ↓] Go.wp_at_zero Go.wp_at_succ

set_option maxRecDepth 100000 in
set_option maxHeartbeats 800000 in
theorem nodePrint_any (leaf : Bool) (A : Option Addr) (l : List It) (n c : Nat) (w : World) (hn : n = l.length) (hA : Sl w A n c (ivs l)) :
    Calls Tryz.prog 75 #[.agg #[.bool leaf, .slice A n c]] w fun e w' => e = .returned (.tuple #[.string (ndB leaf l), .int .i64 (ndE l)]) ∧ Ext w w' := by
  have X0 := Lib.hid ((Ext.refl w).alloc (.cells #[.bool leaf, .slice A n c] 59))
  have B0 := Lib.hid (Bx.new w #[.bool leaf, .slice A n c] 59)
  have HR := Lib.hid (fun w' (hx : Ext w w') => nodeRight_any leaf A l n c w' hn (hA.ext hx))
  obtain ⟨p0, p1, p2⟩ := B0.out.read2
  unfold ndB ndE
  cases hs : ndR l
  · rw [hs] at HR
    clear hs hA hn
    go_enter Tryz.func75, Tryz.ntmps75
    go_wp2_with (go_at_call 80; refine (HR.out _ X0.out).mono ?_; rintro e w1 ⟨rfl, hx⟩; have HX := Lib.hid (X0.out.trans hx); clear hx)
    go_ret2
    exact ⟨rfl, HX.out⟩
  · have hN := (ndR_iff l).1 hs
    rw [hs] at HR
    have h4 : n ≤ 4 := by have := hN.1; omega
    have h1 : 1 ≤ n := by have := hN.1; omega
    have HOK := Lib.hid hN.2
    have HA := Lib.hid hA
    have HN := Lib.hid hn
    have hcv : IntKind.u8.wrap (n : Int) = (n : Int) := by rw [IntKind.wrap_u8]; omega
    have HMK := Lib.hid (fun w' => nodeMark_any leaf (.slice A n c) w')
    have HV0 := Lib.hid (ndH_val leaf n h4)
    obtain ⟨mk, hmk⟩ : ∃ mk : Int, (if leaf then 1 else 2 : Int) = mk := ⟨_, rfl⟩
    rw [hmk] at HMK HV0
    clear hs hA hN hn hmk
    go_enter Tryz.func75, Tryz.ntmps75
    go_wp2_with (go_at_call 80; refine (HR.out _ X0.out).mono ?_; rintro e w1 ⟨rfl, hx⟩; have HX1 := Lib.hid (X0.out.trans hx); have HB1 := Lib.hid (B0.out.ext hx); clear p0 p1 p2; obtain ⟨b0, b1, b2⟩ := HB1.out.read2; clear hx)
    go_cut [4] from 10 to 17 (fun v wx => ∃ A' c', v = .slice A' 2 c' ∧ wx.ownsRow (w.heap.size + 1) 5 1 (.slice A' 2 c') 2 ((ndH leaf n ++ itsB (l.take 0)).map bv) ∧ Ext w wx ∧ Bx wx w.heap.size #[.bool leaf, .slice A n c])
    case first =>
      go_region_law
        (first
          | ((go_simp
              go_at_call 120
              refine (HMK.out _).mono ?_
              rintro e w2 ⟨rfl, hx⟩
              have HX2 := Lib.hid (HX1.out.trans ((show Ext w1 w2 from by (first | exact (Ext.refl w1).drew.trans hx | exact hx))))
              have HB2 := Lib.hid (HB1.out.ext ((show Ext w1 w2 from by (first | exact (Ext.refl w1).drew.trans hx | exact hx))))
              obtain ⟨c0, c1, c2⟩ := HB2.out.read2
              clear hx)))
      all_goals
        go_wp2_with fail
        go_meet
        refine ⟨_, _, rfl, ?_, HX2.out.alloc _, HB2.out.ext ((Ext.refl _).alloc _)⟩
        rw [List.map_append, HV0.out]
        exact World.ownsRow_lit (base := w.heap.size + 1) (e := 5) (size := 1) w2 #[.int .u8 mk, .int .u8 (n : Int)] 2 (by omega) (by unfold maxLen; omega) rfl
    case rest =>
      obtain ⟨A0, c0, rfl, ho0, hx0, hb0⟩ := hcut
      have HO := Lib.hid ho0
      have HXL := Lib.hid hx0
      have HBL := Lib.hid hb0
      clear ho0 hx0 b0 b1 b2
      obtain ⟨b0, b1, b2⟩ := hb0.read2
      clear hb0 HX1 HB1
      go_wp2_with fail
      clear b0 b1 b2
      go_loopw [4, 20] (fun v i wr => ∃ k : Nat, k ≤ n ∧ i = .int .i64 k ∧ ∃ A' c', v = .slice A' (2 + 8 * k) c' ∧ wr.ownsRow (w.heap.size + 1) 5 1 (.slice A' (2 + 8 * k) c') (2 + 8 * k) ((ndH leaf n ++ itsB (l.take k)).map bv) ∧ Ext w wr ∧ Bx wr w.heap.size #[.bool leaf, .slice A n c]) (fun _ i _ => n - (intOf i).toNat)
      case atStart => exact ⟨0, by omega, rfl, _, _, rfl, HO.out, HXL.out, HBL.out⟩
      case round =>
        obtain ⟨k, hk, rfl, A1, c1, rfl, ho, hx, hb⟩ := hrel
        have HO1 := Lib.hid ho
        have HX1 := Lib.hid hx
        have HB1 := Lib.hid hb
        obtain ⟨b0, b1, b2⟩ := hb.read2
        by_cases hlt : k < n
        · have hkl : k < l.length := by rw [← HN.out]; exact hlt
          obtain ⟨ba, off, rfl, hba, hc⟩ := (HA.out.cells).it hkl
          have HC := Lib.hid hc
          have hcr := (((HA.out.cells).ext hx).it hkl)
          obtain ⟨ba', off', e', _, hc'⟩ := hcr
          cases e'
          obtain ⟨hck, hcv'⟩ := hc' k hkl
          have hki : (k : Int) < (n : Int) := by omega
          have HT := Lib.hid (itsB_take l k hkl)
          obtain ⟨⟨k1, k2⟩, v1, v2⟩ := (HOK.out k hkl).1
          have HV := Lib.hid (fun w' (hx : Ext w w') => show w'.cell? ⟨ba, off + k * 2 + 1, none⟩ = some (.int .i64 l[k].2) from by
            obtain ⟨b2, o2, e2, _, h2⟩ := ((HA.out.cells).ext hx).it hkl
            cases e2; exact (h2 k hkl).2)
          clear ho hx hb hc hc'
          generalize l[k] = q at *
          obtain ⟨K, V⟩ := q
          simp only at hck hcv' k1 k2 v1 v2
          have HP0 := Lib.hid (fun w' => numPut_n K w' (by omega) (by omega))
          have HP1 := Lib.hid (fun w' => numPut_n V w' (by omega) (by omega))
          go_wp2_with (first | (at_builtin; refine stop_here ?_) | (go_at_call 121; refine (HP0.out _).mono ?_; rintro e w3 ⟨A', cap', rfl, hS, hx⟩; have HS3 := Lib.hid hS; have HX3 := Lib.hid (((Ext.refl wr).alloc (.cells #[.int .i64 K, .int .i64 V] 146)).trans hx); have XB3 := Lib.hid ((Bx.new wr #[.int .i64 K, .int .i64 V] 146).ext hx); clear hS hx))
          refine stop_on ?_
          refine app_bytes _ rfl _ _ rfl (w.heap.size + 1) _ (2 + 8 * k) (ndH leaf n ++ itsB (l.take k)) rfl (own_below HO1.out HX3.out) A' 4 cap' (putL K.toNat 4) rfl (putL_length 4 _) HS3.out.1 HS3.out.cells (by omega) (by have := HX3.out.size; omega) ?_
          intro A4 c4 w4 hown hg4
          have HX4 := Lib.hid (show Ext w w4 from Below.grown (HX1.out.trans HX3.out) hg4 (by have := HX1.out.size; have := HX3.out.size; omega) (fun q hq => by have := ((own_below HO1.out HX3.out).lt q hq).1; omega))
          have HB4 := Lib.hid ((HB1.out.ext HX3.out).grown hg4 (own_old (own_below HO1.out HX3.out) (by omega)))
          have HO4 := Lib.hid hown
          have XB4 := Lib.hid (XB3.out.grown hg4 (fun e => by have := (HO1.out.lt _ e).2; omega))
          obtain ⟨x0, x1, x2⟩ := XB4.out.read2
          clear hown hg4 HO1 HX3 HS3 HB1
          go_wp2_with (first | (at_builtin; refine stop_here ?_) | (go_at_call 121; refine (HP1.out _).mono ?_; rintro e w5 ⟨A', cap', rfl, hS, hx⟩; have HS5 := Lib.hid hS; have HX5 := Lib.hid hx; clear hS hx))
          refine stop_on ?_
          refine app_bytes _ rfl _ _ rfl (w.heap.size + 1) _ (2 + 8 * k + 4) (ndH leaf n ++ itsB (l.take k) ++ putL K.toNat 4) rfl (own_below HO4.out HX5.out) A' 4 cap' (putL V.toNat 4) rfl (putL_length 4 _) HS5.out.1 HS5.out.cells (by omega) (by have := HX5.out.size; omega) ?_
          intro A6 c6 w6 hown hg6
          have HX6 := Lib.hid (show Ext w w6 from Below.grown (HX4.out.trans HX5.out) hg6 (by have := HX4.out.size; have := HX5.out.size; omega) (fun q hq => by have := ((own_below HO4.out HX5.out).lt q hq).1; omega))
          have HB6 := Lib.hid ((HB4.out.ext HX5.out).grown hg6 (own_old (own_below HO4.out HX5.out) (by omega)))
          have HO6 := Lib.hid (show w6.ownsRow (w.heap.size + 1) 5 1 (.slice A6 (2 + 8 * (k + 1)) c6) (2 + 8 * (k + 1)) ((ndH leaf n ++ itsB (l.take (k + 1))).map bv) from by
            rw [HT.out, show 2 + 8 * (k + 1) = 2 + 8 * k + 4 + 4 by omega]
            simpa only [List.append_assoc] using hown)
          rw [show 2 + 8 * k + 4 + 4 = 2 + 8 * (k + 1) by omega]
          clear hown hg6 HO4 HX5 HS5 HB4
          go_wp2
          go_roundw
          case rel => exact ⟨k + 1, by omega, by go_num, A6, c6, rfl, HO6.out, HX6.out, HB6.out⟩
          case measure => simp [intOf]; omega
        · obtain rfl : k = n := by omega
          have hnl : l.take k = l := by rw [HN.out, List.take_length]
          have HSL := Lib.hid (own_sl ho)
          rw [hnl] at HSL
          have HV := Lib.hid (numSeal_n A1 (ndL leaf l) (2 + 8 * k) c1 wr (by rw [ndL_length, ← HN.out]; omega) (by omega) (by have h := HSL.out; unfold ndL; rw [← HN.out]; exact h))
          clear ho hx hb hnl
          go_wp2_with (go_at_call 122; refine HV.out.mono ?_; rintro e w3 ⟨rfl, hx⟩; have HX4 := Lib.hid (HX1.out.trans hx); clear hx)
          go_ret2
          exact ⟨rfl, HX4.out⟩
end Go.Proofs.YtjbfopnkeclfgaaGreat
namespace Go.Proofs.YtjbfopnkeclfgaaGreat
set_option maxRecDepth 20000
open Go.RowKit

end Go.Proofs.YtjbfopnkeclfgaaGreat
namespace Go.Proofs.YtjbfopnkeclfgaaGreat
set_option maxRecDepth 20000
open Go.RowKit

end Go.Proofs.YtjbfopnkeclfgaaGreat
namespace Go.Proofs.YtjbfopnkeclfgaaGreat
set_option maxRecDepth 20000
open Go.RowKit

theorem ndP_no {b : ByteArray} (h : ndP b = none) : ndPL b = false ∧ ndPI b = [] ∧ ndPE b = 2 := by unfold ndPL ndPI ndPE; rw [h]; exact ⟨rfl, rfl, rfl⟩
theorem ndP_yes {b : ByteArray} {f : Bool} {l : List It} (h : ndP b = some (f, l)) : ndPL b = f ∧ ndPI b = l ∧ ndPE b = 0 := by unfold ndPL ndPI ndPE; rw [h]; exact ⟨rfl, rfl, rfl⟩

end Go.Proofs.YtjbfopnkeclfgaaGreat
