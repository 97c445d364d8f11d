/- The contract of anew of package grow. Walks of root and loose of package grow. What Put and Fill answer. Walks of used, next and Need of package tree. A range over a function whose iterator keeps boxes of its own that it writes: what it asks of a round, what a round asks of it, and the law of the loop. -/
import Derived.Test.YtkoomcbiddanfaaGreatK23
import Derived.Test.YtkoomcbiddanfaaGreatK24
import Derived.Test.YtkoomcbiddanfaaGreatK21
import Derived.Test.YtkoomcbiddanfaaGreatK18
import Derived.Test.YtkoomcbiddanfaaGreatK16
import Derived.RangeFuncNested
import Derived.RangeFuncBound
import Derived.RangeFuncCalls
import Derived.RangeFuncLeaves
import Derived.RangeFuncBox
import Derived.Shelf.Abstract
import Derived.Shelf.RegionOpen
import Derived.OwnWalkIn
import Derived.TacticsInMore
import Derived.LoopNIn
import Derived.LoopIn
namespace Go.Proofs.YtkoomcbiddanfaaGreat
open Go.RowKit

theorem alloc_leaf_held (l : List HC) (it : List It) (held : List Int) : allocL l true it held = allocL l true it [] := by unfold allocL; simp
theorem lay_leaf_held (held : List Int) : ∀ (rows : List (List It)) (c : List HC), layS true held rows c = layS true [] rows c
  | [], _ => rfl
  | r :: rs, c => by rw [layS, layS, alloc_leaf_held c r held, lay_leaf_held held rs]
theorem ok_leaf_held {keep : Int} (held : List Int) : ∀ (rows : List (List It)) (c : List HC), okS keep true [] rows c → okS keep true held rows c
  | [], _, _ => trivial
  | r :: rs, c, h => ⟨h.1, h.2.1, by rw [alloc_leaf_held c r held]; exact ok_leaf_held held rs _ h.2.2⟩
theorem layP_length (leaf : Bool) (held : List Int) : ∀ (rows : List (List It)) (c : List HC), (layS leaf held rows c).2.length = rows.length
  | [], _ => rfl
  | r :: rs, c => by rw [layS, List.length_cons, List.length_cons, layP_length leaf held rs]
theorem atP_leaf_ok {it : List It} (h : NdR it) (key : Int) : atC it key + (if atB it key then 1 else 0) ≤ it.length := by
  have hle : atC it key ≤ it.length := List.countP_le_length
  cases hb : atB it key
  · simpa using hle
  · obtain ⟨k, hk, hke⟩ := atB_ex hb
    have := atC_at h hk hke
    simp; omega
/-- A node, made anew with an item. -/
theorem growAnew_any {keep : Int} : ∀ (m : Nat) (c : List HC) (p : Int) (x : It) (e : Int) (b n : Nat) (high : Int) (w : World), m ≤ 20 → rightH ⟨c, keep⟩ = true → (∀ k (hk : k < c.length), c[k].ref ≤ 1000000) → okIt x → 0 ≤ p → p < c.length → (bel c m p).is = true → (bel c 20 p).hi < e → x.1 < e →
    2 * (bel c 20 p).high ≤ (c.countP freeC : Nat) → high = (bel c 20 p).high → HBd w b keep n c →
    Calls Tryz.prog 24 #[.pointer (some ⟨b, 0, none⟩), .int .i64 p, .int .i64 high, .agg #[.int .i64 x.1, .int .i64 x.2]] w fun e w' => ∃ O z, e = .returned (.slice O (anewS m c p x).2.length z) ∧ Sl w' O (anewS m c p x).2.length z (ivs (anewS m c p x).2) ∧ HBd w' b keep n (anewS m c p x).1 ∧ Gx b keep w w'
  | 0, _, _, _, _, _, _, _, _, _, _, _, _, _, _, hb, _, _, _, _, _ => (bel_zero hb).elim
  | m + 1, c, p, x, e, b, n, high, w, hm, hr, hs, hx, h0, h1, hb, he, hxe, hf, hhi, hB => by
    have hO := anewO_ok (m + 1) c p x e hm hr hs hx h0 h1 hb he hxe hf
    obtain ⟨k, rfl⟩ := Int.eq_ofNat_of_zero_le h0
    have hk : k < c.length := by omega
    have hb20 : (bel c 20 (k : Int)).is = true := by rw [bel_mono c (m + 1) 20 _ hb hm]; exact hb
    obtain ⟨hrf, hc⟩ := bel_is hb
    rw [cellT_at hk] at hrf hc
    have hok := cell_ok ((rightH_iff hr).2 k hk) hrf
    have hnd : ndR c[k].it = true := (ndR_iff _).2 hok.1
    have hl4 := hok.1.1
    have hpos := bel_pos c (allR_of hr) 20 (k : Int) (by omega) (by omega) hb20
    have hbh := bel_high c 20 (k : Int)
    rcases hc with ⟨hlf, _⟩ | ⟨hlf, _, hch⟩
    · have hdef : anewS (m + 1) c (k : Int) x = layS true [x.2] (splitS (withS c[k].it (atC c[k].it x.1) (if atB c[k].it x.1 then 1 else 0) [x])) c := by
        rw [anewS, cellT_at hk, hlf, if_pos rfl, atI_leaf, Int.toNat_natCast, lay_leaf_held [x.2]]
      have hok2 : okS keep true [x.2] (splitS (withS c[k].it (atC c[k].it x.1) (if atB c[k].it x.1 then 1 else 0) [x])) c := by
        rw [anewO, cellT_at hk, hlf, if_pos rfl, atI_leaf, Int.toNat_natCast] at hO
        exact ok_leaf_held _ _ _ hO
      rw [hdef, layP_length]
      have hle := atP_leaf_ok hok.1 x.1
      have hwl : (withS c[k].it (atC c[k].it x.1) (if atB c[k].it x.1 then 1 else 0) [x]).length = atC c[k].it x.1 + 1 + (c[k].it.length - (atC c[k].it x.1 + (if atB c[k].it x.1 then 1 else 0))) := by
        unfold withS
        rw [List.length_append, List.length_append, List.length_take, List.length_drop, List.length_singleton, Nat.min_eq_left (by omega)]
      obtain ⟨s1, s2, s3, s4⟩ := split_rows (xs := withS c[k].it (atC c[k].it x.1) (if atB c[k].it x.1 then 1 else 0) [x]) (by omega) (by omega)
      refine growAnew_leaf b n c[k].it.length keep (k : Int) high c c[k].it _ x w hB hok2 s2 s4 (by omega) (fun w' hx' => ?_) (fun w' A cc B d hI hM => ?_)
      · have h := growFound_some b n k keep high c w' (by omega) (hB.ext hx') hk hnd
        rw [hlf] at h
        exact h
      · have h := growGrown_at true (atB c[k].it x.1) A B c[k].it [x] c[k].it.length 1 cc d (atC c[k].it x.1) (if atB c[k].it x.1 then 1 else 0) x.1 w' rfl rfl (by cases atB c[k].it x.1 <;> rfl) (by omega) (by omega) (by omega) hI hM (fun w2 hx2 => by
          have h := nodeAt_any true A c[k].it c[k].it.length cc x.1 w2 rfl hnd (hI.ext hx2)
          rw [atI_leaf] at h
          exact h)
        rw [← hwl] at h
        exact h
    · obtain ⟨hi, _⟩ := at_low hok.1 x.1
      have hcd : childT c[k].it x.1 = c[k].it[(atI false c[k].it x.1).toNat] := itD_at hi
      have hcm : childT c[k].it x.1 ∈ c[k].it := by rw [hcd]; exact List.getElem_mem hi
      have hat : atI false c[k].it x.1 = ((atI false c[k].it x.1).toNat : Int) := by
        rw [Int.toNat_of_nonneg]; unfold atI; split <;> omega
      obtain ⟨Rw, -, -, -⟩ := row_of_bel hr hk hb20 he
      rw [hlf] at Rw
      have hrow := (Rw.inn rfl).2.2 _ hi
      rw [← hcd] at hrow
      obtain ⟨e', he1, he2⟩ : ∃ e', (bel c 20 (childT c[k].it x.1).2).hi < e' ∧ x.1 < e' := by
        rcases Int.lt_or_le (bel c 20 (childT c[k].it x.1).2).hi x.1 with h | h
        · exact ⟨x.1 + 1, by omega, by omega⟩
        · exact ⟨(bel c 20 (childT c[k].it x.1).2).hi + 1, by omega, by omega⟩
      obtain ⟨a, AN⟩ := anew_ok m c (childT c[k].it x.1).2 x e' (by omega) hr hs hx (hok.2 hlf _ hcm).1 (hok.2 hlf _ hcm).2 (hch _ hcm).1 he1 he2 (by omega)
      have IH := fun w' (hx' : Ext w w') => growAnew_any m c (childT c[k].it x.1).2 x e' b n (high - 1) w' (by omega) hr hs hx (hok.2 hlf _ hcm).1 (hok.2 hlf _ hcm).2 (hch _ hcm).1 he1 he2 (by omega) (by omega) (hB.ext hx')
      have hdef : anewS (m + 1) c (k : Int) x = layS false ((anewS m c (childT c[k].it x.1).2 x).2.map (·.2)) (splitS (withS c[k].it (atI false c[k].it x.1).toNat 1 (anewS m c (childT c[k].it x.1).2 x).2)) (anewS m c (childT c[k].it x.1).2 x).1 := by
        rw [anewS, cellT_at hk, hlf, if_neg (by simp)]
      have hO2 : okS keep false ((anewS m c (childT c[k].it x.1).2 x).2.map (·.2)) (splitS (withS c[k].it (atI false c[k].it x.1).toNat 1 (anewS m c (childT c[k].it x.1).2 x).2)) (anewS m c (childT c[k].it x.1).2 x).1 := by
        rw [anewO, cellT_at hk, hlf, if_neg (by simp)] at hO
        exact hO.2
      rw [hdef, layP_length]
      have hAl := AN.len
      generalize anewS m c (childT c[k].it x.1).2 x = r at *
      have hwl : (withS c[k].it (atI false c[k].it x.1).toNat 1 r.2).length = (atI false c[k].it x.1).toNat + r.2.length + (c[k].it.length - ((atI false c[k].it x.1).toNat + 1)) := by
        unfold withS
        rw [List.length_append, List.length_append, List.length_take, List.length_drop, Nat.min_eq_left (by omega)]
      obtain ⟨s1, s2, s3, s4⟩ := split_rows (xs := withS c[k].it (atI false c[k].it x.1).toNat 1 r.2) (by omega) (by omega)
      refine growAnew_other b n k (atI false c[k].it x.1).toNat keep high c r.1 _ r.2 x w hB hk hlf hnd ⟨by omega, by omega⟩ hat hi hAl.2 rfl hO2 s2 s4 (fun w' hx' => ?_)
      rw [← hcd]; exact IH w' hx'
/-- Of no tree: a leaf of that item. -/
theorem growAnew_none {keep : Int} (b n : Nat) (high : Int) (c : List HC) (x : It) (w : World) (hr : rightH ⟨c, keep⟩ = true) (h0 : allocE c true [x] = 0) (hB : HBd w b keep n c) :
    Calls Tryz.prog 24 #[.pointer (some ⟨b, 0, none⟩), .int .i64 (-1), .int .i64 high, .agg #[.int .i64 x.1, .int .i64 x.2]] w fun e w' => ∃ O z, e = .returned (.slice O 1 z) ∧ Sl w' O 1 z (ivs [(x.1, (allocP c true [x] : Int))]) ∧ HBd w' b keep n (allocL c true [x] []) ∧ Gx b keep w w' := by
  have hsp : splitS [x] = [[x]] := splitS_few (by simp) (by simp)
  have h := growAnew_leaf b n 0 keep (-1) high c [] [x] x w hB (by rw [hsp]; exact ⟨hr, h0, trivial⟩) (by rw [hsp]; intro r hr; simp at hr; subst hr; simp) (by rw [hsp]; simp) (by simp) (fun w' _ => (growFound_none b high w').mono (fun e w2 h => ⟨none, 0, h.1, Sl.nil _, h.2⟩)) (fun w' A cc B d hI hM => by
    exact growGrown_at true false A B [] [x] 0 1 cc d 0 0 x.1 w' rfl rfl rfl (by omega) (by omega) (by omega) hI hM (fun w2 _ => nodeAtNone_any A cc x.1 w2))
  rw [hsp, lay_leaf_held] at h
  exact h
end Go.Proofs.YtkoomcbiddanfaaGreat
namespace Go.Proofs.YtkoomcbiddanfaaGreat
open Go.RowKit
attribute [local go_sem ↓] Go.wp_at_zero Go.wp_at_succ

set_option maxRecDepth 100000 in
set_option maxHeartbeats 1600000 in
theorem growRoot_any (b n : Nat) (keep : Int) (c : List HC) (A : Option Addr) (L : List It) (m cc : Nat) (w : World) (hr : rightH ⟨c, keep⟩ = true) (hL : 1 ≤ m ∧ m ≤ 2) (hok : 1 < L.length → allocE c false L = 0) (hB : HBd w b keep n c) (hm : m = L.length) (hI : Sl w A m cc (ivs L)) :
    Calls Tryz.prog 23 #[.pointer (some ⟨b, 0, none⟩), .slice A m cc] w fun e w' => e = .returned (.int .i64 (topS c L).2) ∧ HBd w' b keep n (topS c L).1 ∧ Gx b keep w w' := by
  rcases (show m = 1 ∨ m = 2 by omega) with rfl | rfl
  · have ht : topS c L = (c, (L[0]'(by omega)).2) := by
      unfold topS
      rw [if_neg (by omega), List.getD_eq_getElem?_getD, List.getElem?_eq_getElem (by omega)]; rfl
    rw [ht]
    obtain ⟨bb, off, rfl, hbb, -, k1⟩ := it_at hI (k := 0) (by omega)
    rw [Nat.zero_mul, Nat.add_zero] at k1
    have HB := Lib.hid hB
    generalize (L[0]'(by omega)).2 = v at *
    clear hok hr hB hI ht hL hm
    go_enter Tryz.func23, Tryz.ntmps23
    go_wp2_with fail
    go_ret
    exact ⟨rfl, HB.out, HB.out.refl⟩
  · have ht : topS c L = (allocL c false L (L.map (·.2)), (allocP c false L : Int)) := by
      unfold topS
      rw [if_pos (by omega)]
    rw [ht]
    have HO := Lib.hid (fun w' (hx : Ext w w') => growOver_any b n keep c A L 2 cc w' hr (hok (by omega)) (by omega) (hB.ext hx) hm (hI.ext hx))
    have HG := Lib.hid (fun w' (hx : Ext w w') => hB.gx hx)
    clear hok hr hB hI ht hL hm
    go_enter Tryz.func23, Tryz.ntmps23
    go_wp2_with (go_at_call 32; refine stop_here ?_)
    refine stop_on ?_
    refine (HO.out _ (by first | exact Ext.refl _ | exact (Ext.refl _).drew)).mono ?_
    rintro e w2 ⟨rfl, hb, hg⟩
    have HB2 := Lib.hid hb
    have HG2 := Lib.hid hg
    clear hb hg
    go_wp2_with fail
    go_ret
    exact ⟨rfl, HB2.out, HG2.out⟩
set_option maxRecDepth 100000 in
set_option maxHeartbeats 800000 in
theorem growLoose_none (b n : Nat) (keep : Int) (c : List HC) (w : World) (hB : HBd w b keep n c) :
    Calls Tryz.prog 25 #[.pointer (some ⟨b, 0, none⟩), .int .i64 (-1)] w fun e w' => e = .returned (.tuple #[]) ∧ HBd w' b keep n c ∧ Gx b keep w w' := by
  have HB := Lib.hid hB
  obtain ⟨S, q, hb, hs⟩ := hB
  obtain ⟨k0, k1, k2, k3⟩ := hb.read3
  clear hb hs
  go_enter Tryz.func25, Tryz.ntmps25
  go_wp2_with fail
  go_end0
  exact ⟨rfl, HB.out, HB.out.refl⟩
set_option maxRecDepth 100000 in
set_option maxHeartbeats 1600000 in
theorem growLoose_some (b n k : Nat) (keep : Int) (c : List HC) (w : World) (hr : rightH ⟨c, keep⟩ = true) (hbd : Bd c) (hu : usedC c (k : Int) = true) (hB : HBd w b keep n c) :
    Calls Tryz.prog 25 #[.pointer (some ⟨b, 0, none⟩), .int .i64 k] w fun e w' => e = .returned (.tuple #[]) ∧ HBd w' b keep n (looseL (c.length + 1) c (k : Int)) ∧ Gx b keep w w' := by
  obtain ⟨S, q, hb, hs⟩ := hB
  have HLO := Lib.hid (fun w' (hx : Ext w w') => heapLoose_any S c n q keep w' (k : Int) hr hbd (hs.ext hx))
  have he : looseE ⟨c, keep⟩ (k : Int) = 0 := by unfold looseE usedH; rw [hu]; rfl
  rw [he] at HLO
  have HNL := Lib.hid (show n = (looseL (c.length + 1) c (k : Int)).length from by rw [(loose_cuts (c.length + 1) c (k : Int)).len]; exact hs.1)
  have HBB := Lib.hid hb
  obtain ⟨k0, k1, k2, k3⟩ := hb.read3
  have d3 : ((k : Int) == -1) = false := by simp
  have d4 : ¬ (k : Int) = -1 := by omega
  have d5 : ((k : Int) != -1) = true := by simp
  clear hb hs hr hbd hu he
  generalize looseL (c.length + 1) c (k : Int) = c2 at *
  go_enter Tryz.func25, Tryz.ntmps25
  go_wp2_with (go_at_call 48; refine stop_here ?_)
  refine stop_on ?_
  refine (HLO.out _ (by first | exact Ext.refl _ | exact (Ext.refl _).drew)).mono ?_
  rintro e w4 ⟨S4, d4, cs, rfl, -, hs4, hat4, hx4⟩
  have HX4 := Lib.hid (show Ext w w4 from by first | exact hx4 | exact (Ext.refl _).drew.trans hx4)
  have HS4 := Lib.hid (show HcSl w4 S4 n d4 c2 from ⟨HNL.out, cs, hs4, hat4⟩)
  have HB4 := Lib.hid (HBB.out.ext HX4.out)
  clear hs4 hat4 hx4 k0 k1 k2 k3
  obtain ⟨k0, k1, k2, k3⟩ := HB4.out.read3
  obtain ⟨f0, f1, f2⟩ := HB4.out.free3
  go_wp2_with fail
  go_end0
  have hst := gx_store HB4.out S4 n d4
  exact ⟨rfl, ⟨S4, d4, hst.1, hst.2.hc HS4.out⟩, (Gx.of_ext HBB.out HX4.out).trans hst.2⟩
end Go.Proofs.YtkoomcbiddanfaaGreat
namespace Go.Proofs.YtkoomcbiddanfaaGreat
open Go.RowKit

/-- What Put answers: cells, root, error. -/
def putR (h : Hp) (root : Int) (x : It) (deep : Bool) : List HC × Int × Int :=
  if okIt x then (if highT h.c root = 20 ∨ fitsH h (2 * highT h.c root + 1) deep = false then (h.c, root, 3) else ((putG h.c root x).1, (putG h.c root x).2, 0)) else (h.c, root, 1)
theorem fits_free {l : List HC} {keep n : Int} {deep : Bool} (hk : 0 ≤ keep) (h : fitsH ⟨l, keep⟩ n deep = true) : n ≤ (l.countP freeC : Nat) := by
  unfold fitsH freeH at h
  rw [decide_eq_true_eq] at h
  simp only at h
  split at h <;> omega
theorem may_keep {l : List HC} {keep most : Int} (h : mayH ⟨l, keep⟩ most = true) : 0 ≤ keep ∧ keep ≤ (l.length : Int) := by
  have h3 := (may_iff h).2.2
  unfold rightH at h3
  rw [Bool.and_eq_true, decide_eq_true_eq] at h3
  exact h3.1.2
/-- Items put one by one, up to the first error. -/
def fillR (keep : Int) : List It → List HC → Int → List HC × Int × Int
  | [], c, root => (c, root, 0)
  | x :: r, c, root => if (putR ⟨c, keep⟩ root x false).2.2 = 0 then fillR keep r (putR ⟨c, keep⟩ root x false).1 (putR ⟨c, keep⟩ root x false).2.1 else (c, root, (putR ⟨c, keep⟩ root x false).2.2)
theorem put_zero {h : Hp} {root : Int} {x : It} {deep : Bool} (h0 : (putR h root x deep).2.2 = 0) : okIt x ∧ highT h.c root ≠ 20 ∧ fitsH h (2 * highT h.c root + 1) deep = true ∧ putR h root x deep = ((putG h.c root x).1, (putG h.c root x).2, 0) := by
  unfold putR at h0 ⊢
  split at h0
  · rename_i hx
    split at h0
    · simp at h0
    · rename_i hf
      rw [not_or, Bool.not_eq_false] at hf
      rw [if_pos hx, if_neg (by rw [not_or, Bool.not_eq_false]; exact hf)]
      exact ⟨hx, hf.1, hf.2, rfl⟩
  · simp at h0
theorem fine_next {c : List HC} {keep root most : Int} {x : It} {deep : Bool} (hmost : most ≤ 60) (hf : fineB ⟨c, keep⟩ root most = true) (h0 : (putR ⟨c, keep⟩ root x deep).2.2 = 0) :
    fineB ⟨(putR ⟨c, keep⟩ root x deep).1, keep⟩ (putR ⟨c, keep⟩ root x deep).2.1 most = true := by
  obtain ⟨hx, hh, hn, e⟩ := put_zero h0
  obtain ⟨hm, _, _⟩ := fine_may hf
  have hb : highT c root < 20 := by
    have : highT c root ≤ 20 := by unfold highT; split; · omega
                                   · exact (bel_high c 20 root).2
    have h2 : highT c root ≠ 20 := hh
    omega
  rw [e]
  exact (fine_put hmost hf hx hb (fits_free (may_keep hm).1 hn)).choose_spec.2
theorem fill_step {keep root : Int} {it : List It} {c : List HC} {j : Nat} (hj : j < it.length) : fillR keep (it.drop j) c root = if (putR ⟨c, keep⟩ root it[j] false).2.2 = 0 then fillR keep (it.drop (j + 1)) (putR ⟨c, keep⟩ root it[j] false).1 (putR ⟨c, keep⟩ root it[j] false).2.1 else (c, root, (putR ⟨c, keep⟩ root it[j] false).2.2) := by
  rw [List.drop_eq_getElem_cons hj, fillR]
end Go.Proofs.YtkoomcbiddanfaaGreat
namespace Go.Proofs.YtkoomcbiddanfaaGreat
open Go.RowKit

/-- Where each cell's node stands. -/
def Lie (w : World) (R : Option Addr) (l : List HC) (A : Nat → Option Addr) (C : Nat → Nat) : Prop := ∀ k (hk : k < l.length), ∃ b off, R = some ⟨b, off, none⟩ ∧ b < w.heap.size ∧
  (w.cell? ⟨b, off + k * 4, none⟩ = some (.int .i64 l[k].ref) ∧ w.cell? ⟨b, off + k * 4 + 2, none⟩ = some (.bool l[k].leaf) ∧ w.cell? ⟨b, off + k * 4 + 3, none⟩ = some (.slice (A k) l[k].it.length (C k))) ∧ Sl w (A k) l[k].it.length (C k) (ivs l[k].it)
theorem lie_ex {w : World} {R : Option Addr} {n q : Nat} {l : List HC} (h : HcSl w R n q l) : ∃ A C, Lie w R l A C := by
  have hc := fun k (hk : k < l.length) => h.cell hk
  refine ⟨fun k => if hk : k < l.length then (hc k hk).choose_spec.choose_spec.2.2.choose else none, fun k => if hk : k < l.length then (hc k hk).choose_spec.choose_spec.2.2.choose_spec.choose else 0, fun k hk => ?_⟩
  simp only [dif_pos hk]
  have h1 := (hc k hk).choose_spec.choose_spec
  have h2 := h1.2.2.choose_spec.choose_spec
  exact ⟨_, _, h1.1, h1.2.1, ⟨h2.1, h2.2.2.1, h2.2.2.2.1⟩, h2.2.2.2.2⟩
theorem Lie.ext {w w' : World} {R : Option Addr} {l : List HC} {A : Nat → Option Addr} {C : Nat → Nat} (h : Lie w R l A C) (hx : Ext w w') : Lie w' R l A C := fun k hk => by
  obtain ⟨b, off, e, hb, ⟨h1, h2, h3⟩, h4⟩ := h k hk
  exact ⟨b, off, e, Nat.lt_of_lt_of_le hb hx.size, ⟨(hx.cell (p := ⟨b, off + k * 4, none⟩) hb).trans h1, (hx.cell (p := ⟨b, off + k * 4 + 2, none⟩) hb).trans h2, (hx.cell (p := ⟨b, off + k * 4 + 3, none⟩) hb).trans h3⟩, h4.ext hx⟩
def NV (l : List HC) (A : Nat → Option Addr) (C : Nat → Nat) (p : Int) : Value := .agg #[.bool (cellT l p).leaf, .slice (A p.toNat) (cellT l p).it.length (C p.toNat)]
def usedV (l : List HC) (A : Nat → Option Addr) (C : Nat → Nat) (p : Int) : Value := if usedC l p then NV l A C p else .agg #[.bool false, .slice none 0 0]
set_option maxRecDepth 100000 in
set_option maxHeartbeats 800000 in
theorem treeUsed_any (R : Option Addr) (l : List HC) (n q : Nat) (keep p : Int) (A : Nat → Option Addr) (C : Nat → Nat) (w : World) (hl : AllR l) (hn : n = l.length) (hA : Lie w R l A C) :
    Calls Tryz.prog 66 #[.agg #[.slice R n q, .int .i64 keep], .int .i64 p] w fun e w' => e = .returned (.tuple #[usedV l A C p, .bool (usedC l p)]) ∧ Ext w w' := by
  obtain ⟨W, hW⟩ : ∃ W, (w.alloc (.cells #[.slice R n q, .int .i64 keep] 24)).alloc (.cells #[.bool false, .slice none 0 0] 48) = W := ⟨_, rfl⟩
  obtain ⟨hx, hb0, hb1⟩ := allocs2 hW
  have HX := Lib.hid hx
  have HB0 := Lib.hid hb0
  have HB1 := Lib.hid hb1
  obtain ⟨b0, b1, b2⟩ := hb0.read2
  obtain ⟨f0, f1⟩ := hb1.free2
  obtain ⟨c0, c1, fl⟩ := hb1.read2
  have HN := Lib.hid hn
  have HXS := Lib.hid (fun x y => (hx.set (p := ⟨w.heap.size + 1, 0, none⟩) (by show w.heap.size ≤ w.heap.size + 1; omega) x).set (p := ⟨w.heap.size + 1, 1, none⟩) (by show w.heap.size ≤ w.heap.size + 1; omega) y)
  clear hx hb0 hb1
  by_cases hp : p < 0
  · have d0 : decide (p < 0) = true := decide_eq_true hp
    have HU := Lib.hid (usedC_neg (l := l) hp)
    clear hn hp hl hA
    go_enter Tryz.func66, Tryz.ntmps66
    go_wp2
    refine ret2_cell (k := w.heap.size + 1) (x := .bool false) (y := .slice none 0 0) (v := .tuple #[.agg #[.bool false, .slice none 0 0], .bool false]) ?hb1 (fun r0 r1 => by simp [results, Tryz.results66, go_sem, r0, r1]) rfl ?hx1
    case hb1 => exact HB1.out.set2 _ _
    case hx1 => exact ⟨by unfold usedV; rw [HU.out]; rfl, HXS.out _ _⟩
  obtain ⟨k, rfl⟩ := Int.eq_ofNat_of_zero_le (show 0 ≤ p by omega)
  have d0 : decide ((k : Int) < 0) = false := decide_eq_false hp
  rcases Nat.lt_or_ge k n with hk | hk
  rotate_left
  · have d1 : decide ((n : Int) ≤ (k : Int)) = true := decide_eq_true (by omega)
    have d3 : decide (n ≤ k) = true := decide_eq_true hk
    have HU := Lib.hid (usedC_big (l := l) (p := (k : Int)) (by omega))
    clear hn hp hl hA hk
    go_enter Tryz.func66, Tryz.ntmps66
    go_wp2
    refine ret2_cell (k := w.heap.size + 1) (x := .bool false) (y := .slice none 0 0) (v := .tuple #[.agg #[.bool false, .slice none 0 0], .bool false]) ?hb2 (fun r0 r1 => by simp [results, Tryz.results66, go_sem, r0, r1]) rfl ?hx2
    case hb2 => exact HB1.out.set2 _ _
    case hx2 => exact ⟨by unfold usedV; rw [HU.out]; rfl, HXS.out _ _⟩
  have d1 : decide ((n : Int) ≤ (k : Int)) = false := decide_eq_false (by omega)
  have d3 : decide (n ≤ k) = false := decide_eq_false (by omega)
  have hkl : k < l.length := by omega
  obtain ⟨b, off, rfl, hbl, ⟨q0, q2, q3⟩, hI⟩ := hA k hkl
  have r0 := (HX.out.cell (p := ⟨b, off + k * 4, none⟩) hbl).trans q0
  have r2 := (HX.out.cell (p := ⟨b, off + k * 4 + 2, none⟩) hbl).trans q2
  have r3 := (HX.out.cell (p := ⟨b, off + k * 4 + 3, none⟩) hbl).trans q3
  have HI := Lib.hid (hI.ext HX.out)
  have HQ := Lib.hid (And.intro q0 (And.intro q2 q3))
  have hkn : (k : Int) < (n : Int) := by omega
  by_cases hrf : 0 < l[k].ref
  rotate_left
  · have d2 : decide (l[k].ref ≤ 0) = true := decide_eq_true (by omega)
    have HU := Lib.hid (show usedC l (k : Int) = false from by rw [usedC_at hkl, decide_eq_false hrf])
    generalize l[k] = x at *
    clear hn hp hl hA hk hI hkl q0 q2 q3 hrf
    go_enter Tryz.func66, Tryz.ntmps66
    go_wp2
    refine ret2_cell (k := w.heap.size + 1) (x := .bool false) (y := .slice none 0 0) (v := .tuple #[.agg #[.bool false, .slice none 0 0], .bool false]) ?hb3 (fun r0 r1 => by simp [results, Tryz.results66, go_sem, r0, r1]) rfl ?hx3
    case hb3 => exact HB1.out.set2 _ _
    case hx3 => exact ⟨by unfold usedV; rw [HU.out]; rfl, HXS.out _ _⟩
  have d2 : decide (l[k].ref ≤ 0) = false := decide_eq_false (by omega)
  have HU := Lib.hid (show usedC l (k : Int) = true from by rw [usedC_at hkl, decide_eq_true hrf])
  have HV := Lib.hid (show NV l A C (k : Int) = .agg #[.bool l[k].leaf, .slice (A k) l[k].it.length (C k)] from by unfold NV; rw [cellT_at hkl, Int.toNat_natCast])
  have hnd := (ndR_iff _).2 (cell_ok (hl k hkl) hrf).1
  have HC := Lib.hid (nodeRight_any l[k].leaf (A k) l[k].it l[k].it.length (C k) W rfl HI.out)
  rw [hnd] at HC
  generalize l[k] = x at *
  clear hn hp hl hA hk hI hkl q0 q2 q3 hrf hnd
  go_enter Tryz.func66, Tryz.ntmps66
  go_wp2_with (go_at_call 68; refine stop_here ?_)
  refine stop_on ?_
  refine HC.out.mono ?_
  rintro e w1 ⟨rfl, hx1⟩
  have HX1 := Lib.hid (HX.out.trans hx1)
  obtain ⟨b0, b1, b2⟩ := (show Bx W w.heap.size _ from HB0.out).ext hx1 |>.read2
  obtain ⟨f0, f1⟩ := (HB1.out.ext hx1).free2
  obtain ⟨c0, c1, fl⟩ := (HB1.out.ext hx1).read2
  have HB2 := Lib.hid (HB1.out.ext hx1)
  have r0 := (HX1.out.cell (p := ⟨b, off + k * 4, none⟩) hbl).trans HQ.out.1
  have r2 := (HX1.out.cell (p := ⟨b, off + k * 4 + 2, none⟩) hbl).trans HQ.out.2.1
  have r3 := (HX1.out.cell (p := ⟨b, off + k * 4 + 3, none⟩) hbl).trans HQ.out.2.2
  clear hx1
  go_wp2
  refine ret2_cell (k := w.heap.size + 1) (x := .bool x.leaf) (y := .slice (A k) x.it.length (C k)) (v := .tuple #[.agg #[.bool x.leaf, .slice (A k) x.it.length (C k)], .bool true]) ?hb4 (fun r0 r1 => by simp [results, Tryz.results66, go_sem, r0, r1]) rfl ?hx4
  case hb4 => exact HB2.out.set2 _ _
  case hx4 => exact ⟨by unfold usedV; rw [HU.out, HV.out]; rfl, (HX1.out.set (p := ⟨w.heap.size + 1, 0, none⟩) (by show w.heap.size ≤ w.heap.size + 1; omega) _).set (p := ⟨w.heap.size + 1, 1, none⟩) (by show w.heap.size ≤ w.heap.size + 1; omega) _⟩
set_option maxHeartbeats 400000 in
theorem treeNeed_any (x : Int) (w : World) (h0 : 0 ≤ x) (h1 : x ≤ 100000) :
    Calls Tryz.prog 22 #[.int .i64 x] w fun e w' => e = .returned (.int .i64 (2 * x + 1)) ∧ Ext w w' := by
  go_enter Tryz.func22, Tryz.ntmps22
  go_wp2
  go_ret
  exact ⟨rfl, Ext.refl _⟩
end Go.Proofs.YtkoomcbiddanfaaGreat
namespace Go.Proofs.YtkoomcbiddanfaaGreat
open Go.RowKit Go.Shelf
attribute [local go_sem] Oper.semAt_some

theorem yieldAt_wide {P : Program} {m m' l : Nat} {args : Array Value} {W : World} {R : Ending → World → Prop} (h : YieldAt Fence.wide m P l args W R) : YieldAt Fence.wide m' P l args W R := by
  obtain ⟨fn, tmps, ass, b, h1, h2⟩ := h
  exact ⟨fn, tmps, ass, b, h1, h2.1, fun c cs _ => h2.2 c cs (room_wide _)⟩
/-- A box of a type. -/
def Bt (w : World) (k : Nat) (t : TypeId) (cs : Array Value) : Prop := w.heap[k]? = some (.cells cs t (0, 0))
theorem Bt.bx {w : World} {k : Nat} {t : TypeId} {cs : Array Value} (h : Bt w k t cs) : Bx w k cs := ⟨t, h⟩
theorem Bt.new (w : World) (cs : Array Value) (t : TypeId) : Bt (w.alloc (.cells cs t)) w.heap.size t cs := heap_alloc_new w _
theorem Bt.lt {w : World} {k : Nat} {t : TypeId} {cs : Array Value} (h : Bt w k t cs) : k < w.heap.size := (Array.getElem?_eq_some_iff.1 h).1
theorem Bt.below {w w' : World} {k : Nat} {t : TypeId} {cs : Array Value} (h : Bt w k t cs) (hx : Ext w w') : Bt w' k t cs := (hx.block k h.lt).trans h
theorem Bt.other {w : World} {k : Nat} {t : TypeId} {cs : Array Value} (h : Bt w k t cs) {p : Addr} (hp : p.block ≠ k) (v : Value) : Bt (w.setCell p v) k t cs := by
  unfold Bt at h ⊢
  rw [Below.heap_setCell _ _ _ _ (by simpa using Ne.symm hp), h]
theorem Bt.set1 {w : World} {k : Nat} {t : TypeId} {a : Value} (h : Bt w k t #[a]) (v : Value) : Bt (w.setCell ⟨k, 0, none⟩ v) k t #[v] := by
  unfold Bt at h ⊢
  simp [World.setCell, Array.getElem?_modify, h]
abbrev TN : List TypeId := [48]
/-- What a round keeps: what lay at first, these blocks, and boxes of nodes. -/
structure Kw (n₀ : Nat) (S : Nat → Prop) (A B : World) : Prop where
  old : Below n₀ A B
  same : ∀ k, S k → k < A.heap.size → B.heap[k]? = A.heap[k]?
  typ : ∀ k cs t, t ∈ TN → Bt A k t cs → Bt B k t cs
theorem Kw.refl (n₀ : Nat) (S : Nat → Prop) (A : World) : Kw n₀ S A A := ⟨Below.refl _ _, fun _ _ _ => rfl, fun _ _ _ _ h => h⟩
theorem Kw.trans {n₀ : Nat} {S : Nat → Prop} {A B C : World} (h : Kw n₀ S A B) (k : Kw n₀ S B C) : Kw n₀ S A C :=
  ⟨h.old.trans k.old, fun i hi hl => (k.same i hi (Nat.lt_of_lt_of_le hl h.old.size)).trans (h.same i hi hl), fun i cs t ht hb => k.typ i cs t ht (h.typ i cs t ht hb)⟩
theorem Kw.ext {n₀ : Nat} (S : Nat → Prop) {A B : World} (h : Ext A B) (hn : n₀ ≤ A.heap.size) : Kw n₀ S A B :=
  ⟨h.mono hn, fun k _ hl => h.block k hl, fun _ _ _ _ hb => hb.below h⟩
theorem Kw.sub {n₀ : Nat} {S S' : Nat → Prop} {A B : World} (h : Kw n₀ S A B) (hs : ∀ k, S' k → S k) : Kw n₀ S' A B := ⟨h.old, fun k hk hl => h.same k (hs k hk) hl, h.typ⟩
theorem Kw.lower {n₀ n₁ : Nat} {S : Nat → Prop} {A B : World} (h : Kw n₀ S A B) (hn : n₁ ≤ n₀) : Kw n₁ S A B := ⟨h.old.mono hn, h.same, h.typ⟩
theorem Kw.set {n₀ : Nat} {S : Nat → Prop} {A : World} {k : Nat} {t : TypeId} {cs : Array Value} (hb : Bt A k t cs) (ht : t ∉ TN) (hS : ¬ S k) (hn : n₀ ≤ k) (i : Nat) (v : Value) : Kw n₀ S A (A.setCell ⟨k, i, none⟩ v) := by
  refine ⟨(Below.refl n₀ A).setCell hn v, fun j hj _ => Below.heap_setCell _ _ _ _ (fun e => hS (by subst e; exact hj)), fun j ds u hu hd => hd.other (fun e => ?_) v⟩
  cases e
  unfold Bt at hb hd
  rw [hb] at hd
  cases hd
  exact ht hu
theorem Kw.put {n₀ : Nat} {S : Nat → Prop} {A : World} {k : Nat} {o : Obj} (h : A.heap[k]? = some o) (hc : o.isCells = false) (hS : ¬ S k) (hn : n₀ ≤ k) (o' : Obj) : Kw n₀ S A (A.putObj k o') := by
  have hg := grownBy_putObj' A k o'
  have hl := (Array.getElem?_eq_some_iff.1 h).1
  refine ⟨(Below.refl n₀ A).grown hg (by omega) (fun j e => by cases e; exact hn), fun j hj hl' => hg.block j hl' (fun e => hS (by cases e; exact hj)), fun j cs t _ hb => ?_⟩
  unfold Bt at hb ⊢
  refine (hg.block j (Array.getElem?_eq_some_iff.1 hb).1 (fun e => ?_)).trans hb
  cases e
  rw [h] at hb
  cases hb
  cases hc
/-- Outside a window all stays. -/
structure Out (B c : Nat) (A A' : World) : Prop where
  os : A'.os = A.os
  tape : A'.tape = A.tape
  output : A'.output = A.output
  size : A.heap.size ≤ A'.heap.size
  same : ∀ k, k < A.heap.size → (k < B ∨ B + c ≤ k) → A'.heap[k]? = A.heap[k]?
theorem Out.ext {B c : Nat} {A A' : World} (h : Ext A A') : Out B c A A' := ⟨h.os, h.tape, h.output, h.size, fun k hk _ => h.block k hk⟩
theorem Out.sup {B c B' c' : Nat} {A A' : World} (h : Out B' c' A A') (h1 : B ≤ B') (h2 : B' + c' ≤ B + c) : Out B c A A' := ⟨h.os, h.tape, h.output, h.size, fun k hk hw => h.same k hk (by omega)⟩
theorem Out.put {B c : Nat} (A : World) {k : Nat} (o : Obj) (h1 : B ≤ k) (h2 : k < B + c) : Out B c A (A.putObj k o) := by
  have hg := grownBy_putObj' A k o
  exact ⟨hg.os, hg.tape, hg.output, hg.size, fun j hj hw => hg.block j hj (fun e => by cases e; omega)⟩
theorem Out.set {B c : Nat} (A : World) {k : Nat} (i : Nat) (v : Value) (h1 : B ≤ k) (h2 : k < B + c) : Out B c A (A.setCell ⟨k, i, none⟩ v) :=
  ⟨rfl, rfl, rfl, by simp, fun j hj hw => Below.heap_setCell _ _ _ _ (by show j ≠ k; omega)⟩
/-- What is said stays where a window's blocks alone are turned. -/
def Stays {β : Type} (B c : Nat) (J : β → World → Prop) : Prop := ∀ s A A', J s A → Out B c A A' → J s A'
theorem Stays.sub {β : Type} {B c B' c' : Nat} {J : β → World → Prop} (h : Stays B c J) (h1 : B ≤ B') (h2 : B' + c' ≤ B + c) : Stays B' c' J := fun s A A' hs ho => h s A A' hs (ho.sup h1 h2)
theorem Stays.and {β : Type} {B c : Nat} {J K : β → World → Prop} (h : Stays B c J) (k : Stays B c K) : Stays B c (fun s W => J s W ∧ K s W) := fun s A A' hs ho => ⟨h s A A' hs.1 ho, k s A A' hs.2 ho⟩
theorem stays_pure {β : Type} (B c : Nat) (p : β → Prop) : Stays B c (fun s (_ : World) => p s) := fun _ _ _ hs _ => hs
theorem stays_below {β : Type} {B c n₀ : Nat} (w₀ : World) (hn : n₀ ≤ B) (h0 : n₀ ≤ w₀.heap.size) : Stays B c (fun (_ : β) W => Below n₀ w₀ W) := fun _ _ _ hs ho =>
  hs.trans ⟨ho.os, ho.tape, ho.output, ho.size, fun k hk => ho.same k (by have := hs.size; omega) (.inl (by omega))⟩
theorem stays_size {β : Type} (B c k : Nat) : Stays B c (fun (_ : β) W => k ≤ W.heap.size) := fun _ _ _ hs ho => Nat.le_trans hs ho.size
theorem stays_bt {β : Type} {B c k : Nat} {t : TypeId} (cs : β → Array Value) (hk : k < B ∨ B + c ≤ k) : Stays B c (fun s W => Bt W k t (cs s)) := fun _ _ _ hs ho => (ho.same k (Bt.lt hs) hk).trans hs
/-- An iterator over these things: it may turn the blocks that it lays first (so many), and asks the round to keep them, and some elder ones. -/
def SeqO {α : Type} (P : Program) (g : Nat) (lb : Array Value) (encs : α → Array Value) (n₀ : Nat) (Ks : Nat → Prop) (c : Nat) (L : List α) (w : World) : Prop :=
  ∀ (l : Nat) (J Jx : List α → World → Prop) (W : World) (d : Nat), Ext w W → Stays W.heap.size c J → Stays W.heap.size c Jx →
    (∀ pre x W1 m, J pre W1 → W.heap.size + c ≤ W1.heap.size → pre ++ [x] <+: L → YieldAt Fence.wide m P l (encs x) W1 fun e W' =>
      Kw n₀ (fun k => Ks k ∨ (W.heap.size ≤ k ∧ k < W.heap.size + c)) W1 W' ∧ ((e = .returned (.bool true) ∧ J (pre ++ [x]) W') ∨ (e = .returned (.bool false) ∧ Jx (pre ++ [x]) W'))) →
    J [] W →
    CallsIn Fence.wide d P g (#[.func (.yield l) #[] #[]] ++ lb) W fun e W' => (∃ v, e = .returned v) ∧ (J L W' ∨ ∃ q, q <+: L ∧ Jx q W')
/-- The loop's record, and the block of what is put off. -/
structure Rec (W : World) (D : Nat) (r : Loop) : Prop where
  lp : W.heap[D + 1]? = some (.loop r)
  row : W.heap[D]? = some (.deferred (some []))
theorem Rec.keep {W W' : World} {D : Nat} {r : Loop} (h : Rec W D r) {n₀ : Nat} {S : Nat → Prop} (k : Kw n₀ S W W') (h0 : S D) (h1 : S (D + 1)) : Rec W' D r :=
  ⟨(k.same _ h1 (Array.getElem?_eq_some_iff.1 h.lp).1).trans h.lp, (k.same _ h0 (Array.getElem?_eq_some_iff.1 h.row).1).trans h.row⟩
theorem Rec.put {W : World} {D : Nat} {r : Loop} (h : Rec W D r) (r' : Loop) : Rec (W.putObj (D + 1) (.loop r')) D r' :=
  ⟨World.putObj_heap_same (Array.getElem?_eq_some_iff.1 h.lp).1, (World.putObj_heap_other (by omega)).trans h.row⟩
theorem Rec.stays {B c D : Nat} (r : Loop) (h : D + 2 ≤ B) : Stays B c (fun (_ : Unit) W => Rec W D r) := fun _ A A' hs ho =>
  ⟨(ho.same _ (Array.getElem?_eq_some_iff.1 hs.lp).1 (.inl (by omega))).trans hs.lp, (ho.same _ (Array.getElem?_eq_some_iff.1 hs.row).1 (.inl (by omega))).trans hs.row⟩
/-- How a round's body may be left. -/
def leftAt {α : Type} (n₀ : Nat) (S : Nat → Prop) (I : List α → World → Prop) (Ix : Code → List α → World → Prop) (xs : List α) (W : World) : Exit → Act → World → Prop
  | .normal, _, W' => Kw n₀ S W W' ∧ I xs W'
  | .ret, _, W' => Kw n₀ S W W' ∧ Ix .ret xs W'
  | .exit id, _, W' => Kw n₀ S W W' ∧ Ix (.exit id) xs W'
  | .goto t, _, W' => Kw n₀ S W W' ∧ Ix (.goto t) xs W'
  | .panic _, _, _ => False
  | .outgrown, _, _ => False
theorem range_own {α : Type} {P : Program} {g : Operand} {ps : Array Tmp} {assign body : Code} {Q : Exit → Act → World → Prop} {a : Act} {w : World} {n m : Nat}
    {gf : Nat} {lb : Array Value} (hg : a.eval g = .func (.func gf) #[] lb) (eg : ∀ args w, (callFunc gf args).run P w = .ok (.enter gf args) w)
    {encs : α → Array Value} {n₀ : Nat} {Ks : Nat → Prop} {c : Nat} {L : List α} {w0 : World} (hseq : SeqO P gf lb encs n₀ Ks c L w0) (hx : Ext w0 w) (hn₀ : n₀ ≤ w.heap.size) (hKs : ∀ k, Ks k → k < w.heap.size) (hps : ∀ x, (encs x).size = ps.size)
    (I : List α → World → Prop) (Ix : Code → List α → World → Prop) (hI : Stays w.heap.size (2 + c) I) (hIx : ∀ k, Stays w.heap.size (2 + c) (Ix k)) (h0 : I [] w)
    (Ax : α → Act → World → Prop) (hAx : ∀ x a', Stays w.heap.size (2 + c) (fun (_ : Unit) W => Ax x a' W))
    (hassign : ∀ (l : Nat) (pre : List α) (x : α) (W : World) (K : Act → World → Prop), I pre W → w.heap.size + (2 + c) ≤ W.heap.size → pre ++ [x] <+: L →
      (∀ a' W', Kw n₀ (fun k => Ks k ∨ (w.heap.size ≤ k ∧ k < w.heap.size + (2 + c))) W W' → I pre W' → Ax x a' W' → K a' W') →
      assign.wpIn (Fence.wide.inRound l) m P (Exit.then K (fun _ _ _ => False)) { tmps := (ps.zip (encs x)).foldl (fun t (p, v) => t.setIfInBounds p v) a.tmps, defers := [] } W)
    (hbody : ∀ (l : Nat) (pre : List α) (x : α) (a' : Act) (W : World), I pre W → Ax x a' W → w.heap.size + (2 + c) ≤ W.heap.size → pre ++ [x] <+: L →
      body.wpIn (Fence.wide.inRound l) m P (leftAt n₀ (fun k => Ks k ∨ (w.heap.size ≤ k ∧ k < w.heap.size + (2 + c))) I Ix (pre ++ [x]) W) a' W)
    (hdone : ∀ (D : Nat) (W : World), D = w.heap.size → I L W → W.heap[D]? = some (.deferred (some [])) → Q .normal { a with defers := { target := .collected D, args := #[] } :: a.defers } W)
    (hstop : ∀ (D : Nat) (k : Code) (q : List α) (W : World), D = w.heap.size → q <+: L → Ix k q W → W.heap[D]? = some (.deferred (some [])) → k.wpIn Fence.wide n P Q { a with defers := { target := .collected D, args := #[] } :: a.defers } W) :
    (Code.rangeFunc g ps assign body).wpIn Fence.wide n P Q a w := by
  refine wpIn_rangeFunc fun fn hfn => ?_
  let R : LoopState → Option Code → Loop := fun st pe => { state := st, pending := pe, fn, tmps := a.tmps, params := ps, assign, body, defers := w.heap.size }
  obtain ⟨W1, hW1⟩ : ∃ W1, (w.alloc (.deferred (some []))).alloc (.loop (R .ready none)) = W1 := ⟨_, rfl⟩
  have hX1 : Ext w W1 := by rw [← hW1]; exact ((Ext.refl w).alloc _).alloc _
  have hZ1 : W1.heap.size = w.heap.size + 2 := by rw [← hW1]; simp
  have hR1 : Rec W1 w.heap.size (R .ready none) := by
    rw [← hW1]
    refine ⟨?_, (Below.heap_alloc _ _ _ (by simp)).trans (World.alloc_heap_new w _)⟩
    have := World.alloc_heap_new (w.alloc (.deferred (some []))) (.loop (R .ready none))
    rwa [World.size_alloc] at this
  refine ⟨w.heap.size + 1, [{ target := .collected w.heap.size, args := #[] }], W1, { target := .fn (.func gf) lb, args := #[.func (.yield (w.heap.size + 1)) #[] #[]] }, W1, gf, #[.func (.yield (w.heap.size + 1)) #[] #[]] ++ lb, W1,
    by rw [← hW1]; exact run_enterLoop_outer _ _ _ _ _, by simp only [resolve, hg]; simp [go_sem], fun _ _ => trivial, by simp [invoke, go_sem, eg], fun h => by simp [Fence.wide] at h, ?_⟩
  have hS0 : (fun k => Ks k ∨ (w.heap.size ≤ k ∧ k < w.heap.size + (2 + c))) w.heap.size := .inr ⟨Nat.le_refl _, by omega⟩
  have hS1 : (fun k => Ks k ∨ (w.heap.size ≤ k ∧ k < w.heap.size + (2 + c))) (w.heap.size + 1) := .inr ⟨by omega, by omega⟩
  have hsub : ∀ k, (Ks k ∨ (W1.heap.size ≤ k ∧ k < W1.heap.size + c)) → (Ks k ∨ (w.heap.size ≤ k ∧ k < w.heap.size + (2 + c))) := fun k h => h.imp id (fun h => by omega)
  have hnot : ¬ (Ks (w.heap.size + 1) ∨ (W1.heap.size ≤ w.heap.size + 1 ∧ w.heap.size + 1 < W1.heap.size + c)) := fun h => by
    rcases h with h | h
    · have := hKs _ h; omega
    · omega
  have hput : ∀ (W : World) (r r' : Loop), Rec W w.heap.size r → Kw n₀ (fun k => Ks k ∨ (W1.heap.size ≤ k ∧ k < W1.heap.size + c)) W (W.putObj (w.heap.size + 1) (.loop r')) :=
    fun W r r' h => Kw.put h.lp rfl hnot (by omega) _
  refine (hseq (w.heap.size + 1) (fun pre W => I pre W ∧ Rec W w.heap.size (R .ready none)) (fun q W => ∃ k, Ix k q W ∧ Rec W w.heap.size (R .done (some k))) W1 _ (hx.trans hX1)
    ((hI.sub (by omega) (by omega)).and (fun s => Rec.stays _ (by omega) ()))
    (fun s A A' ⟨k, h1, h2⟩ ho => ⟨k, hIx k s A A' h1 (ho.sup (by omega) (by omega)), Rec.stays _ (by omega) () A A' h2 ho⟩) ?_ ⟨hI _ _ _ h0 (.ext hX1), hR1⟩).mono ?_
  · rintro pre x W m' ⟨hi, hr⟩ hz hp
    have hy := run_yield (P := P) (args := encs x) hr.lp (hps x)
    refine yieldAt_wide (m := m) ⟨fn, _, assign, body, hy, roundIn_of_wpIn hfn (hassign _ pre x W _ hi (by omega) hp ?_)⟩
    intro a' Wa hka hia hax
    have hra := hr.keep hka hS0 hS1
    refine ⟨_, run_beginRound hra.lp rfl, ?_⟩
    have hro : Out w.heap.size (2 + c) Wa (Wa.putObj (w.heap.size + 1) (.loop { R .ready none with state := .busy })) := .put _ _ (by omega) (by omega)
    have hrb := hra.put { R .ready none with state := .busy }
    refine wpIn_mono (hbody _ pre x a' _ (hI _ _ _ hia hro) (hAx x a' () _ _ hax hro) (Nat.le_trans (show w.heap.size + (2 + c) ≤ W.heap.size by omega) (Nat.le_trans hka.old.size hro.size)) hp) ?_
    have fin : ∀ (jump : Option Code) (W3 : World), Kw n₀ (fun k => Ks k ∨ (w.heap.size ≤ k ∧ k < w.heap.size + (2 + c))) (Wa.putObj (w.heap.size + 1) (.loop { R .ready none with state := .busy })) W3 →
        ∃ W4, (Instr.endRound (w.heap.size + 1) jump).run P W3 = .ok (.bool jump.isNone) W4 ∧ Rec W4 w.heap.size (R (if jump.isNone then .ready else .done) jump) ∧ Out w.heap.size (2 + c) W3 W4 ∧ Kw n₀ (fun k => Ks k ∨ (W1.heap.size ≤ k ∧ k < W1.heap.size + c)) W W4 := fun jump W3 hk3 => by
      have hr3 := hrb.keep hk3 hS0 hS1
      exact ⟨_, run_endRound jump hr3.lp, hr3.put _, .put _ _ (by omega) (by omega), (((hka.sub hsub).trans (hput _ _ _ hra)).trans (hk3.sub hsub)).trans (hput _ _ _ hr3)⟩
    rintro e a3 W3 hp3
    cases e with
    | normal =>
      obtain ⟨W4, e4, hr4, ho4, hk4⟩ := fin none W3 hp3.1
      exact ⟨_, W4, e4, hk4, .inl ⟨rfl, hI _ _ _ hp3.2 ho4, hr4⟩⟩
    | ret =>
      obtain ⟨W4, e4, hr4, ho4, hk4⟩ := fin (some .ret) W3 hp3.1
      exact ⟨_, W4, e4, hk4, .inr ⟨rfl, _, hIx _ _ _ _ hp3.2 ho4, hr4⟩⟩
    | exit id =>
      obtain ⟨W4, e4, hr4, ho4, hk4⟩ := fin (some (.exit id)) W3 hp3.1
      exact ⟨_, W4, e4, hk4, .inr ⟨rfl, _, hIx _ _ _ _ hp3.2 ho4, hr4⟩⟩
    | goto t =>
      obtain ⟨W4, e4, hr4, ho4, hk4⟩ := fin (some (.goto t)) W3 hp3.1
      exact ⟨_, W4, e4, hk4, .inr ⟨rfl, _, hIx _ _ _ _ hp3.2 ho4, hr4⟩⟩
    | panic ch => exact hp3.elim
    | outgrown => exact hp3.elim
  · rintro e W2 ⟨⟨v, rfl⟩, (⟨hi, hr⟩ | ⟨q, hq, k, hi, hr⟩)⟩
    · exact ⟨none, _, run_endLoop hr.lp (by simp [R]), hdone _ _ rfl (hI _ _ _ hi (.put _ _ (by omega) (by omega))) ((World.putObj_heap_other (by omega)).trans hr.row)⟩
    · exact ⟨some k, _, run_endLoop hr.lp (by simp [R]), hstop _ k q _ rfl hq (hIx _ _ _ _ hi (.put _ _ (by omega) (by omega))) ((World.putObj_heap_other (by omega)).trans hr.row)⟩
end Go.Proofs.YtkoomcbiddanfaaGreat
