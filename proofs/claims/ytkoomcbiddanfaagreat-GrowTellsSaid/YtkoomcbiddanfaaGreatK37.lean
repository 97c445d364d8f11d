/- The contract of anew of the reference of layer 9. Walks of Need, Ints, Right and May of the reference of layer 7. The walk of Put of the reference of layer 9, where nothing is put, or into no tree. The walk of Put of the reference of layer 9, where there is no room, or no tree. The walk of Put of the reference of layer 9, where it is put into no tree. The walk of Put of the reference of layer 9, where it is put into a tree. The walk of Put of the reference of layer 9, where it is put into a tree whose root is split. The contract of Put of the reference of layer 9. -/
import Derived.Test.YtkoomcbiddanfaaGreatK35
import Derived.Test.YtkoomcbiddanfaaGreatK36
import Derived.Test.YtkoomcbiddanfaaGreatK16
import Derived.Test.YtkoomcbiddanfaaGreatK25
import Derived.Test.YtkoomcbiddanfaaGreatK15
import Derived.Test.YtkoomcbiddanfaaGreatK13
import Derived.Test.YtkoomcbiddanfaaGreatK20
import Derived.Test.YtkoomcbiddanfaaGreatK33
namespace Go.Proofs.YtkoomcbiddanfaaGreat
open Go.RowKit

theorem lay_length (leaf : Bool) (held : List Int) : ∀ (rows : List (List It)) (c : List HC), (layS leaf held rows c).2.length = rows.length
  | [], _ => rfl
  | r :: rs, c => by rw [layS, List.length_cons, List.length_cons, lay_length leaf held rs]
theorem at_leaf_ok {it : List It} (h : NdR it) (key : Int) : atC it key + (if atB it key then 1 else 0) ≤ it.length := by
  have hle : atC it key ≤ it.length := List.countP_le_length
  cases hb : atB it key
  · simpa using hle
  · obtain ⟨k, hk, hke⟩ := atB_ex hb
    have := atC_at h hk hke
    simp; omega
/-- A node, made anew with an item. -/
theorem ref09anew_any {keep : Int} : ∀ (m : Nat) (c : List HC) (p : Int) (x : It) (e : Int) (R : Option Addr) (n q : Nat) (w : World), m ≤ 20 → rightH ⟨c, keep⟩ = true → (∀ k (hk : k < c.length), c[k].ref ≤ 1000000) → okIt x → 0 ≤ p → p < c.length → (bel c m p).is = true → (bel c 20 p).hi < e → x.1 < e →
    2 * (bel c 20 p).high ≤ (c.countP freeC : Nat) → n ≤ 90000 → HcSl w R n q c →
    Calls Tryz.prog 30 #[.agg #[.slice R n q, .int .i64 keep], .int .i64 p, .agg #[.int .i64 x.1, .int .i64 x.2]] w fun e w' => ∃ S d O z, e = .returned (.tuple #[.agg #[.slice S n d, .int .i64 keep], .slice O (anewS m c p x).2.length z]) ∧ HcSl w' S n d (anewS m c p x).1 ∧ Sl w' O (anewS m c p x).2.length z (ivs (anewS m c p x).2) ∧ Ext w w'
  | 0, _, _, _, _, _, _, _, _, _, _, _, _, _, _, hb, _, _, _, _, _ => (bel_zero hb).elim
  | m + 1, c, p, x, e, R, n, q, w, hm, hr, hs, hx, h0, h1, hb, he, hxe, hf, hn, hA => by
    obtain ⟨k, rfl⟩ := Int.eq_ofNat_of_zero_le h0
    have hk : k < c.length := by omega
    have hb20 : (bel c 20 (k : Int)).is = true := by rw [bel_mono c (m + 1) 20 _ hb hm]; exact hb
    obtain ⟨hrf, hc⟩ := bel_is hb
    rw [cellT_at hk] at hrf hc
    have hok := cell_ok ((rightH_iff hr).2 k hk) hrf
    have hnd : ndR c[k].it = true := (ndR_iff _).2 hok.1
    have hl4 := hok.1.1
    rcases hc with ⟨hlf, _⟩ | ⟨hlf, _, hch⟩
    · have hdef : anewS (m + 1) c (k : Int) x = layS true [] (splitS (withS c[k].it (atC c[k].it x.1) (if atB c[k].it x.1 then 1 else 0) [x])) c := by
        rw [anewS, cellT_at hk, hlf, if_pos rfl, atI_leaf, Int.toNat_natCast]
      rw [hdef, lay_length]
      have hle := at_leaf_ok hok.1 x.1
      have hwl : (withS c[k].it (atC c[k].it x.1) (if atB c[k].it x.1 then 1 else 0) [x]).length = atC c[k].it x.1 + 1 + (c[k].it.length - (atC c[k].it x.1 + (if atB c[k].it x.1 then 1 else 0))) := by
        unfold withS
        rw [List.length_append, List.length_append, List.length_take, List.length_drop, List.length_singleton, Nat.min_eq_left (by omega)]
      exact anew_walk_leaf R c n q k keep x (atC c[k].it x.1) _ _ w hk hn (fun k hk => by have := hs k hk; omega) hA hlf hnd atI_leaf hle rfl rfl (by omega) (by omega)
    · obtain ⟨hi, _⟩ := at_low hok.1 x.1
      have hcd : childT c[k].it x.1 = c[k].it[(atI false c[k].it x.1).toNat] := itD_at hi
      have hcm : childT c[k].it x.1 ∈ c[k].it := by rw [hcd]; exact List.getElem_mem hi
      have hat : atI false c[k].it x.1 = ((atI false c[k].it x.1).toNat : Int) := by
        rw [Int.toNat_of_nonneg]; unfold atI; split <;> omega
      obtain ⟨Rw, -, -, -⟩ := row_of_bel hr hk hb20 he
      rw [hlf] at Rw
      have hrow := (Rw.inn rfl).2.2 _ hi
      rw [← hcd] at hrow
      have hch2 := (bel_high c 20 (k : Int)).2
      obtain ⟨e', he1, he2⟩ : ∃ e', (bel c 20 (childT c[k].it x.1).2).hi < e' ∧ x.1 < e' := by
        rcases Int.lt_or_le (bel c 20 (childT c[k].it x.1).2).hi x.1 with h | h
        · exact ⟨x.1 + 1, by omega, by omega⟩
        · exact ⟨(bel c 20 (childT c[k].it x.1).2).hi + 1, by omega, by omega⟩
      obtain ⟨a, AN⟩ := anew_ok m c (childT c[k].it x.1).2 x e' (by omega) hr hs hx (hok.2 hlf _ hcm).1 (hok.2 hlf _ hcm).2 (hch _ hcm).1 he1 he2 (by omega)
      have IH := fun w' (hx' : Ext w w') => ref09anew_any m c (childT c[k].it x.1).2 x e' R n q w' (by omega) hr hs hx (hok.2 hlf _ hcm).1 (hok.2 hlf _ hcm).2 (hch _ hcm).1 he1 he2 (by omega) hn (hA.ext hx')
      have hdef : anewS (m + 1) c (k : Int) x = layS false ((anewS m c (childT c[k].it x.1).2 x).2.map (·.2)) (splitS (withS c[k].it (atI false c[k].it x.1).toNat 1 (anewS m c (childT c[k].it x.1).2 x).2)) (anewS m c (childT c[k].it x.1).2 x).1 := by
        rw [anewS, cellT_at hk, hlf, if_neg (by simp)]
      rw [hdef, lay_length]
      have hAl := AN.len
      have hAr := AN.refs
      have hAm := AN.many
      have hkl := AN.keeps.len
      generalize anewS m c (childT c[k].it x.1).2 x = r at *
      have hwl : (withS c[k].it (atI false c[k].it x.1).toNat 1 r.2).length = (atI false c[k].it x.1).toNat + r.2.length + (c[k].it.length - ((atI false c[k].it x.1).toNat + 1)) := by
        unfold withS
        rw [List.length_append, List.length_append, List.length_take, List.length_drop, Nat.min_eq_left (by omega)]
      refine anew_walk_other R c n q k keep x (atI false c[k].it x.1).toNat _ r.1 r.2 w hk hn hA hlf hnd hat hi hAl (fun j hj => ?_) rfl (by omega) (by omega) (fun w' hx' => ?_)
      · have hj' : j < c.length := by omega
        have h3 := hAr j hj' hj
        have h4 := hs j hj'
        split at h3 <;> omega
      · rw [← hcd]; exact IH w' hx'
end Go.Proofs.YtkoomcbiddanfaaGreat
namespace Go.Proofs.YtkoomcbiddanfaaGreat
open Go.RowKit
attribute [local go_sem ↓] Go.wp_at_zero Go.wp_at_succ

set_option maxHeartbeats 400000 in
theorem ref07Need_any (x : Int) (w : World) (h0 : 0 ≤ x) (h1 : x ≤ 100000) :
    Calls Tryz.prog 28 #[.int .i64 x] w fun e w' => e = .returned (.int .i64 (2 * x + 1)) ∧ w = w' := by
  go_enter Tryz.func28, Tryz.ntmps28
  go_wp2
  go_ret
  exact ⟨rfl, rfl⟩
def sameZ (a b : List Int) : Bool := decide (a = b)
end Go.Proofs.YtkoomcbiddanfaaGreat
namespace Go.Proofs.YtkoomcbiddanfaaGreat
open Go.RowKit
attribute [local go_sem ↓] Go.wp_at_zero Go.wp_at_succ

set_option maxRecDepth 100000 in
set_option maxHeartbeats 1600000 in
theorem ref09Put_arg (R : Option Addr) (l : List HC) (n q : Nat) (keep root : Int) (x : It) (deep : Bool) (w : World) (hx : ¬ okIt x) (hA : HcSl w R n q l) :
    Calls Tryz.prog 7 #[.agg #[.slice R n q, .int .i64 keep], .int .i64 root, .int .i64 x.1, .int .i64 x.2, .bool deep] w fun e w' => ∃ S d, e = .returned (.tuple #[.agg #[.slice S n d, .int .i64 keep], .int .i64 root, .int .i64 1]) ∧ HcSl w' S n d l ∧ Ext w w' := by
  obtain ⟨W, hW⟩ : ∃ W, W = (w.alloc (.cells #[.slice R n q, .int .i64 keep] 24)).alloc (.cells #[.slice none 0 0, .int .i64 0] 24) := ⟨_, rfl⟩
  obtain ⟨hx1, hb0, hb1⟩ := allocs2 hW.symm
  have HX := Lib.hid hx1
  have HB1 := Lib.hid hb1
  have HA := Lib.hid hA
  obtain ⟨p0, p1, p2⟩ := hb0.read2
  obtain ⟨t0, t1, t2⟩ := hb1.read2
  obtain ⟨f0, f1⟩ := hb1.free2
  clear hx1 hb0 hb1 hA
  obtain ⟨key, val⟩ := x
  unfold okIt at hx
  simp only at hx ⊢
  subst hW
  have main : ∀ (_ : decide (key < 0) = true ∨ (decide (key < 0) = false ∧ decide ((2147483647 : Int) < key) = true) ∨ (decide (key < 0) = false ∧ decide ((2147483647 : Int) < key) = false ∧ decide (val < 0) = true) ∨ (decide (key < 0) = false ∧ decide ((2147483647 : Int) < key) = false ∧ decide (val < 0) = false ∧ decide ((2147483647 : Int) < val) = true)), Calls Tryz.prog 7 #[.agg #[.slice R n q, .int .i64 keep], .int .i64 root, .int .i64 key, .int .i64 val, .bool deep] w fun e w' => ∃ S d, e = .returned (.tuple #[.agg #[.slice S n d, .int .i64 keep], .int .i64 root, .int .i64 1]) ∧ HcSl w' S n d l ∧ Ext w w' := by
    intro h
    clear hx
    rcases h with d0 | ⟨d0, d1⟩ | ⟨d0, d1, d2⟩ | ⟨d0, d1, d2, d3⟩
    all_goals
      go_enter Tryz.func7, Tryz.ntmps7
      go_wp2_with fail
      refine ret2_cell (k := w.heap.size + 1) (x := .slice R n q) (y := .int .i64 keep) (v := .tuple #[.agg #[.slice R n q, .int .i64 keep], .int .i64 root, .int .i64 1]) ?hb4 (fun r0 r1 => by simp [results, Tryz.results7, go_sem, r0, r1]) rfl ?hx4
      case hb4 => exact Bx.new' (by rw [World.size_alloc]) _ _
      case hx4 => exact ⟨R, q, rfl, HA.out.ext (((Ext.refl w).alloc _).alloc _), ((Ext.refl w).alloc _).alloc _⟩
  apply main
  simp only [decide_eq_true_eq, decide_eq_false_iff_not]
  omega
end Go.Proofs.YtkoomcbiddanfaaGreat
namespace Go.Proofs.YtkoomcbiddanfaaGreat
open Go.RowKit
attribute [local go_sem ↓] Go.wp_at_zero Go.wp_at_succ

set_option maxRecDepth 100000 in
set_option maxHeartbeats 3200000 in
theorem ref09Put_full (R : Option Addr) (l : List HC) (n q : Nat) (keep root : Int) (x : It) (deep : Bool) (w : World) (hx : okIt x) (hl : AllR l) (hn : n ≤ 2000) (hnl : n = l.length) (hkp : 0 ≤ keep ∧ keep ≤ 9223372036854775807) (hrr : rightR ⟨l, keep⟩ root = true) (hf : highT l root = 20 ∨ fitsH ⟨l, keep⟩ (2 * highT l root + 1) deep = false) (hA : HcSl w R n q l) :
    Calls Tryz.prog 7 #[.agg #[.slice R n q, .int .i64 keep], .int .i64 root, .int .i64 x.1, .int .i64 x.2, .bool deep] w fun e w' => ∃ S d, e = .returned (.tuple #[.agg #[.slice S n d, .int .i64 keep], .int .i64 root, .int .i64 3]) ∧ HcSl w' S n d l ∧ Ext w w' := by
  have HR := Lib.hid hf
  clear hf
  obtain ⟨W, hW⟩ : ∃ W, W = (w.alloc (.cells #[.slice R n q, .int .i64 keep] 24)).alloc (.cells #[.slice none 0 0, .int .i64 0] 24) := ⟨_, rfl⟩
  obtain ⟨hx1, hb0, hb1⟩ := allocs2 hW.symm
  have HX := Lib.hid hx1
  have HB0 := Lib.hid hb0
  have HB1 := Lib.hid hb1
  have HA := Lib.hid hA
  obtain ⟨key, val⟩ := x
  obtain ⟨⟨k0, k1⟩, v0, v1⟩ := hx
  simp only at k0 k1 v0 v1 ⊢
  have d0 : decide (key < 0) = false := decide_eq_false (by omega)
  have d1 : decide ((2147483647 : Int) < key) = false := decide_eq_false (by omega)
  have d2 : decide (val < 0) = false := decide_eq_false (by omega)
  have d3 : decide ((2147483647 : Int) < val) = false := decide_eq_false (by omega)
  have HKV := Lib.hid (And.intro k0 (And.intro k1 (And.intro v0 v1)))
  obtain ⟨H, hH⟩ : ∃ H, highT l root = H := ⟨_, rfl⟩
  have hHb : 0 ≤ H ∧ H ≤ 20 := by
    rw [← hH]; unfold highT
    split
    · omega
    · exact bel_high l 20 root
  have HHI := Lib.hid (fun w' (hx : Ext w w') => (ref07High_any R l n q keep root w' hl (by omega) hrr (hA.ext hx)).mono (fun e w2 h => (⟨h.1, h.2.2⟩ : e = .returned (.int .i64 (highT l root)) ∧ Ext w' w2)))
  rw [hH] at HHI HR
  have HNE := Lib.hid (fun w' => ref07Need_any H w' hHb.1 (by omega))
  have HFI := Lib.hid (fun w' (hx : Ext w w') => ref05Fits_any R l n q keep (2 * H + 1) deep w' hkp (hA.ext hx))
  obtain ⟨fb, hfb⟩ : ∃ fb, fitsH ⟨l, keep⟩ (2 * H + 1) deep = fb := ⟨_, rfl⟩
  rw [hfb] at HFI HR
  obtain ⟨p0, p1, p2⟩ := hb0.read2
  clear hx1 hb0 hb1 hA k0 k1 v0 v1 hrr hl hH hfb hnl hn
  subst hW
  go_enter Tryz.func7, Tryz.ntmps7
  go_wp2_with (go_at_call 26; refine stop_here ?_)
  refine stop_on ?_
  generalize hW : World.alloc (World.alloc w _) _ = W at *
  clear hW p0 p1 p2
  refine (HHI.out _ HX.out).mono ?_
  rintro e w1 ⟨rfl, hx1⟩
  have HX1 := Lib.hid hx1
  obtain ⟨p0, p1, p2⟩ := (HB0.out.ext hx1).read2
  clear hx1
  go_wp2_with fail
  go_cut [14] from 43 to 47 (fun v wx => v = .bool fb ∧ Ext w1 wx)
  case first =>
    go_region_law
      (first
        | ((go_simp
            go_at_call 28
            refine (HNE.out _).mono ?_
            rintro e w4 ⟨rfl, rfl⟩))
        | ((go_simp
            go_at_call 27
            refine (HFI.out _ ?_).mono ?_
            (first | exact (HX.out.trans HX1.out).drew | exact (HX.out.trans HX1.out))
            rintro e w4 ⟨rfl, hx4⟩
            have E4 := Lib.hid (show Ext w1 w4 from by first | exact (Ext.refl _).drew.trans hx4 | exact hx4)
            clear hx4)))
    all_goals
      go_wp2_with fail
      go_meet
      exact ⟨rfl, E4.out⟩
  case rest =>
    obtain ⟨rfl, hxc⟩ := hcut
    have HXC := Lib.hid (HX1.out.trans hxc)
    have HXA := Lib.hid ((HX.out.trans HX1.out).trans hxc)
    have HC0 := Lib.hid (HB0.out.ext HXC.out)
    have HC1 := Lib.hid (HB1.out.ext HXC.out)
    clear hxc p0 p1 p2
    obtain ⟨p0, p1, p2⟩ := HC0.out.read2
    obtain ⟨t0, t1, t2⟩ := HC1.out.read2
    obtain ⟨f0, f1⟩ := HC1.out.free2
    have h5 : (H == 20) = true ∨ ((H == 20) = false ∧ fb = false) := by
      rcases HR.out with h | h
      · left; simpa using h
      · cases h7 : (H == 20)
        · exact .inr ⟨rfl, h⟩
        · exact .inl rfl
    rcases h5 with d5 | ⟨d5, rfl⟩
    all_goals
      go_wp2_with fail
      refine ret2_cell (k := w.heap.size + 1) (x := .slice R n q) (y := .int .i64 keep) (v := .tuple #[.agg #[.slice R n q, .int .i64 keep], .int .i64 root, .int .i64 3]) ?hb4 (fun r0 r1 => by simp [results, Tryz.results7, go_sem, r0, r1]) rfl ?hx4
      case hb4 => exact HC1.out.set2 _ _
      case hx4 => exact ⟨R, q, rfl, (HA.out.ext HXA.out).boxed2 HC1.out _ _, HXA.out.store2 (by omega) _ _⟩
end Go.Proofs.YtkoomcbiddanfaaGreat
namespace Go.Proofs.YtkoomcbiddanfaaGreat
open Go.RowKit
attribute [local go_sem ↓] Go.wp_at_zero Go.wp_at_succ

set_option maxRecDepth 100000 in
set_option maxHeartbeats 3200000 in
theorem ref09Put_none (R : Option Addr) (l : List HC) (n q : Nat) (keep root : Int) (x : It) (deep : Bool) (w : World) (hx : okIt x) (hl : AllR l) (hn : n ≤ 2000) (hnl : n = l.length) (hkp : 0 ≤ keep ∧ keep ≤ 9223372036854775807) (hrr : rightR ⟨l, keep⟩ root = true) (hf : highT l root ≠ 20 ∧ fitsH ⟨l, keep⟩ (2 * highT l root + 1) deep = true) (h0 : root < 0) (hbd : ∀ k (hk : k < l.length), l[k].ref ≤ 8000000000000000000) (hA : HcSl w R n q l) :
    Calls Tryz.prog 7 #[.agg #[.slice R n q, .int .i64 keep], .int .i64 root, .int .i64 x.1, .int .i64 x.2, .bool deep] w fun e w' => ∃ S d, e = .returned (.tuple #[.agg #[.slice S n d, .int .i64 keep], .int .i64 (allocP l true [x] : Nat), .int .i64 (allocE l true [x])]) ∧ HcSl w' S n d (allocL l true [x] []) ∧ Ext w w' := by
  have HAL := Lib.hid (fun w' B d (hx : Ext w w') (hI : Sl w' B 1 d (ivs [x])) => ref05Alloc_any R l n q keep true B [x] 1 d none [] 0 0 w' (by omega) hbd (hA.ext hx) rfl hI rfl (Sl.nil _))
  have d6 : decide (root < 0) = true := decide_eq_true h0
  clear hbd h0
  obtain ⟨W, hW⟩ : ∃ W, W = (w.alloc (.cells #[.slice R n q, .int .i64 keep] 24)).alloc (.cells #[.slice none 0 0, .int .i64 0] 24) := ⟨_, rfl⟩
  obtain ⟨hx1, hb0, hb1⟩ := allocs2 hW.symm
  have HX := Lib.hid hx1
  have HB0 := Lib.hid hb0
  have HB1 := Lib.hid hb1
  have HA := Lib.hid hA
  obtain ⟨key, val⟩ := x
  obtain ⟨⟨k0, k1⟩, v0, v1⟩ := hx
  simp only at k0 k1 v0 v1 ⊢
  have d0 : decide (key < 0) = false := decide_eq_false (by omega)
  have d1 : decide ((2147483647 : Int) < key) = false := decide_eq_false (by omega)
  have d2 : decide (val < 0) = false := decide_eq_false (by omega)
  have d3 : decide ((2147483647 : Int) < val) = false := decide_eq_false (by omega)
  have HKV := Lib.hid (And.intro k0 (And.intro k1 (And.intro v0 v1)))
  obtain ⟨H, hH⟩ : ∃ H, highT l root = H := ⟨_, rfl⟩
  have hHb : 0 ≤ H ∧ H ≤ 20 := by
    rw [← hH]; unfold highT
    split
    · omega
    · exact bel_high l 20 root
  have HHI := Lib.hid (fun w' (hx : Ext w w') => (ref07High_any R l n q keep root w' hl (by omega) hrr (hA.ext hx)).mono (fun e w2 h => (⟨h.1, h.2.2⟩ : e = .returned (.int .i64 (highT l root)) ∧ Ext w' w2)))
  rw [hH] at HHI
  have d5 : (H == 20) = false := by have := hf.1; rw [hH] at this; simpa using this
  have HNE := Lib.hid (fun w' => ref07Need_any H w' hHb.1 (by omega))
  have HFI := Lib.hid (fun w' (hx : Ext w w') => ref05Fits_any R l n q keep (2 * H + 1) deep w' hkp (hA.ext hx))
  obtain ⟨fb, hfb⟩ : ∃ fb, fitsH ⟨l, keep⟩ (2 * H + 1) deep = fb := ⟨_, rfl⟩
  have hf2 := hf.2
  rw [hH, hfb] at hf2
  subst hf2
  rw [hfb] at HFI
  obtain ⟨p0, p1, p2⟩ := hb0.read2
  generalize allocL l true [(key, val)] [] = c9 at *
  generalize (allocP l true [(key, val)] : Nat) = p9 at *
  generalize allocE l true [(key, val)] = e9 at *
  clear hx1 hb0 hb1 hA k0 k1 v0 v1 hrr hl hH hfb hnl hn hf
  subst hW
  go_enter Tryz.func7, Tryz.ntmps7
  go_wp2_with (go_at_call 26; refine stop_here ?_)
  refine stop_on ?_
  generalize hW : World.alloc (World.alloc w _) _ = W at *
  clear hW p0 p1 p2
  refine (HHI.out _ HX.out).mono ?_
  rintro e w1 ⟨rfl, hx1⟩
  have HX1 := Lib.hid hx1
  obtain ⟨p0, p1, p2⟩ := (HB0.out.ext hx1).read2
  clear hx1
  go_wp2_with fail
  go_cut [14] from 43 to 47 (fun v wx => v = .bool true ∧ Ext w1 wx)
  case first =>
    go_region_law
      (first
        | ((go_simp
            go_at_call 28
            refine (HNE.out _).mono ?_
            rintro e w4 ⟨rfl, rfl⟩))
        | ((go_simp
            go_at_call 27
            refine (HFI.out _ ?_).mono ?_
            (first | exact (HX.out.trans HX1.out).drew | exact (HX.out.trans HX1.out))
            rintro e w4 ⟨rfl, hx4⟩
            have E4 := Lib.hid (show Ext w1 w4 from by first | exact (Ext.refl _).drew.trans hx4 | exact hx4)
            clear hx4)))
    all_goals
      go_wp2_with fail
      go_meet
      exact ⟨rfl, E4.out⟩
  case rest =>
    obtain ⟨rfl, hxc⟩ := hcut
    have HXC := Lib.hid (HX1.out.trans hxc)
    have HXA := Lib.hid ((HX.out.trans HX1.out).trans hxc)
    have HC0 := Lib.hid (HB0.out.ext HXC.out)
    have HC1 := Lib.hid (HB1.out.ext HXC.out)
    clear hxc p0 p1 p2
    obtain ⟨p0, p1, p2⟩ := HC0.out.read2
    obtain ⟨t0, t1, t2⟩ := HC1.out.read2
    obtain ⟨f0, f1⟩ := HC1.out.free2
    go_wp2_with (go_at_call 29; refine stop_here ?_)
    refine stop_on ?_
    refine (HAL.out _ _ _ ?_ ?_).mono ?_
    · exact HXA.out.trans (((Ext.refl wc).alloc _).alloc _)
    · exact sl_lit' (by simp) _ 1 _ (by unfold maxLen; omega)
    rintro e w5 ⟨S5, d5', rfl, hs5, hx5⟩
    have HX5 := Lib.hid ((((Ext.refl wc).alloc _).alloc _).trans hx5)
    have HS5 := Lib.hid hs5
    have HC5 := Lib.hid (HC1.out.ext HX5.out)
    clear hs5 hx5 p0 p1 p2 t0 t1 t2 f0 f1
    obtain ⟨t0, t1, t2⟩ := HC5.out.read2
    obtain ⟨f0, f1⟩ := HC5.out.free2
    go_wp2_with fail
    refine ret2_cell (k := w.heap.size + 1) (x := .slice S5 n d5') (y := .int .i64 keep) (v := .tuple #[.agg #[.slice S5 n d5', .int .i64 keep], .int .i64 (p9 : Nat), .int .i64 e9]) ?hb4 (fun r0 r1 => by simp [results, Tryz.results7, go_sem, r0, r1]) rfl ?hx4
    case hb4 => exact HC5.out.set2 _ _
    case hx4 => exact ⟨S5, d5', rfl, HS5.out.boxed2 HC5.out _ _, (HXA.out.trans HX5.out).store2 (by omega) _ _⟩
end Go.Proofs.YtkoomcbiddanfaaGreat
namespace Go.Proofs.YtkoomcbiddanfaaGreat
open Go.RowKit
attribute [local go_sem ↓] Go.wp_at_zero Go.wp_at_succ

set_option maxRecDepth 100000 in
set_option maxHeartbeats 3200000 in
theorem ref09Put_one (R : Option Addr) (l : List HC) (n q : Nat) (keep root : Int) (x : It) (deep : Bool) (w : World) (hx : okIt x) (hl : AllR l) (hn : n ≤ 2000) (hnl : n = l.length) (hkp : 0 ≤ keep ∧ keep ≤ 9223372036854775807) (hrr : rightR ⟨l, keep⟩ root = true) (hf : highT l root ≠ 20 ∧ fitsH ⟨l, keep⟩ (2 * highT l root + 1) deep = true) (h0 : 0 ≤ root) (c1 : List HC) (L1 : List It) (hL : L1.length = 1) (hlc : c1.length = l.length) (hbd : Bd c1) (hch : ∀ w', Ext w w' → Calls Tryz.prog 30 #[.agg #[.slice R n q, .int .i64 keep], .int .i64 root, .agg #[.int .i64 x.1, .int .i64 x.2]] w' fun e w2 => ∃ S d O z, e = .returned (.tuple #[.agg #[.slice S n d, .int .i64 keep], .slice O L1.length z]) ∧ HcSl w2 S n d c1 ∧ Sl w2 O L1.length z (ivs L1) ∧ Ext w' w2) (hA : HcSl w R n q l) :
    Calls Tryz.prog 7 #[.agg #[.slice R n q, .int .i64 keep], .int .i64 root, .int .i64 x.1, .int .i64 x.2, .bool deep] w fun e w' => ∃ S d, e = .returned (.tuple #[.agg #[.slice S n d, .int .i64 keep], .int .i64 (topS c1 L1).2, .int .i64 0]) ∧ HcSl w' S n d (looseL (l.length + 1) (topS c1 L1).1 root) ∧ Ext w w' := by
  have HCH := Lib.hid hch
  have d6 : decide (root < 0) = false := decide_eq_false (by omega)
  have HL1 := Lib.hid (show 0 < L1.length by omega)
  have hts : topS c1 L1 = (c1, (L1[0]'HL1.out).2) := by unfold topS; rw [if_neg (by omega), List.getD_eq_getElem?_getD, List.getElem?_eq_getElem (by omega)]; rfl
  rw [hts]
  simp only
  have HLO := Lib.hid (fun w' S d (h : HcSl w' S n d c1) => ref05Loose_is S c1 n d keep root w' (by omega) hbd h)
  rw [hlc] at HLO
  have d7 : decide ((1 : Int) < (L1.length : Int)) = false := decide_eq_false (by omega)
  generalize looseE ⟨c1, keep⟩ root = e9 at *
  generalize looseL (l.length + 1) c1 root = c9 at *
  have hV : ∃ V, (L1[0]'HL1.out).2 = V := ⟨_, rfl⟩
  obtain ⟨V0, hV0⟩ := hV
  rw [hV0]
  have HV0 := Lib.hid hV0
  have hd7 : decide (1 < L1.length) = false := decide_eq_false (by omega)
  clear hts hlc hbd hV0 hL
  clear hch h0
  obtain ⟨W, hW⟩ : ∃ W, W = (w.alloc (.cells #[.slice R n q, .int .i64 keep] 24)).alloc (.cells #[.slice none 0 0, .int .i64 0] 24) := ⟨_, rfl⟩
  obtain ⟨hx1, hb0, hb1⟩ := allocs2 hW.symm
  have HX := Lib.hid hx1
  have HB0 := Lib.hid hb0
  have HB1 := Lib.hid hb1
  have HA := Lib.hid hA
  obtain ⟨key, val⟩ := x
  obtain ⟨⟨k0, k1⟩, v0, v1⟩ := hx
  simp only at k0 k1 v0 v1 ⊢
  have d0 : decide (key < 0) = false := decide_eq_false (by omega)
  have d1 : decide ((2147483647 : Int) < key) = false := decide_eq_false (by omega)
  have d2 : decide (val < 0) = false := decide_eq_false (by omega)
  have d3 : decide ((2147483647 : Int) < val) = false := decide_eq_false (by omega)
  have HKV := Lib.hid (And.intro k0 (And.intro k1 (And.intro v0 v1)))
  obtain ⟨H, hH⟩ : ∃ H, highT l root = H := ⟨_, rfl⟩
  have hHb : 0 ≤ H ∧ H ≤ 20 := by
    rw [← hH]; unfold highT
    split
    · omega
    · exact bel_high l 20 root
  have HHI := Lib.hid (fun w' (hx : Ext w w') => (ref07High_any R l n q keep root w' hl (by omega) hrr (hA.ext hx)).mono (fun e w2 h => (⟨h.1, h.2.2⟩ : e = .returned (.int .i64 (highT l root)) ∧ Ext w' w2)))
  rw [hH] at HHI
  have d5 : (H == 20) = false := by have := hf.1; rw [hH] at this; simpa using this
  have HNE := Lib.hid (fun w' => ref07Need_any H w' hHb.1 (by omega))
  have HFI := Lib.hid (fun w' (hx : Ext w w') => ref05Fits_any R l n q keep (2 * H + 1) deep w' hkp (hA.ext hx))
  obtain ⟨fb, hfb⟩ : ∃ fb, fitsH ⟨l, keep⟩ (2 * H + 1) deep = fb := ⟨_, rfl⟩
  have hf2 := hf.2
  rw [hH, hfb] at hf2
  subst hf2
  rw [hfb] at HFI
  obtain ⟨p0, p1, p2⟩ := hb0.read2
  clear hx1 hb0 hb1 hA k0 k1 v0 v1 hrr hl hH hfb hnl hn hf
  subst hW
  go_enter Tryz.func7, Tryz.ntmps7
  go_wp2_with (go_at_call 26; refine stop_here ?_)
  refine stop_on ?_
  generalize hW : World.alloc (World.alloc w _) _ = W at *
  clear hW p0 p1 p2
  refine (HHI.out _ HX.out).mono ?_
  rintro e w1 ⟨rfl, hx1⟩
  have HX1 := Lib.hid hx1
  obtain ⟨p0, p1, p2⟩ := (HB0.out.ext hx1).read2
  clear hx1
  go_wp2_with fail
  go_cut [14] from 43 to 47 (fun v wx => v = .bool true ∧ Ext w1 wx)
  case first =>
    go_region_law
      (first
        | ((go_simp
            go_at_call 28
            refine (HNE.out _).mono ?_
            rintro e w4 ⟨rfl, rfl⟩))
        | ((go_simp
            go_at_call 27
            refine (HFI.out _ ?_).mono ?_
            (first | exact (HX.out.trans HX1.out).drew | exact (HX.out.trans HX1.out))
            rintro e w4 ⟨rfl, hx4⟩
            have E4 := Lib.hid (show Ext w1 w4 from by first | exact (Ext.refl _).drew.trans hx4 | exact hx4)
            clear hx4)))
    all_goals
      go_wp2_with fail
      go_meet
      exact ⟨rfl, E4.out⟩
  case rest =>
    obtain ⟨rfl, hxc⟩ := hcut
    have HXC := Lib.hid (HX1.out.trans hxc)
    have HXA := Lib.hid ((HX.out.trans HX1.out).trans hxc)
    have HC0 := Lib.hid (HB0.out.ext HXC.out)
    have HC1 := Lib.hid (HB1.out.ext HXC.out)
    clear hxc p0 p1 p2
    obtain ⟨p0, p1, p2⟩ := HC0.out.read2
    obtain ⟨t0, t1, t2⟩ := HC1.out.read2
    obtain ⟨f0, f1⟩ := HC1.out.free2
    go_wp2_with (go_at_call 30; refine stop_here ?_)
    refine stop_on ?_
    refine (HCH.out _ ?_).mono ?_
    · exact HXA.out.trans ((Ext.refl wc).alloc _)
    rintro e w5 ⟨S5, d5', O5, z5, rfl, hs5, ho5, hx5⟩
    have HX5 := Lib.hid (((Ext.refl wc).alloc _).trans hx5)
    have HC5 := Lib.hid (HC1.out.ext HX5.out)
    clear p0 p1 p2 t0 t1 t2 f0 f1
    have hal := (Ext.refl w5).alloc (.cells #[.slice S5 n d5', .int .i64 keep] 24)
    obtain ⟨b2, off2, rfl, hb2, -, k1⟩ := it_at (ho5.ext hal) HL1.out
    rw [Nat.zero_mul, Nat.add_zero, HV0.out] at k1
    have HS5 := Lib.hid (hs5.ext hal)
    have HO5 := Lib.hid (ho5.ext hal)
    have HE5 := Lib.hid (HX5.out.trans hal)
    have HN5 := Lib.hid (Bx.new w5 #[.slice S5 n d5', .int .i64 keep] 24)
    clear hs5 ho5 hx5 hal
    go_wp2_with (go_at_call 31; refine stop_here ?_)
    refine stop_on ?_
    refine (HLO.out _ S5 d5' HS5.out).mono ?_
    rintro e w6 ⟨S6, d6', rfl, hs6, hx6⟩
    have HX6 := Lib.hid (HE5.out.trans hx6)
    have HS6 := Lib.hid hs6
    have HC6 := Lib.hid (HC1.out.ext HX6.out)
    clear hs6 hx6 k1 hb2
    obtain ⟨t0, t1, t2⟩ := HC6.out.read2
    obtain ⟨f0, f1⟩ := HC6.out.free2
    go_wp2_with fail
    refine ret2_cell (k := w.heap.size + 1) (x := .slice S6 n d6') (y := .int .i64 keep) (v := .tuple #[.agg #[.slice S6 n d6', .int .i64 keep], .int .i64 V0, .int .i64 0]) ?hb4 (fun r0 r1 => by simp [results, Tryz.results7, go_sem, r0, r1]) rfl ?hx4
    case hb4 => exact (HC6.out.set2 _ _).ext ((Ext.refl _).alloc _)
    case hx4 => exact ⟨S6, d6', rfl, (HS6.out.boxed2 HC6.out _ _).ext ((Ext.refl _).alloc _), ((HXA.out.trans HX6.out).store2 (by omega) _ _).alloc _⟩
end Go.Proofs.YtkoomcbiddanfaaGreat
namespace Go.Proofs.YtkoomcbiddanfaaGreat
open Go.RowKit
attribute [local go_sem ↓] Go.wp_at_zero Go.wp_at_succ

set_option maxRecDepth 100000 in
set_option maxHeartbeats 3200000 in
theorem ref09Put_two (R : Option Addr) (l : List HC) (n q : Nat) (keep root : Int) (x : It) (deep : Bool) (w : World) (hx : okIt x) (hl : AllR l) (hn : n ≤ 2000) (hnl : n = l.length) (hkp : 0 ≤ keep ∧ keep ≤ 9223372036854775807) (hrr : rightR ⟨l, keep⟩ root = true) (hf : highT l root ≠ 20 ∧ fitsH ⟨l, keep⟩ (2 * highT l root + 1) deep = true) (h0 : 0 ≤ root) (c1 : List HC) (L1 : List It) (hL : L1.length = 2) (hbd1 : ∀ k (hk : k < c1.length), c1[k].ref ≤ 8000000000000000000) (hlc : (allocL c1 false L1 (L1.map (·.2))).length = l.length) (hbd : Bd (allocL c1 false L1 (L1.map (·.2)))) (hch : ∀ w', Ext w w' → Calls Tryz.prog 30 #[.agg #[.slice R n q, .int .i64 keep], .int .i64 root, .agg #[.int .i64 x.1, .int .i64 x.2]] w' fun e w2 => ∃ S d O z, e = .returned (.tuple #[.agg #[.slice S n d, .int .i64 keep], .slice O L1.length z]) ∧ HcSl w2 S n d c1 ∧ Sl w2 O L1.length z (ivs L1) ∧ Ext w' w2) (hA : HcSl w R n q l) :
    Calls Tryz.prog 7 #[.agg #[.slice R n q, .int .i64 keep], .int .i64 root, .int .i64 x.1, .int .i64 x.2, .bool deep] w fun e w' => ∃ S d, e = .returned (.tuple #[.agg #[.slice S n d, .int .i64 keep], .int .i64 (topS c1 L1).2, .int .i64 0]) ∧ HcSl w' S n d (looseL (l.length + 1) (topS c1 L1).1 root) ∧ Ext w w' := by
  have HCH := Lib.hid hch
  have d6 : decide (root < 0) = false := decide_eq_false (by omega)
  have hts : topS c1 L1 = (allocL c1 false L1 (L1.map (·.2)), (allocP c1 false L1 : Int)) := by unfold topS; rw [if_pos (by omega)]
  rw [hts]
  simp only
  have HL1 := Lib.hid (show 0 < L1.length by omega)
  have HOV := Lib.hid (fun w' S d B z (h : HcSl w' S n d c1) (hI : Sl w' B L1.length z (ivs L1)) => ref09Over_any S c1 n d keep B L1 L1.length z w' (by omega) hbd1 h rfl (by omega) hI)
  have HLO := Lib.hid (fun w' S d (h : HcSl w' S n d (allocL c1 false L1 (L1.map (·.2)))) => ref05Loose_is S _ n d keep root w' (by omega) hbd h)
  rw [hlc] at HLO
  have d7 : decide ((1 : Int) < (L1.length : Int)) = true := decide_eq_true (by omega)
  have hd7 : decide (1 < L1.length) = true := decide_eq_true (by omega)
  clear hts hlc hbd hbd1 hL
  generalize looseE ⟨allocL c1 false L1 (L1.map (·.2)), keep⟩ root = e9 at *
  generalize looseL (l.length + 1) (allocL c1 false L1 (L1.map (·.2))) root = c9 at *
  generalize allocL c1 false L1 (L1.map (·.2)) = c8 at *
  generalize (allocP c1 false L1 : Nat) = p8 at *
  generalize allocE c1 false L1 = e8 at *
  clear hch h0
  obtain ⟨W, hW⟩ : ∃ W, W = (w.alloc (.cells #[.slice R n q, .int .i64 keep] 24)).alloc (.cells #[.slice none 0 0, .int .i64 0] 24) := ⟨_, rfl⟩
  obtain ⟨hx1, hb0, hb1⟩ := allocs2 hW.symm
  have HX := Lib.hid hx1
  have HB0 := Lib.hid hb0
  have HB1 := Lib.hid hb1
  have HA := Lib.hid hA
  obtain ⟨key, val⟩ := x
  obtain ⟨⟨k0, k1⟩, v0, v1⟩ := hx
  simp only at k0 k1 v0 v1 ⊢
  have d0 : decide (key < 0) = false := decide_eq_false (by omega)
  have d1 : decide ((2147483647 : Int) < key) = false := decide_eq_false (by omega)
  have d2 : decide (val < 0) = false := decide_eq_false (by omega)
  have d3 : decide ((2147483647 : Int) < val) = false := decide_eq_false (by omega)
  have HKV := Lib.hid (And.intro k0 (And.intro k1 (And.intro v0 v1)))
  obtain ⟨H, hH⟩ : ∃ H, highT l root = H := ⟨_, rfl⟩
  have hHb : 0 ≤ H ∧ H ≤ 20 := by
    rw [← hH]; unfold highT
    split
    · omega
    · exact bel_high l 20 root
  have HHI := Lib.hid (fun w' (hx : Ext w w') => (ref07High_any R l n q keep root w' hl (by omega) hrr (hA.ext hx)).mono (fun e w2 h => (⟨h.1, h.2.2⟩ : e = .returned (.int .i64 (highT l root)) ∧ Ext w' w2)))
  rw [hH] at HHI
  have d5 : (H == 20) = false := by have := hf.1; rw [hH] at this; simpa using this
  have HNE := Lib.hid (fun w' => ref07Need_any H w' hHb.1 (by omega))
  have HFI := Lib.hid (fun w' (hx : Ext w w') => ref05Fits_any R l n q keep (2 * H + 1) deep w' hkp (hA.ext hx))
  obtain ⟨fb, hfb⟩ : ∃ fb, fitsH ⟨l, keep⟩ (2 * H + 1) deep = fb := ⟨_, rfl⟩
  have hf2 := hf.2
  rw [hH, hfb] at hf2
  subst hf2
  rw [hfb] at HFI
  obtain ⟨p0, p1, p2⟩ := hb0.read2
  clear hx1 hb0 hb1 hA k0 k1 v0 v1 hrr hl hH hfb hnl hn hf
  subst hW
  go_enter Tryz.func7, Tryz.ntmps7
  go_wp2_with (go_at_call 26; refine stop_here ?_)
  refine stop_on ?_
  generalize hW : World.alloc (World.alloc w _) _ = W at *
  clear hW p0 p1 p2
  refine (HHI.out _ HX.out).mono ?_
  rintro e w1 ⟨rfl, hx1⟩
  have HX1 := Lib.hid hx1
  obtain ⟨p0, p1, p2⟩ := (HB0.out.ext hx1).read2
  clear hx1
  go_wp2_with fail
  go_cut [14] from 43 to 47 (fun v wx => v = .bool true ∧ Ext w1 wx)
  case first =>
    go_region_law
      (first
        | ((go_simp
            go_at_call 28
            refine (HNE.out _).mono ?_
            rintro e w4 ⟨rfl, rfl⟩))
        | ((go_simp
            go_at_call 27
            refine (HFI.out _ ?_).mono ?_
            (first | exact (HX.out.trans HX1.out).drew | exact (HX.out.trans HX1.out))
            rintro e w4 ⟨rfl, hx4⟩
            have E4 := Lib.hid (show Ext w1 w4 from by first | exact (Ext.refl _).drew.trans hx4 | exact hx4)
            clear hx4)))
    all_goals
      go_wp2_with fail
      go_meet
      exact ⟨rfl, E4.out⟩
  case rest =>
    obtain ⟨rfl, hxc⟩ := hcut
    have HXC := Lib.hid (HX1.out.trans hxc)
    have HXA := Lib.hid ((HX.out.trans HX1.out).trans hxc)
    have HC0 := Lib.hid (HB0.out.ext HXC.out)
    have HC1 := Lib.hid (HB1.out.ext HXC.out)
    clear hxc p0 p1 p2
    obtain ⟨p0, p1, p2⟩ := HC0.out.read2
    obtain ⟨t0, t1, t2⟩ := HC1.out.read2
    obtain ⟨f0, f1⟩ := HC1.out.free2
    go_wp2_with (go_at_call 30; refine stop_here ?_)
    refine stop_on ?_
    refine (HCH.out _ ?_).mono ?_
    · exact HXA.out.trans ((Ext.refl wc).alloc _)
    rintro e w5 ⟨S5, d5', O5, z5, rfl, hs5, ho5, hx5⟩
    have HX5 := Lib.hid (((Ext.refl wc).alloc _).trans hx5)
    have HC5 := Lib.hid (HC1.out.ext HX5.out)
    clear p0 p1 p2 t0 t1 t2 f0 f1
    have hal := (Ext.refl w5).alloc (.cells #[.slice S5 n d5', .int .i64 keep] 24)
    obtain ⟨b2, off2, rfl, hb2, -, k1⟩ := it_at (ho5.ext hal) HL1.out
    rw [Nat.zero_mul, Nat.add_zero] at k1
    generalize (L1[0]'HL1.out).2 = V0 at *
    have HS5 := Lib.hid (hs5.ext hal)
    have HO5 := Lib.hid (ho5.ext hal)
    have HE5 := Lib.hid (HX5.out.trans hal)
    have HN5 := Lib.hid (Bx.new w5 #[.slice S5 n d5', .int .i64 keep] 24)
    clear hs5 ho5 hx5 hal
    go_wp2_with (go_at_call 9; refine stop_here ?_)
    refine stop_on ?_
    refine (HOV.out _ S5 d5' _ z5 HS5.out HO5.out).mono ?_
    rintro e w6 ⟨S6, d6', rfl, hs6, hx6⟩
    have HX6 := Lib.hid (HE5.out.trans hx6)
    have HN6 := Lib.hid (HN5.out.ext hx6)
    have hz := HC5.out.lt
    clear k1 hb2
    have hal := (Ext.refl w6).alloc (.cells #[.slice S6 n d6', .int .i64 keep] 24)
    have HS7 := Lib.hid ((hs6.boxed2 HN6.out (.slice S6 n d6') (.int .i64 keep)).ext ((Ext.refl _).alloc (.cells #[.slice S6 n d6', .int .i64 keep] 24)))
    have HX7 := Lib.hid ((HX6.out.store2 (k := w5.heap.size) HX5.out.size (.slice S6 n d6') (.int .i64 keep)).alloc (.cells #[.slice S6 n d6', .int .i64 keep] 24))
    clear hs6 hx6 hal
    obtain ⟨g0, g1, g2⟩ := HN6.out.read2
    obtain ⟨h0, h1⟩ := HN6.out.free2
    go_wp2_with (go_at_call 31; refine stop_here ?_)
    refine stop_on ?_
    refine (HLO.out _ S6 d6' HS7.out).mono ?_
    rintro e w7 ⟨S8, d8', rfl, hs8, hx8⟩
    have HX8 := Lib.hid (HX7.out.trans hx8)
    have HS8 := Lib.hid hs8
    have HC8 := Lib.hid (HC1.out.ext HX8.out)
    clear hs8 hx8 g0 g1 g2 h0 h1
    obtain ⟨t0, t1, t2⟩ := HC8.out.read2
    obtain ⟨f0, f1⟩ := HC8.out.free2
    go_wp2_with fail
    refine ret2_cell (k := w.heap.size + 1) (x := .slice S8 n d8') (y := .int .i64 keep) (v := .tuple #[.agg #[.slice S8 n d8', .int .i64 keep], .int .i64 (p8 : Nat), .int .i64 0]) ?hb4 (fun r0 r1 => by simp [results, Tryz.results7, go_sem, r0, r1]) rfl ?hx4
    case hb4 => exact (HC8.out.set2 _ _).ext ((Ext.refl _).alloc _)
    case hx4 => exact ⟨S8, d8', rfl, (HS8.out.boxed2 HC8.out _ _).ext ((Ext.refl _).alloc _), ((HXA.out.trans HX8.out).store2 (by omega) _ _).alloc _⟩
end Go.Proofs.YtkoomcbiddanfaaGreat
namespace Go.Proofs.YtkoomcbiddanfaaGreat
open Go.RowKit

/-- P9.1. -/
theorem ref09Put_any (R : Option Addr) (l : List HC) (n q : Nat) (keep root most : Int) (x : It) (deep : Bool) (w : World) (hmost : most ≤ 60) (hm : mayT ⟨l, keep⟩ root most = true) (hA : HcSl w R n q l) :
    Calls Tryz.prog 7 #[.agg #[.slice R n q, .int .i64 keep], .int .i64 root, .int .i64 x.1, .int .i64 x.2, .bool deep] w fun e w' => ∃ S d, e = .returned (.tuple #[.agg #[.slice S n d, .int .i64 keep], .int .i64 (putR ⟨l, keep⟩ root x deep).2.1, .int .i64 (putR ⟨l, keep⟩ root x deep).2.2]) ∧ HcSl w' S n d (putR ⟨l, keep⟩ root x deep).1 ∧ Ext w w' := by
  unfold mayT at hm
  rw [Bool.and_eq_true] at hm
  obtain ⟨hmay, hrr⟩ := hm
  obtain ⟨m1, m2, m3⟩ := may_iff hmay
  obtain ⟨kp0, kp1⟩ := may_keep hmay
  have hal := allR_of m3
  have hn := hA.1
  have hs : ∀ k (hk : k < l.length), l[k].ref ≤ 1000000 := fun k hk => (m2 k hk).2
  by_cases hx : okIt x
  rotate_left
  · have e : putR ⟨l, keep⟩ root x deep = (l, root, 1) := by unfold putR; rw [if_neg hx]
    rw [e]
    exact ref09Put_arg R l n q keep root x deep w hx hA
  by_cases hf : highT l root = 20 ∨ fitsH ⟨l, keep⟩ (2 * highT l root + 1) deep = false
  · have e : putR ⟨l, keep⟩ root x deep = (l, root, 3) := by unfold putR; rw [if_pos hx]; simp only; rw [if_pos hf]
    rw [e]
    exact ref09Put_full R l n q keep root x deep w hx hal (by omega) hn ⟨kp0, by omega⟩ hrr hf hA
  have e : putR ⟨l, keep⟩ root x deep = ((putG l root x).1, (putG l root x).2, 0) := by unfold putR; rw [if_pos hx]; simp only; rw [if_neg hf]
  rw [e]
  have hf2 : highT l root ≠ 20 ∧ fitsH ⟨l, keep⟩ (2 * highT l root + 1) deep = true := by
    rw [not_or, Bool.not_eq_false] at hf; exact hf
  have hfr := fits_free kp0 hf2.2
  rcases Int.lt_or_le root 0 with h0 | h0
  · have hh : highT l root = 0 := by unfold highT; rw [if_pos h0]
    rw [hh] at hfr
    obtain ⟨e1, -⟩ := above_none (root := root) m3 hs hx h0 (by omega)
    have := ref09Put_none R l n q keep root x deep w hx hal (by omega) hn ⟨kp0, by omega⟩ hrr hf2 h0 (fun k hk => by have := hs k hk; omega) hA
    rw [e1] at this
    unfold putG aboveS
    rw [if_pos h0, if_pos h0]
    exact this
  · have hh : highT l root = (bel l 20 root).high := by unfold highT; rw [if_neg (by omega)]
    obtain ⟨-, h1, hb⟩ := (rightR_iff hrr).resolve_left (by omega)
    have hbh := (bel_high l 20 root).2
    have hlt : (bel l 20 root).high < 20 := by have := hf2.1; omega
    rw [hh] at hfr
    obtain ⟨-, a, T⟩ := above_some m3 hs hx h0 h1 hb hlt hfr
    obtain ⟨e', he1, he2⟩ : ∃ e', (bel l 20 root).hi < e' ∧ x.1 < e' := by
      rcases Int.lt_or_le (bel l 20 root).hi x.1 with h | h
      · exact ⟨x.1 + 1, by omega, by omega⟩
      · exact ⟨(bel l 20 root).hi + 1, by omega, by omega⟩
    obtain ⟨a1, AN⟩ := anew_ok 20 l root x e' (Nat.le_refl _) m3 hs hx h0 h1 hb he1 he2 (by omega)
    have HC := fun w' (hx' : Ext w w') => ref09anew_any 20 l root x e' R n q w' (Nat.le_refl _) m3 hs hx h0 h1 hb he1 he2 (by omega) (by omega) (hA.ext hx')
    have hab : aboveS l root x = topS (anewS 20 l root x).1 (anewS 20 l root x).2 := by unfold aboveS; rw [if_neg (by omega)]
    have hpg : putG l root x = (looseL (l.length + 1) (topS (anewS 20 l root x).1 (anewS 20 l root x).2).1 root, (topS (anewS 20 l root x).1 (anewS 20 l root x).2).2) := by unfold putG; rw [if_neg (by omega), hab]
    rw [hpg]
    simp only
    rw [hab] at T
    have hTl := T.keeps.len
    have hTr := T.refs
    have hTm := T.many
    have hAl := AN.len
    have hAk := AN.keeps.len
    have hAr := AN.refs
    have hAm := AN.many
    have hBd : Bd (topS (anewS 20 l root x).1 (anewS 20 l root x).2).1 := fun k hk => by
      have hk' : k < l.length := by omega
      have h3 := hTr k hk' hk
      have h4 := hs k hk'
      split at h3 <;> omega
    have hBc : ∀ k (hk : k < (anewS 20 l root x).1.length), (anewS 20 l root x).1[k].ref ≤ 8000000000000000000 := fun k hk => by
      have hk' : k < l.length := by omega
      have h3 := hAr k hk' hk
      have h4 := hs k hk'
      split at h3 <;> omega
    clear T AN hTr hTm hAr hAm
    generalize anewS 20 l root x = r at *
    obtain ⟨c1, L1⟩ := r
    simp only at *
    by_cases h2 : L1.length = 1
    · exact ref09Put_one R l n q keep root x deep w hx hal (by omega) hn ⟨kp0, by omega⟩ hrr hf2 h0 c1 L1 h2 hAk (fun k hk => by have := hBc k hk; omega) HC hA
    · have ht : (topS c1 L1).1 = allocL c1 false L1 (L1.map (·.2)) := by unfold topS; rw [if_pos (by omega)]
      rw [ht] at hTl hBd
      exact ref09Put_two R l n q keep root x deep w hx hal (by omega) hn ⟨kp0, by omega⟩ hrr hf2 h0 c1 L1 (by omega) hBc hTl hBd HC hA
end Go.Proofs.YtkoomcbiddanfaaGreat
