/- The root that is gone down from, whatever the Refs are: the plain theory. Walks of used, next and Need of package tree. A range over a function whose iterator keeps boxes of its own that it writes: what it asks of a round, what a round asks of it, and the law of the loop. -/
import Derived.Test.YtbfbpddfcakieaaGreatK27
import Derived.Test.YtbfbpddfcakieaaGreatK17
import Derived.Test.YtbfbpddfcakieaaGreatK15
import Derived.RangeFuncNested
import Derived.RangeFuncBound
import Derived.RangeFuncCalls
import Derived.RangeFuncLeaves
import Derived.RangeFuncBox
import Derived.Shelf.Abstract
import Derived.Shelf.RegionOpen
import Derived.OwnWalkIn
import Derived.TacticsInMore
import Derived.LoopNIn
import Derived.LoopIn
namespace Go.Proofs.YtbfbpddfcakieaaGreat
open Go.RowKit

/-- What is lower than a tree doesn't change with its root. -/
theorem bel_off {c c2 : List HC} {k : Nat} (hlen : c2.length = c.length) (hl : AllR c) (h : ∀ j (hj : j < c.length) (hj' : j < c2.length), j ≠ k → 0 < c[j].ref → 0 < c2[j].ref ∧ c2[j].leaf = c[j].leaf ∧ c2[j].it = c[j].it) :
    ∀ (m : Nat) (p : Int), m ≤ 20 → 0 ≤ p → p < c.length → (bel c m p).is = true → (bel c m p).high < (bel c 20 (k : Int)).high → bel c2 m p = bel c m p
  | 0, p, _, _, _, hb, _ => (bel_zero hb).elim
  | m + 1, p, hm, h0, h1, hb, hh => by
    obtain ⟨j, rfl⟩ := Int.eq_ofNat_of_zero_le h0
    have hj : j < c.length := by omega
    have hj' : j < c2.length := by rw [hlen]; exact hj
    have hne : j ≠ k := fun e => by
      subst e
      rw [bel_mono c (m + 1) 20 _ hb hm] at hh
      omega
    obtain ⟨hr, hc⟩ := bel_is hb
    rw [cellT_at hj] at hr hc
    have hok := cell_ok (hl j hj) hr
    obtain ⟨g1, g2, g3⟩ := h j hj hj' hne hr
    rw [bel, bel, cellT_at hj, cellT_at hj', if_neg (show ¬ c2[j].ref < 1 by omega), if_neg (show ¬ c[j].ref < 1 by omega), g2, g3]
    rcases hc with ⟨hlf, _⟩ | ⟨hlf, _, hch⟩
    · rw [hlf]; rfl
    · rw [hlf]
      simp only [Bool.false_eq_true, if_false]
      exact belRow_congr (fun x hx => bel_off hlen hl h m x.2 (by omega) (hok.2 hlf x hx).1 (by have := (hok.2 hlf x hx).2; omega) (hch x hx).1 (by have := (hch x hx).2.2; omega))
theorem low_off {keep : Int} {c : List HC} {k : Nat} (hk : k < c.length) (hr : rightH ⟨c, keep⟩ = true) (hs : ∀ k (hk : k < c.length), c[k].ref ≤ 1999000000) (hlf : c[k].leaf = false) (hone : c[k].it.length = 1) :
    ∃ (w : Nat) (_ : w < c.length), (c[k].it.getD 0 (0, 0)).2 = (w : Int) ∧ rightH ⟨(holdH ⟨c, keep⟩ (w : Int)).c, keep⟩ = true ∧ rightH ⟨looseL (c.length + 1) (holdH ⟨c, keep⟩ (w : Int)).c (k : Int), keep⟩ = true ∧ (holdH ⟨c, keep⟩ (w : Int)).c.length = c.length ∧ (looseL (c.length + 1) (holdH ⟨c, keep⟩ (w : Int)).c (k : Int)).length = c.length ∧
    (∀ j (hj : j < (holdH ⟨c, keep⟩ (w : Int)).c.length), (holdH ⟨c, keep⟩ (w : Int)).c[j].ref ≤ 1999000001) ∧ (∀ B : Int, 0 ≤ B → (∀ j (hj : j < c.length), c[j].ref ≤ B) → ∀ j (hj : j < (looseL (c.length + 1) (holdH ⟨c, keep⟩ (w : Int)).c (k : Int)).length), (looseL (c.length + 1) (holdH ⟨c, keep⟩ (w : Int)).c (k : Int))[j].ref ≤ B + 1) ∧
    ((bel c 20 (k : Int)).is = true → (bel (looseL (c.length + 1) (holdH ⟨c, keep⟩ (w : Int)).c (k : Int)) 20 (w : Int)).is = true ∧ (bel (looseL (c.length + 1) (holdH ⟨c, keep⟩ (w : Int)).c (k : Int)) 20 (w : Int)).high + 1 = (bel c 20 (k : Int)).high) := by
  have hrf : 0 < c[k].ref := by
    have h := (rightH_iff hr).2 k hk
    unfold cellR at h
    split at h
    · simp only [Bool.and_eq_true, decide_eq_true_eq] at h; omega
    · simp only [Bool.and_eq_true, decide_eq_true_eq] at h; exact h.1
  have hok := cell_ok ((rightH_iff hr).2 k hk) hrf
  obtain ⟨x, hx⟩ : ∃ x, c[k].it = [x] := by
    match h : c[k].it, hone with
    | [x], _ => exact ⟨x, rfl⟩
  have hxp := hok.2 hlf x (by rw [hx]; exact List.mem_cons_self)
  obtain ⟨w, hw⟩ := Int.eq_ofNat_of_zero_le hxp.1
  have hwl : w < c.length := by have := hxp.2; omega
  refine ⟨w, hwl, by rw [hx]; exact hw, ?_⟩
  by_cases hu : usedC c (w : Int) = true
  · have hhold : (holdH ⟨c, keep⟩ (w : Int)).c = upL c [(w : Int)] := by
      rw [← hold_up hu]
      unfold holdH usedH
      rw [if_pos hu]
      rfl
    rw [hhold]
    have hr1 : rightH ⟨upL c [(w : Int)], keep⟩ = true := upL_right2 (fun p hp => by simp only [List.mem_cons, List.not_mem_nil, or_false] at hp; subst hp; exact hu) hr (fun k hk => by have := hs k hk; omega) (by simp)
    have hcut := loose_cuts (c.length + 1) (upL c [(w : Int)]) (k : Int)
    have hlen := upL_len c [(w : Int)]
    refine ⟨hr1, cuts_right hcut hr1, hlen, by rw [hcut.len, hlen], fun j hj => ?_, fun B hB hbd j hj => ?_, fun hb => ?_⟩
    · have hj' : j < c.length := by rw [hlen] at hj; exact hj
      rw [up_one hj']
      have := hs j hj'
      show c[j].ref + _ ≤ _
      split <;> omega
    · have hj1 : j < (upL c [(w : Int)]).length := by rw [hcut.len] at hj; exact hj
      have hj0 : j < c.length := by rw [hlen] at hj1; exact hj1
      by_cases h2 : 0 < (looseL (c.length + 1) (upL c [(w : Int)]) (k : Int))[j].ref
      · obtain ⟨_, _, _, h4, _⟩ := hcut.on j hj1 hj h2
        rw [up_one hj0] at h4
        simp only at h4
        have := hbd j hj0
        split at h4 <;> omega
      · exact Int.le_trans (Int.not_lt.1 h2) (by omega)
    · have hhb := (bel_is (m := 19) hb).2
      rw [cellT_at hk] at hhb
      rcases hhb with ⟨e, _⟩ | ⟨_, _, hch⟩
      · rw [hlf] at e; cases e
      · have hcw := hch x (by rw [hx]; exact List.mem_cons_self)
        rw [hw] at hcw
        have hbw : bel c 20 (w : Int) = bel c 19 (w : Int) := bel_mono c 19 20 _ hcw.1 (by omega)
        have hwk : w ≠ k := fun e => by
          subst e
          rw [← hbw] at hcw
          have h7 : (bel c 20 (w : Int)).high + 1 = (bel c 20 (w : Int)).high := hcw.2.2
          omega
        have hrw := (bel_is (m := 18) hcw.1).1
        rw [cellT_at hwl] at hrw
        have hkeep : ∀ j (hj : j < c.length) (hj' : j < (looseL (c.length + 1) (upL c [(w : Int)]) (k : Int)).length), j ≠ k → 0 < c[j].ref → 0 < (looseL (c.length + 1) (upL c [(w : Int)]) (k : Int))[j].ref ∧ (looseL (c.length + 1) (upL c [(w : Int)]) (k : Int))[j].leaf = c[j].leaf ∧ (looseL (c.length + 1) (upL c [(w : Int)]) (k : Int))[j].it = c[j].it := by
          have hk1 : k < (upL c [(w : Int)]).length := by rw [hlen]; exact hk
          have hw1 : w < (upL c [(w : Int)]).length := by rw [hlen]; exact hwl
          have huk : usedC (upL c [(w : Int)]) (k : Int) = true := by
            rw [usedC_at hk1, up_one hk]
            refine decide_eq_true ?_
            show 0 < c[k].ref + _
            split <;> omega
          have hck : (upL c [(w : Int)]).getD k HC.none = ⟨c[k].ref, c[k].pin, c[k].leaf, c[k].it⟩ := by
            rw [List.getD_eq_getElem?_getD, List.getElem?_eq_getElem hk1, Option.getD_some, up_one hk, if_neg (fun e => hwk e.symm), Int.add_zero]
          have hstep : looseL (c.length + 1) (upL c [(w : Int)]) (k : Int) = if 1 < c[k].ref then (upL c [(w : Int)]).set k ⟨c[k].ref - 1, false, c[k].leaf, c[k].it⟩ else ((upL c [(w : Int)]).set k ⟨0, true, false, []⟩).set w ⟨c[w].ref, false, c[w].leaf, c[w].it⟩ := by
            rw [looseL, if_pos huk, Int.toNat_natCast, hck]
            simp only
            by_cases h1 : 1 < c[k].ref
            · rw [if_pos h1, if_pos h1]
            · rw [if_neg h1, if_neg h1]
              rw [hlf, hx]
              simp only [Bool.false_eq_true, if_false, List.foldl_cons, List.foldl_nil]
              rw [hw]
              obtain ⟨f, hf⟩ : ∃ f, c.length = f + 1 := ⟨c.length - 1, by omega⟩
              have hw2 : w < ((upL c [(w : Int)]).set k ⟨0, true, false, []⟩).length := by rw [List.length_set]; exact hw1
              have hcw2 : ((upL c [(w : Int)]).set k ⟨0, true, false, []⟩)[w] = ⟨c[w].ref + 1, c[w].pin, c[w].leaf, c[w].it⟩ := by
                rw [List.getElem_set_ne (fun e => hwk e.symm), up_one hwl, if_pos rfl]
              rw [hf, looseL, if_pos (by rw [usedC_at hw2, hcw2]; exact decide_eq_true (show 0 < c[w].ref + 1 by omega)), Int.toNat_natCast]
              have hgd : ((upL c [(w : Int)]).set k ⟨0, true, false, []⟩).getD w HC.none = ⟨c[w].ref + 1, c[w].pin, c[w].leaf, c[w].it⟩ := by
                rw [List.getD_eq_getElem?_getD, List.getElem?_eq_getElem hw2, Option.getD_some, hcw2]
              rw [hgd]
              simp only
              rw [if_pos (by omega), show c[w].ref + 1 - 1 = c[w].ref by omega]
          intro j hj hj' hne h0
          by_cases h1 : 1 < c[k].ref
          · have e : (looseL (c.length + 1) (upL c [(w : Int)]) (k : Int))[j] = (upL c [(w : Int)])[j]'(by rw [hlen]; exact hj) := by
              simp only [hstep, if_pos h1]
              rw [List.getElem_set_ne (fun e => hne e.symm)]
            rw [e, up_one hj]
            refine ⟨?_, rfl, rfl⟩
            show 0 < c[j].ref + _
            split <;> omega
          · by_cases hjw : j = w
            · subst hjw
              have e : (looseL (c.length + 1) (upL c [(j : Int)]) (k : Int))[j] = ⟨c[j].ref, false, c[j].leaf, c[j].it⟩ := by
                simp only [hstep, if_neg h1]
                rw [List.getElem_set_self]
              rw [e]
              exact ⟨h0, rfl, rfl⟩
            · have e : (looseL (c.length + 1) (upL c [(w : Int)]) (k : Int))[j] = (upL c [(w : Int)])[j]'(by rw [hlen]; exact hj) := by
                simp only [hstep, if_neg h1]
                rw [List.getElem_set_ne (fun e => hjw e.symm), List.getElem_set_ne (fun e => hne e.symm)]
              rw [e, up_one hj]
              refine ⟨?_, rfl, rfl⟩
              show 0 < c[j].ref + _
              split <;> omega
        have hoff := bel_off (by rw [hcut.len, hlen]) (allR_of hr) hkeep 20 (w : Int) (Nat.le_refl _) (by omega) (by omega) (by rw [hbw]; exact hcw.1) (by rw [hbw]; have h7 : _ + 1 = (bel c 20 (k : Int)).high := hcw.2.2; omega)
        rw [hoff, hbw]
        exact ⟨hcw.1, hcw.2.2⟩
  · have hhold : (holdH ⟨c, keep⟩ (w : Int)).c = c := by
      unfold holdH usedH
      rw [if_neg hu]
    rw [hhold]
    have hcut := loose_cuts (c.length + 1) c (k : Int)
    refine ⟨hr, cuts_right hcut hr, rfl, hcut.len, fun j hj => by have := hs j hj; omega, fun B hB hbd j hj => ?_, fun hb => ?_⟩
    · have hj0 : j < c.length := by rw [hcut.len] at hj; exact hj
      by_cases h2 : 0 < (looseL (c.length + 1) c (k : Int))[j].ref
      · obtain ⟨_, _, _, h4, _⟩ := hcut.on j hj0 hj h2
        have := hbd j hj0
        omega
      · exact Int.le_trans (Int.not_lt.1 h2) (by omega)
    · have hhb := (bel_is (m := 19) hb).2
      rw [cellT_at hk] at hhb
      rcases hhb with ⟨e, _⟩ | ⟨_, _, hch⟩
      · rw [hlf] at e; cases e
      · have hcw := hch x (by rw [hx]; exact List.mem_cons_self)
        rw [hw] at hcw
        have hrw := (bel_is (m := 18) hcw.1).1
        rw [cellT_at hwl] at hrw
        exact absurd (by rw [usedC_at hwl, decide_eq_true hrw]) hu
/-- That the way down ends. -/
def lowE : Nat → List HC → Int → Prop
  | 0, _, _ => False
  | m + 1, c, p => p < 0 ∨ ((cellT c p).leaf = true ∨ (cellT c p).it.length ≠ 1) ∨ lowE m (looseL (c.length + 1) (holdL c ((cellT c p).it.getD 0 (0, 0)).2) p) ((cellT c p).it.getD 0 (0, 0)).2
theorem low_ends {keep : Int} : ∀ (m : Nat) (c : List HC) (p : Int), rightH ⟨c, keep⟩ = true → (∀ k (hk : k < c.length), c[k].ref ≤ 1990000000 - (m : Int)) → m ≤ 1000 → 0 ≤ p → p < c.length → (bel c 20 p).is = true → (bel c 20 p).high ≤ m → lowE m c p
  | 0, c, p, hr, _, _, h0, h1, hb, hm => by have := bel_pos c (allR_of hr) 20 p h0 h1 hb; omega
  | m + 1, c, p, hr, hs, hm1, h0, h1, hb, hm => by
    obtain ⟨k, rfl⟩ := Int.eq_ofNat_of_zero_le h0
    have hk : k < c.length := by omega
    rw [lowE, cellT_at hk]
    by_cases hc : c[k].leaf = true ∨ c[k].it.length ≠ 1
    · exact .inr (.inl hc)
    · have hc2 := hc
      rw [not_or, Bool.not_eq_true, Decidable.not_not] at hc2
      obtain ⟨w, hw, e1, r1, r2, l1, l2, b1, b2, hbel⟩ := low_off hk hr (fun k hk => by have := hs k hk; omega) hc2.1 hc2.2
      rw [hold_c] at r1 r2 l1 l2 b1 b2 hbel
      obtain ⟨i1, i2⟩ := hbel hb
      rw [e1]
      refine .inr (.inr (low_ends m _ (w : Int) r2 (fun j hj => ?_) (by omega) (by omega) (by rw [l2]; omega) i1 (by omega)))
      have := b2 (1990000000 - ((m + 1 : Nat) : Int)) (by omega) (fun j hj => hs j hj) j hj
      omega
end Go.Proofs.YtbfbpddfcakieaaGreat
namespace Go.Proofs.YtbfbpddfcakieaaGreat
open Go.RowKit

/-- Where each cell's node stands. -/
def Lie (w : World) (R : Option Addr) (l : List HC) (A : Nat → Option Addr) (C : Nat → Nat) : Prop := ∀ k (hk : k < l.length), ∃ b off, R = some ⟨b, off, none⟩ ∧ b < w.heap.size ∧
  (w.cell? ⟨b, off + k * 4, none⟩ = some (.int .i64 l[k].ref) ∧ w.cell? ⟨b, off + k * 4 + 2, none⟩ = some (.bool l[k].leaf) ∧ w.cell? ⟨b, off + k * 4 + 3, none⟩ = some (.slice (A k) l[k].it.length (C k))) ∧ Sl w (A k) l[k].it.length (C k) (ivs l[k].it)
theorem lie_ex {w : World} {R : Option Addr} {n q : Nat} {l : List HC} (h : HcSl w R n q l) : ∃ A C, Lie w R l A C := by
  have hc := fun k (hk : k < l.length) => h.cell hk
  refine ⟨fun k => if hk : k < l.length then (hc k hk).choose_spec.choose_spec.2.2.choose else none, fun k => if hk : k < l.length then (hc k hk).choose_spec.choose_spec.2.2.choose_spec.choose else 0, fun k hk => ?_⟩
  simp only [dif_pos hk]
  have h1 := (hc k hk).choose_spec.choose_spec
  have h2 := h1.2.2.choose_spec.choose_spec
  exact ⟨_, _, h1.1, h1.2.1, ⟨h2.1, h2.2.2.1, h2.2.2.2.1⟩, h2.2.2.2.2⟩
theorem Lie.ext {w w' : World} {R : Option Addr} {l : List HC} {A : Nat → Option Addr} {C : Nat → Nat} (h : Lie w R l A C) (hx : Ext w w') : Lie w' R l A C := fun k hk => by
  obtain ⟨b, off, e, hb, ⟨h1, h2, h3⟩, h4⟩ := h k hk
  exact ⟨b, off, e, Nat.lt_of_lt_of_le hb hx.size, ⟨(hx.cell (p := ⟨b, off + k * 4, none⟩) hb).trans h1, (hx.cell (p := ⟨b, off + k * 4 + 2, none⟩) hb).trans h2, (hx.cell (p := ⟨b, off + k * 4 + 3, none⟩) hb).trans h3⟩, h4.ext hx⟩
def NV (l : List HC) (A : Nat → Option Addr) (C : Nat → Nat) (p : Int) : Value := .agg #[.bool (cellT l p).leaf, .slice (A p.toNat) (cellT l p).it.length (C p.toNat)]
def usedV (l : List HC) (A : Nat → Option Addr) (C : Nat → Nat) (p : Int) : Value := if usedC l p then NV l A C p else .agg #[.bool false, .slice none 0 0]
set_option maxRecDepth 100000 in
set_option maxHeartbeats 800000 in
theorem treeUsed_any (R : Option Addr) (l : List HC) (n q : Nat) (keep p : Int) (A : Nat → Option Addr) (C : Nat → Nat) (w : World) (hl : AllR l) (hn : n = l.length) (hA : Lie w R l A C) :
    Calls Tryz.prog 72 #[.agg #[.slice R n q, .int .i64 keep], .int .i64 p] w fun e w' => e = .returned (.tuple #[usedV l A C p, .bool (usedC l p)]) ∧ Ext w w' := by
  obtain ⟨W, hW⟩ : ∃ W, (w.alloc (.cells #[.slice R n q, .int .i64 keep] 24)).alloc (.cells #[.bool false, .slice none 0 0] 51) = W := ⟨_, rfl⟩
  obtain ⟨hx, hb0, hb1⟩ := allocs2 hW
  have HX := Lib.hid hx
  have HB0 := Lib.hid hb0
  have HB1 := Lib.hid hb1
  obtain ⟨b0, b1, b2⟩ := hb0.read2
  obtain ⟨f0, f1⟩ := hb1.free2
  obtain ⟨c0, c1, fl⟩ := hb1.read2
  have HN := Lib.hid hn
  have HXS := Lib.hid (fun x y => (hx.set (p := ⟨w.heap.size + 1, 0, none⟩) (by show w.heap.size ≤ w.heap.size + 1; omega) x).set (p := ⟨w.heap.size + 1, 1, none⟩) (by show w.heap.size ≤ w.heap.size + 1; omega) y)
  clear hx hb0 hb1
  by_cases hp : p < 0
  · have d0 : decide (p < 0) = true := decide_eq_true hp
    have HU := Lib.hid (usedC_neg (l := l) hp)
    clear hn hp hl hA
    go_enter Tryz.func72, Tryz.ntmps72
    go_wp2
    refine ret2_cell (k := w.heap.size + 1) (x := .bool false) (y := .slice none 0 0) (v := .tuple #[.agg #[.bool false, .slice none 0 0], .bool false]) ?hb1 (fun r0 r1 => by simp [results, Tryz.results72, go_sem, r0, r1]) rfl ?hx1
    case hb1 => exact HB1.out.set2 _ _
    case hx1 => exact ⟨by unfold usedV; rw [HU.out]; rfl, HXS.out _ _⟩
  obtain ⟨k, rfl⟩ := Int.eq_ofNat_of_zero_le (show 0 ≤ p by omega)
  have d0 : decide ((k : Int) < 0) = false := decide_eq_false hp
  rcases Nat.lt_or_ge k n with hk | hk
  rotate_left
  · have d1 : decide ((n : Int) ≤ (k : Int)) = true := decide_eq_true (by omega)
    have d3 : decide (n ≤ k) = true := decide_eq_true hk
    have HU := Lib.hid (usedC_big (l := l) (p := (k : Int)) (by omega))
    clear hn hp hl hA hk
    go_enter Tryz.func72, Tryz.ntmps72
    go_wp2
    refine ret2_cell (k := w.heap.size + 1) (x := .bool false) (y := .slice none 0 0) (v := .tuple #[.agg #[.bool false, .slice none 0 0], .bool false]) ?hb2 (fun r0 r1 => by simp [results, Tryz.results72, go_sem, r0, r1]) rfl ?hx2
    case hb2 => exact HB1.out.set2 _ _
    case hx2 => exact ⟨by unfold usedV; rw [HU.out]; rfl, HXS.out _ _⟩
  have d1 : decide ((n : Int) ≤ (k : Int)) = false := decide_eq_false (by omega)
  have d3 : decide (n ≤ k) = false := decide_eq_false (by omega)
  have hkl : k < l.length := by omega
  obtain ⟨b, off, rfl, hbl, ⟨q0, q2, q3⟩, hI⟩ := hA k hkl
  have r0 := (HX.out.cell (p := ⟨b, off + k * 4, none⟩) hbl).trans q0
  have r2 := (HX.out.cell (p := ⟨b, off + k * 4 + 2, none⟩) hbl).trans q2
  have r3 := (HX.out.cell (p := ⟨b, off + k * 4 + 3, none⟩) hbl).trans q3
  have HI := Lib.hid (hI.ext HX.out)
  have HQ := Lib.hid (And.intro q0 (And.intro q2 q3))
  have hkn : (k : Int) < (n : Int) := by omega
  by_cases hrf : 0 < l[k].ref
  rotate_left
  · have d2 : decide (l[k].ref ≤ 0) = true := decide_eq_true (by omega)
    have HU := Lib.hid (show usedC l (k : Int) = false from by rw [usedC_at hkl, decide_eq_false hrf])
    generalize l[k] = x at *
    clear hn hp hl hA hk hI hkl q0 q2 q3 hrf
    go_enter Tryz.func72, Tryz.ntmps72
    go_wp2
    refine ret2_cell (k := w.heap.size + 1) (x := .bool false) (y := .slice none 0 0) (v := .tuple #[.agg #[.bool false, .slice none 0 0], .bool false]) ?hb3 (fun r0 r1 => by simp [results, Tryz.results72, go_sem, r0, r1]) rfl ?hx3
    case hb3 => exact HB1.out.set2 _ _
    case hx3 => exact ⟨by unfold usedV; rw [HU.out]; rfl, HXS.out _ _⟩
  have d2 : decide (l[k].ref ≤ 0) = false := decide_eq_false (by omega)
  have HU := Lib.hid (show usedC l (k : Int) = true from by rw [usedC_at hkl, decide_eq_true hrf])
  have HV := Lib.hid (show NV l A C (k : Int) = .agg #[.bool l[k].leaf, .slice (A k) l[k].it.length (C k)] from by unfold NV; rw [cellT_at hkl, Int.toNat_natCast])
  have hnd := (ndR_iff _).2 (cell_ok (hl k hkl) hrf).1
  have HC := Lib.hid (nodeRight_any l[k].leaf (A k) l[k].it l[k].it.length (C k) W rfl HI.out)
  rw [hnd] at HC
  generalize l[k] = x at *
  clear hn hp hl hA hk hI hkl q0 q2 q3 hrf hnd
  go_enter Tryz.func72, Tryz.ntmps72
  go_wp2_with (go_at_call 77; refine stop_here ?_)
  refine stop_on ?_
  refine HC.out.mono ?_
  rintro e w1 ⟨rfl, hx1⟩
  have HX1 := Lib.hid (HX.out.trans hx1)
  obtain ⟨b0, b1, b2⟩ := (show Bx W w.heap.size _ from HB0.out).ext hx1 |>.read2
  obtain ⟨f0, f1⟩ := (HB1.out.ext hx1).free2
  obtain ⟨c0, c1, fl⟩ := (HB1.out.ext hx1).read2
  have HB2 := Lib.hid (HB1.out.ext hx1)
  have r0 := (HX1.out.cell (p := ⟨b, off + k * 4, none⟩) hbl).trans HQ.out.1
  have r2 := (HX1.out.cell (p := ⟨b, off + k * 4 + 2, none⟩) hbl).trans HQ.out.2.1
  have r3 := (HX1.out.cell (p := ⟨b, off + k * 4 + 3, none⟩) hbl).trans HQ.out.2.2
  clear hx1
  go_wp2
  refine ret2_cell (k := w.heap.size + 1) (x := .bool x.leaf) (y := .slice (A k) x.it.length (C k)) (v := .tuple #[.agg #[.bool x.leaf, .slice (A k) x.it.length (C k)], .bool true]) ?hb4 (fun r0 r1 => by simp [results, Tryz.results72, go_sem, r0, r1]) rfl ?hx4
  case hb4 => exact HB2.out.set2 _ _
  case hx4 => exact ⟨by unfold usedV; rw [HU.out, HV.out]; rfl, (HX1.out.set (p := ⟨w.heap.size + 1, 0, none⟩) (by show w.heap.size ≤ w.heap.size + 1; omega) _).set (p := ⟨w.heap.size + 1, 1, none⟩) (by show w.heap.size ≤ w.heap.size + 1; omega) _⟩
end Go.Proofs.YtbfbpddfcakieaaGreat
namespace Go.Proofs.YtbfbpddfcakieaaGreat
open Go.RowKit Go.Shelf
attribute [local go_sem] Oper.semAt_some

theorem yieldAt_wide {P : Program} {m m' l : Nat} {args : Array Value} {W : World} {R : Ending → World → Prop} (h : YieldAt Fence.wide m P l args W R) : YieldAt Fence.wide m' P l args W R := by
  obtain ⟨fn, tmps, ass, b, h1, h2⟩ := h
  exact ⟨fn, tmps, ass, b, h1, h2.1, fun c cs _ => h2.2 c cs (room_wide _)⟩
/-- A box of a type. -/
def Bt (w : World) (k : Nat) (t : TypeId) (cs : Array Value) : Prop := w.heap[k]? = some (.cells cs t (0, 0))
theorem Bt.bx {w : World} {k : Nat} {t : TypeId} {cs : Array Value} (h : Bt w k t cs) : Bx w k cs := ⟨t, h⟩
theorem Bt.new (w : World) (cs : Array Value) (t : TypeId) : Bt (w.alloc (.cells cs t)) w.heap.size t cs := heap_alloc_new w _
theorem Bt.lt {w : World} {k : Nat} {t : TypeId} {cs : Array Value} (h : Bt w k t cs) : k < w.heap.size := (Array.getElem?_eq_some_iff.1 h).1
theorem Bt.below {w w' : World} {k : Nat} {t : TypeId} {cs : Array Value} (h : Bt w k t cs) (hx : Ext w w') : Bt w' k t cs := (hx.block k h.lt).trans h
theorem Bt.other {w : World} {k : Nat} {t : TypeId} {cs : Array Value} (h : Bt w k t cs) {p : Addr} (hp : p.block ≠ k) (v : Value) : Bt (w.setCell p v) k t cs := by
  unfold Bt at h ⊢
  rw [Below.heap_setCell _ _ _ _ (by simpa using Ne.symm hp), h]
theorem Bt.set1 {w : World} {k : Nat} {t : TypeId} {a : Value} (h : Bt w k t #[a]) (v : Value) : Bt (w.setCell ⟨k, 0, none⟩ v) k t #[v] := by
  unfold Bt at h ⊢
  simp [World.setCell, Array.getElem?_modify, h]
abbrev TN : List TypeId := [51]
/-- What a round keeps: what lay at first, these blocks, and boxes of nodes. -/
structure Kw (n₀ : Nat) (S : Nat → Prop) (A B : World) : Prop where
  old : Below n₀ A B
  same : ∀ k, S k → k < A.heap.size → B.heap[k]? = A.heap[k]?
  typ : ∀ k cs t, t ∈ TN → Bt A k t cs → Bt B k t cs
theorem Kw.refl (n₀ : Nat) (S : Nat → Prop) (A : World) : Kw n₀ S A A := ⟨Below.refl _ _, fun _ _ _ => rfl, fun _ _ _ _ h => h⟩
theorem Kw.trans {n₀ : Nat} {S : Nat → Prop} {A B C : World} (h : Kw n₀ S A B) (k : Kw n₀ S B C) : Kw n₀ S A C :=
  ⟨h.old.trans k.old, fun i hi hl => (k.same i hi (Nat.lt_of_lt_of_le hl h.old.size)).trans (h.same i hi hl), fun i cs t ht hb => k.typ i cs t ht (h.typ i cs t ht hb)⟩
theorem Kw.ext {n₀ : Nat} (S : Nat → Prop) {A B : World} (h : Ext A B) (hn : n₀ ≤ A.heap.size) : Kw n₀ S A B :=
  ⟨h.mono hn, fun k _ hl => h.block k hl, fun _ _ _ _ hb => hb.below h⟩
theorem Kw.sub {n₀ : Nat} {S S' : Nat → Prop} {A B : World} (h : Kw n₀ S A B) (hs : ∀ k, S' k → S k) : Kw n₀ S' A B := ⟨h.old, fun k hk hl => h.same k (hs k hk) hl, h.typ⟩
theorem Kw.lower {n₀ n₁ : Nat} {S : Nat → Prop} {A B : World} (h : Kw n₀ S A B) (hn : n₁ ≤ n₀) : Kw n₁ S A B := ⟨h.old.mono hn, h.same, h.typ⟩
theorem Kw.set {n₀ : Nat} {S : Nat → Prop} {A : World} {k : Nat} {t : TypeId} {cs : Array Value} (hb : Bt A k t cs) (ht : t ∉ TN) (hS : ¬ S k) (hn : n₀ ≤ k) (i : Nat) (v : Value) : Kw n₀ S A (A.setCell ⟨k, i, none⟩ v) := by
  refine ⟨(Below.refl n₀ A).setCell hn v, fun j hj _ => Below.heap_setCell _ _ _ _ (fun e => hS (by subst e; exact hj)), fun j ds u hu hd => hd.other (fun e => ?_) v⟩
  cases e
  unfold Bt at hb hd
  rw [hb] at hd
  cases hd
  exact ht hu
theorem Kw.put {n₀ : Nat} {S : Nat → Prop} {A : World} {k : Nat} {o : Obj} (h : A.heap[k]? = some o) (hc : o.isCells = false) (hS : ¬ S k) (hn : n₀ ≤ k) (o' : Obj) : Kw n₀ S A (A.putObj k o') := by
  have hg := grownBy_putObj' A k o'
  have hl := (Array.getElem?_eq_some_iff.1 h).1
  refine ⟨(Below.refl n₀ A).grown hg (by omega) (fun j e => by cases e; exact hn), fun j hj hl' => hg.block j hl' (fun e => hS (by cases e; exact hj)), fun j cs t _ hb => ?_⟩
  unfold Bt at hb ⊢
  refine (hg.block j (Array.getElem?_eq_some_iff.1 hb).1 (fun e => ?_)).trans hb
  cases e
  rw [h] at hb
  cases hb
  cases hc
/-- Outside a window all stays. -/
structure Out (B c : Nat) (A A' : World) : Prop where
  os : A'.os = A.os
  tape : A'.tape = A.tape
  output : A'.output = A.output
  size : A.heap.size ≤ A'.heap.size
  same : ∀ k, k < A.heap.size → (k < B ∨ B + c ≤ k) → A'.heap[k]? = A.heap[k]?
theorem Out.ext {B c : Nat} {A A' : World} (h : Ext A A') : Out B c A A' := ⟨h.os, h.tape, h.output, h.size, fun k hk _ => h.block k hk⟩
theorem Out.sup {B c B' c' : Nat} {A A' : World} (h : Out B' c' A A') (h1 : B ≤ B') (h2 : B' + c' ≤ B + c) : Out B c A A' := ⟨h.os, h.tape, h.output, h.size, fun k hk hw => h.same k hk (by omega)⟩
theorem Out.put {B c : Nat} (A : World) {k : Nat} (o : Obj) (h1 : B ≤ k) (h2 : k < B + c) : Out B c A (A.putObj k o) := by
  have hg := grownBy_putObj' A k o
  exact ⟨hg.os, hg.tape, hg.output, hg.size, fun j hj hw => hg.block j hj (fun e => by cases e; omega)⟩
theorem Out.set {B c : Nat} (A : World) {k : Nat} (i : Nat) (v : Value) (h1 : B ≤ k) (h2 : k < B + c) : Out B c A (A.setCell ⟨k, i, none⟩ v) :=
  ⟨rfl, rfl, rfl, by simp, fun j hj hw => Below.heap_setCell _ _ _ _ (by show j ≠ k; omega)⟩
/-- What is said stays where a window's blocks alone are turned. -/
def Stays {β : Type} (B c : Nat) (J : β → World → Prop) : Prop := ∀ s A A', J s A → Out B c A A' → J s A'
theorem Stays.sub {β : Type} {B c B' c' : Nat} {J : β → World → Prop} (h : Stays B c J) (h1 : B ≤ B') (h2 : B' + c' ≤ B + c) : Stays B' c' J := fun s A A' hs ho => h s A A' hs (ho.sup h1 h2)
theorem Stays.and {β : Type} {B c : Nat} {J K : β → World → Prop} (h : Stays B c J) (k : Stays B c K) : Stays B c (fun s W => J s W ∧ K s W) := fun s A A' hs ho => ⟨h s A A' hs.1 ho, k s A A' hs.2 ho⟩
theorem stays_pure {β : Type} (B c : Nat) (p : β → Prop) : Stays B c (fun s (_ : World) => p s) := fun _ _ _ hs _ => hs
theorem stays_below {β : Type} {B c n₀ : Nat} (w₀ : World) (hn : n₀ ≤ B) (h0 : n₀ ≤ w₀.heap.size) : Stays B c (fun (_ : β) W => Below n₀ w₀ W) := fun _ _ _ hs ho =>
  hs.trans ⟨ho.os, ho.tape, ho.output, ho.size, fun k hk => ho.same k (by have := hs.size; omega) (.inl (by omega))⟩
theorem stays_size {β : Type} (B c k : Nat) : Stays B c (fun (_ : β) W => k ≤ W.heap.size) := fun _ _ _ hs ho => Nat.le_trans hs ho.size
theorem stays_bt {β : Type} {B c k : Nat} {t : TypeId} (cs : β → Array Value) (hk : k < B ∨ B + c ≤ k) : Stays B c (fun s W => Bt W k t (cs s)) := fun _ _ _ hs ho => (ho.same k (Bt.lt hs) hk).trans hs
/-- An iterator over these things: it may turn the blocks that it lays first (so many), and asks the round to keep them, and some elder ones. -/
def SeqO {α : Type} (P : Program) (g : Nat) (lb : Array Value) (encs : α → Array Value) (n₀ : Nat) (Ks : Nat → Prop) (c : Nat) (L : List α) (w : World) : Prop :=
  ∀ (l : Nat) (J Jx : List α → World → Prop) (W : World) (d : Nat), Ext w W → Stays W.heap.size c J → Stays W.heap.size c Jx →
    (∀ pre x W1 m, J pre W1 → W.heap.size + c ≤ W1.heap.size → pre ++ [x] <+: L → YieldAt Fence.wide m P l (encs x) W1 fun e W' =>
      Kw n₀ (fun k => Ks k ∨ (W.heap.size ≤ k ∧ k < W.heap.size + c)) W1 W' ∧ ((e = .returned (.bool true) ∧ J (pre ++ [x]) W') ∨ (e = .returned (.bool false) ∧ Jx (pre ++ [x]) W'))) →
    J [] W →
    CallsIn Fence.wide d P g (#[.func (.yield l) #[] #[]] ++ lb) W fun e W' => (∃ v, e = .returned v) ∧ (J L W' ∨ ∃ q, q <+: L ∧ Jx q W')
/-- The loop's record, and the block of what is put off. -/
structure Rec (W : World) (D : Nat) (r : Loop) : Prop where
  lp : W.heap[D + 1]? = some (.loop r)
  row : W.heap[D]? = some (.deferred (some []))
theorem Rec.keep {W W' : World} {D : Nat} {r : Loop} (h : Rec W D r) {n₀ : Nat} {S : Nat → Prop} (k : Kw n₀ S W W') (h0 : S D) (h1 : S (D + 1)) : Rec W' D r :=
  ⟨(k.same _ h1 (Array.getElem?_eq_some_iff.1 h.lp).1).trans h.lp, (k.same _ h0 (Array.getElem?_eq_some_iff.1 h.row).1).trans h.row⟩
theorem Rec.put {W : World} {D : Nat} {r : Loop} (h : Rec W D r) (r' : Loop) : Rec (W.putObj (D + 1) (.loop r')) D r' :=
  ⟨World.putObj_heap_same (Array.getElem?_eq_some_iff.1 h.lp).1, (World.putObj_heap_other (by omega)).trans h.row⟩
theorem Rec.stays {B c D : Nat} (r : Loop) (h : D + 2 ≤ B) : Stays B c (fun (_ : Unit) W => Rec W D r) := fun _ A A' hs ho =>
  ⟨(ho.same _ (Array.getElem?_eq_some_iff.1 hs.lp).1 (.inl (by omega))).trans hs.lp, (ho.same _ (Array.getElem?_eq_some_iff.1 hs.row).1 (.inl (by omega))).trans hs.row⟩
/-- How a round's body may be left. -/
def leftAt {α : Type} (n₀ : Nat) (S : Nat → Prop) (I : List α → World → Prop) (Ix : Code → List α → World → Prop) (xs : List α) (W : World) : Exit → Act → World → Prop
  | .normal, _, W' => Kw n₀ S W W' ∧ I xs W'
  | .ret, _, W' => Kw n₀ S W W' ∧ Ix .ret xs W'
  | .exit id, _, W' => Kw n₀ S W W' ∧ Ix (.exit id) xs W'
  | .goto t, _, W' => Kw n₀ S W W' ∧ Ix (.goto t) xs W'
  | .panic _, _, _ => False
  | .outgrown, _, _ => False
theorem range_own {α : Type} {P : Program} {g : Operand} {ps : Array Tmp} {assign body : Code} {Q : Exit → Act → World → Prop} {a : Act} {w : World} {n m : Nat}
    {gf : Nat} {lb : Array Value} (hg : a.eval g = .func (.func gf) #[] lb) (eg : ∀ args w, (callFunc gf args).run P w = .ok (.enter gf args) w)
    {encs : α → Array Value} {n₀ : Nat} {Ks : Nat → Prop} {c : Nat} {L : List α} {w0 : World} (hseq : SeqO P gf lb encs n₀ Ks c L w0) (hx : Ext w0 w) (hn₀ : n₀ ≤ w.heap.size) (hKs : ∀ k, Ks k → k < w.heap.size) (hps : ∀ x, (encs x).size = ps.size)
    (I : List α → World → Prop) (Ix : Code → List α → World → Prop) (hI : Stays w.heap.size (2 + c) I) (hIx : ∀ k, Stays w.heap.size (2 + c) (Ix k)) (h0 : I [] w)
    (Ax : α → Act → World → Prop) (hAx : ∀ x a', Stays w.heap.size (2 + c) (fun (_ : Unit) W => Ax x a' W))
    (hassign : ∀ (l : Nat) (pre : List α) (x : α) (W : World) (K : Act → World → Prop), I pre W → w.heap.size + (2 + c) ≤ W.heap.size → pre ++ [x] <+: L →
      (∀ a' W', Kw n₀ (fun k => Ks k ∨ (w.heap.size ≤ k ∧ k < w.heap.size + (2 + c))) W W' → I pre W' → Ax x a' W' → K a' W') →
      assign.wpIn (Fence.wide.inRound l) m P (Exit.then K (fun _ _ _ => False)) { tmps := (ps.zip (encs x)).foldl (fun t (p, v) => t.setIfInBounds p v) a.tmps, defers := [] } W)
    (hbody : ∀ (l : Nat) (pre : List α) (x : α) (a' : Act) (W : World), I pre W → Ax x a' W → w.heap.size + (2 + c) ≤ W.heap.size → pre ++ [x] <+: L →
      body.wpIn (Fence.wide.inRound l) m P (leftAt n₀ (fun k => Ks k ∨ (w.heap.size ≤ k ∧ k < w.heap.size + (2 + c))) I Ix (pre ++ [x]) W) a' W)
    (hdone : ∀ (D : Nat) (W : World), D = w.heap.size → I L W → W.heap[D]? = some (.deferred (some [])) → Q .normal { a with defers := { target := .collected D, args := #[] } :: a.defers } W)
    (hstop : ∀ (D : Nat) (k : Code) (q : List α) (W : World), D = w.heap.size → q <+: L → Ix k q W → W.heap[D]? = some (.deferred (some [])) → k.wpIn Fence.wide n P Q { a with defers := { target := .collected D, args := #[] } :: a.defers } W) :
    (Code.rangeFunc g ps assign body).wpIn Fence.wide n P Q a w := by
  refine wpIn_rangeFunc fun fn hfn => ?_
  let R : LoopState → Option Code → Loop := fun st pe => { state := st, pending := pe, fn, tmps := a.tmps, params := ps, assign, body, defers := w.heap.size }
  obtain ⟨W1, hW1⟩ : ∃ W1, (w.alloc (.deferred (some []))).alloc (.loop (R .ready none)) = W1 := ⟨_, rfl⟩
  have hX1 : Ext w W1 := by rw [← hW1]; exact ((Ext.refl w).alloc _).alloc _
  have hZ1 : W1.heap.size = w.heap.size + 2 := by rw [← hW1]; simp
  have hR1 : Rec W1 w.heap.size (R .ready none) := by
    rw [← hW1]
    refine ⟨?_, (Below.heap_alloc _ _ _ (by simp)).trans (World.alloc_heap_new w _)⟩
    have := World.alloc_heap_new (w.alloc (.deferred (some []))) (.loop (R .ready none))
    rwa [World.size_alloc] at this
  refine ⟨w.heap.size + 1, [{ target := .collected w.heap.size, args := #[] }], W1, { target := .fn (.func gf) lb, args := #[.func (.yield (w.heap.size + 1)) #[] #[]] }, W1, gf, #[.func (.yield (w.heap.size + 1)) #[] #[]] ++ lb, W1,
    by rw [← hW1]; exact run_enterLoop_outer _ _ _ _ _, by simp only [resolve, hg]; simp [go_sem], fun _ _ => trivial, by simp [invoke, go_sem, eg], fun h => by simp [Fence.wide] at h, ?_⟩
  have hS0 : (fun k => Ks k ∨ (w.heap.size ≤ k ∧ k < w.heap.size + (2 + c))) w.heap.size := .inr ⟨Nat.le_refl _, by omega⟩
  have hS1 : (fun k => Ks k ∨ (w.heap.size ≤ k ∧ k < w.heap.size + (2 + c))) (w.heap.size + 1) := .inr ⟨by omega, by omega⟩
  have hsub : ∀ k, (Ks k ∨ (W1.heap.size ≤ k ∧ k < W1.heap.size + c)) → (Ks k ∨ (w.heap.size ≤ k ∧ k < w.heap.size + (2 + c))) := fun k h => h.imp id (fun h => by omega)
  have hnot : ¬ (Ks (w.heap.size + 1) ∨ (W1.heap.size ≤ w.heap.size + 1 ∧ w.heap.size + 1 < W1.heap.size + c)) := fun h => by
    rcases h with h | h
    · have := hKs _ h; omega
    · omega
  have hput : ∀ (W : World) (r r' : Loop), Rec W w.heap.size r → Kw n₀ (fun k => Ks k ∨ (W1.heap.size ≤ k ∧ k < W1.heap.size + c)) W (W.putObj (w.heap.size + 1) (.loop r')) :=
    fun W r r' h => Kw.put h.lp rfl hnot (by omega) _
  refine (hseq (w.heap.size + 1) (fun pre W => I pre W ∧ Rec W w.heap.size (R .ready none)) (fun q W => ∃ k, Ix k q W ∧ Rec W w.heap.size (R .done (some k))) W1 _ (hx.trans hX1)
    ((hI.sub (by omega) (by omega)).and (fun s => Rec.stays _ (by omega) ()))
    (fun s A A' ⟨k, h1, h2⟩ ho => ⟨k, hIx k s A A' h1 (ho.sup (by omega) (by omega)), Rec.stays _ (by omega) () A A' h2 ho⟩) ?_ ⟨hI _ _ _ h0 (.ext hX1), hR1⟩).mono ?_
  · rintro pre x W m' ⟨hi, hr⟩ hz hp
    have hy := run_yield (P := P) (args := encs x) hr.lp (hps x)
    refine yieldAt_wide (m := m) ⟨fn, _, assign, body, hy, roundIn_of_wpIn hfn (hassign _ pre x W _ hi (by omega) hp ?_)⟩
    intro a' Wa hka hia hax
    have hra := hr.keep hka hS0 hS1
    refine ⟨_, run_beginRound hra.lp rfl, ?_⟩
    have hro : Out w.heap.size (2 + c) Wa (Wa.putObj (w.heap.size + 1) (.loop { R .ready none with state := .busy })) := .put _ _ (by omega) (by omega)
    have hrb := hra.put { R .ready none with state := .busy }
    refine wpIn_mono (hbody _ pre x a' _ (hI _ _ _ hia hro) (hAx x a' () _ _ hax hro) (Nat.le_trans (show w.heap.size + (2 + c) ≤ W.heap.size by omega) (Nat.le_trans hka.old.size hro.size)) hp) ?_
    have fin : ∀ (jump : Option Code) (W3 : World), Kw n₀ (fun k => Ks k ∨ (w.heap.size ≤ k ∧ k < w.heap.size + (2 + c))) (Wa.putObj (w.heap.size + 1) (.loop { R .ready none with state := .busy })) W3 →
        ∃ W4, (Instr.endRound (w.heap.size + 1) jump).run P W3 = .ok (.bool jump.isNone) W4 ∧ Rec W4 w.heap.size (R (if jump.isNone then .ready else .done) jump) ∧ Out w.heap.size (2 + c) W3 W4 ∧ Kw n₀ (fun k => Ks k ∨ (W1.heap.size ≤ k ∧ k < W1.heap.size + c)) W W4 := fun jump W3 hk3 => by
      have hr3 := hrb.keep hk3 hS0 hS1
      exact ⟨_, run_endRound jump hr3.lp, hr3.put _, .put _ _ (by omega) (by omega), (((hka.sub hsub).trans (hput _ _ _ hra)).trans (hk3.sub hsub)).trans (hput _ _ _ hr3)⟩
    rintro e a3 W3 hp3
    cases e with
    | normal =>
      obtain ⟨W4, e4, hr4, ho4, hk4⟩ := fin none W3 hp3.1
      exact ⟨_, W4, e4, hk4, .inl ⟨rfl, hI _ _ _ hp3.2 ho4, hr4⟩⟩
    | ret =>
      obtain ⟨W4, e4, hr4, ho4, hk4⟩ := fin (some .ret) W3 hp3.1
      exact ⟨_, W4, e4, hk4, .inr ⟨rfl, _, hIx _ _ _ _ hp3.2 ho4, hr4⟩⟩
    | exit id =>
      obtain ⟨W4, e4, hr4, ho4, hk4⟩ := fin (some (.exit id)) W3 hp3.1
      exact ⟨_, W4, e4, hk4, .inr ⟨rfl, _, hIx _ _ _ _ hp3.2 ho4, hr4⟩⟩
    | goto t =>
      obtain ⟨W4, e4, hr4, ho4, hk4⟩ := fin (some (.goto t)) W3 hp3.1
      exact ⟨_, W4, e4, hk4, .inr ⟨rfl, _, hIx _ _ _ _ hp3.2 ho4, hr4⟩⟩
    | panic ch => exact hp3.elim
    | outgrown => exact hp3.elim
  · rintro e W2 ⟨⟨v, rfl⟩, (⟨hi, hr⟩ | ⟨q, hq, k, hi, hr⟩)⟩
    · exact ⟨none, _, run_endLoop hr.lp (by simp [R]), hdone _ _ rfl (hI _ _ _ hi (.put _ _ (by omega) (by omega))) ((World.putObj_heap_other (by omega)).trans hr.row)⟩
    · exact ⟨some k, _, run_endLoop hr.lp (by simp [R]), hstop _ k q _ rfl hq (hIx _ _ _ _ hi (.put _ _ (by omega) (by omega))) ((World.putObj_heap_other (by omega)).trans hr.row)⟩
end Go.Proofs.YtbfbpddfcakieaaGreat
