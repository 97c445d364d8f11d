/- Walks of slices.DeleteFunc and of without of package heap. Walks of New, isRight and Right of package heap. Walks of Free, Fits and Same of package heap, and of slices.EqualFunc and IndexFunc over cells. Walks of Hold, Loose and Settle of package heap. The walk of Alloc of package heap. The contracts of package heap, all together. What is small, and right; the contracts of layer 5 as the laws use them. Plain lemmas for the laws of layer 5: what stays right. Plain lemmas for the laws of layer 5: cells held once more for each place in a row; what is laid, and loosed again. Trees in a heap of cells, as plain functions; what is right about them. No program in sight. -/
import Derived.Test.YtlbhcakjcklmgaaK04
import Derived.Lib.SliceRun
import Derived.Deep.CutRange
import Derived.Test.YtlbhcakjcklmgaaK03
namespace Go.Proofs.Ytlbhcakjcklmgaa
open Go.RowKit
attribute [local go_sem ↓] Go.wp_at_zero Go.wp_at_succ

theorem zeroI (w : World) : (zeroValue 3).run Try.prog w = .ok (.int .i64 0) w := by
  obtain ⟨i0, hi, hz0, hz1, hz2⟩ := info_parts infoI0
  simp [zeroValue, typeInfo, hi, hz0]
theorem grown_cells (g : Nat) : ∀ (vs : List Value) (o : Nat) (w : World), w.grownBy (w.setCells g o vs) (some g)
  | [], _, _ => World.grownBy.refl _ _
  | v :: r, o, w => grown_trans (grown_set w g o v) (grown_cells g r (o + 1) _)
/-- Where a deletion stands: the first i numbers are those kept of the first j; from j on all is as it was. -/
structure Del (f : Int → Bool) (l xs : List Int) (i j : Nat) : Prop where
  len : xs.length = l.length
  lt : i < j
  le : j ≤ l.length
  low : xs.take i = (l.take j).filter (fun x => !f x)
  high : xs.drop j = l.drop j
  size : i = ((l.take j).filter (fun x => !f x)).length
theorem filter_all {f : Int → Bool} {l : List Int} (h : ∀ j (hj : j < l.length), f l[j] = false) : l.filter (fun x => !f x) = l := by
  rw [List.filter_eq_self]
  intro x hx
  obtain ⟨j, hj, rfl⟩ := List.mem_iff_getElem.1 hx
  rw [h j hj]; rfl
theorem Del.start {f : Int → Bool} {l : List Int} {i : Nat} (hi : i < l.length) (h : f l[i] = true) (hb : ∀ j (hj : j < l.length), j < i → f l[j] = false) : Del f l l i (i + 1) := by
  have e : (l.take (i + 1)).filter (fun x => !f x) = l.take i := by
    rw [List.take_succ_eq_append_getElem hi, List.filter_append]
    rw [filter_all (f := f) (l := l.take i) (fun j hj => by rw [List.getElem_take]; exact hb j (by rw [List.length_take] at hj; omega) (by rw [List.length_take] at hj; omega))]
    simp [h]
  exact ⟨rfl, by omega, by omega, e.symm, rfl, by rw [e, List.length_take]; omega⟩
theorem Del.skip {f : Int → Bool} {l xs : List Int} {i j : Nat} (h : Del f l xs i j) (hj : j < l.length) (hf : f l[j] = true) : Del f l xs i (j + 1) := by
  have e : (l.take (j + 1)).filter (fun x => !f x) = (l.take j).filter (fun x => !f x) := by
    rw [List.take_succ_eq_append_getElem hj, List.filter_append]; simp [hf]
  refine ⟨h.len, by have := h.lt; omega, by omega, by rw [e]; exact h.low, ?_, by rw [e]; exact h.size⟩
  have := congrArg (List.drop 1) h.high
  simpa [Nat.add_comm] using this
theorem Del.keep {f : Int → Bool} {l xs : List Int} {i j : Nat} (h : Del f l xs i j) (hj : j < l.length) (hf : f l[j] = false) : Del f l (xs.set i l[j]) (i + 1) (j + 1) := by
  have e : (l.take (j + 1)).filter (fun x => !f x) = (l.take j).filter (fun x => !f x) ++ [l[j]] := by
    rw [List.take_succ_eq_append_getElem hj, List.filter_append]; simp [hf]
  have hlt := h.lt
  have hlen := h.len
  have hi : i < xs.length := by omega
  refine ⟨by rw [List.length_set]; exact h.len, by omega, by omega, ?_, ?_, by rw [e, List.length_append, ← h.size]; rfl⟩
  · rw [e, ← h.low, List.take_succ_eq_append_getElem (by rw [List.length_set]; exact hi), List.getElem_set_self, List.take_set_of_le (Nat.le_refl _)]
  · rw [List.drop_set_of_lt (by omega)]
    have := congrArg (List.drop 1) h.high
    simpa [Nat.add_comm] using this
theorem Del.at_ {f : Int → Bool} {l xs : List Int} {i j : Nat} (h : Del f l xs i j) (hj : j < l.length) : ∃ hx : j < xs.length, xs[j] = l[j] := by
  have hx : j < xs.length := by rw [h.len]; exact hj
  refine ⟨hx, ?_⟩
  have := congrArg (fun t => t[0]?) h.high
  simpa [hx, hj] using this
theorem Del.done {f : Int → Bool} {l xs : List Int} {i : Nat} (h : Del f l xs i l.length) : xs.take i = l.filter (fun x => !f x) ∧ i = (l.filter (fun x => !f x)).length := by
  have h1 := h.low
  have h2 := h.size
  rw [List.take_length] at h1 h2
  exact ⟨h1, h2⟩
theorem idx_cases {f : Int → Bool} (l : List Int) : (idxBy f l = -1 ∧ ∀ j (hj : j < l.length), f l[j] = false) ∨ ∃ i, ∃ hi : i < l.length, idxBy f l = (i : Int) ∧ f l[i] = true ∧ ∀ j (hj : j < l.length), j < i → f l[j] = false := by
  by_cases h : l.any f = true
  · right
    have h1 : l.findIdx f < l.length := List.findIdx_lt_length_of_exists (by simpa using h)
    refine ⟨l.findIdx f, h1, by unfold idxBy; rw [if_pos h], List.findIdx_getElem, fun j hj hji => ?_⟩
    have := List.not_of_lt_findIdx hji
    simpa using this
  · left
    have h1 : ∀ j (hj : j < l.length), f l[j] = false := fun j hj => by
      cases hq : f l[j]
      · rfl
      · exact absurd (List.any_eq_true.2 ⟨l[j], List.getElem_mem hj, hq⟩) h
    exact ⟨idx_none h1, h1⟩
end Go.Proofs.Ytlbhcakjcklmgaa
namespace Go.Proofs.Ytlbhcakjcklmgaa
open Go.RowKit
attribute [local go_sem ↓] Go.wp_at_zero Go.wp_at_succ

theorem places_told (n : Nat) (leaf : Bool) (it : List It) : placesC n leaf it = !((toldL leaf it).any (fun p => !isPl p n)) := by
  unfold placesC toldL isPl
  cases leaf
  · simp only [Bool.false_or, Bool.false_eq_true, if_false, List.any_map, Function.comp_def]
    rw [List.all_eq_not_any_not]
  · rfl
end Go.Proofs.Ytlbhcakjcklmgaa
namespace Go.Proofs.Ytlbhcakjcklmgaa
open Go.RowKit
attribute [local go_sem ↓] Go.wp_at_zero Go.wp_at_succ

theorem hc_eta (x : HC) : (⟨x.ref, x.pin, x.leaf, x.it⟩ : HC) = x := rfl
theorem hc_eq (r s : Int) (p t f g : Bool) (a b : List It) : decide ((⟨r, p, f, a⟩ : HC) = ⟨s, t, g, b⟩) = (decide (r = s) && (decide (p = t) && sameN f a g b)) := by
  unfold sameN sameI
  rw [Bool.eq_iff_iff]
  simp
end Go.Proofs.Ytlbhcakjcklmgaa
namespace Go.Proofs.Ytlbhcakjcklmgaa
open Go.RowKit
attribute [local go_sem ↓] Go.wp_at_zero Go.wp_at_succ

theorem Own.hsl {v w : World} {g n : Nat} {l : List HC} (h : Own v w g n l) (hn : n = l.length) : HcSl w (some ⟨g, 0, none⟩) n n l := by
  have h1 := h.sl
  rwa [← hn] at h1
theorem Own.ex {v w : World} {g cap : Nat} {l : List HC} (h : Own v w g cap l) : Ext v w := by obtain ⟨_, _, _, h⟩ := h; exact h
set_option maxRecDepth 100000 in
set_option maxHeartbeats 1600000 in
theorem hpLooseNo_any (R : Option Addr) (l : List HC) (n q : Nat) (keep : Int) (w : World) (p : Int) (hu : usedC l p = false) (hA : HcSl w R n q l) :
    Calls Try.prog 37 #[.agg #[.slice R n q, .int .i64 keep], .int .i64 p] w fun e w' => e = .returned (.tuple #[.agg #[.slice R n q, .int .i64 keep], .int .i64 4]) ∧ Ext w w' := by
  obtain ⟨W, hW⟩ : ∃ W, (w.alloc (.cells #[.slice R n q, .int .i64 keep] 24)).alloc (.cells #[.slice none 0 0, .int .i64 0] 24) = W := ⟨_, rfl⟩
  obtain ⟨hx0, hb0, hb1⟩ := allocs2 hW
  have HX := Lib.hid hx0
  have HB1 := Lib.hid hb1
  have HU := Lib.hid (hpUsedNoLoose_any R l n q keep p W hu (hA.ext hx0))
  obtain ⟨p0, p1, p2⟩ := hb0.read2
  clear hx0 hb0 hb1 hA hu
  subst hW
  go_enter Try.func37, Try.ntmps37
  go_wp2_with (go_at_call 47; refine stop_here ?_)
  refine stop_on ?_
  generalize hW : World.alloc (World.alloc w _) _ = W at *
  clear hW
  refine HU.out.mono ?_
  rintro e w4 ⟨rfl, hx⟩
  have HX4 := Lib.hid (HX.out.trans hx)
  have hb4 := HB1.out.ext hx
  have HB4 := Lib.hid hb4
  obtain ⟨t0, t1, t2⟩ := hb4.read2
  obtain ⟨y0, y1⟩ := hb4.free2
  clear hx hb4 p0 p1 p2
  go_wp2_with fail
  refine ret2_cell (k := w.heap.size + 1) (x := .slice R n q) (y := .int .i64 keep) (v := .tuple #[.agg #[.slice R n q, .int .i64 keep], .int .i64 4]) ?hb4 (fun r0 r1 => by simp [results, Try.results37, go_sem, r0, r1]) rfl ?hx4
  case hb4 => exact HB4.out.set2 _ _
  case hx4 => exact ⟨rfl, HX4.out.store2 (by omega) _ _⟩
set_option maxRecDepth 100000 in
set_option maxHeartbeats 1600000 in
theorem hpLooseYes_any (R : Option Addr) (l : List HC) (n q : Nat) (keep : Int) (w : World) (p : Int) (l' : List HC) (hb : n ≤ 90000) (hu : usedC l p = true) (hA : HcSl w R n q l)
    (hD : ∀ (g : Nat) (wr : World), Own w wr g n l → Calls Try.prog 48 #[.slice (some ⟨g, 0, none⟩) n n, .int .i64 p] wr fun e w' => e = .returned (.tuple #[]) ∧ Own w w' g n l' ∧ wr.grownBy w' (some g)) :
    Calls Try.prog 37 #[.agg #[.slice R n q, .int .i64 keep], .int .i64 p] w fun e w' => ∃ g, e = .returned (.tuple #[.agg #[.slice (some ⟨g, 0, none⟩) n n, .int .i64 keep], .int .i64 0]) ∧ Own w w' g n l' := by
  obtain ⟨W, hW⟩ : ∃ W, (w.alloc (.cells #[.slice R n q, .int .i64 keep] 24)).alloc (.cells #[.slice none 0 0, .int .i64 0] 24) = W := ⟨_, rfl⟩
  obtain ⟨hx0, hb0, hb1⟩ := allocs2 hW
  have hsz : W.heap.size = w.heap.size + 1 + 1 := by rw [← hW]; simp
  have HX := Lib.hid hx0
  have HB1 := Lib.hid hb1
  have HSZ := Lib.hid hsz
  have HU := Lib.hid (hpUsedYesLoose_any w R l n q keep p l' W hx0 hb hu hA hD)
  obtain ⟨p0, p1, p2⟩ := hb0.read2
  clear hx0 hb0 hb1 hA hu hD hsz
  subst hW
  go_enter Try.func37, Try.ntmps37
  go_wp2_with (go_at_call 47; refine stop_here ?_)
  refine stop_on ?_
  generalize hW : World.alloc (World.alloc w _) _ = W at *
  clear hW
  refine HU.out.mono ?_
  rintro e w4 ⟨g, rfl, hg, ho, hx⟩
  have hsz := HSZ.out
  have hb4 := HB1.out.ext hx
  have HB4 := Lib.hid hb4
  have HO := Lib.hid ((ho.other (p := ⟨w.heap.size + 1, 0, none⟩) (by simp; omega) (by simp) (.slice (some ⟨g, 0, none⟩) n n)).other (p := ⟨w.heap.size + 1, 1, none⟩) (by simp; omega) (by simp) (.int .i64 keep))
  obtain ⟨t0, t1, t2⟩ := hb4.read2
  obtain ⟨y0, y1⟩ := hb4.free2
  clear hx hb4 p0 p1 p2 ho hg hsz
  go_wp2_with fail
  refine ret2_cell (k := w.heap.size + 1) (x := .slice (some ⟨g, 0, none⟩) n n) (y := .int .i64 keep) (v := .tuple #[.agg #[.slice (some ⟨g, 0, none⟩) n n, .int .i64 keep], .int .i64 0]) ?hb4 (fun r0 r1 => by simp [results, Try.results37, go_sem, r0, r1]) rfl ?hx4
  case hb4 => exact HB4.out.set2 _ _
  case hx4 => exact ⟨g, rfl, HO.out⟩
theorem heapLoose_any (R : Option Addr) (l : List HC) (n q : Nat) (keep : Int) (w : World) (p : Int) (hM : rightH ⟨l, keep⟩ = true) (_hbd : Bd l) (hA : HcSl w R n q l) :
    Calls Try.prog 37 #[.agg #[.slice R n q, .int .i64 keep], .int .i64 p] w fun e w' => ∃ S d cs, e = .returned (.tuple #[.agg #[.slice S n d, .int .i64 keep], .int .i64 (looseE ⟨l, keep⟩ p)]) ∧ (looseE ⟨l, keep⟩ p = 0 → w'.ownsRow w.heap.size 38 4 (.slice S n d) n cs) ∧ Sl w' S n d cs ∧ HcAt w' cs (looseL (l.length + 1) l p) ∧ Ext w w' := by
  have hn := hA.1
  have hn2 := (rightH_iff hM).1.1.2
  have hul : usedN l ≤ l.length := List.countP_le_length
  cases hu : usedC l p
  · have e2 : looseE ⟨l, keep⟩ p = 4 := by unfold looseE usedH; simp only [hu]; rfl
    rw [e2, looseL_no _ hu]
    refine (hpLooseNo_any R l n q keep w p hu hA).mono ?_
    rintro e w' ⟨rfl, hx⟩
    obtain ⟨_, cs, hs, ha⟩ := hA
    exact ⟨R, q, cs, rfl, (fun h => by simp at h), hs.ext hx, ha.ext hx, hx⟩
  · obtain ⟨k, hk, rfl, hp⟩ := usedC_iff hu
    have e2 : looseE ⟨l, keep⟩ (k : Int) = 0 := by unfold looseE usedH; simp only [hu]; rfl
    rw [e2]
    refine (hpLooseYes_any R l n q keep w k (looseL (l.length + 1) l (k : Int)) (by omega) hu hA (fun g wr ho => hpLoose_at (usedN l) (l.length + 1) w wr g n l n k (Nat.le_refl _) (by omega) hn (by omega) (right_okL hM) hu ho)).mono ?_
    rintro e w' ⟨g, rfl, ho⟩
    obtain ⟨cs, h1, h2, h3⟩ := ho
    rw [loose_len, ← hn] at h1
    exact ⟨_, _, cs, rfl, fun _ => h1, own_sl h1, h2.ext h3, h3⟩

def settS (g : List HC) (p : Int) : List HC := g.set p.toNat (stC (g.getD p.toNat HC.none))
theorem wait_mem {l : List HC} {n j : Nat} (hj : j < (waitK l n).length) : ∃ k, k < n ∧ (waitK l n)[j] = (k : Int) := by
  have h := List.getElem_mem hj
  unfold waitK at h
  obtain ⟨k, hk, e⟩ := List.mem_map.1 h
  have h2 := (List.mem_filter.1 hk).1
  exact ⟨k, List.mem_range.1 h2, e.symm⟩
theorem wait_fold (l : List HC) : ∀ k, k ≤ l.length → (waitK l k).foldl settS l = stK l k
  | 0, _ => by rw [stK_zero]; rfl
  | k + 1, h => by
    rw [waitK_succ (by omega), List.foldl_append, wait_fold l k (by omega)]
    cases hp : l[k].pin
    · rw [stK_same (by omega) hp]; rfl
    · simp only [if_true, List.foldl_cons, List.foldl_nil]
      unfold settS
      rw [Int.toNat_natCast, List.getD_eq_getElem?_getD, List.getElem?_eq_getElem (by rw [stK_len]; omega), Option.getD_some, stK_at (by omega), stK_succ (by omega)]
theorem sett_len (ps : List Int) (l : List HC) : (ps.foldl settS l).length = l.length :=
  foldl_inv (P := fun g : List HC => g.length = l.length) (g := settS) (fun b a hb => by unfold settS; rw [List.length_set]; exact hb) _ _ rfl
end Go.Proofs.Ytlbhcakjcklmgaa
namespace Go.Proofs.Ytlbhcakjcklmgaa
open Go.RowKit
attribute [local go_sem ↓] Go.wp_at_zero Go.wp_at_succ

theorem idx_casesA {α : Type} {f : α → Bool} (l : List α) : (idxBy f l = -1 ∧ ∀ j (hj : j < l.length), f l[j] = false) ∨ ∃ i, ∃ hi : i < l.length, idxBy f l = (i : Int) ∧ f l[i] = true ∧ ∀ j (hj : j < l.length), j < i → f l[j] = false := by
  by_cases h : l.any f = true
  · right
    have h1 : l.findIdx f < l.length := List.findIdx_lt_length_of_exists (by simpa using h)
    refine ⟨l.findIdx f, h1, by unfold idxBy; rw [if_pos h], List.findIdx_getElem, fun j hj hji => ?_⟩
    have := List.not_of_lt_findIdx hji
    simpa using this
  · left
    have h1 : ∀ j (hj : j < l.length), f l[j] = false := fun j hj => by
      cases hq : f l[j]
      · rfl
      · exact absurd (List.any_eq_true.2 ⟨l[j], List.getElem_mem hj, hq⟩) h
    exact ⟨idx_none h1, h1⟩
theorem free_stop {c : HC} (h : 0 ≤ c.ref) : stopC c = freeC c := by
  unfold stopC freeC
  rcases Int.lt_or_le 0 c.ref with h1 | h1
  · rw [decide_eq_true h1, decide_eq_false (by omega)]; rfl
  · rw [decide_eq_false (by omega), decide_eq_true (show c.ref = 0 by omega)]; simp
theorem first_idx {l : List HC} (h : ∀ k (hk : k < l.length), 0 ≤ l[k].ref) : (firstF l = l.length ∧ idxBy freeC l = -1) ∨ (firstF l < l.length ∧ idxBy freeC l = ((firstF l : Nat) : Int)) := by
  rcases idx_casesA (f := freeC) l with ⟨e, h1⟩ | ⟨i, hi, e, h1, h2⟩
  · exact .inl ⟨first_no (fun j hj => by rw [free_stop (h j hj)]; exact h1 j hj), e⟩
  · have hf : firstF l = i := first_at hi (fun j hj hji => by rw [free_stop (h j hj)]; exact h2 j hj hji) (by rw [free_stop (h i hi)]; exact h1)
    exact .inr ⟨by omega, by rw [hf]; exact e⟩
theorem leads_told (l : List HC) (leaf : Bool) (it : List It) : leadsC l leaf it = (toldL leaf it).all (usedC l) := by
  unfold leadsC toldL
  cases leaf
  · simp [List.all_map, Function.comp_def]
  · rfl
def moreI (g : List HC) (p : Int) : List HC := g.set p.toNat (g.getD p.toNat HC.none).more
theorem more_told (held : List Int) (l : List HC) (leaf : Bool) (it : List It) : ((toldL leaf it).filter (fun x => !inL held x)).foldl moreI l = if leaf then l else moreL held l it := by
  unfold toldL
  cases leaf
  · simp only [Bool.false_eq_true, if_false]
    rw [List.foldl_filter, List.foldl_map]
    unfold moreL moreI
    congr 1
    funext g x
    cases inL held x.2 <;> rfl
  · rfl
theorem more_len (ps : List Int) (l : List HC) : (ps.foldl moreI l).length = l.length :=
  foldl_inv (P := fun g : List HC => g.length = l.length) (g := moreI) (fun b a hb => by unfold moreI; rw [List.length_set]; exact hb) _ _ rfl
theorem getD_at' {l : List HC} {k : Nat} (hk : k < l.length) : l.getD k HC.none = l[k] := by rw [List.getD_eq_getElem?_getD, List.getElem?_eq_getElem hk]; rfl
theorem more_ref : ∀ (ps : List Int) (l : List HC) (B : Int), (∀ k (hk : k < l.length), 0 ≤ l[k].ref ∧ l[k].ref ≤ B) → ∀ k (hk : k < (ps.foldl moreI l).length), 0 ≤ (ps.foldl moreI l)[k].ref ∧ (ps.foldl moreI l)[k].ref ≤ B + ps.length
  | [], l, B, h, k, hk => by
    have := h k hk
    simp only [List.foldl_nil, List.length_nil]
    omega
  | p :: ps, l, B, h, k, hk => by
    have h2 := more_ref ps (moreI l p) (B + 1) (fun j hj => by
      unfold moreI at hj ⊢
      rw [List.length_set] at hj
      rw [List.getElem_set]
      split
      · rename_i e
        subst e
        rw [getD_at' hj]
        unfold HC.more
        have := h _ hj
        simp only
        omega
      · have := h j hj; omega) k hk
    simp only [List.foldl_cons, List.length_cons]
    omega
end Go.Proofs.Ytlbhcakjcklmgaa
namespace Go.Proofs.Ytlbhcakjcklmgaa
end Go.Proofs.Ytlbhcakjcklmgaa
namespace Go.Proofs.Ytlbhcakjcklmgaa
open Go.RowKit

theorem may_iff {l : List HC} {keep most : Int} (h : mayH ⟨l, keep⟩ most = true) : (l.length : Int) ≤ most ∧ (∀ k (hk : k < l.length), l[k].it.length ≤ 10 ∧ l[k].ref ≤ 1000000) ∧ rightH ⟨l, keep⟩ = true := by
  unfold mayH smallH at h
  simp only [Bool.and_eq_true, decide_eq_true_eq, List.all_eq_true] at h
  exact ⟨h.1.1, fun k hk => h.1.2 _ (List.getElem_mem hk), h.2⟩
theorem may_small {l : List HC} {keep most : Int} (h : mayH ⟨l, keep⟩ most = true) : smallH ⟨l, keep⟩ most = true := by
  unfold mayH at h; simp only [Bool.and_eq_true] at h; exact h.1
theorem may_bd {l : List HC} {keep most : Int} (h : mayH ⟨l, keep⟩ most = true) : Bd l := fun k hk => by have := ((may_iff h).2.1 k hk).2; omega
theorem right_ref {l : List HC} {keep : Int} (h : rightH ⟨l, keep⟩ = true) : ∀ k (hk : k < l.length), 0 ≤ l[k].ref ∧ l[k].ref ≤ 2147483647 := fun k hk => by
  have h1 := (rightH_iff h).2 k hk
  unfold cellR at h1
  split at h1
  · rename_i e; omega
  · simp only [Bool.and_eq_true, decide_eq_true_eq] at h1; omega
theorem usedN_le (l : List HC) : usedN l ≤ l.length := List.countP_le_length
theorem heapLoose_is (R : Option Addr) (l : List HC) (n q : Nat) (keep p : Int) (w : World) (hM : rightH ⟨l, keep⟩ = true) (hbd : Bd l) (hA : HcSl w R n q l) :
    Calls Try.prog 37 #[.agg #[.slice R n q, .int .i64 keep], .int .i64 p] w fun e w' => ∃ S d, e = .returned (.tuple #[.agg #[.slice S n d, .int .i64 keep], .int .i64 (looseE ⟨l, keep⟩ p)]) ∧ HcSl w' S n d (looseL (l.length + 1) l p) ∧ Ext w w' := by
  refine (heapLoose_any R l n q keep w p hM hbd hA).mono ?_
  rintro e w' ⟨S, d, cs, rfl, _, h1, h2, hx⟩
  exact ⟨S, d, rfl, ⟨by rw [loose_len]; exact hA.1, cs, h1, h2⟩, hx⟩
theorem may_of {l : List HC} {keep most : Int} (h1 : smallH ⟨l, keep⟩ most = true) (h2 : rightH ⟨l, keep⟩ = true) : mayH ⟨l, keep⟩ most = true := by unfold mayH; rw [h1, h2]; rfl
theorem ref05Small_is (R : Option Addr) (l : List HC) (n q : Nat) (keep most : Int) (w : World) (hA : HcSl w R n q l) {r : Bool} (h : smallH ⟨l, keep⟩ most = r) :
    Calls Try.prog 20 #[.agg #[.slice R n q, .int .i64 keep], .int .i64 most] w fun e w' => e = .returned (.bool r) ∧ Ext w w' := by
  subst h; exact ref05Small_any R l n q keep most w hA
theorem ref05Right_is (R : Option Addr) (l : List HC) (n q : Nat) (keep : Int) (w : World) (hA : HcSl w R n q l) {r : Bool} (h : rightH ⟨l, keep⟩ = r) :
    Calls Try.prog 28 #[.agg #[.slice R n q, .int .i64 keep]] w fun e w' => e = .returned (.bool r) ∧ Ext w w' := by
  subst h; exact ref05Right_any R l n q keep w hA
section
variable (R : Option Addr) (l : List HC) (n q : Nat) (keep : Int) (w : World)
end
end Go.Proofs.Ytlbhcakjcklmgaa
namespace Go.Proofs.Ytlbhcakjcklmgaa
open Go.RowKit

theorem right_set {l : List HC} {keep : Int} (h : rightH ⟨l, keep⟩ = true) (k : Nat) (x : HC) (hx : cellR l.length x = true) : rightH ⟨l.set k x, keep⟩ = true := by
  obtain ⟨h1, h2⟩ := rightH_iff h
  refine rightH_yes (by rw [List.length_set]; exact h1) fun j hj => ?_
  rw [List.length_set] at hj ⊢
  rw [List.getElem_set]
  split
  · exact hx
  · exact h2 j hj
theorem cellR_used {n : Nat} {x : HC} (h : cellR n x = true) (hp : 0 < x.ref) (r : Int) (h0 : 0 < r) (h1 : r ≤ 2147483647) : cellR n ⟨r, x.pin, x.leaf, x.it⟩ = true := by
  unfold cellR at h ⊢
  rw [if_neg (by omega)] at h
  rw [if_neg (by simp only; omega)]
  simp only [Bool.and_eq_true, decide_eq_true_eq] at h ⊢
  exact ⟨h0, h1, h.2.2⟩
theorem used_nopin {n : Nat} {x : HC} (h : cellR n x = true) (hp : 0 < x.ref) : x.pin = false := by
  unfold cellR at h
  rw [if_neg (by omega)] at h
  simp only [Bool.and_eq_true, decide_eq_true_eq, Bool.not_eq_true'] at h
  exact h.2.2.1
theorem right_more {l : List HC} {keep : Int} {k : Nat} (h : rightH ⟨l, keep⟩ = true) (hk : k < l.length) (hp : 0 < l[k].ref) (hm : l[k].ref < 2147483647) : rightH ⟨l.set k l[k].more, keep⟩ = true :=
  right_set h k _ (cellR_used ((rightH_iff h).2 k hk) hp _ (by omega) (by omega))
/-- Held, and loosed, as often as that. -/
def plusC (l : List HC) (k : Nat) (j : Nat) : List HC := l.set k ⟨(l.getD k HC.none).ref + j, (l.getD k HC.none).pin, (l.getD k HC.none).leaf, (l.getD k HC.none).it⟩
theorem plusC_len (l : List HC) (k j : Nat) : (plusC l k j).length = l.length := by unfold plusC; simp
theorem getD_at {l : List HC} {k : Nat} (hk : k < l.length) : l.getD k HC.none = l[k] := by rw [List.getD_eq_getElem?_getD, List.getElem?_eq_getElem hk]; rfl
theorem plusC_zero {l : List HC} {k : Nat} (hk : k < l.length) : plusC l k 0 = l := by
  unfold plusC; rw [getD_at hk]
  have e : (⟨l[k].ref + (0 : Nat), l[k].pin, l[k].leaf, l[k].it⟩ : HC) = l[k] := by
    have : l[k].ref + ((0 : Nat) : Int) = l[k].ref := by omega
    rw [this]
  rw [e, List.set_getElem_self]
theorem plusC_at {l : List HC} {k j : Nat} (hk : k < l.length) : (plusC l k j)[k]'(by rw [plusC_len]; exact hk) = ⟨l[k].ref + j, l[k].pin, l[k].leaf, l[k].it⟩ := by
  unfold plusC; rw [List.getElem_set_self, getD_at hk]
theorem plusC_succ {l : List HC} {k j : Nat} (hk : k < l.length) : (plusC l k j).set k ((plusC l k j)[k]'(by rw [plusC_len]; exact hk)).more = plusC l k (j + 1) := by
  rw [plusC_at hk]
  unfold plusC HC.more
  rw [List.set_set, getD_at hk]
  have : l[k].ref + (j : Int) + 1 = l[k].ref + ((j + 1 : Nat) : Int) := by omega
  simp only [this]
theorem plusC_used {l : List HC} {k j : Nat} (hk : k < l.length) (hp : 0 < l[k].ref) : usedC (plusC l k j) (k : Int) = true := by
  rw [usedC_at (by rw [plusC_len]; exact hk), plusC_at hk]
  simp only [decide_eq_true_eq]; omega
theorem plusC_hold {l : List HC} {keep : Int} {k j : Nat} (hk : k < l.length) (hp : 0 < l[k].ref) : holdH ⟨plusC l k j, keep⟩ (k : Int) = ⟨plusC l k (j + 1), keep⟩ ∧ holdE ⟨plusC l k j, keep⟩ (k : Int) = 0 := by
  obtain ⟨e1, e2⟩ := holdH_at (keep := keep) (by rw [plusC_len]; exact hk) (plusC_used (j := j) hk hp)
  exact ⟨by rw [e1, plusC_succ hk], e2⟩
theorem plusC_loose {l : List HC} {n : Nat} {k j f : Nat} (hk : k < l.length) (hr : cellR n l[k] = true) (hp : 0 < l[k].ref) : looseL (f + 1) (plusC l k (j + 1)) (k : Int) = plusC l k j := by
  have hk' : k < (plusC l k (j + 1)).length := by rw [plusC_len]; exact hk
  rw [looseL_at f hk' (plusC_used hk hp), plusC_at hk, if_pos (by simp only; omega)]
  have hpn := used_nopin hr hp
  unfold plusC
  rw [List.set_set, getD_at hk, hpn]
  have : l[k].ref + ((j + 1 : Nat) : Int) - 1 = l[k].ref + (j : Int) := by omega
  simp only [this]
theorem plusC_right {l : List HC} {keep : Int} {k j : Nat} (h : rightH ⟨l, keep⟩ = true) (hk : k < l.length) (hp : 0 < l[k].ref) (hm : l[k].ref + j ≤ 2147483647) : rightH ⟨plusC l k j, keep⟩ = true := by
  unfold plusC; rw [getD_at hk]
  exact right_set h k _ (cellR_used ((rightH_iff h).2 k hk) hp _ (by omega) (by omega))
theorem plusC_bd {l : List HC} {k j : Nat} (h : Bd l) (hk : k < l.length) (hm : l[k].ref + j ≤ 2147483647) : Bd (plusC l k j) := by
  unfold plusC; rw [getD_at hk]
  exact h.set k _ (by simp only; omega)
end Go.Proofs.Ytlbhcakjcklmgaa
namespace Go.Proofs.Ytlbhcakjcklmgaa
open Go.RowKit

def upC (ps : List Int) (k : Nat) (c : HC) : HC := ⟨c.ref + (ps.count (k : Int) : Nat), c.pin, c.leaf, c.it⟩
/-- Each cell held once more for each time that its place stands in the row. -/
def upL (l : List HC) (ps : List Int) : List HC := l.mapIdx (upC ps)
theorem upL_len (l : List HC) (ps : List Int) : (upL l ps).length = l.length := by unfold upL; simp
theorem upL_at {l : List HC} {ps : List Int} {k : Nat} (hk : k < l.length) : (upL l ps)[k]'(by rw [upL_len]; exact hk) = upC ps k l[k] := by
  unfold upL; rw [List.getElem_mapIdx]
theorem upL_nil (l : List HC) : upL l [] = l := by
  apply List.ext_getElem (upL_len l [])
  intro k h1 h2
  rw [upL_at h2]
  unfold upC
  simp
theorem upL_same {l : List HC} {ps qs : List Int} (h : ∀ x, ps.count x = qs.count x) : upL l ps = upL l qs := by
  unfold upL
  congr 1
  funext k c
  unfold upC
  rw [h]
theorem upL_cons {l : List HC} {qs : List Int} {p : Nat} (hp : p < l.length) : moreI (upL l qs) (p : Int) = upL l ((p : Int) :: qs) := by
  unfold moreI
  rw [Int.toNat_natCast, getD_at (by rw [upL_len]; exact hp), upL_at hp]
  apply List.ext_getElem (by rw [List.length_set, upL_len, upL_len])
  intro k h1 h2
  rw [upL_len] at h2
  rw [List.getElem_set]
  split
  · rename_i e
    subst e
    rw [upL_at hp]
    unfold upC HC.more
    simp only [List.count_cons_self]
    have : l[p].ref + ((qs.count (p : Int) : Nat) : Int) + 1 = l[p].ref + ((qs.count (p : Int) + 1 : Nat) : Int) := by omega
    rw [this]
  · rename_i e
    rw [upL_at h2, upL_at h2]
    unfold upC
    rw [List.count_cons_of_ne (by omega)]
theorem upL_fold {l : List HC} : ∀ (ps qs : List Int), (∀ p ∈ ps, usedC l p = true) → ps.foldl moreI (upL l qs) = upL l (ps.reverse ++ qs)
  | [], qs, _ => rfl
  | p :: ps, qs, h => by
    obtain ⟨k, hk, rfl, _⟩ := usedC_iff (h p (by simp))
    rw [List.foldl_cons, upL_cons hk, upL_fold ps _ (fun x hx => h x (by simp [hx]))]
    simp
theorem more_up {l : List HC} {ps : List Int} (h : ∀ p ∈ ps, usedC l p = true) : ps.foldl moreI l = upL l ps := by
  have h1 := upL_fold ps [] h
  rw [upL_nil] at h1
  rw [h1]
  exact upL_same (fun x => by simp)
theorem count_unused {l : List HC} {ps : List Int} (h : ∀ p ∈ ps, usedC l p = true) {k : Nat} (hk : k < l.length) (h0 : ¬ 0 < l[k].ref) : ps.count (k : Int) = 0 := by
  rw [List.count_eq_zero]
  intro hm
  have := h _ hm
  rw [usedC_at hk] at this
  simp at this
  omega
theorem loose_up {l : List HC} {keep : Int} (hr : rightH ⟨l, keep⟩ = true) {q : Nat} (hq : ∀ hk : q < l.length, ¬ 0 < l[q].ref) (x : HC) (f : Nat) : ∀ (ps : List Int), (∀ p ∈ ps, usedC l p = true) → ps.foldl (looseL (f + 1)) ((upL l ps).set q x) = l.set q x
  | [], _ => by rw [upL_nil]; rfl
  | p :: ps, h => by
    obtain ⟨k, hk, rfl, hp⟩ := usedC_iff (h p (by simp))
    have hkq : ¬ q = k := fun e => by subst e; exact hq hk hp
    have hk' : k < ((upL l ((k : Int) :: ps)).set q x).length := by rw [List.length_set, upL_len]; exact hk
    have hg : ((upL l ((k : Int) :: ps)).set q x)[k] = upC ((k : Int) :: ps) k l[k] := by rw [List.getElem_set_ne hkq, upL_at hk]
    have hpn := used_nopin ((rightH_iff hr).2 k hk) hp
    have hu : usedC ((upL l ((k : Int) :: ps)).set q x) (k : Int) = true := by
      rw [usedC_at hk', hg]
      unfold upC
      simp only [decide_eq_true_eq]
      omega
    have hstep : looseL (f + 1) ((upL l ((k : Int) :: ps)).set q x) (k : Int) = (upL l ps).set q x := by
      rw [looseL_at f hk' hu, hg]
      have hc : (((k : Int) :: ps).count (k : Int)) = ps.count (k : Int) + 1 := List.count_cons_self ..
      rw [if_pos (by unfold upC; simp only; rw [hc]; omega)]
      apply List.ext_getElem (by simp [upL_len])
      intro j h1 h2
      have hj : j < l.length := by simpa [upL_len] using h2
      rw [List.getElem_set]
      split
      · rename_i e
        subst e
        rw [List.getElem_set_ne hkq, upL_at hj]
        unfold upC
        simp only
        rw [hc, hpn]
        have : l[k].ref + ((ps.count (k : Int) + 1 : Nat) : Int) - 1 = l[k].ref + ((ps.count (k : Int) : Nat) : Int) := by omega
        rw [this]
      · rename_i e
        rw [List.getElem_set, List.getElem_set]
        split
        · rfl
        · rw [upL_at hj, upL_at hj]
          unfold upC
          rw [List.count_cons_of_ne (by omega)]
    rw [List.foldl_cons, hstep]
    exact loose_up hr hq x f ps (fun y hy => h y (by simp [hy]))
theorem countP_set1 {α : Type} (p : α → Bool) : ∀ (l : List α) (k : Nat) (hk : k < l.length) (x : α), (l.set k x).countP p + (if p l[k] then 1 else 0) = l.countP p + (if p x then 1 else 0)
  | [], k, hk, _ => by simp at hk
  | y :: l, 0, _, x => by simp [List.countP_cons]; omega
  | y :: l, k + 1, hk, x => by
    have := countP_set1 p l k (by simpa using hk) x
    simp only [List.set_cons_succ, List.countP_cons, List.getElem_cons_succ]
    omega
theorem upL_free {l : List HC} {ps : List Int} (h : ∀ p ∈ ps, usedC l p = true) (_hr : ∀ k (hk : k < l.length), 0 ≤ l[k].ref) : (upL l ps).countP freeC = l.countP freeC := by
  have e : (upL l ps).map freeC = l.map freeC := by
    apply List.ext_getElem (by simp [upL_len])
    intro k h1 h2
    have hk : k < l.length := by simpa using h2
    rw [List.getElem_map, List.getElem_map, upL_at hk]
    unfold upC freeC
    simp only
    by_cases h0 : 0 < l[k].ref
    · rw [decide_eq_false (by omega), decide_eq_false (by omega)]
    · rw [count_unused h hk h0]; simp
  have h1 : ∀ m : List HC, m.countP freeC = (m.map freeC).countP id := fun m => by rw [List.countP_map]; rfl
  rw [h1, h1, e]
theorem upL_right {l : List HC} {ps : List Int} {keep : Int} (h : ∀ p ∈ ps, usedC l p = true) (hr : rightH ⟨l, keep⟩ = true) (hs : ∀ k (hk : k < l.length), l[k].ref ≤ 1000000) (hp : ps.length ≤ 100) : rightH ⟨upL l ps, keep⟩ = true := by
  obtain ⟨h1, h2⟩ := rightH_iff hr
  refine rightH_yes (by rw [upL_len]; exact h1) fun k hk => ?_
  have hk' : k < l.length := by rw [upL_len] at hk; exact hk
  rw [upL_len, upL_at hk']
  have hc : ps.count (k : Int) ≤ ps.length := List.count_le_length
  have hsk := hs k hk'
  by_cases h0 : 0 < l[k].ref
  · exact cellR_used (h2 k hk') h0 _ (by omega) (by omega)
  · have e : upC ps k l[k] = l[k] := by
      unfold upC
      rw [count_unused h hk' h0]
      simp
    rw [e]
    exact h2 k hk'
theorem told_all {l : List HC} {leaf : Bool} {it : List It} (h : leadsC l leaf it = true) : ∀ p ∈ toldL leaf it, usedC l p = true := by
  rw [leads_told, List.all_eq_true] at h
  exact h
theorem told_len (leaf : Bool) (it : List It) : (toldL leaf it).length ≤ it.length := by unfold toldL; split <;> simp
theorem places_leads {l : List HC} {leaf : Bool} {it : List It} (h : leadsC l leaf it = true) : placesC l.length leaf it = true := by
  rw [places_told]
  have h1 := told_all h
  have : (toldL leaf it).any (fun p => !isPl p l.length) = false := by
    rw [List.any_eq_false]
    intro p hp
    obtain ⟨k, hk, rfl, _⟩ := usedC_iff (h1 p hp)
    unfold isPl
    rw [decide_eq_true (by omega), decide_eq_true (by omega)]
    simp
  rw [this]; rfl
/-- What is laid: each cell held once more for each item that tells it, but those that are held already; the node in the first free cell. -/
theorem alloc_up {l : List HC} {leaf : Bool} {it : List It} {held : List Int} {q : Nat} (hg : (ndR it && leadsC l leaf it) = true) (hq : q < l.length) (hf : firstF l = q) :
    allocL l leaf it held = (upL l ((toldL leaf it).filter (fun x => !inL held x))).set q ⟨1, false, leaf, it⟩ := by
  rw [(alloc_ok (held := held) hg hq hf).2.2, ← more_told]
  rw [Bool.and_eq_true] at hg
  rw [more_up (fun p hp => told_all hg.2 p (List.mem_filter.1 hp).1)]
theorem first_free {l : List HC} {keep : Int} (hr : rightH ⟨l, keep⟩ = true) {q : Nat} (hq : q < l.length) (hf : firstF l = q) : l[q] = ⟨0, false, false, []⟩ := by
  have h1 : stopC l[q] = true := by
    unfold firstF at hf
    exact ((List.findIdx_eq hq).1 hf).1
  rw [free_stop (right_ref hr q hq).1] at h1
  have h2 := (rightH_iff hr).2 q hq
  unfold freeC at h1
  simp only [Bool.and_eq_true, decide_eq_true_eq, Bool.not_eq_true'] at h1
  unfold cellR at h2
  rw [if_pos h1.1] at h2
  simp only [Bool.and_eq_true, Bool.not_eq_true', decide_eq_true_eq] at h2
  have h3 := List.eq_nil_of_length_eq_zero h2.2
  generalize l[q] = x at *
  obtain ⟨a, b, c, d⟩ := x
  simp only at h1 h2 h3
  rw [h1.1, h1.2, h2.1, h3]
theorem first_ahead {l : List HC} {keep : Int} (hr : rightH ⟨l, keep⟩ = true) {q : Nat} (hq : q < l.length) (hf : firstF l = q) {k : Nat} (hk : k < l.length) (hkq : k ≤ q) : freeC l[k] = decide (k = q) := by
  rcases Nat.lt_or_ge k q with h | h
  · unfold firstF at hf
    have h1 := ((List.findIdx_eq hq).1 hf).2 k h
    rw [free_stop (right_ref hr k hk).1] at h1
    rw [h1, decide_eq_false (by omega)]
  · obtain rfl : k = q := by omega
    rw [first_free hr hk hf, decide_eq_true rfl]
    rfl
/-- What is laid, whatever is held already, is right, and has a free cell less. -/
theorem alloc_right {l : List HC} {leaf : Bool} {it : List It} {held : List Int} {keep : Int} {q : Nat} (hr : rightH ⟨l, keep⟩ = true) (hs : ∀ k (hk : k < l.length), l[k].ref ≤ 1000000) (hg : (ndR it && leadsC l leaf it) = true) (hq : q < l.length) (hf : firstF l = q) :
    rightH ⟨allocL l leaf it held, keep⟩ = true ∧ (allocL l leaf it held).countP freeC + 1 = l.countP freeC ∧ (allocL l leaf it held).length = l.length := by
  rw [alloc_up hg hq hf]
  have hg2 := hg
  rw [Bool.and_eq_true] at hg2
  have hu : ∀ p ∈ (toldL leaf it).filter (fun x => !inL held x), usedC l p = true := fun p hp => told_all hg2.2 p (List.mem_filter.1 hp).1
  have hlen : ((toldL leaf it).filter (fun x => !inL held x)).length ≤ 100 := by
    have h1 := List.length_filter_le (fun x => !inL held x) (toldL leaf it)
    have h2 := told_len leaf it
    have h3 := ((ndR_iff it).1 hg2.1).1
    omega
  refine ⟨right_set (upL_right hu hr hs hlen) q _ ?_, ?_, by rw [List.length_set, upL_len]⟩
  · unfold cellR
    rw [if_neg (by simp)]
    simp only
    rw [hg2.1, upL_len, places_leads hg2.2]
    rfl
  · have h1 := countP_set1 freeC (upL l ((toldL leaf it).filter (fun x => !inL held x))) q (by rw [upL_len]; exact hq) ⟨1, false, leaf, it⟩
    rw [upL_free hu (fun k hk => (right_ref hr k hk).1), upL_at hq, first_free hr hq hf] at h1
    have h2 : freeC (upC ((toldL leaf it).filter (fun x => !inL held x)) q ⟨0, false, false, []⟩) = true := by
      unfold upC freeC
      rw [count_unused hu hq (by rw [first_free hr hq hf]; simp)]
      rfl
    rw [h2] at h1
    have h3 : freeC ⟨1, false, leaf, it⟩ = false := rfl
    rw [h3] at h1
    simp only [if_true, Bool.false_eq_true, if_false] at h1
    omega
/-- What is laid, and loosed again, is as it was, but for its Pin. -/
theorem alloc_back {l : List HC} {leaf : Bool} {it : List It} {keep : Int} {q : Nat} (hr : rightH ⟨l, keep⟩ = true) (hg : (ndR it && leadsC l leaf it) = true) (hq : q < l.length) (hf : firstF l = q) :
    looseE ⟨allocL l leaf it [], keep⟩ (q : Int) = 0 ∧ looseL ((allocL l leaf it []).length + 1) (allocL l leaf it []) (q : Int) = l.set q ⟨0, true, false, []⟩ := by
  have hg2 := hg
  rw [Bool.and_eq_true] at hg2
  have ef : (toldL leaf it).filter (fun x => !inL [] x) = toldL leaf it := by
    rw [List.filter_eq_self]; intro x _; rfl
  have ha := alloc_up (held := []) hg hq hf
  rw [ef] at ha
  have hlen : (allocL l leaf it []).length = l.length := by rw [ha, List.length_set, upL_len]
  have hq' : q < (allocL l leaf it []).length := by rw [hlen]; exact hq
  have hat : (allocL l leaf it [])[q] = ⟨1, false, leaf, it⟩ := by simp only [ha, List.getElem_set_self]
  have hu : usedC (allocL l leaf it []) (q : Int) = true := by rw [usedC_at hq', hat]; rfl
  refine ⟨by unfold looseE usedH; simp only [hu]; rfl, ?_⟩
  rw [looseL_told _ hq' hu (by rw [hat]; simp), hat, hlen]
  simp only
  rw [ha, List.set_set]
  obtain ⟨f, hf9⟩ : ∃ f, l.length = f + 1 := ⟨l.length - 1, by omega⟩
  rw [hf9]
  exact loose_up hr (fun hk => by rw [first_free hr hk hf]; simp) _ f _ (told_all hg2.2)
theorem alloc_cell {l : List HC} {leaf : Bool} {it : List It} {held : List Int} {q : Nat} (hg : (ndR it && leadsC l leaf it) = true) (hq : q < l.length) (hf : firstF l = q) (hq' : q < (allocL l leaf it held).length) : (allocL l leaf it held)[q] = ⟨1, false, leaf, it⟩ := by
  simp only [alloc_up hg hq hf, List.getElem_set_self]
theorem alloc_other {l : List HC} {leaf : Bool} {it : List It} {held : List Int} {q : Nat} (hg : (ndR it && leadsC l leaf it) = true) (hq : q < l.length) (hf : firstF l = q) {k : Nat} (hk : k < l.length) (hkq : k ≠ q) (hk' : k < (allocL l leaf it held).length) :
    (allocL l leaf it held)[k] = ⟨l[k].ref + ((if inL held (k : Int) then 0 else (toldL leaf it).count (k : Int) : Nat) : Int), l[k].pin, l[k].leaf, l[k].it⟩ := by
  simp only [alloc_up hg hq hf]
  rw [List.getElem_set_ne (Ne.symm hkq), upL_at hk]
  unfold upC
  cases hi : inL held (k : Int)
  · rw [List.count_filter (by rw [hi]; rfl)]
    simp
  · have h0 : ((toldL leaf it).filter (fun x => !inL held x)).count (k : Int) = 0 := by
      rw [List.count_eq_zero]
      intro hm
      have := (List.mem_filter.1 hm).2
      rw [hi] at this
      cases this
    rw [h0]
    simp
end Go.Proofs.Ytlbhcakjcklmgaa
namespace Go.Proofs.Ytlbhcakjcklmgaa
open Go.RowKit

/-- What is found below a node. -/
structure Gt where
  lo : Int
  hi : Int
  high : Int
  is : Bool
deriving DecidableEq
def Gt.no : Gt := ⟨0, 0, 0, false⟩
def cellT (l : List HC) (p : Int) : HC := l.getD p.toNat HC.none
def firstK (it : List It) : Int := (it.getD 0 (0, 0)).1
def lastK (it : List It) : Int := (it.getD (it.length - 1) (0, 0)).1
def badR (i : Nat) (x : It) (g o : Gt) : Bool := !g.is || (decide (g.lo ≠ x.1) || (decide (0 < i) && (decide (g.lo ≤ o.hi) || decide (o.high ≠ g.high + 1))))
def nextR (i : Nat) (g o : Gt) : Gt := ⟨if i = 0 then g.lo else o.lo, g.hi, if i = 0 then g.high + 1 else o.high, false⟩
def belRow (f : Int → Gt) : Nat → List It → Gt → Gt
  | _, [], o => ⟨o.lo, o.hi, o.high, true⟩
  | i, x :: r, o => if badR i x (f x.2) o then Gt.no else belRow f (i + 1) r (nextR i (f x.2) o)
def bel (l : List HC) : Nat → Int → Gt
  | 0, _ => Gt.no
  | m + 1, p => if (cellT l p).ref < 1 then Gt.no else if (cellT l p).leaf then ⟨firstK (cellT l p).it, lastK (cellT l p).it, 1, true⟩ else belRow (bel l m) 0 (cellT l p).it Gt.no
def rightR (h : Hp) (root : Int) : Bool := decide (root = -1) || (usedH h root && (bel h.c 20 root).is)
def highT (l : List HC) (root : Int) : Int := if root < 0 then 0 else (bel l 20 root).high
def listB (l : List HC) : Nat → Int → List It
  | 0, _ => []
  | m + 1, p => if (cellT l p).leaf then (cellT l p).it else (cellT l p).it.flatMap (fun x => listB l m x.2)
def listT (l : List HC) (root : Int) : List It := if root < 0 then [] else listB l 20 root
def scanT (l : List HC) (root lo hi : Int) : List It := (listT l root).filter (fun x => decide (lo ≤ x.1) && decide (x.1 < hi))
def getT (l : List HC) (root key : Int) : Option Int := ((listT l root).find? (fun x => decide (x.1 = key))).map (·.2)
def nodesB (l : List HC) : Nat → Int → List Int
  | 0, _ => []
  | m + 1, p => p :: (if (cellT l p).leaf then [] else (cellT l p).it.flatMap (fun x => nodesB l m x.2))
def nodesT (l : List HC) (root : Int) : List Int := if root < 0 then [] else nodesB l 20 root

/-- What each item of a row leads to is right, and as high as the others. -/
theorem belRow_is {f : Int → Gt} : ∀ {r : List It} {i : Nat} {o : Gt}, (belRow f i r o).is = true →
    (∀ x ∈ r, (f x.2).is = true ∧ (f x.2).lo = x.1) ∧ (∀ x ∈ r, (f x.2).high + 1 = (belRow f i r o).high) ∧ (0 < i → (belRow f i r o).high = o.high ∧ (belRow f i r o).lo = o.lo)
  | [], i, o, _ => ⟨by simp, by simp, fun _ => ⟨rfl, rfl⟩⟩
  | x :: r, i, o, h => by
    unfold belRow at h ⊢
    cases hb : badR i x (f x.2) o
    · rw [hb] at h
      simp only [Bool.false_eq_true, if_false] at h ⊢
      obtain ⟨h1, h2, h3⟩ := belRow_is h
      obtain ⟨h4, h5⟩ := h3 (by omega)
      unfold badR at hb
      simp only [Bool.or_eq_false_iff, Bool.not_eq_false', Bool.and_eq_false_iff, decide_eq_false_iff_not, Decidable.not_not] at hb
      obtain ⟨b1, b2, b3⟩ := hb
      have h6 : (f x.2).high + 1 = (belRow f (i + 1) r (nextR i (f x.2) o)).high := by
        rw [h4]
        unfold nextR
        split
        · rfl
        · rcases b3 with b | b
          · omega
          · exact b.2.symm
      refine ⟨fun y hy => ?_, fun y hy => ?_, fun hi => ?_⟩
      · rcases List.mem_cons.1 hy with rfl | hy
        · exact ⟨b1, b2⟩
        · exact h1 y hy
      · rcases List.mem_cons.1 hy with rfl | hy
        · exact h6
        · exact h2 y hy
      · rw [h4, h5]
        unfold nextR
        rw [if_neg (by omega), if_neg (by omega)]
        exact ⟨rfl, rfl⟩
    · rw [hb] at h
      simp [Gt.no] at h
/-- A right tree's root: a cell that is held; a leaf, or one whose items lead to right trees, all as high. -/
theorem bel_is {l : List HC} {m : Nat} {p : Int} (h : (bel l (m + 1) p).is = true) : 0 < (cellT l p).ref ∧ (((cellT l p).leaf = true ∧ bel l (m + 1) p = ⟨firstK (cellT l p).it, lastK (cellT l p).it, 1, true⟩) ∨ ((cellT l p).leaf = false ∧ bel l (m + 1) p = belRow (bel l m) 0 (cellT l p).it Gt.no ∧ ∀ x ∈ (cellT l p).it, (bel l m x.2).is = true ∧ (bel l m x.2).lo = x.1 ∧ (bel l m x.2).high + 1 = (bel l (m + 1) p).high)) := by
  rw [bel] at h ⊢
  by_cases h1 : (cellT l p).ref < 1
  · rw [if_pos h1] at h; simp [Gt.no] at h
  · rw [if_neg h1] at h ⊢
    refine ⟨by omega, ?_⟩
    cases h2 : (cellT l p).leaf
    · right
      rw [h2] at h
      simp only [Bool.false_eq_true, if_false] at h ⊢
      have h3 := belRow_is h
      exact ⟨trivial, trivial, fun x hx => ⟨(h3.1 x hx).1, (h3.1 x hx).2, h3.2.1 x hx⟩⟩
    · left; simp
theorem bel_zero {l : List HC} {p : Int} (h : (bel l 0 p).is = true) : False := by simp [bel, Gt.no] at h
/-- Cells of a right heap that are held have right nodes. -/
theorem cell_ok {n : Nat} {c : HC} (h : cellR n c = true) (hr : 0 < c.ref) : NdR c.it ∧ (c.leaf = false → ∀ x ∈ c.it, 0 ≤ x.2 ∧ x.2 < n) := by
  unfold cellR at h
  rw [if_neg (by omega)] at h
  simp only [Bool.and_eq_true, decide_eq_true_eq] at h
  refine ⟨(ndR_iff _).1 h.2.2.2.1, fun hl x hx => ?_⟩
  have h1 := h.2.2.2.2
  unfold placesC at h1
  rw [hl, Bool.false_or, List.all_eq_true] at h1
  have := h1 x hx
  simpa using this
theorem cellT_at {l : List HC} {k : Nat} (hk : k < l.length) : cellT l (k : Int) = l[k] := by
  unfold cellT
  rw [Int.toNat_natCast, List.getD_eq_getElem?_getD, List.getElem?_eq_getElem hk]
  rfl
/-- All cells are right. -/
def AllR (l : List HC) : Prop := ∀ k (hk : k < l.length), cellR l.length l[k] = true
end Go.Proofs.Ytlbhcakjcklmgaa
