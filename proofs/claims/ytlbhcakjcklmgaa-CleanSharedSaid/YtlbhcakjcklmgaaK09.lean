/- Rows of items laid as nodes: what trees they are. No program in sight. A node made anew with an item: what tree it comes to. No program in sight. -/
import Derived.Test.YtlbhcakjcklmgaaK07
import Derived.Test.YtlbhcakjcklmgaaK08
namespace Go.Proofs.Ytlbhcakjcklmgaa
open Go.RowKit

theorem upL_right2 {l : List HC} {ps : List Int} {keep : Int} (h : ∀ p ∈ ps, usedC l p = true) (hr : rightH ⟨l, keep⟩ = true) (hs : ∀ k (hk : k < l.length), l[k].ref ≤ 2000000000) (hp : ps.length ≤ 100) : rightH ⟨upL l ps, keep⟩ = true := by
  obtain ⟨h1, h2⟩ := rightH_iff hr
  refine rightH_yes (by rw [upL_len]; exact h1) fun k hk => ?_
  have hk' : k < l.length := by rw [upL_len] at hk; exact hk
  rw [upL_len, upL_at hk']
  have hc : ps.count (k : Int) ≤ ps.length := List.count_le_length
  have hsk := hs k hk'
  by_cases h0 : 0 < l[k].ref
  · exact cellR_used (h2 k hk') h0 _ (by omega) (by omega)
  · have e : upC ps k l[k] = l[k] := by unfold upC; rw [count_unused h hk' h0]; simp
    rw [e]; exact h2 k hk'
/-- A node that is laid. -/
structure Laid (c c' : List HC) (keep : Int) (leaf : Bool) (it : List It) (held : List Int) (q : Nat) : Prop where
  hq : q < c.length
  un : ¬ 0 < c[q].ref
  right : rightH ⟨c', keep⟩ = true
  keeps : Keeps c c'
  at_ : ∀ hq' : q < c'.length, c'[q] = ⟨1, false, leaf, it⟩
  free : c'.countP freeC + 1 = c.countP freeC
  refs : ∀ k (hk : k < c.length) (hk' : k < c'.length), c'[k].ref ≤ (if 0 < c[k].ref then c[k].ref + 4 else 1)
  new : ∀ k (hk : k < c.length) (hk' : k < c'.length), 0 < c'[k].ref → ¬ 0 < c[k].ref → k = q
  rc : ∀ E, RC c E → RC c' (fun k => E k + (if k = (q : Int) then 1 else 0) - (if inL held k then ((toldL leaf it).count k : Nat) else 0 : Int))
theorem first_lt {c : List HC} {keep : Int} (hr : rightH ⟨c, keep⟩ = true) (hf : 0 < c.countP freeC) : firstF c < c.length := by
  unfold firstF
  rw [List.findIdx_lt_length]
  obtain ⟨x, hx, h⟩ := List.countP_pos_iff.1 hf
  obtain ⟨k, hk, rfl⟩ := List.mem_iff_getElem.1 hx
  exact ⟨_, hx, by rw [free_stop (right_ref hr k hk).1]; exact h⟩
theorem laid {c : List HC} {keep : Int} {leaf : Bool} {it : List It} (held : List Int) (hr : rightH ⟨c, keep⟩ = true) (hs : ∀ k (hk : k < c.length), c[k].ref ≤ 2000000000) (hg : (ndR it && leadsC c leaf it) = true) (hf : 0 < c.countP freeC) :
    allocE c leaf it = 0 ∧ ∃ q, allocP c leaf it = q ∧ Laid c (allocL c leaf it held) keep leaf it held q := by
  have hq := first_lt hr hf
  obtain ⟨e1, e2, _⟩ := alloc_ok (held := held) hg hq rfl
  have hfree := first_free hr hq rfl
  have hg2 := hg
  rw [Bool.and_eq_true] at hg2
  have hu : ∀ p ∈ (toldL leaf it).filter (fun x => !inL held x), usedC c p = true := fun p hp => told_all hg2.2 p (List.mem_filter.1 hp).1
  have h3 := ((ndR_iff it).1 hg2.1).1
  have hlen : ((toldL leaf it).filter (fun x => !inL held x)).length ≤ 100 := by
    have h1 := List.length_filter_le (fun x => !inL held x) (toldL leaf it)
    have h2 := told_len leaf it
    omega
  have hln : (allocL c leaf it held).length = c.length := by rw [alloc_up hg hq rfl, List.length_set, upL_len]
  refine ⟨e1, firstF c, e2, hq, by rw [hfree]; simp, ?_, alloc_keeps hr hg hq rfl, fun hq' => alloc_cell hg hq rfl hq', ?_, fun k hk hk' => ?_, fun k hk hk' h0 h1 => ?_, fun E h => rc_alloc hr hg hq rfl h⟩
  · rw [alloc_up hg hq rfl]
    refine right_set (upL_right2 hu hr hs hlen) _ _ ?_
    unfold cellR
    rw [if_neg (by simp)]
    simp only
    rw [hg2.1, upL_len, places_leads hg2.2]
    rfl
  · rw [alloc_up hg hq rfl]
    have h1 := countP_set1 freeC (upL c ((toldL leaf it).filter (fun x => !inL held x))) (firstF c) (by rw [upL_len]; exact hq) ⟨1, false, leaf, it⟩
    rw [upL_free hu (fun k hk => (right_ref hr k hk).1), upL_at hq, hfree] at h1
    have h2 : freeC (upC ((toldL leaf it).filter (fun x => !inL held x)) (firstF c) ⟨0, false, false, []⟩) = true := by
      unfold upC freeC
      rw [count_unused hu hq (by rw [hfree]; simp)]
      rfl
    rw [h2] at h1
    have h3 : freeC ⟨1, false, leaf, it⟩ = false := rfl
    rw [h3] at h1
    simp only [if_true, Bool.false_eq_true, if_false] at h1
    omega
  · by_cases hkq : k = firstF c
    · subst hkq
      rw [alloc_cell hg hq rfl hk', hfree]
      simp
    · rw [alloc_other hg hq rfl hk hkq hk']
      have h5 : (toldL leaf it).count (k : Int) ≤ (toldL leaf it).length := List.count_le_length
      have h6 := told_len leaf it
      simp only
      by_cases h0 : 0 < c[k].ref
      · rw [if_pos h0]; split <;> omega
      · rw [if_neg h0, count_unused (told_all hg2.2) hk h0]
        split <;> simp <;> omega
  · by_cases hkq : k = firstF c
    · exact hkq
    · exfalso
      rw [alloc_other hg hq rfl hk hkq hk'] at h0
      simp only at h0
      rw [count_unused (told_all hg2.2) hk h1] at h0
      simp at h0
      exact h1 h0
/-- Items that may stand in a row of nodes so high: a leaf's, or such that lead to right trees. -/
structure RowOK (c : List HC) (leaf : Bool) (h : Int) (xs : List It) (e : Int) : Prop where
  ok : ∀ y ∈ xs, okIt y
  lf : leaf = true → h = 1 ∧ Asc xs ∧ ∀ y ∈ xs, y.1 < e
  inn : leaf = false → (2 ≤ h ∧ h ≤ 20) ∧ (∀ y ∈ xs, y.2 < c.length) ∧ ∀ j (hj : j < xs.length), (bel c 20 xs[j].2).is = true ∧ (bel c 20 xs[j].2).high + 1 = h ∧ (bel c 20 xs[j].2).lo = xs[j].1 ∧ (bel c 20 xs[j].2).hi < nextT xs j e
def conts (c : List HC) (leaf : Bool) (xs : List It) : List It := if leaf then xs else xs.flatMap (fun y => listB c 20 y.2)
theorem conts_app (c : List HC) (leaf : Bool) (a b : List It) : conts c leaf (a ++ b) = conts c leaf a ++ conts c leaf b := by
  unfold conts
  cases leaf
  · simp only [Bool.false_eq_true, if_false, List.flatMap_append]
  · rfl
theorem nextT_left {a b : List It} {j : Nat} (hj : j < a.length) (e : Int) : nextT (a ++ b) j e = nextT a j (headK b e) := by
  unfold nextT
  rw [List.length_append]
  by_cases h : j + 1 < a.length
  · rw [if_pos (by omega), if_pos h, List.getD_eq_getElem?_getD, List.getD_eq_getElem?_getD, List.getElem?_append_left h]
  · rw [if_neg h]
    cases b with
    | nil => rw [if_neg (by simp; omega)]; rfl
    | cons y r =>
      rw [if_pos (by simp; omega), List.getD_eq_getElem?_getD, List.getElem?_append_right (by omega)]
      rw [show j + 1 - a.length = 0 by omega]
      rfl
theorem nextT_right {a b : List It} {j : Nat} (e : Int) : nextT (a ++ b) (a.length + j) e = nextT b j e := by
  unfold nextT
  rw [List.length_append]
  by_cases h : j + 1 < b.length
  · rw [if_pos (by omega), if_pos h, List.getD_eq_getElem?_getD, List.getD_eq_getElem?_getD, List.getElem?_append_right (by omega)]
    rw [show a.length + j + 1 - a.length = j + 1 by omega]
  · rw [if_neg h, if_neg (by omega)]
theorem bel_lohi {c : List HC} {keep : Int} (hr : rightH ⟨c, keep⟩ = true) {y : Int} (h0 : 0 ≤ y) (h1 : y < c.length) (hb : (bel c 20 y).is = true) : (bel c 20 y).lo ≤ (bel c 20 y).hi :=
  (listB_spans c (fun k hk => (rightH_iff hr).2 k hk) 20 y h0 h1 hb).le2
/-- Keys rise in such a row, and are below what it ends at. -/
theorem RowOK.asc {c : List HC} {keep : Int} (hr : rightH ⟨c, keep⟩ = true) {leaf : Bool} {h : Int} : ∀ {xs : List It} {e : Int}, RowOK c leaf h xs e → Asc xs ∧ ∀ y ∈ xs, y.1 < e := by
  intro xs e H
  cases leaf
  rotate_left
  · exact (H.lf rfl).2
  obtain ⟨_, hv, hj⟩ := H.inn rfl
  have hok := H.ok
  clear H
  induction xs with
  | nil => exact ⟨List.Pairwise.nil, fun y hy => by cases hy⟩
  | cons x r ih =>
    have h1 := ih (fun y hy => hv y (List.mem_cons_of_mem _ hy)) (fun j hjl => by
      have := hj (j + 1) (by simpa using hjl)
      rw [nextT_cons] at this
      simpa using this) (fun y hy => hok y (List.mem_cons_of_mem _ hy))
    have hx := hj 0 (by simp)
    simp only [List.getElem_cons_zero] at hx
    have hx0 : 0 ≤ x.2 := (hok x List.mem_cons_self).2.1
    have h2 := bel_lohi hr hx0 (hv x List.mem_cons_self) hx.1
    have hn : x.1 < nextT (x :: r) 0 e := by omega
    cases r with
    | nil =>
      refine ⟨by unfold Asc; simp, fun y hy => ?_⟩
      simp only [List.mem_singleton] at hy
      subst hy
      exact hn
    | cons z r =>
      have hz : x.1 < z.1 := hn
      have h3 : ∀ y ∈ z :: r, x.1 < y.1 := fun y hy => by
        rcases List.mem_cons.1 hy with rfl | hy
        · exact hz
        · have := (List.pairwise_cons.1 h1.1).1 y hy; omega
      refine ⟨List.pairwise_cons.2 ⟨h3, h1.1⟩, fun y hy => ?_⟩
      rcases List.mem_cons.1 hy with rfl | hy
      · have := h1.2 z List.mem_cons_self; omega
      · exact h1.2 y hy
theorem allR_of {c : List HC} {keep : Int} (hr : rightH ⟨c, keep⟩ = true) : AllR c := fun k hk => (rightH_iff hr).2 k hk
theorem nextT_zero (x : It) (r : List It) (e : Int) : nextT (x :: r) 0 e = headK r e := by
  unfold nextT
  cases r with
  | nil => rw [if_neg (by simp)]; rfl
  | cons y r => rw [if_pos (by simp)]; rfl
theorem rowOK_app {c : List HC} {leaf : Bool} {h : Int} {a b : List It} {e : Int} (H : RowOK c leaf h (a ++ b) e) : RowOK c leaf h a (headK b e) ∧ RowOK c leaf h b e := by
  refine ⟨⟨fun y hy => H.ok y (List.mem_append_left _ hy), fun hl => ?_, fun hl => ?_⟩, ⟨fun y hy => H.ok y (List.mem_append_right _ hy), fun hl => ?_, fun hl => ?_⟩⟩
  · obtain ⟨h1, h2, h3⟩ := H.lf hl
    unfold Asc at h2
    rw [List.pairwise_append] at h2
    refine ⟨h1, h2.1, fun y hy => ?_⟩
    cases b with
    | nil => exact h3 y (List.mem_append_left _ hy)
    | cons z r => exact h2.2.2 y hy z List.mem_cons_self
  · obtain ⟨h1, h2, h3⟩ := H.inn hl
    refine ⟨h1, fun y hy => h2 y (List.mem_append_left _ hy), fun j hj => ?_⟩
    have h4 := h3 j (by rw [List.length_append]; omega)
    rw [List.getElem_append_left hj, nextT_left hj] at h4
    exact h4
  · obtain ⟨h1, h2, h3⟩ := H.lf hl
    unfold Asc at h2
    rw [List.pairwise_append] at h2
    exact ⟨h1, h2.2.1, fun y hy => h3 y (List.mem_append_right _ hy)⟩
  · obtain ⟨h1, h2, h3⟩ := H.inn hl
    refine ⟨h1, fun y hy => h2 y (List.mem_append_right _ hy), fun j hj => ?_⟩
    have h4 := h3 (a.length + j) (by rw [List.length_append]; omega)
    rw [nextT_right] at h4
    have h5 : (a ++ b)[a.length + j]'(by rw [List.length_append]; omega) = b[j] := by rw [List.getElem_append_right (by omega)]; simp
    rw [h5] at h4
    exact h4
theorem RowOK.keeps {c c' : List HC} (hk : Keeps c c') (hl : AllR c) {leaf : Bool} {h : Int} {xs : List It} {e : Int} (H : RowOK c leaf h xs e) : RowOK c' leaf h xs e := by
  refine ⟨H.ok, H.lf, fun hlf => ?_⟩
  obtain ⟨h1, h2, h3⟩ := H.inn hlf
  refine ⟨h1, fun y hy => by rw [hk.len]; exact h2 y hy, fun j hj => ?_⟩
  have hm : xs[j] ∈ xs := List.getElem_mem hj
  rw [(bel_keeps hk hl 20 _ (H.ok _ hm).2.1 (h2 _ hm) (h3 j hj).1).1]
  exact h3 j hj
theorem conts_leaf (c : List HC) (xs : List It) : conts c true xs = xs := by unfold conts; rw [if_pos rfl]
theorem conts_other (c : List HC) (xs : List It) : conts c false xs = xs.flatMap (fun y => listB c 20 y.2) := by unfold conts; rw [if_neg (by simp)]
theorem conts_keeps {c c' : List HC} (hk : Keeps c c') (hl : AllR c) {leaf : Bool} {h : Int} {xs : List It} {e : Int} (H : RowOK c leaf h xs e) : conts c' leaf xs = conts c leaf xs := by
  cases leaf
  · rw [conts_other, conts_other]
    obtain ⟨_, h2, h3⟩ := H.inn rfl
    have hy : ∀ y ∈ xs, listB c' 20 y.2 = listB c 20 y.2 := fun y hy => by
      obtain ⟨j, hj, he⟩ := List.mem_iff_getElem.1 hy
      have h4 := (h3 j hj).1
      rw [he] at h4
      exact (bel_keeps hk hl 20 y.2 (H.ok y hy).2.1 (h2 y hy) h4).2
    exact flatMap_congr' hy
  · rw [conts_leaf, conts_leaf]
theorem nd_of {xs : List It} (ha : Asc xs) (hok : ∀ y ∈ xs, okIt y) (h1 : 1 ≤ xs.length) (h4 : xs.length ≤ 4) : NdR xs := by
  refine ⟨⟨h1, h4⟩, fun i hi => ⟨hok _ (List.getElem_mem hi), fun h0 => ?_⟩⟩
  unfold Asc at ha
  rw [List.pairwise_iff_getElem] at ha
  exact ha (i - 1) i (by omega) hi (by omega)
theorem RowOK.good {c : List HC} {keep : Int} (hr : rightH ⟨c, keep⟩ = true) {leaf : Bool} {h : Int} {xs : List It} {e : Int} (H : RowOK c leaf h xs e) (h1 : 1 ≤ xs.length) (h4 : xs.length ≤ 4) : (ndR xs && leadsC c leaf xs) = true := by
  rw [Bool.and_eq_true]
  refine ⟨(ndR_iff xs).2 (nd_of (H.asc hr).1 H.ok h1 h4), ?_⟩
  unfold leadsC
  cases leaf
  · rw [Bool.false_or, List.all_eq_true]
    intro y hy
    obtain ⟨_, h2, h3⟩ := H.inn rfl
    obtain ⟨j, hj, rfl⟩ := List.mem_iff_getElem.1 hy
    obtain ⟨k, hk⟩ := Int.eq_ofNat_of_zero_le (H.ok _ hy).2.1
    have hkl : k < c.length := by have := h2 _ hy; omega
    have h5 := (bel_is (m := 19) (h3 j hj).1).1
    rw [hk, cellT_at hkl] at h5
    rw [hk, usedC_at hkl, decide_eq_true h5]
  · rfl
/-- A tree that isn't too high is one with less fuel. -/
theorem bel_down {l : List HC} (hl : AllR l) {p : Int} (h0 : 0 ≤ p) (h1 : p < l.length) (hb : (bel l 20 p).is = true) (hh : (bel l 20 p).high ≤ 19) : (bel l 19 p).is = true ∧ bel l 19 p = bel l 20 p ∧ listB l 19 p = listB l 20 p := by
  have hp := bel_pos l hl 20 p h0 h1 hb
  obtain ⟨k, hk⟩ := Int.eq_ofNat_of_zero_le (show 0 ≤ (bel l 20 p).high by omega)
  have hc := (chk_iff hl k 20 ((bel l 20 p).lo, p) ((bel l 20 p).hi + 1) h0 (by omega)).2 ⟨h1, hb, hk, rfl, by show (bel l 20 p).hi < (bel l 20 p).hi + 1; omega⟩
  have h2 := (chk_iff hl k 19 _ _ h0 (by omega)).1 hc
  exact ⟨h2.2.1, (bel_mono l 19 20 p h2.2.1 (by omega)).symm, (listB_mono l 19 20 p h2.2.1 (by omega)).symm⟩
theorem lastK_lt {xs : List It} {e : Int} (h1 : 1 ≤ xs.length) (h : ∀ y ∈ xs, y.1 < e) : lastK xs < e := by
  rw [lastK_at (by omega)]
  exact h _ (List.getElem_mem _)
/-- What tree a row is that is laid. -/
theorem one_row {c c' : List HC} {keep : Int} (hr : rightH ⟨c, keep⟩ = true) {leaf : Bool} {h : Int} {r : List It} {e : Int} (H : RowOK c leaf h r e) (h1 : 1 ≤ r.length) {held : List Int} {q : Nat} (L : Laid c c' keep leaf r held q) :
    (bel c' 20 (q : Int)).is = true ∧ (bel c' 20 (q : Int)).high = h ∧ (bel c' 20 (q : Int)).lo = firstK r ∧ (bel c' 20 (q : Int)).hi < e ∧ listB c' 20 (q : Int) = conts c leaf r := by
  have hq' : q < c'.length := by rw [L.keeps.len]; exact L.hq
  have hc := L.at_ hq'
  have hb : bel c' (19 + 1) (q : Int) = if leaf then ⟨firstK r, lastK r, 1, true⟩ else belRow (bel c' 19) 0 r Gt.no := by
    rw [bel, cellT_at hq', hc, if_neg (by simp)]
  have hlist : listB c' (19 + 1) (q : Int) = if leaf then r else r.flatMap (fun x => listB c' 19 x.2) := by rw [listB, cellT_at hq', hc]
  show (bel c' (19 + 1) (q : Int)).is = true ∧ (bel c' (19 + 1) (q : Int)).high = h ∧ (bel c' (19 + 1) (q : Int)).lo = firstK r ∧ (bel c' (19 + 1) (q : Int)).hi < e ∧ listB c' (19 + 1) (q : Int) = conts c leaf r
  rw [hb, hlist]
  unfold conts
  cases leaf
  · simp only [Bool.false_eq_true, if_false]
    obtain ⟨⟨g1, g2⟩, g3, g4⟩ := H.inn rfl
    have hd : ∀ j (hj : j < r.length), (bel c' 19 r[j].2).is = true ∧ bel c' 19 r[j].2 = bel c 20 r[j].2 ∧ listB c' 19 r[j].2 = listB c 20 r[j].2 := fun j hj => by
      have hm : r[j] ∈ r := List.getElem_mem hj
      obtain ⟨k1, k2⟩ := bel_keeps L.keeps (allR_of hr) 20 _ (H.ok _ hm).2.1 (g3 _ hm) (g4 j hj).1
      have k3 := bel_down (allR_of L.right) (H.ok _ hm).2.1 (by rw [L.keeps.len]; exact g3 _ hm) (by rw [k1]; exact (g4 j hj).1) (by rw [k1]; have := (g4 j hj).2.1; omega)
      exact ⟨k3.1, k3.2.1.trans k1, k3.2.2.trans k2⟩
    have hmk := belRow_mk (f := bel c' 19) (e := e) (h := h - 1) (r := r) (i := 0) (o := Gt.no) (fun j hj => by
      rw [(hd j hj).2.1]
      obtain ⟨a1, a2, a3, a4⟩ := g4 j hj
      exact ⟨a1, by omega, a3, a4⟩) (.inl (by omega)) (fun h => by omega)
    refine ⟨hmk.1, by rw [hmk.2.1]; omega, ?_, hmk.2.2.1, flatMap_congr' (fun y hy => ?_)⟩
    · rw [hmk.2.2.2, if_pos rfl]
      cases r with
      | nil => simp at h1
      | cons y r => rfl
    · obtain ⟨j, hj, rfl⟩ := List.mem_iff_getElem.1 hy
      exact (hd j hj).2.2
  · simp only [if_true]
    obtain ⟨g1, g2, g3⟩ := H.lf rfl
    exact ⟨trivial, g1.symm, trivial, lastK_lt h1 g3, trivial⟩
/-- Rows laid as nodes, one behind the other; what they come to. -/
def layS (leaf : Bool) (held : List Int) : List (List It) → List HC → List HC × List It
  | [], c => (c, [])
  | r :: rs, c => ((layS leaf held rs (allocL c leaf r held)).1, (firstK r, (allocP c leaf r : Int)) :: (layS leaf held rs (allocL c leaf r held)).2)
structure LayR (c c' : List HC) (keep : Int) (leaf : Bool) (held : List Int) (xs : List It) (h e : Int) (L : List It) (a : Nat) : Prop where
  right : rightH ⟨c', keep⟩ = true
  keeps : Keeps c c'
  len : L.length = a
  place : ∀ y ∈ L, 0 ≤ y.2 ∧ y.2 < c.length
  row : ∀ j (hj : j < L.length), (bel c' 20 L[j].2).is = true ∧ (bel c' 20 L[j].2).high = h ∧ (bel c' 20 L[j].2).lo = L[j].1 ∧ (bel c' 20 L[j].2).hi < nextT L j e
  head : ∀ d, headK L d = headK xs d
  conts_ : L.flatMap (fun y => listB c' 20 y.2) = conts c leaf xs
  free : c'.countP freeC + a = c.countP freeC
  refs : ∀ k (hk : k < c.length) (hk' : k < c'.length), c'[k].ref ≤ (if 0 < c[k].ref then c[k].ref else 1) + 4 * (a : Int)
  new : ∀ k (hk : k < c.length) (hk' : k < c'.length), 0 < c'[k].ref → ¬ 0 < c[k].ref → (bel c' 20 (k : Int)).is = true
  fresh : ∀ y ∈ L, usedC c y.2 = false
  rc : ∀ E, RC c E → RC c' (fun k => E k + (((L.map (·.2)).count k : Nat) : Int) - (if inL held k then ((toldL leaf xs).count k : Nat) else 0 : Int))
theorem told_app (leaf : Bool) (a b : List It) : toldL leaf (a ++ b) = toldL leaf a ++ toldL leaf b := by
  unfold toldL
  cases leaf
  · simp
  · rfl
theorem head_app {r s : List It} (h : 1 ≤ r.length) (d : Int) : headK (r ++ s) d = firstK r := by
  cases r with
  | nil => simp at h
  | cons y r => rfl
theorem lay_rows {keep : Int} (leaf : Bool) (held : List Int) (h : Int) : ∀ (rows : List (List It)) (c : List HC) (e : Int), rightH ⟨c, keep⟩ = true → (∀ k (hk : k < c.length), c[k].ref ≤ 1999990000 - 4 * (rows.length : Int)) → rows.length ≤ 1000 → RowOK c leaf h rows.flatten e →
    (∀ r ∈ rows, 1 ≤ r.length ∧ r.length ≤ 4) → rows.length ≤ c.countP freeC → LayR c (layS leaf held rows c).1 keep leaf held rows.flatten h e (layS leaf held rows c).2 rows.length
  | [], c, e, hr, _, _, _, _, _ => by
    refine ⟨hr, Keeps.refl c, rfl, (fun y hy => by cases hy), (fun j hj => by simp [layS] at hj), fun d => rfl, ?_, by simp [layS], fun k hk hk' => ?_, fun k hk hk' h0 h1 => absurd h0 h1, (fun y hy => by cases hy), fun E hE => ?_⟩
    · cases leaf <;> rfl
    · show c[k].ref ≤ _
      split <;> simp <;> omega
    · refine rc_congr hE (fun k _ => ?_)
      have : (toldL leaf ([] : List (List It)).flatten).count (k : Int) = 0 := by cases leaf <;> rfl
      rw [this]
      simp [layS]
  | r :: rs, c, e, hr, hs, hn, H, hlen, hf => by
    rw [List.flatten_cons] at H ⊢
    obtain ⟨Hr, Hs⟩ := rowOK_app H
    obtain ⟨l1, l4⟩ := hlen r List.mem_cons_self
    simp only [List.length_cons] at hf hs hn
    obtain ⟨_, q, hq, La⟩ := laid held hr (fun k hk => by have := hs k hk; omega) (Hr.good hr l1 l4) (by omega)
    have hal := allR_of hr
    have hone := one_row hr Hr l1 La
    have ih := lay_rows leaf held h rs (allocL c leaf r held) e La.right (fun k hk => by
      have hk' : k < c.length := by rw [La.keeps.len] at hk; exact hk
      have h1 := La.refs k hk' hk
      have h2 := hs k hk'
      split at h1 <;> omega) (by omega) (Hs.keeps La.keeps hal) (fun x hx => hlen x (List.mem_cons_of_mem _ hx)) (by have := La.free; omega)
    have hqc1 : (q : Int) < (allocL c leaf r held).length := by rw [La.keeps.len]; have := La.hq; omega
    obtain ⟨b1, b2⟩ := bel_keeps ih.keeps (allR_of La.right) 20 (q : Int) (by omega) hqc1 hone.1
    unfold layS
    rw [hq]
    have hkk := La.keeps.trans ih.keeps
    refine ⟨ih.right, hkk, by simp [ih.len], fun y hy => ?_, fun j hj => ?_, fun d => ?_, ?_, ?_, fun k hk hk' => ?_, fun k hk hk' h0 h1 => ?_, fun y hy => ?_, fun E hE => ?_⟩
    · rcases List.mem_cons.1 hy with rfl | hy
      · exact ⟨by show (0 : Int) ≤ (q : Int); omega, by show (q : Int) < _; have := La.hq; omega⟩
      · have := ih.place y hy
        rw [La.keeps.len] at this
        exact this
    · cases j with
      | zero =>
        rw [nextT_zero, ih.head]
        simp only [List.getElem_cons_zero]
        rw [b1]
        exact ⟨hone.1, hone.2.1, hone.2.2.1, hone.2.2.2.1⟩
      | succ j =>
        rw [nextT_cons]
        simp only [List.getElem_cons_succ]
        exact ih.row j (by simpa using hj)
    · rw [head_app l1]; rfl
    · rw [List.flatMap_cons, ih.conts_, conts_app, conts_keeps La.keeps hal Hs]
      show listB _ 20 (q : Int) ++ _ = _
      rw [b2, hone.2.2.2.2]
    · have := La.free; have := ih.free; simp only [List.length_cons]; omega
    · have hk1 : k < (allocL c leaf r held).length := by rw [La.keeps.len]; exact hk
      have h1 := La.refs k hk hk1
      have h2 := ih.refs k hk1 hk'
      simp only [List.length_cons]
      by_cases h0 : 0 < c[k].ref
      · rw [if_pos h0] at h1 ⊢
        rw [if_pos (La.keeps.cell k hk hk1 h0).1] at h2
        omega
      · rw [if_neg h0] at h1 ⊢
        split at h2 <;> omega
    · have hk1 : k < (allocL c leaf r held).length := by rw [La.keeps.len]; exact hk
      by_cases h2 : 0 < (allocL c leaf r held)[k].ref
      · have := La.new k hk hk1 h2 h1
        subst this
        rw [b1]
        exact hone.1
      · exact ih.new k hk1 hk' h0 h2
    · rcases List.mem_cons.1 hy with rfl | hy
      · show usedC c (q : Int) = false
        rw [usedC_at La.hq, decide_eq_false La.un]
      · cases hu : usedC c y.2
        · rfl
        · have := ih.fresh y hy
          rw [La.keeps.used hu] at this
          cases this
    · have h1 := ih.rc _ (La.rc E hE)
      refine rc_congr h1 (fun k _ => ?_)
      rw [told_app, List.count_append, List.map_cons, List.count_cons]
      simp only
      by_cases hkq : (k : Int) = (q : Int)
      · rw [if_pos hkq]
        have : ((q : Int) == (k : Int)) = true := by rw [beq_iff_eq]; exact hkq.symm
        rw [this]
        simp only [if_true]
        split <;> omega
      · rw [if_neg hkq]
        have : ((q : Int) == (k : Int)) = false := by rw [beq_eq_false_iff_ne]; exact fun e => hkq e.symm
        rw [this]
        simp only [Bool.false_eq_true, if_false]
        split <;> omega
end Go.Proofs.Ytlbhcakjcklmgaa
namespace Go.Proofs.Ytlbhcakjcklmgaa
open Go.RowKit

theorem rowOK_join {c : List HC} {keep : Int} (_hr : rightH ⟨c, keep⟩ = true) {leaf : Bool} {h : Int} {a b : List It} {e : Int} (Ha : RowOK c leaf h a (headK b e)) (Hb : RowOK c leaf h b e) (hab : ∀ y ∈ a, y.1 < e) : RowOK c leaf h (a ++ b) e := by
  refine ⟨fun y hy => (List.mem_append.1 hy).elim (Ha.ok y) (Hb.ok y), fun hl => ?_, fun hl => ?_⟩
  · obtain ⟨h1, h2, h3⟩ := Ha.lf hl
    obtain ⟨_, g2, g3⟩ := Hb.lf hl
    refine ⟨h1, ?_, fun y hy => (List.mem_append.1 hy).elim (hab y) (g3 y)⟩
    unfold Asc
    rw [List.pairwise_append]
    refine ⟨h2, g2, fun y hy z hz => ?_⟩
    have h4 := h3 y hy
    cases b with
    | nil => cases hz
    | cons v r =>
      have h5 : y.1 < v.1 := h4
      rcases List.mem_cons.1 hz with rfl | hz
      · exact h5
      · have := (List.pairwise_cons.1 g2).1 z hz; omega
  · obtain ⟨h1, h2, h3⟩ := Ha.inn hl
    obtain ⟨_, g2, g3⟩ := Hb.inn hl
    refine ⟨h1, fun y hy => (List.mem_append.1 hy).elim (h2 y) (g2 y), fun j hj => ?_⟩
    by_cases hja : j < a.length
    · rw [List.getElem_append_left hja, nextT_left hja]
      exact h3 j hja
    · obtain ⟨i, rfl⟩ : ∃ i, j = a.length + i := ⟨j - a.length, by omega⟩
      have hib : i < b.length := by rw [List.length_append] at hj; omega
      have h5 : (a ++ b)[a.length + i] = b[i] := by rw [List.getElem_append_right (by omega)]; simp
      rw [h5, nextT_right]
      exact g3 i hib
/-- A right tree's node, as a row. -/
theorem row_of_bel {c : List HC} {keep : Int} (hr : rightH ⟨c, keep⟩ = true) {k : Nat} (hk : k < c.length) (hb : (bel c 20 (k : Int)).is = true) {e : Int} (he : (bel c 20 (k : Int)).hi < e) :
    RowOK c c[k].leaf (bel c 20 (k : Int)).high c[k].it e ∧ firstK c[k].it = (bel c 20 (k : Int)).lo ∧ listB c 20 (k : Int) = conts c c[k].leaf c[k].it ∧ NdR c[k].it := by
  have hl := allR_of hr
  have hrf := (bel_is (m := 19) hb).1
  rw [cellT_at hk] at hrf
  have hok := cell_ok (hl k hk) hrf
  have hp := bel_pos c hl 20 (k : Int) (by omega) (by omega) hb
  have hhi := (bel_high c 20 (k : Int)).2
  obtain ⟨g, hg⟩ : ∃ g : Nat, (bel c 20 (k : Int)).high = (g : Int) + 1 := ⟨((bel c 20 (k : Int)).high - 1).toNat, by omega⟩
  have hc := (chk_iff hl (g + 1) 20 ((bel c 20 (k : Int)).lo, (k : Int)) e (by simp) (by omega)).2 ⟨by omega, hb, by rw [hg]; omega, rfl, he⟩
  unfold chk at hc
  simp only at hc
  rw [cellT_at hk, usedC_at hk, decide_eq_true hrf, Bool.true_and] at hc
  simp only [Bool.and_eq_true, beq_iff_eq, decide_eq_true_eq, Bool.or_eq_true] at hc
  obtain ⟨c1, c2, c3, c4⟩ := hc
  have hsp := listB_spans c hl 20 (k : Int) (by omega) (by omega) hb
  have hasc := asc_of hok.1
  have hlen := hok.1.1.1
  have hlast : ∀ y ∈ c[k].it, y.1 < e := fun y hy => by
    obtain ⟨i, hi, rfl⟩ := List.mem_iff_getElem.1 hy
    rw [lastK_at (by omega)] at c3
    unfold Asc at hasc
    rw [List.pairwise_iff_getElem] at hasc
    by_cases h : i = c[k].it.length - 1
    · subst h; exact c3
    · have := hasc i (c[k].it.length - 1) hi (by omega) (by omega); omega
  have hlist : listB c 20 (k : Int) = if c[k].leaf then c[k].it else c[k].it.flatMap (fun x => listB c 19 x.2) := by
    show listB c (19 + 1) (k : Int) = _
    rw [listB, cellT_at hk]
  have hin : c[k].leaf = false → ∀ j (hj : j < c[k].it.length), (bel c 20 c[k].it[j].2).is = true ∧ (bel c 20 c[k].it[j].2).high = g ∧ (bel c 20 c[k].it[j].2).lo = c[k].it[j].1 ∧ (bel c 20 c[k].it[j].2).hi < nextT c[k].it j e := fun hlf j hj => by
    rcases c4 with h | h
    · rw [hlf] at h; cases h
    have h1 := range_all.1 h j hj
    rw [itD_at hj] at h1
    exact ((chk_iff hl g 20 _ _ (hok.2 hlf _ (List.getElem_mem hj)).1 (by omega)).1 h1).2
  refine ⟨⟨hok.1.ok, fun hlf => ⟨?_, hasc, hlast⟩, fun hlf => ⟨⟨?_, hhi⟩, fun y hy => (hok.2 hlf y hy).2, fun j hj => ?_⟩⟩, c2, ?_, hok.1⟩
  · rw [hlf] at c1
    have : g = 0 := by simpa using c1.symm
    omega
  · have h1 := hin hlf 0 (by omega)
    have h2 := bel_pos c hl 20 _ (hok.2 hlf _ (List.getElem_mem (by omega : 0 < c[k].it.length))).1 (hok.2 hlf _ (List.getElem_mem (by omega : 0 < c[k].it.length))).2 h1.1
    omega
  · have h1 := hin hlf j hj
    exact ⟨h1.1, by rw [h1.2.1, hg], h1.2.2⟩
  · rw [hlist]
    cases hlf : c[k].leaf
    · rw [if_neg (by simp), conts_other]
      have hy : ∀ y ∈ c[k].it, listB c 19 y.2 = listB c 20 y.2 := fun y hy => by
        obtain ⟨j, hj, he2⟩ := List.mem_iff_getElem.1 hy
        have h1 := hin hlf j hj
        rw [he2] at h1
        exact (bel_down hl (hok.2 hlf y hy).1 (hok.2 hlf y hy).2 h1.1 (by omega)).2.2
      exact flatMap_congr' (f := fun y : It => listB c 20 y.2) (g := fun x : It => listB c 19 x.2) hy
    · rw [if_pos rfl, conts_leaf]
theorem at_next {it : List It} (h : NdR it) (key : Int) {hi : (atI false it key).toNat + 1 < it.length} : key < (it[(atI false it key).toNat + 1]'hi).1 := by
  cases hb : atB it key
  · have he : (atI false it key).toNat = atC it key - 1 := by rw [atI_not hb, Int.toNat_natCast]
    simp only [he] at hi ⊢
    by_cases h0 : atC it key = 0
    · have h1 : ¬ it[0].1 < key := fun h' => by have := (atC_lt h key (j := 0) (by omega)).1 h'; omega
      have h2 := h.rise (atC it key - 1 + 1) 0 hi (by omega)
      omega
    · have h1 : ¬ (it[atC it key - 1 + 1]'hi).1 < key := fun h' => by have := (atC_lt h key hi).1 h'; omega
      have h2 : (it[atC it key - 1 + 1]'hi).1 ≠ key := fun e => by rw [atB_yes hi e] at hb; cases hb
      omega
  · obtain ⟨k, hk, he⟩ := atB_ex hb
    have hi2 : (atI false it key).toNat = k := by rw [atI_yes hb, Int.toNat_natCast, atC_at h hk he]
    simp only [hi2] at hi ⊢
    have := h.rise (k + 1) k hi (by omega)
    omega
theorem split_rows {xs : List It} (h1 : 1 ≤ xs.length) (h5 : xs.length ≤ 5) : (splitS xs).flatten = xs ∧ (∀ r ∈ splitS xs, 1 ≤ r.length ∧ r.length ≤ 4) ∧ (1 ≤ (splitS xs).length ∧ (splitS xs).length ≤ 2) := by
  by_cases h : xs.length ≤ 4
  · rw [splitS_few (by omega) h]
    exact ⟨by simp, fun r hr => by simp at hr; subst hr; exact ⟨h1, h⟩, by simp, by simp⟩
  · rw [splitS_more h, splitS_few (by simp; omega) (by simp; omega)]
    refine ⟨by simp, fun r hr => ?_, by simp, by simp⟩
    simp only [List.mem_cons, List.not_mem_nil, or_false] at hr
    rcases hr with rfl | rfl <;> simp <;> omega
/-- A node, made anew with an item. -/
def childT (it : List It) (key : Int) : It := it.getD (atI false it key).toNat (0, 0)
def anewS : Nat → List HC → Int → It → List HC × List It
  | 0, c, _, _ => (c, [])
  | m + 1, c, p, x => if (cellT c p).leaf then layS true [] (splitS (withS (cellT c p).it (atI true (cellT c p).it x.1).toNat (if atB (cellT c p).it x.1 then 1 else 0) [x])) c
    else layS false ((anewS m c (childT (cellT c p).it x.1).2 x).2.map (·.2)) (splitS (withS (cellT c p).it (atI false (cellT c p).it x.1).toNat 1 (anewS m c (childT (cellT c p).it x.1).2 x).2)) (anewS m c (childT (cellT c p).it x.1).2 x).1
structure AnewR (c : List HC) (keep : Int) (p : Int) (x : It) (e : Int) (c' : List HC) (L : List It) (a : Nat) : Prop where
  right : rightH ⟨c', keep⟩ = true
  keeps : Keeps c c'
  len : 1 ≤ L.length ∧ L.length ≤ 2
  place : ∀ y ∈ L, 0 ≤ y.2 ∧ y.2 < c.length
  row : ∀ j (hj : j < L.length), (bel c' 20 L[j].2).is = true ∧ (bel c' 20 L[j].2).high = (bel c 20 p).high ∧ (bel c' 20 L[j].2).lo = L[j].1 ∧ (bel c' 20 L[j].2).hi < nextT L j e
  head : ∀ d, headK L d = if x.1 < (bel c 20 p).lo then x.1 else (bel c 20 p).lo
  mem : ∀ z, z ∈ L.flatMap (fun y => listB c' 20 y.2) ↔ z = x ∨ (z ∈ listB c 20 p ∧ z.1 ≠ x.1)
  free : c'.countP freeC + a = c.countP freeC
  many : (bel c 20 p).high ≤ a ∧ (a : Int) ≤ 2 * (bel c 20 p).high
  refs : ∀ k (hk : k < c.length) (hk' : k < c'.length), c'[k].ref ≤ (if 0 < c[k].ref then c[k].ref else 1) + 4 * (a : Int)
  new : ∀ k (hk : k < c.length) (hk' : k < c'.length), 0 < c'[k].ref → ¬ 0 < c[k].ref → (bel c' 20 (k : Int)).is = true
  fresh : ∀ y ∈ L, usedC c y.2 = false
  rc : ∀ E, RC c E → RC c' (fun k => E k + (((L.map (·.2)).count k : Nat) : Int))
/-- A leaf's items with one more. -/
theorem with_leaf {it : List It} (h : NdR it) (x : It) (hx : okIt x) {e : Int} (he : ∀ y ∈ it, y.1 < e) (hxe : x.1 < e) :
    let xs := withS it (atI true it x.1).toNat (if atB it x.1 then 1 else 0) [x]
    (1 ≤ xs.length ∧ xs.length ≤ 5) ∧ Asc xs ∧ (∀ y ∈ xs, okIt y) ∧ (∀ y ∈ xs, y.1 < e) ∧ (∀ z, z ∈ xs ↔ z = x ∨ (z ∈ it ∧ z.1 ≠ x.1)) ∧ ∀ d, headK xs d = if x.1 < firstK it then x.1 else firstK it := by
  intro xs
  have hat : (atI true it x.1).toNat = atC it x.1 := by rw [atI_leaf, Int.toNat_natCast]
  have hle : atC it x.1 ≤ it.length := List.countP_le_length
  obtain ⟨g, hg, hg2⟩ : ∃ g, (if atB it x.1 then 1 else 0) = g ∧ (g = 0 ∨ (g = 1 ∧ ∃ hk : atC it x.1 < it.length, (it[atC it x.1]'hk).1 = x.1)) ∧ (g = 0 → ∀ j (hj : j < it.length), it[j].1 ≠ x.1) := by
    refine ⟨_, rfl, ?_⟩
    cases hb : atB it x.1
    · refine ⟨.inl (by simp), fun _ j hj e => ?_⟩
      rw [atB_yes hj e] at hb; cases hb
    · obtain ⟨k, hk, hke⟩ := atB_ex hb
      have := atC_at h hk hke
      exact ⟨.inr ⟨by simp, by omega, by simp only [this]; exact hke⟩, fun h => by simp at h⟩
  obtain ⟨hgc, hg0⟩ := hg2
  have hxs : xs = it.take (atC it x.1) ++ [x] ++ it.drop (atC it x.1 + g) := by
    show withS it (atI true it x.1).toNat (if atB it x.1 then 1 else 0) [x] = _
    rw [hat, hg]; rfl
  have hasc := asc_of h
  have hA : ∀ y ∈ it.take (atC it x.1), y.1 < x.1 := fun y hy => by
    obtain ⟨j, hj, rfl⟩ := List.mem_iff_getElem.1 hy
    have hj' : j < atC it x.1 ∧ j < it.length := by simp at hj; omega
    rw [List.getElem_take]
    exact (atC_lt h x.1 hj'.2).2 hj'.1
  have hB : ∀ y ∈ it.drop (atC it x.1 + g), x.1 < y.1 := fun y hy => by
    obtain ⟨j, hj, rfl⟩ := List.mem_iff_getElem.1 hy
    have hjl : atC it x.1 + g + j < it.length := by simp at hj; omega
    rw [List.getElem_drop]
    have h1 : ¬ (it[atC it x.1 + g + j]'hjl).1 < x.1 := fun h' => by have := (atC_lt h x.1 hjl).1 h'; omega
    rcases hgc with h0 | ⟨h1', hk, hke⟩
    · have := hg0 h0 _ hjl; omega
    · have := h.rise (atC it x.1 + g + j) (atC it x.1) hjl (by omega); omega
  have hlen := h.1
  rw [hxs]
  refine ⟨?_, ?_, ?_, ?_, fun z => ?_, fun d => ?_⟩
  · rw [List.length_append, List.length_append, List.length_take, List.length_drop, Nat.min_eq_left hle]
    simp only [List.length_singleton]
    rcases hgc with h0 | ⟨h0, hk, _⟩ <;> omega
  · unfold Asc at hasc ⊢
    rw [List.pairwise_append, List.pairwise_append]
    refine ⟨⟨hasc.sublist (List.take_sublist _ _), by simp, fun y hy z hz => ?_⟩, hasc.sublist (List.drop_sublist _ _), fun y hy z hz => ?_⟩
    · simp only [List.mem_singleton] at hz; subst hz; exact hA y hy
    · rcases List.mem_append.1 hy with hy | hy
      · have := hA y hy; have := hB z hz; omega
      · simp only [List.mem_singleton] at hy; subst hy; exact hB z hz
  · intro y hy
    rcases List.mem_append.1 hy with hy | hy
    · rcases List.mem_append.1 hy with hy | hy
      · exact h.ok y (List.mem_of_mem_take hy)
      · simp only [List.mem_singleton] at hy; subst hy; exact hx
    · exact h.ok y (List.mem_of_mem_drop hy)
  · intro y hy
    rcases List.mem_append.1 hy with hy | hy
    · rcases List.mem_append.1 hy with hy | hy
      · exact he y (List.mem_of_mem_take hy)
      · simp only [List.mem_singleton] at hy; subst hy; exact hxe
    · exact he y (List.mem_of_mem_drop hy)
  · constructor
    · intro hz
      rcases List.mem_append.1 hz with hz | hz
      · rcases List.mem_append.1 hz with hz | hz
        · exact .inr ⟨List.mem_of_mem_take hz, by have := hA z hz; omega⟩
        · simp only [List.mem_singleton] at hz; exact .inl hz
      · exact .inr ⟨List.mem_of_mem_drop hz, by have := hB z hz; omega⟩
    · rintro (rfl | ⟨hz, hne⟩)
      · simp
      · rw [← List.take_append_drop (atC it x.1) it] at hz
        rcases List.mem_append.1 hz with hz | hz
        · exact List.mem_append_left _ (List.mem_append_left _ hz)
        · refine List.mem_append_right _ ?_
          rcases hgc with h0 | ⟨h0, hk, hke⟩
          · rw [h0, Nat.add_zero]; exact hz
          · rw [List.drop_eq_getElem_cons hk] at hz
            rcases List.mem_cons.1 hz with rfl | hz
            · exact absurd hke hne
            · rw [h0]; exact hz
  · by_cases h0 : atC it x.1 = 0
    · rw [h0, List.take_zero, List.nil_append]
      show x.1 = _
      have h1 : ¬ it[0].1 < x.1 := fun h' => by have := (atC_lt h x.1 (j := 0) (by omega)).1 h'; omega
      rw [firstK_at (by omega)]
      split <;> omega
    · have h1 := (atC_lt h x.1 (j := 0) (by omega)).2 (by omega)
      rw [firstK_at (by omega), if_neg (by omega)]
      have : it.take (atC it x.1) = it[0] :: (it.take (atC it x.1)).drop 1 := by
        rw [← List.drop_zero (l := it.take (atC it x.1)), List.drop_eq_getElem_cons (by simp; omega)]
        simp
      rw [this]; rfl
end Go.Proofs.Ytlbhcakjcklmgaa
