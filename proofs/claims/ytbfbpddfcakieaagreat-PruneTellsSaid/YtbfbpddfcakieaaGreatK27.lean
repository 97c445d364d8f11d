/- The root that is gone down from: the plain theory. An item less in a tree: the plain theory. The contract of without of package prune. -/
import Derived.Test.YtbfbpddfcakieaaGreatK24
import Derived.Test.YtbfbpddfcakieaaGreatK26
namespace Go.Proofs.YtbfbpddfcakieaaGreat
open Go.RowKit

theorem hold_up {c : List HC} {k : Nat} (hu : usedC c (k : Int) = true) : moreI c (k : Int) = upL c [(k : Int)] := by
  have h := more_up (l := c) (ps := [(k : Int)]) (fun p hp => by simp only [List.mem_cons, List.not_mem_nil, or_false] at hp; subst hp; exact hu)
  simpa using h
theorem up_one {c : List HC} {k j : Nat} (hj : j < c.length) : (upL c [(k : Int)])[j]'(by rw [upL_len]; exact hj) = ⟨c[j].ref + (if j = k then 1 else 0), c[j].pin, c[j].leaf, c[j].it⟩ := by
  rw [upL_at hj]
  unfold upC
  have : [(k : Int)].count (j : Int) = if j = k then 1 else 0 := by
    rw [List.count_singleton]
    by_cases h : j = k
    · subst h; simp
    · rw [if_neg h, if_neg (by simp; omega)]
  rw [this]
  split <;> rfl
theorem up_keeps {c : List HC} {k : Nat} : Keeps c (upL c [(k : Int)]) := ⟨upL_len _ _, fun j hj hj' h0 => by
  rw [up_one hj]
  refine ⟨?_, rfl, rfl⟩
  show 0 < c[j].ref + (if j = k then 1 else 0)
  split <;> omega⟩
theorem up_rc {c : List HC} {k : Nat} (hk : k < c.length) (h0 : 0 < c[k].ref) {E : Int → Int} (h : RC c E) : RC (upL c [(k : Int)]) (fun j => E j + (if j = (k : Int) then 1 else 0)) := fun j hj => by
  have hj' : j < c.length := by rw [upL_len] at hj; exact hj
  have hin : inn (upL c [(k : Int)]) (j : Int) = inn c (j : Int) := inn_congr (upL_len _ _) (fun i hi hi' => by
    rw [up_one hi]
    unfold tellC
    simp only
    by_cases h : i = k
    · subst h; rw [if_pos rfl, if_pos h0, if_pos (by omega)]
    · rw [if_neg h, Int.add_zero]) (j : Int)
  rw [hin, up_one hj']
  have h1 := h j hj'
  show c[j].ref + (if j = k then 1 else 0) = E (j : Int) + (if (j : Int) = (k : Int) then 1 else 0) + _
  by_cases h : j = k
  · rw [if_pos h, if_pos (by omega)]; omega
  · rw [if_neg h, if_neg (by omega)]; omega
theorem up_free {c : List HC} {k : Nat} (h0 : ∀ hk : k < c.length, 0 < c[k].ref) : (upL c [(k : Int)]).countP freeC = c.countP freeC := by
  have e : (upL c [(k : Int)]).map freeC = c.map freeC := by
    apply List.ext_getElem (by rw [List.length_map, List.length_map, upL_len])
    intro j h1 h2
    have hj : j < c.length := by simpa using h2
    rw [List.getElem_map, List.getElem_map, up_one hj]
    unfold freeC
    simp only
    by_cases h : j = k
    · subst h
      have := h0 hj
      rw [if_pos rfl, decide_eq_false (by omega), decide_eq_false (by omega)]
    · rw [if_neg h, Int.add_zero]
  have h1 := congrArg (fun l => l.countP id) e
  simp only [List.countP_map] at h1
  exact h1
/-- Once more held, if it is held. -/
def holdL (c : List HC) (p : Int) : List HC := if usedC c p then moreI c p else c
theorem hold_c (c : List HC) (keep p : Int) : (holdH ⟨c, keep⟩ p).c = holdL c p := by
  unfold holdH holdL usedH
  split <;> rfl
theorem hold_used {c : List HC} {p : Int} (hu : usedC c p = true) : holdL c p = moreI c p := by unfold holdL; rw [if_pos hu]
/-- P10.1: gone down as long as the root is a cell of one item that is no leaf. -/
def lowS : Nat → List HC → Int → List HC × Int
  | 0, c, p => (c, p)
  | m + 1, c, p => if p < 0 then (c, p) else if (cellT c p).leaf = true ∨ (cellT c p).it.length ≠ 1 then (c, p)
    else lowS m (looseL (c.length + 1) (holdL c ((cellT c p).it.getD 0 (0, 0)).2) p) ((cellT c p).it.getD 0 (0, 0)).2
structure LowR (c : List HC) (keep : Int) (p : Int) (E : Int → Int) (c' : List HC) (q : Int) : Prop where
  right : rightH ⟨c', keep⟩ = true
  len : c'.length = c.length
  place : 0 ≤ q ∧ q < c'.length
  is_ : (bel c' 20 q).is = true
  high : (bel c' 20 q).high ≤ (bel c 20 p).high
  list : listB c' 20 q = listB c 20 p
  free : c'.countP freeC = c.countP freeC
  rc : RC c' (fun k => E k + (if k = q then 1 else 0))
  at_ : AT c'
theorem low_step {keep : Int} {E : Int → Int} (hE : ∀ j, 0 ≤ E j) {c : List HC} {k : Nat} (hk : k < c.length) (hr : rightH ⟨c, keep⟩ = true) (hs : ∀ k (hk : k < c.length), c[k].ref ≤ 1999000000) (hb : (bel c 20 (k : Int)).is = true) (hlf : c[k].leaf = false) (hone : c[k].it.length = 1)
    (hrc : RC c (fun j => E j + (if j = (k : Int) then 1 else 0))) (ha : AT c) : ∃ (w : Nat) (hw : w < c.length), (c[k].it.getD 0 (0, 0)).2 = (w : Int) ∧ usedC c (w : Int) = true ∧ LowR c keep (k : Int) E (looseL (c.length + 1) (moreI c (w : Int)) (k : Int)) (w : Int) ∧ (bel (looseL (c.length + 1) (moreI c (w : Int)) (k : Int)) 20 (w : Int)).high + 1 = (bel c 20 (k : Int)).high ∧
    (∀ j (hj : j < (looseL (c.length + 1) (moreI c (w : Int)) (k : Int)).length) (hj' : j < c.length), (looseL (c.length + 1) (moreI c (w : Int)) (k : Int))[j].ref ≤ (if 0 < c[j].ref then c[j].ref else 0) + 1) := by
  have hal := allR_of hr
  obtain ⟨R, hlo, hli, hnd⟩ := row_of_bel (e := (bel c 20 (k : Int)).hi + 1) hr hk hb (by omega)
  rw [hlf] at R hli
  obtain ⟨x, hx⟩ : ∃ x, c[k].it = [x] := by
    match h : c[k].it, hone with
    | [x], _ => exact ⟨x, rfl⟩
  rw [hx] at R hli
  obtain ⟨hH, hp, hrow⟩ := R.inn rfl
  obtain ⟨b1, b2, b3, b4⟩ := hrow 0 (by simp)
  simp only [List.getElem_cons_zero] at b1 b2 b3 b4
  have hx0 := (R.ok x (by simp)).2.1
  have hx1 := hp x (by simp)
  obtain ⟨w, hw⟩ := Int.eq_ofNat_of_zero_le hx0
  rw [hw] at b1 b2 b3 b4 hx1
  have hwl : w < c.length := by omega
  have hrw := (bel_is (m := 19) b1).1
  rw [cellT_at hwl] at hrw
  have hu : usedC c (w : Int) = true := by rw [usedC_at hwl, decide_eq_true hrw]
  refine ⟨w, hwl, by rw [hx]; exact hw, hu, ?_⟩
  rw [hold_up hu]
  have hr1 : rightH ⟨upL c [(w : Int)], keep⟩ = true := upL_right2 (fun p hp => by simp only [List.mem_cons, List.not_mem_nil, or_false] at hp; subst hp; exact hu) hr (fun k hk => by have := hs k hk; omega) (by simp)
  have hal1 := allR_of hr1
  have hlen := upL_len c [(w : Int)]
  have hrc1 := up_rc hwl hrw hrc
  have hcut := loose_cuts (c.length + 1) (upL c [(w : Int)]) (k : Int)
  have hrg := rc_loose (c.length + 1) (upL c [(w : Int)]) _ k (tells_right hr1) (fun j => by have := hE j; split <;> split <;> omega) (by have := usedN_le (upL c [(w : Int)]); rw [hlen] at this; omega) hrc1 (by rw [hlen]; exact hk) (by have := hE (k : Int); rw [if_pos rfl]; split <;> omega)
  have hrg2 : RC (looseL (c.length + 1) (upL c [(w : Int)]) (k : Int)) (fun j => E j + (if j = (w : Int) then 1 else 0)) := rc_congr hrg (fun j _ => by omega)
  have hE2 : ∀ j, 0 ≤ E j + (if j = (w : Int) then 1 else 0) := fun j => by have := hE j; split <;> omega
  have hl2 : (looseL (c.length + 1) (upL c [(w : Int)]) (k : Int)).length = c.length := by rw [hcut.len, hlen]
  have hw2 : w < (looseL (c.length + 1) (upL c [(w : Int)]) (k : Int)).length := by rw [hl2]; exact hwl
  have hup : usedC (looseL (c.length + 1) (upL c [(w : Int)]) (k : Int)) (w : Int) = true := by
    have h3 : _ = E (w : Int) + (if (w : Int) = (w : Int) then 1 else 0) + _ := hrg2 w hw2
    have := hE (w : Int)
    rw [usedC_at hw2]
    rw [if_pos rfl] at h3
    exact decide_eq_true (by omega)
  have hk1 := bel_keeps (up_keeps (c := c) (k := w)) hal 20 (w : Int) (by omega) (by omega) b1
  have hbc := bel_cuts hcut hal1 hE2 hrg2 20 (w : Int) (by omega) (by rw [hlen]; omega) hup (by rw [hk1.1]; exact b1)
  rw [hk1.1, hk1.2] at hbc
  refine ⟨⟨cuts_right hcut hr1, hl2, ⟨by omega, by rw [hl2]; omega⟩, by rw [hbc.1]; exact b1, by rw [hbc.1]; omega, ?_, ?_, hrg2, fun j hj h2 => ?_⟩, by rw [hbc.1]; exact b2, fun j hj hj' => ?_⟩
  · rw [hbc.2, hli, conts_other, List.flatMap_cons, hw]
    simp
  · rw [cuts_free hcut (fun j hj => (right_ref hr1 j hj).1)]
    exact up_free (fun _ => hrw)
  · have hj1 : j < (upL c [(w : Int)]).length := by rw [hcut.len] at hj; exact hj
    have hj0 : j < c.length := by rw [hlen] at hj1; exact hj1
    have h3 := (hcut.on j hj1 hj h2).1
    have h4 : 0 < c[j].ref := by
      rw [up_one hj0] at h3
      by_cases e : j = w
      · subst e; exact hrw
      · simp only at h3; rw [if_neg e] at h3; omega
    have h5 := ha j hj0 h4
    have h6 := bel_keeps (up_keeps (c := c) (k := w)) hal 20 (j : Int) (by omega) (by omega) h5
    rw [(bel_cuts hcut hal1 hE2 hrg2 20 (j : Int) (by omega) (by omega) (by rw [usedC_at hj, decide_eq_true h2]) (by rw [h6.1]; exact h5)).1, h6.1]
    exact h5
  · have hj1 : j < (upL c [(w : Int)]).length := by rw [hlen]; exact hj'
    by_cases h2 : 0 < (looseL (c.length + 1) (upL c [(w : Int)]) (k : Int))[j].ref
    · obtain ⟨h3, _, _, h4, _⟩ := hcut.on j hj1 hj h2
      rw [up_one hj'] at h3 h4
      simp only at h3 h4
      have h5 : 0 < c[j].ref := by
        by_cases e : j = w
        · subst e; exact hrw
        · rw [if_neg e] at h3; omega
      rw [if_pos h5]
      split at h4 <;> omega
    · split <;> omega
theorem low_ok {keep : Int} {E : Int → Int} (hE : ∀ j, 0 ≤ E j) : ∀ (m : Nat) (c : List HC) (p : Int), rightH ⟨c, keep⟩ = true → (∀ k (hk : k < c.length), c[k].ref ≤ 1990000000 - (m : Int)) → m ≤ 20 → 0 ≤ p → p < c.length → (bel c 20 p).is = true → (bel c 20 p).high ≤ m →
    RC c (fun j => E j + (if j = p then 1 else 0)) → AT c → LowR c keep p E (lowS m c p).1 (lowS m c p).2
  | 0, c, p, hr, _, _, h0, h1, hb, hm, _, _ => by have := bel_pos c (allR_of hr) 20 p h0 h1 hb; omega
  | m + 1, c, p, hr, hs, hm20, h0, h1, hb, hm, hrc, ha => by
    obtain ⟨k, rfl⟩ := Int.eq_ofNat_of_zero_le h0
    have hk : k < c.length := by omega
    rw [lowS, if_neg (by omega), cellT_at hk]
    by_cases hc : c[k].leaf = true ∨ c[k].it.length ≠ 1
    · rw [if_pos hc]
      exact ⟨hr, rfl, ⟨by omega, by omega⟩, hb, Int.le_refl _, rfl, rfl, hrc, ha⟩
    · rw [if_neg hc]
      rw [not_or, Bool.not_eq_true, Decidable.not_not] at hc
      obtain ⟨w, hw, e1, hu, L, hh, hrf⟩ := low_step hE hk hr (fun k hk => by have := hs k hk; omega) hb hc.1 hc.2 hrc ha
      rw [e1, hold_used hu]
      have ih := low_ok hE m _ (w : Int) L.right (fun j hj => by
        have hj' : j < c.length := by rw [L.len] at hj; exact hj
        have h2 := hrf j hj hj'
        have h3 := hs j hj'
        split at h2 <;> omega) (by omega) L.place.1 L.place.2 L.is_ (by omega) L.rc L.at_
      exact ⟨ih.right, ih.len.trans L.len, ih.place, ih.is_, Int.le_trans ih.high L.high, ih.list.trans L.list, ih.free.trans L.free, ih.rc, ih.at_⟩
end Go.Proofs.YtbfbpddfcakieaaGreat
namespace Go.Proofs.YtbfbpddfcakieaaGreat
open Go.RowKit

def delG (c : List HC) (root key : Int) : List HC × Int :=
  if (delS 20 c root key).2.length = 0 then (looseL (c.length + 1) (delS 20 c root key).1 root, -1)
  else (looseL (c.length + 1) (lowS 20 (delS 20 c root key).1 ((delS 20 c root key).2.getD 0 (0, 0)).2).1 root, (lowS 20 (delS 20 c root key).1 ((delS 20 c root key).2.getD 0 (0, 0)).2).2)
/-- What Del answers: cells, root, error. -/
def delR (h : Hp) (root key : Int) : List HC × Int × Int :=
  if getT h.c root key = none then (h.c, root, 4) else if fitsH h (highT h.c root) true = false then (h.c, root, 3) else ((delG h.c root key).1, (delG h.c root key).2, 0)
theorem fine_of {g : List HC} {keep p most : Int} (hl : (g.length : Int) ≤ most) (hmost : most ≤ 60) (hr : rightH ⟨g, keep⟩ = true) (hb : rightR ⟨g, keep⟩ p = true) (hrc : RC g (rootE p)) (ha : AT g) : fineB ⟨g, keep⟩ p most = true := by
  unfold fineB mayT
  rw [Bool.and_eq_true, Bool.and_eq_true]
  have hnd := nd_len hr
  refine ⟨⟨may_of ?_ hr, hb⟩, sound_of hr hrc ha⟩
  unfold smallH
  rw [Bool.and_eq_true, decide_eq_true_eq, List.all_eq_true]
  refine ⟨hl, fun y hy => ?_⟩
  obtain ⟨k, hk, rfl⟩ := List.mem_iff_getElem.1 hy
  rw [Bool.and_eq_true, decide_eq_true_eq, decide_eq_true_eq]
  simp only at hk
  refine ⟨by have := hnd k hk; simp only; omega, ?_⟩
  have h1 := hrc k hk
  have h2 := inn_le (k : Int) (l := g) (fun j hj => by have := hnd j hj; omega)
  have h3 : rootE p (k : Int) ≤ 1 := by unfold rootE; split <;> omega
  simp only
  omega
/-- A root that is loosed, where something else is held instead. -/
theorem loose_root {c : List HC} {keep : Int} {k : Nat} (hk : k < c.length) (hr : rightH ⟨c, keep⟩ = true) {F : Int → Int} (hF : ∀ j, 0 ≤ F j) (hrc : RC c (fun j => rootE (k : Int) j + F j)) (ha : AT c) :
    rightH ⟨looseL (c.length + 1) c (k : Int), keep⟩ = true ∧ (looseL (c.length + 1) c (k : Int)).length = c.length ∧ RC (looseL (c.length + 1) c (k : Int)) F ∧ AT (looseL (c.length + 1) c (k : Int)) ∧ (looseL (c.length + 1) c (k : Int)).countP freeC = c.countP freeC ∧
    ∀ q : Int, 0 ≤ q → q < c.length → 1 ≤ F q → (bel c 20 q).is = true → bel (looseL (c.length + 1) c (k : Int)) 20 q = bel c 20 q ∧ listB (looseL (c.length + 1) c (k : Int)) 20 q = listB c 20 q := by
  have hal := allR_of hr
  have hcut := loose_cuts (c.length + 1) c (k : Int)
  have hrg := rc_loose (c.length + 1) c _ k (tells_right hr) (fun j => by have := hF j; unfold rootE; split <;> omega) (by have := usedN_le c; omega) hrc hk (by have := hF (k : Int); unfold rootE; rw [if_pos rfl]; omega)
  have hrg2 : RC (looseL (c.length + 1) c (k : Int)) F := rc_congr hrg (fun j _ => by unfold rootE; split <;> omega)
  refine ⟨cuts_right hcut hr, hcut.len, hrg2, fun j hj h2 => ?_, cuts_free hcut (fun j hj => (right_ref hr j hj).1), fun q h0 h1 h2 hb => ?_⟩
  · have hj0 : j < c.length := by rw [hcut.len] at hj; exact hj
    have h5 := ha j hj0 (hcut.on j hj0 hj h2).1
    rw [(bel_cuts hcut hal hF hrg2 20 (j : Int) (by omega) (by omega) (by rw [usedC_at hj, decide_eq_true h2]) h5).1]
    exact h5
  · obtain ⟨j, rfl⟩ := Int.eq_ofNat_of_zero_le h0
    have hj : j < (looseL (c.length + 1) c (k : Int)).length := by rw [hcut.len]; omega
    have h3 : _ = F (j : Int) + _ := hrg2 j hj
    exact bel_cuts hcut hal hF hrg2 20 (j : Int) h0 h1 (by rw [usedC_at hj]; exact decide_eq_true (by omega)) hb
structure DelD (c : List HC) (keep root key most : Int) (g : List HC) (p : Int) : Prop where
  fine : fineB ⟨g, keep⟩ p most = true
  list : listT g p = (listT c root).filter (fun z => decide (z.1 ≠ key))
  high : highT g p ≤ highT c root
  free : (g.countP freeC : Int) ≤ c.countP freeC ∧ (c.countP freeC : Int) ≤ g.countP freeC + highT c root
  len : g.length = c.length
  root : p = -1 ∨ 0 ≤ p
theorem fine_del {c : List HC} {keep root key most : Int} (hmost : most ≤ 60) (hf : fineB ⟨c, keep⟩ root most = true) (hin : ∃ z ∈ listT c root, z.1 = key) (hn : highT c root ≤ (c.countP freeC : Nat)) :
    DelD c keep root key most (delG c root key).1 (delG c root key).2 := by
  obtain ⟨hm, hrr, hs⟩ := fine_may hf
  obtain ⟨m1, m2, m3⟩ := may_iff hm
  obtain ⟨hrc, hat⟩ := sound_to m3 hrr hs
  have hal := allR_of m3
  have hasc := listT_rise m3 hrr
  have h0 : 0 ≤ root := by
    rcases Int.lt_or_le root 0 with h | h
    · obtain ⟨z, hz, _⟩ := hin
      unfold listT at hz
      rw [if_pos h] at hz
      cases hz
    · exact h
  obtain ⟨-, h1, hb⟩ := (rightR_iff hrr).resolve_left (by omega)
  have hT : highT c root = (bel c 20 root).high := by unfold highT; rw [if_neg (by omega)]
  have hL : listT c root = listB c 20 root := by unfold listT; rw [if_neg (by omega)]
  rw [hL] at hin hasc
  rw [hT] at hn
  have hbh := bel_high c 20 root
  obtain ⟨a, D⟩ := del_ok 20 c root key ((bel c 20 root).hi + 1) (Nat.le_refl _) m3 (fun k hk => (m2 k hk).2) h0 h1 hb (by omega) hin hn
  obtain ⟨k, rfl⟩ := Int.eq_ofNat_of_zero_le h0
  have hk : k < c.length := by have h1' : (k : Int) < c.length := h1; omega
  have hlen1 := D.keeps.len
  have hk1 : k < (delS 20 c (k : Int) key).1.length := by rw [hlen1]; exact hk
  have hat1 : AT (delS 20 c (k : Int) key).1 := fun j hj h2 => by
    have hj' : j < c.length := by rw [hlen1] at hj; exact hj
    by_cases h3 : 0 < c[j].ref
    · have h4 := hat j hj' h3
      rw [(bel_keeps D.keeps hal 20 (j : Int) (by omega) (by omega) h4).1]
      exact h4
    · exact D.new j hj' hj h2 h3
  have hrc1 := D.rc _ hrc
  have hfree := D.free
  have hmany := D.many
  unfold delG
  by_cases hl : (delS 20 c (k : Int) key).2.length = 0
  · rw [if_pos hl]
    have hnil := List.eq_nil_of_length_eq_zero hl
    rw [hnil] at hrc1
    have hmem := D.mem
    rw [hnil] at hmem
    obtain ⟨g1, g2, g3, g4, g5, _⟩ := loose_root (F := fun _ => 0) hk1 D.right (fun _ => Int.le_refl _) (rc_congr hrc1 (fun j _ => by simp)) hat1
    rw [hlen1] at g1 g2 g3 g4 g5
    have hg3 : RC (looseL (c.length + 1) (delS 20 c (k : Int) key).1 (k : Int)) (rootE (-1)) := rc_congr g3 (fun j _ => by unfold rootE; rw [if_neg (by omega)])
    have hh0 : highT (looseL (c.length + 1) (delS 20 c (k : Int) key).1 (k : Int)) (-1) = 0 := by unfold highT; rw [if_pos (by omega)]
    refine ⟨fine_of (by rw [g2]; exact m1) hmost g1 (by unfold rightR; simp) hg3 g4, ?_, by rw [hh0, hT]; exact hbh.1, by rw [hT]; simp only; rw [g5]; omega, g2, .inl rfl⟩
    have hl0 : listT (looseL (c.length + 1) (delS 20 c (k : Int) key).1 (k : Int)) (-1) = [] := by unfold listT; rw [if_pos (by omega)]
    rw [hl0, hL]
    symm
    rw [List.filter_eq_nil_iff]
    intro z hz
    have h2 := (hmem z).2
    rw [decide_eq_true_eq]
    intro hne
    have := h2 ⟨hz, hne⟩
    cases this
  · rw [if_neg hl]
    obtain ⟨y, hy⟩ : ∃ y, (delS 20 c (k : Int) key).2 = [y] := by
      have := D.len
      match h : (delS 20 c (k : Int) key).2, hl, this with
      | [y], _, _ => exact ⟨y, rfl⟩
    have hyg : ((delS 20 c (k : Int) key).2.getD 0 (0, 0)) = y := by rw [hy]; rfl
    rw [hyg]
    have hmem := D.mem
    rw [hy] at hmem hrc1
    have hym : y ∈ (delS 20 c (k : Int) key).2 := by rw [hy]; exact List.mem_cons_self
    obtain ⟨r1, r2, r3, r4⟩ := D.row y hym
    obtain ⟨p0, p1⟩ := D.place y hym
    have hE : ∀ j, 0 ≤ rootE (k : Int) j := fun j => by unfold rootE; split <;> omega
    have Lo := low_ok (keep := keep) (E := rootE (k : Int)) hE 20 (delS 20 c (k : Int) key).1 y.2 D.right (fun j hj => by
      have hj' : j < c.length := by rw [hlen1] at hj; exact hj
      have h2 := D.refs j hj' hj
      have h3 := (m2 j hj').2
      split at h2 <;> omega) (by omega) p0 (by rw [hlen1]; exact p1) r1 (by omega) (rc_congr hrc1 (fun j _ => by
        show _ = rootE (k : Int) (j : Int) + ((([y].map (·.2)).count (j : Int) : Nat) : Int)
        rw [List.map_cons, List.map_nil, List.count_singleton]
        by_cases h : (j : Int) = y.2
        · rw [if_pos h, if_pos (by simp [h])]; rfl
        · rw [if_neg h, if_neg (by simp; omega)]; rfl)) hat1
    generalize lowS 20 (delS 20 c (k : Int) key).1 y.2 = S at *
    obtain ⟨c2, q⟩ := S
    simp only at Lo ⊢
    have hlen2 : c2.length = c.length := Lo.len.trans hlen1
    have hk2 : k < c2.length := by rw [hlen2]; exact hk
    have hF : ∀ j, 0 ≤ (if j = q then (1 : Int) else 0) := fun j => by split <;> omega
    obtain ⟨g1, g2, g3, g4, g5, g6⟩ := loose_root (F := fun j => if j = q then 1 else 0) hk2 Lo.right hF Lo.rc Lo.at_
    rw [hlen2] at g1 g2 g3 g4 g5 g6
    have hq0 := Lo.place.1
    have hq1 := Lo.place.2
    obtain ⟨b1, b2⟩ := g6 q hq0 (by rw [hlen2] at hq1; exact hq1) (by rw [if_pos rfl]; omega) Lo.is_
    have hh : highT (looseL (c.length + 1) c2 (k : Int)) q = (bel c2 20 q).high := by unfold highT; rw [if_neg (by omega), b1]
    have hl2 : listT (looseL (c.length + 1) c2 (k : Int)) q = listB c2 20 q := by unfold listT; rw [if_neg (by omega), b2]
    have hrb : rightR ⟨looseL (c.length + 1) c2 (k : Int), keep⟩ q = true := rightR_of hq0 (by rw [g2]; rw [hlen2] at hq1; exact hq1) (by rw [b1]; exact Lo.is_)
    have hlf := Lo.free
    refine ⟨fine_of (by rw [g2]; exact m1) hmost g1 hrb (rc_congr g3 (fun j _ => rfl)) g4, ?_, by rw [hh, hT]; have := Lo.high; omega, by rw [hT, g5, hlf]; omega, g2, .inr hq0⟩
    have hasc2 := listT_rise g1 hrb
    rw [hl2, Lo.list] at hasc2
    rw [hl2, Lo.list, hL]
    refine asc_ext hasc2 (hasc.filter _) (fun z => ?_)
    rw [List.mem_filter, decide_eq_true_eq, ← hmem z]
    simp
end Go.Proofs.YtbfbpddfcakieaaGreat
namespace Go.Proofs.YtbfbpddfcakieaaGreat
open Go.RowKit
attribute [local go_sem ↓] Go.wp_at_zero Go.wp_at_succ
theorem run_store_funcP (P : Program) (w : World) (a : Addr) (m : Mode) (f : Fn) (x y : Array Value) : (store a (.func f x y) m).run P w = stored P w a (.func f x y) m := run_store P w a _ m rfl
attribute [local go_sem] run_store_funcP

theorem allocs5P {w W : World} {c0 c1 c2 c3 c4 : Array Value} {t0 t1 t2 t3 t4 : TypeId} (h : ((((w.alloc (.cells c0 t0)).alloc (.cells c1 t1)).alloc (.cells c2 t2)).alloc (.cells c3 t3)).alloc (.cells c4 t4) = W) :
    Ext w W ∧ Bx W w.heap.size c0 ∧ Bx W (w.heap.size + 1) c1 ∧ Bx W (w.heap.size + 1 + 1) c2 ∧ Bx W (w.heap.size + 1 + 1 + 1) c3 ∧ Bx W (w.heap.size + 1 + 1 + 1 + 1) c4 := by
  obtain ⟨h1, h2, h3, h4, h5⟩ := allocs4 (w := w) (c0 := c0) (c1 := c1) (c2 := c2) (c3 := c3) (t0 := t0) (t1 := t1) (t2 := t2) (t3 := t3) rfl
  subst h
  have y := (Ext.refl ((((w.alloc (.cells c0 t0)).alloc (.cells c1 t1)).alloc (.cells c2 t2)).alloc (.cells c3 t3))).alloc (.cells c4 t4)
  exact ⟨h1.trans y, h2.ext y, h3.ext y, h4.ext y, h5.ext y, Bx.new' (by simp) _ _⟩
theorem Hx.thru {w W W' : World} {b : Nat} {keep : Int} (h : Ext w W) (g : Hx b keep W W') (hb : w.heap.size ≤ b) : Ext w W' :=
  ⟨g.os.trans h.os, g.tape.trans h.tape, g.output.trans h.output, Nat.le_trans h.size g.size, fun k hk => (g.block k (Nat.lt_of_lt_of_le hk h.size) (by omega)).trans (h.block k hk)⟩
theorem layD_length (leaf : Bool) (held : List Int) : ∀ (rows : List (List It)) (c : List HC), (layS leaf held rows c).2.length = rows.length
  | [], _ => rfl
  | r :: rs, c => by rw [layS, List.length_cons, List.length_cons, layD_length leaf held rs]
theorem atD_leaf_ok {it : List It} (h : NdR it) (key : Int) : atC it key + (if atB it key then 1 else 0) ≤ it.length := by
  have hle : atC it key ≤ it.length := List.countP_le_length
  cases hb : atB it key
  · simpa using hle
  · obtain ⟨k, hk, hke⟩ := atB_ex hb
    have := atC_at h hk hke
    simp; omega
/-- A node, made anew without a key. -/
theorem pruneAnew_any {keep : Int} : ∀ (m : Nat) (c : List HC) (p key e : Int) (b bk bf be n : Nat) (w : World), m ≤ 20 → rightH ⟨c, keep⟩ = true → (∀ k (hk : k < c.length), c[k].ref ≤ 1000000) → 0 ≤ p → p < c.length → (bel c m p).is = true → (bel c 20 p).hi < e → (∃ z ∈ listB c 20 p, z.1 = key) →
    (bel c 20 p).high ≤ (c.countP freeC : Nat) → Cl w b bk bf be n keep key c →
    Calls Tryz.prog 45 #[.int .i64 p, .pointer (some ⟨b, 0, none⟩), .pointer (some ⟨bk, 0, none⟩), .pointer (some ⟨bf, 0, none⟩), .pointer (some ⟨be, 0, none⟩)] w fun e w' => ∃ O z, e = .returned (.slice O (delS m c p key).2.length z) ∧ Sl w' O (delS m c p key).2.length z (ivs (delS m c p key).2) ∧ HB2 w' b keep n (delS m c p key).1 ∧ Hx b keep w w'
  | 0, _, _, _, _, _, _, _, _, _, _, _, _, _, _, _, hb, _, _, _, _ => (bel_zero hb).elim
  | m + 1, c, p, key, e, b, bk, bf, be, n, w, hm, hr, hs, h0, h1, hb, he, hin, hf, hC => by
    obtain ⟨k, rfl⟩ := Int.eq_ofNat_of_zero_le h0
    have hk : k < c.length := by omega
    have hb20 : (bel c 20 (k : Int)).is = true := by rw [bel_mono c (m + 1) 20 _ hb hm]; exact hb
    obtain ⟨hrf, hc⟩ := bel_is hb
    rw [cellT_at hk] at hrf hc
    have hok := cell_ok ((rightH_iff hr).2 k hk) hrf
    have hnd : ndR c[k].it = true := (ndR_iff _).2 hok.1
    rcases hc with ⟨hlf, _⟩ | ⟨hlf, _, hch⟩
    · obtain ⟨-, hokS, hdef, hab⟩ := del_leaf (m := m) hk hr hs hb20 he hf hin hlf
      rw [hdef, layD_length]
      have hle := atD_leaf_ok hok.1 key
      rw [hab, if_pos rfl] at hle
      exact pruneAnew_leaf b bk bf be n k (atC c[k].it key) keep key c _ w hC hk hlf hnd atI_leaf hle rfl hokS
    · obtain ⟨hi, _⟩ := at_low hok.1 key
      have hcd : childT c[k].it key = c[k].it[(atI false c[k].it key).toNat] := itD_at hi
      have hcm : childT c[k].it key ∈ c[k].it := by rw [hcd]; exact List.getElem_mem hi
      have hat : atI false c[k].it key = ((atI false c[k].it key).toNat : Int) := by
        rw [Int.toNat_of_nonneg]; unfold atI; split <;> omega
      have hm2 : m ≤ 20 := by omega
      have IHd := fun (e' : Int) (h2 : (bel c 20 (childT c[k].it key).2).hi < e') (h3 : ∃ z ∈ listB c 20 (childT c[k].it key).2, z.1 = key) (h4 : (bel c 20 (childT c[k].it key).2).high ≤ (c.countP freeC : Nat)) => del_ok m c (childT c[k].it key).2 key e' hm2 hr hs (hok.2 hlf _ hcm).1 (hok.2 hlf _ hcm).2 (hch _ hcm).1 h2 h3 h4
      obtain ⟨-, hokS, hdef, hin2⟩ := del_other (m := m) hk hr hs hb20 he hf hin hlf IHd
      obtain ⟨Rw, -, -, -⟩ := row_of_bel hr hk hb20 he
      rw [hlf] at Rw
      have hrow := (Rw.inn rfl).2.2 _ hi
      rw [← hcd] at hrow
      have hfc : (bel c 20 (childT c[k].it key).2).high ≤ (c.countP freeC : Nat) := by omega
      obtain ⟨a, AN⟩ := IHd ((bel c 20 (childT c[k].it key).2).hi + 1) (by omega) hin2 hfc
      have IH := fun w' (hx' : Ext w w') => pruneAnew_any m c (childT c[k].it key).2 key ((bel c 20 (childT c[k].it key).2).hi + 1) b bk bf be n w' (by omega) hr hs (hok.2 hlf _ hcm).1 (hok.2 hlf _ hcm).2 (hch _ hcm).1 (by omega) hin2 hfc (hC.ext hx')
      rw [hdef, layD_length]
      have hAl := AN.len
      generalize delS m c (childT c[k].it key).2 key = r at *
      refine pruneAnew_other b bk bf be n k (atI false c[k].it key).toNat keep key c r.1 _ r.2 w hC hk hlf hnd hat hi hAl rfl hokS (fun w' hx' => ?_)
      rw [← hcd]; exact IH w' hx'
set_option maxRecDepth 100000 in
set_option maxHeartbeats 1600000 in
theorem pruneWithout_any {keep : Int} (c : List HC) (p key _e : Int) (R : Option Addr) (n q : Nat) (w : World) (hr : rightH ⟨c, keep⟩ = true) (hs : ∀ k (hk : k < c.length), c[k].ref ≤ 1000000) (h0 : 0 ≤ p) (h1 : p < c.length) (hb : (bel c 20 p).is = true) (hin : ∃ z ∈ listB c 20 p, z.1 = key)
    (hf : (bel c 20 p).high ≤ (c.countP freeC : Nat)) (hA : HcSl w R n q c) :
    Calls Tryz.prog 23 #[.agg #[.slice R n q, .int .i64 keep], .int .i64 p, .int .i64 key] w fun e w' => ∃ S d, e = .returned (.tuple #[.agg #[.slice S n d, .int .i64 keep], .int .i64 (if (delS 20 c p key).2.length = 0 then -1 else ((delS 20 c p key).2.getD 0 (0, 0)).2), .int .i64 0]) ∧ HcSl w' S n d (delS 20 c p key).1 ∧ Ext w w' := by
  have HAN := Lib.hid (fun b bk bf be w' (hC : Cl w' b bk bf be n keep key c) => pruneAnew_any 20 c p key ((bel c 20 p).hi + 1) b bk bf be n w' (Nat.le_refl _) hr hs h0 h1 hb (by omega) hin hf hC)
  obtain ⟨a, D⟩ := del_ok 20 c p key ((bel c 20 p).hi + 1) (Nat.le_refl _) hr hs h0 h1 hb (by omega) hin hf
  have HL := Lib.hid D.len
  have HA := Lib.hid hA
  clear D hA hr hs h0 h1 hb hin hf
  generalize delS 20 c p key = r at *
  obtain ⟨c2, L2⟩ := r
  simp only at *
  obtain ⟨rt, hrt⟩ : ∃ rt, (if L2.length = 0 then -1 else (L2.getD 0 (0, 0)).2) = rt := ⟨_, rfl⟩
  rw [hrt]
  have HRT := Lib.hid hrt
  clear hrt
  go_enter Tryz.func23, Tryz.ntmps23
  go_wp2_with (go_at_call 45; refine stop_here ?_)
  refine stop_on ?_
  generalize hW : World.alloc (World.alloc (World.alloc (World.alloc (World.alloc w _) _) _) _) _ = W
  obtain ⟨hx, b0, b1, b2, b3, b4⟩ := allocs5P hW
  have HX := Lib.hid hx
  have HB2 := Lib.hid b2
  have HB3 := Lib.hid b3
  refine (HAN.out _ _ _ _ _ ⟨⟨R, q, b0, HA.out.ext hx⟩, b1, b4, b3, by omega, by omega, by omega⟩).mono ?_
  clear b0 b1 b2 b3 b4 hx hW
  rintro e w1 ⟨O, z, rfl, ho, ⟨S, d, hb, hc⟩, hg⟩
  have HO := Lib.hid ho
  have HC := Lib.hid hc
  have HXW := Lib.hid (Hx.thru HX.out hg (Nat.le_refl _))
  have HR := Lib.hid (hg.bx HB2.out (by omega))
  obtain ⟨p0, p1, p2⟩ := hb.read2
  have e0 := (hg.bx HB3.out (by omega)).at 0 _ rfl
  obtain ⟨t0, t1, t2⟩ := HR.out.read2
  obtain ⟨f0, f1⟩ := HR.out.free2
  clear ho hc hg hb
  match hL : L2, HL.out with
  | [], _ =>
    obtain rfl : -1 = rt := HRT.out
    simp only [List.length_nil] at HO ⊢
    clear HRT HL
    go_wp2_with fail
    go_region
    all_goals
      go_wp2_with fail
      refine ret2_cell (k := w.heap.size + 1 + 1) (x := .slice S n d) (y := .int .i64 keep) (v := .tuple #[.agg #[.slice S n d, .int .i64 keep], .int .i64 (-1), .int .i64 0]) ?hb4 (fun r0 r1 => by simp [results, Tryz.results23, go_sem, r0, r1]) rfl ?hx4
      case hb4 => exact (HR.out.set2 _ _).ext (Ext.refl _).drew
      case hx4 => exact ⟨S, d, rfl, (HC.out.boxed2 HR.out _ _).ext (Ext.refl _).drew, (HXW.out.store2 (by omega) _ _).drew⟩
  | [y], _ =>
    obtain ⟨y1, y2⟩ := y
    obtain ⟨bl, ol, rfl, hbl, l0, l1⟩ := it_at (k := 0) HO.out (by simp)
    simp only [Nat.zero_mul, Nat.add_zero, List.getElem_cons_zero] at l0 l1
    obtain rfl : y2 = rt := HRT.out
    simp only [List.length_cons, List.length_nil] at HO ⊢
    clear HRT HL
    go_wp2_with fail
    go_region
    all_goals
      go_wp2_with fail
      refine ret2_cell (k := w.heap.size + 1 + 1) (x := .slice S n d) (y := .int .i64 keep) (v := .tuple #[.agg #[.slice S n d, .int .i64 keep], .int .i64 y2, .int .i64 0]) ?hb4 (fun r0 r1 => by simp [results, Tryz.results23, go_sem, r0, r1]) rfl ?hx4
      case hb4 => exact (HR.out.set2 _ _).ext (Ext.refl _).drew
      case hx4 => exact ⟨S, d, rfl, (HC.out.boxed2 HR.out _ _).ext (Ext.refl _).drew, (HXW.out.store2 (by omega) _ _).drew⟩
end Go.Proofs.YtbfbpddfcakieaaGreat
