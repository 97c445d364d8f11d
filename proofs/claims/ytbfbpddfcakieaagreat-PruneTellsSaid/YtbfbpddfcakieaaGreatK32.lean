/- What stays used where a root is gone down from: the plain theory. Nodes of package tree, by a range over nodes. Get of package tree, by a range over items. -/
import Derived.Test.YtbfbpddfcakieaaGreatK28
import Derived.Test.YtbfbpddfcakieaaGreatK30
import Derived.Test.YtbfbpddfcakieaaGreatK14
namespace Go.Proofs.YtbfbpddfcakieaaGreat
open Go.RowKit

theorem low_keep {keep : Int} {c : List HC} {k w : Nat} (hk : k < c.length) (_hr : rightH ⟨c, keep⟩ = true) (_hs : ∀ k (hk : k < c.length), c[k].ref ≤ 1999000000) (hlf : c[k].leaf = false) (hone : c[k].it.length = 1) (hb : (bel c 20 (k : Int)).is = true) (hwl : w < c.length) (hw' : (c[k].it.getD 0 (0, 0)).2 = (w : Int)) :
    ∀ j (hj : j < c.length) (hj' : j < (looseL (c.length + 1) (holdL c (w : Int)) (k : Int)).length), j ≠ k → 0 < c[j].ref → 0 < (looseL (c.length + 1) (holdL c (w : Int)) (k : Int))[j].ref ∧ (looseL (c.length + 1) (holdL c (w : Int)) (k : Int))[j].leaf = c[j].leaf ∧ (looseL (c.length + 1) (holdL c (w : Int)) (k : Int))[j].it = c[j].it := by
  obtain ⟨x, hx⟩ : ∃ x, c[k].it = [x] := by
    match h : c[k].it, hone with
    | [x], _ => exact ⟨x, rfl⟩
  have hw : x.2 = (w : Int) := by rw [hx] at hw'; exact hw'
  have hhb := (bel_is (m := 19) hb).2
  have hrf := (bel_is (m := 19) hb).1
  rw [cellT_at hk] at hhb hrf
  have hch := (hhb.resolve_left (fun e => by have := e.1; rw [hlf] at this; cases this)).2.2
  have hcw := hch x (by rw [hx]; exact List.mem_cons_self)
  rw [hw] at hcw
  have hbw : bel c 20 (w : Int) = bel c 19 (w : Int) := bel_mono c 19 20 _ hcw.1 (by omega)
  have hwk : w ≠ k := fun e => by
    subst e
    rw [← hbw] at hcw
    have h7 : (bel c 20 (w : Int)).high + 1 = (bel c 20 (w : Int)).high := hcw.2.2
    omega
  have hrw := (bel_is (m := 18) hcw.1).1
  rw [cellT_at hwl] at hrw
  have hu : usedC c (w : Int) = true := by rw [usedC_at hwl, decide_eq_true hrw]
  have hhold : holdL c (w : Int) = upL c [(w : Int)] := by rw [hold_used hu, hold_up hu]
  rw [hhold]
  have hlen := upL_len c [(w : Int)]
  have hk1 : k < (upL c [(w : Int)]).length := by rw [hlen]; exact hk
  have hw1 : w < (upL c [(w : Int)]).length := by rw [hlen]; exact hwl
  have huk : usedC (upL c [(w : Int)]) (k : Int) = true := by
    rw [usedC_at hk1, up_one hk]
    refine decide_eq_true ?_
    show 0 < c[k].ref + _
    split <;> omega
  have hck : (upL c [(w : Int)]).getD k HC.none = ⟨c[k].ref, c[k].pin, c[k].leaf, c[k].it⟩ := by
    rw [List.getD_eq_getElem?_getD, List.getElem?_eq_getElem hk1, Option.getD_some, up_one hk, if_neg (fun e => hwk e.symm), Int.add_zero]
  have hstep : looseL (c.length + 1) (upL c [(w : Int)]) (k : Int) = if 1 < c[k].ref then (upL c [(w : Int)]).set k ⟨c[k].ref - 1, false, c[k].leaf, c[k].it⟩ else ((upL c [(w : Int)]).set k ⟨0, true, false, []⟩).set w ⟨c[w].ref, false, c[w].leaf, c[w].it⟩ := by
    rw [looseL, if_pos huk, Int.toNat_natCast, hck]
    simp only
    by_cases h1 : 1 < c[k].ref
    · rw [if_pos h1, if_pos h1]
    · rw [if_neg h1, if_neg h1]
      rw [hlf, hx]
      simp only [Bool.false_eq_true, if_false, List.foldl_cons, List.foldl_nil]
      rw [hw]
      obtain ⟨f, hf⟩ : ∃ f, c.length = f + 1 := ⟨c.length - 1, by omega⟩
      have hw2 : w < ((upL c [(w : Int)]).set k ⟨0, true, false, []⟩).length := by rw [List.length_set]; exact hw1
      have hcw2 : ((upL c [(w : Int)]).set k ⟨0, true, false, []⟩)[w] = ⟨c[w].ref + 1, c[w].pin, c[w].leaf, c[w].it⟩ := by
        rw [List.getElem_set_ne (fun e => hwk e.symm), up_one hwl, if_pos rfl]
      rw [hf, looseL, if_pos (by rw [usedC_at hw2, hcw2]; exact decide_eq_true (show 0 < c[w].ref + 1 by omega)), Int.toNat_natCast]
      have hgd : ((upL c [(w : Int)]).set k ⟨0, true, false, []⟩).getD w HC.none = ⟨c[w].ref + 1, c[w].pin, c[w].leaf, c[w].it⟩ := by
        rw [List.getD_eq_getElem?_getD, List.getElem?_eq_getElem hw2, Option.getD_some, hcw2]
      rw [hgd]
      simp only
      rw [if_pos (by omega), show c[w].ref + 1 - 1 = c[w].ref by omega]
  intro j hj hj' hne h0
  by_cases h1 : 1 < c[k].ref
  · have e : (looseL (c.length + 1) (upL c [(w : Int)]) (k : Int))[j] = (upL c [(w : Int)])[j]'(by rw [hlen]; exact hj) := by
      simp only [hstep, if_pos h1]
      rw [List.getElem_set_ne (fun e => hne e.symm)]
    rw [e, up_one hj]
    refine ⟨?_, rfl, rfl⟩
    show 0 < c[j].ref + _
    split <;> omega
  · by_cases hjw : j = w
    · subst hjw
      have e : (looseL (c.length + 1) (upL c [(j : Int)]) (k : Int))[j] = ⟨c[j].ref, false, c[j].leaf, c[j].it⟩ := by
        simp only [hstep, if_neg h1]
        rw [List.getElem_set_self]
      rw [e]
      exact ⟨h0, rfl, rfl⟩
    · have e : (looseL (c.length + 1) (upL c [(w : Int)]) (k : Int))[j] = (upL c [(w : Int)])[j]'(by rw [hlen]; exact hj) := by
        simp only [hstep, if_neg h1]
        rw [List.getElem_set_ne (fun e => hjw e.symm), List.getElem_set_ne (fun e => hne e.symm)]
      rw [e, up_one hj]
      refine ⟨?_, rfl, rfl⟩
      show 0 < c[j].ref + _
      split <;> omega
theorem low_after {keep : Int} : ∀ (m : Nat) (c : List HC) (p B : Int), rightH ⟨c, keep⟩ = true → 0 ≤ B → B + (m : Int) ≤ 1999000000 → (∀ k (hk : k < c.length), c[k].ref ≤ B) → p < c.length →
    rightH ⟨(lowS m c p).1, keep⟩ = true ∧ (lowS m c p).1.length = c.length ∧ ∀ k (hk : k < (lowS m c p).1.length), (lowS m c p).1[k].ref ≤ B + (m : Int)
  | 0, c, p, B, hr, _, _, hb, _ => ⟨hr, rfl, fun k hk => by have := hb k hk; show c[k].ref ≤ _; omega⟩
  | m + 1, c, p, B, hr, hB, hm, hb, hp => by
    rw [lowS]
    by_cases h0 : p < 0
    · rw [if_pos h0]
      exact ⟨hr, rfl, fun k hk => by have := hb k hk; show c[k].ref ≤ _; omega⟩
    · rw [if_neg h0]
      obtain ⟨k, rfl⟩ := Int.eq_ofNat_of_zero_le (Int.not_lt.1 h0)
      have hk : k < c.length := by omega
      rw [cellT_at hk]
      by_cases hc : c[k].leaf = true ∨ c[k].it.length ≠ 1
      · rw [if_pos hc]
        exact ⟨hr, rfl, fun k hk => by have := hb k hk; show c[k].ref ≤ _; omega⟩
      · rw [if_neg hc]
        rw [not_or, Bool.not_eq_true, Decidable.not_not] at hc
        obtain ⟨w, hw, e1, r1, r2, l1, l2, b1, b2, _⟩ := low_off hk hr (fun k hk => by have := hb k hk; omega) hc.1 hc.2
        rw [hold_c] at r1 r2 l1 l2 b1 b2
        rw [e1]
        obtain ⟨i1, i2, i3⟩ := low_after m _ (w : Int) (B + 1) r2 (by omega) (by omega) (fun j hj => b2 B hB hb j hj) (by rw [l2]; omega)
        exact ⟨i1, i2.trans l2, fun j hj => by have := i3 j hj; omega⟩
/-- The way down by first items meets no r. -/
def chn : Nat → List HC → Int → Int → Prop
  | 0, _, _, _ => True
  | m + 1, c, p, r => p ≠ r ∧ (p < 0 ∨ (cellT c p).leaf = true ∨ (cellT c p).it.length ≠ 1 ∨ chn m c ((cellT c p).it.getD 0 (0, 0)).2 r)
theorem one_child {c : List HC} {p : Int} (hb : (bel c 20 p).is = true) (hlf : ¬ (cellT c p).leaf = true) (hone : (cellT c p).it.length = 1) :
    (bel c 20 ((cellT c p).it.getD 0 (0, 0)).2).is = true ∧ (bel c 20 ((cellT c p).it.getD 0 (0, 0)).2).high + 1 = (bel c 20 p).high := by
  obtain ⟨x, hx⟩ : ∃ x, (cellT c p).it = [x] := by
    match h : (cellT c p).it, hone with
    | [x], _ => exact ⟨x, rfl⟩
  obtain ⟨_, ⟨h, _⟩ | ⟨_, _, hch⟩⟩ := bel_is (m := 19) hb
  · exact absurd h hlf
  · have hcw := hch x (by rw [hx]; exact List.mem_cons_self)
    have hbw : bel c 20 x.2 = bel c 19 x.2 := bel_mono c 19 20 _ hcw.1 (by omega)
    rw [show ((cellT c p).it.getD 0 (0, 0)) = x from by rw [hx]; rfl, hbw]
    exact ⟨hcw.1, hcw.2.2⟩
theorem chn_low {c : List HC} {r : Int} : ∀ (m : Nat) (p : Int), (bel c 20 p).is = true → (bel c 20 p).high < (bel c 20 r).high → chn m c p r
  | 0, _, _, _ => trivial
  | m + 1, p, hb, hh => by
    refine ⟨fun e => by rw [e] at hh; omega, ?_⟩
    by_cases h1 : (cellT c p).leaf = true
    · exact .inr (.inl h1)
    · by_cases h2 : (cellT c p).it.length = 1
      · obtain ⟨g1, g2⟩ := one_child hb h1 h2
        exact .inr (.inr (.inr (chn_low m _ g1 (by omega))))
      · exact .inr (.inr (.inl h2))
theorem chn_off {c c' : List HC} {k : Nat} {r : Int} (hl : AllR c) (hlen : c'.length = c.length) (h : ∀ j (hj : j < c.length) (hj' : j < c'.length), j ≠ k → 0 < c[j].ref → 0 < c'[j].ref ∧ c'[j].leaf = c[j].leaf ∧ c'[j].it = c[j].it) :
    ∀ (m : Nat) (p : Int), 0 ≤ p → p < c.length → (bel c 20 p).is = true → (bel c 20 p).high < (bel c 20 (k : Int)).high → chn m c p r → chn m c' p r
  | 0, _, _, _, _, _, _ => trivial
  | m + 1, p, h0, h1, hb, hh, hc => by
    obtain ⟨j, rfl⟩ := Int.eq_ofNat_of_zero_le h0
    have hj : j < c.length := by omega
    have hj' : j < c'.length := by rw [hlen]; exact hj
    have hne : j ≠ k := fun e => by subst e; omega
    have hrf := (bel_is (m := 19) hb).1
    rw [cellT_at hj] at hrf
    obtain ⟨g1, g2, g3⟩ := h j hj hj' hne hrf
    obtain ⟨c1, c2⟩ := hc
    refine ⟨c1, ?_⟩
    have e2 : (cellT c' (j : Int)).leaf = (cellT c (j : Int)).leaf := by rw [cellT_at hj, cellT_at hj', g2]
    have e3 : (cellT c' (j : Int)).it = (cellT c (j : Int)).it := by rw [cellT_at hj, cellT_at hj', g3]
    rw [e2, e3]
    by_cases q1 : (cellT c (j : Int)).leaf = true
    · exact .inr (.inl q1)
    · by_cases q2 : (cellT c (j : Int)).it.length = 1
      · obtain ⟨i1, i2⟩ := one_child hb q1 q2
        have hok := (cell_ok (hl j hj) hrf).2 (by rw [← cellT_at hj]; simpa using q1)
        have hm : (cellT c (j : Int)).it.getD 0 (0, 0) ∈ c[j].it := by
          rw [cellT_at hj] at q2 ⊢
          rw [List.getD_eq_getElem?_getD, List.getElem?_eq_getElem (by omega)]
          exact List.getElem_mem _
        have hx := hok _ hm
        refine .inr (.inr (.inr (chn_off hl hlen h m _ hx.1 (by have := hx.2; omega) i1 (by omega) ?_)))
        rcases c2 with d | d | d | d
        · omega
        · exact absurd d q1
        · exact absurd q2 d
        · exact d
      · exact .inr (.inr (.inl q2))
theorem low_used {keep : Int} {r : Nat} : ∀ (m : Nat) (c : List HC) (p B : Int), rightH ⟨c, keep⟩ = true → 0 ≤ B → B + (m : Int) ≤ 1999000000 → (∀ k (hk : k < c.length), c[k].ref ≤ B) → 0 ≤ p → p < c.length → (bel c 20 p).is = true → chn m c p (r : Int) → usedC c (r : Int) = true → usedC (lowS m c p).1 (r : Int) = true
  | 0, _, _, _, _, _, _, _, _, _, _, _, hu => hu
  | m + 1, c, p, B, hr, hB, hm, hb, h0, h1, hbel, hch, hu => by
    obtain ⟨k, rfl⟩ := Int.eq_ofNat_of_zero_le h0
    have hk : k < c.length := by omega
    rw [lowS, if_neg (by omega)]
    obtain ⟨c1, c2⟩ := hch
    by_cases hc : (cellT c (k : Int)).leaf = true ∨ (cellT c (k : Int)).it.length ≠ 1
    · rw [if_pos hc]; exact hu
    · rw [if_neg hc]
      rw [not_or, Decidable.not_not] at hc
      obtain ⟨i1, i2⟩ := one_child hbel hc.1 hc.2
      have hc2 : chn m c ((cellT c (k : Int)).it.getD 0 (0, 0)).2 (r : Int) := by
        rcases c2 with d | d | d | d
        · omega
        · exact absurd d hc.1
        · exact absurd hc.2 d
        · exact d
      rw [cellT_at hk] at hc i1 i2 hc2 ⊢
      have hlf : c[k].leaf = false := by simpa using hc.1
      obtain ⟨w, hw, e1, r1, r2, l1, l2, b1, b2, hbe⟩ := low_off hk hr (fun k hk => by have := hb k hk; omega) hlf hc.2
      rw [hold_c] at r1 r2 l1 l2 b1 b2 hbe
      obtain ⟨f1, f2⟩ := hbe hbel
      have hkp := low_keep hk hr (fun k hk => by have := hb k hk; omega) hlf hc.2 hbel hw e1
      rw [e1] at i1 i2 hc2 ⊢
      refine low_used m _ (w : Int) (B + 1) r2 (by omega) (by omega) (fun j hj => b2 B hB hb j hj) (by omega) (by rw [l2]; omega) f1 (chn_off (allR_of hr) l2 hkp m (w : Int) (by omega) (by omega) i1 (by omega) hc2) ?_
      obtain ⟨j, hj, e, hrj⟩ := usedC_iff hu
      have hjr : r = j := by omega
      subst hjr
      have hj' : r < (looseL (c.length + 1) (holdL c (w : Int)) (k : Int)).length := by rw [l2]; exact hj
      rw [usedC_at hj']
      exact decide_eq_true (hkp r hj hj' (fun e => c1 (by omega)) hrj).1
/-- What is taken out leaves the root used, and the Refs low. -/
theorem del_loose {keep : Int} {c : List HC} {p key : Int} (hr : rightH ⟨c, keep⟩ = true) (hs : ∀ k (hk : k < c.length), c[k].ref ≤ 1000000) (h0 : 0 ≤ p) (h1 : p < c.length) (hb : (bel c 20 p).is = true) (hf : (bel c 20 p).high ≤ (c.countP freeC : Nat)) (hin : ∃ z ∈ listB c 20 p, z.1 = key) :
    rightH ⟨(delS 20 c p key).1, keep⟩ = true ∧ (delS 20 c p key).1.length = c.length ∧ (∀ k (hk : k < (delS 20 c p key).1.length), (delS 20 c p key).1[k].ref ≤ 1000100) ∧ usedC (delS 20 c p key).1 p = true ∧ (delS 20 c p key).2.length ≤ 1 ∧
    ∀ y, (delS 20 c p key).2 = [y] → 0 ≤ y.2 ∧ y.2 < c.length ∧ (bel (delS 20 c p key).1 20 y.2).is = true ∧ (bel (delS 20 c p key).1 20 y.2).high ≤ 20 ∧ rightH ⟨(lowS 20 (delS 20 c p key).1 y.2).1, keep⟩ = true ∧ (lowS 20 (delS 20 c p key).1 y.2).1.length = c.length ∧ (∀ k (hk : k < (lowS 20 (delS 20 c p key).1 y.2).1.length), (lowS 20 (delS 20 c p key).1 y.2).1[k].ref ≤ 1000200) ∧ usedC (lowS 20 (delS 20 c p key).1 y.2).1 p = true := by
  obtain ⟨a, D⟩ := del_ok 20 c p key ((bel c 20 p).hi + 1) (Nat.le_refl _) hr hs h0 h1 hb (by omega) hin hf
  have hal := allR_of hr
  have hbh := bel_high c 20 p
  obtain ⟨k, rfl⟩ := Int.eq_ofNat_of_zero_le h0
  have hk : k < c.length := by omega
  have hrf := (bel_is (m := 19) hb).1
  rw [cellT_at hk] at hrf
  have hlen1 := D.keeps.len
  have hk1 : k < (delS 20 c (k : Int) key).1.length := by rw [hlen1]; exact hk
  have hmany := D.many
  have hrefs : ∀ j (hj : j < (delS 20 c (k : Int) key).1.length), (delS 20 c (k : Int) key).1[j].ref ≤ 1000100 := fun j hj => by
    have hj' : j < c.length := by rw [hlen1] at hj; exact hj
    have h2 := D.refs j hj' hj
    have h3 := hs j hj'
    split at h2 <;> omega
  have hbk := bel_keeps D.keeps hal 20 (k : Int) (by omega) (by omega) hb
  have huk : usedC (delS 20 c (k : Int) key).1 (k : Int) = true := by
    have h5 : (bel (delS 20 c (k : Int) key).1 20 (k : Int)).is = true := by rw [hbk.1]; exact hb
    have h6 := (bel_is (m := 19) h5).1
    rw [cellT_at hk1] at h6
    rw [usedC_at hk1]
    exact decide_eq_true h6
  refine ⟨D.right, hlen1, hrefs, huk, D.len, fun y hy => ?_⟩
  have hym : y ∈ (delS 20 c (k : Int) key).2 := by rw [hy]; exact List.mem_cons_self
  obtain ⟨r1, r2, r3, r4⟩ := D.row y hym
  obtain ⟨p0, p1⟩ := D.place y hym
  have hfr := D.fresh y hym
  obtain ⟨a1, a2, a3⟩ := low_after 20 (delS 20 c (k : Int) key).1 y.2 1000100 D.right (by omega) (by omega) hrefs (by rw [hlen1]; exact p1)
  refine ⟨p0, p1, r1, by omega, a1, a2.trans hlen1, fun j hj => by have := a3 j hj; omega, ?_⟩
  refine low_used 20 _ y.2 1000100 D.right (by omega) (by omega) hrefs p0 (by rw [hlen1]; exact p1) r1 ⟨fun e => ?_, ?_⟩ huk
  · rw [e, usedC_at hk, decide_eq_true hrf] at hfr
    cases hfr
  · by_cases q1 : (cellT (delS 20 c (k : Int) key).1 y.2).leaf = true
    · exact .inr (.inl q1)
    · by_cases q2 : (cellT (delS 20 c (k : Int) key).1 y.2).it.length = 1
      · obtain ⟨i1, i2⟩ := one_child r1 q1 q2
        exact .inr (.inr (.inr (chn_low 19 _ i1 (by rw [hbk.1]; omega))))
      · exact .inr (.inr (.inl q2))
end Go.Proofs.YtbfbpddfcakieaaGreat
namespace Go.Proofs.YtbfbpddfcakieaaGreat
open Go.RowKit Go.Shelf
attribute [local go_sem] Oper.semAt_some
attribute [local go_sem] run_store_func

theorem stays_own {β : Type} {B c B0 e s : Nat} (v : β → Value) (n : β → Nat) (xs : β → List Value) (h : B + c ≤ B0) : Stays B c (fun b W => W.ownsRow B0 e s (v b) (n b) (xs b)) := fun b X Y hs ho => by
  obtain ⟨h1, h2⟩ := hs
  refine ⟨h1, ?_⟩
  rcases h2 with h2 | ⟨g, cap, cur, hv, hg, hh, r⟩
  · exact .inl h2
  · exact .inr ⟨g, cap, cur, hv, hg, (ho.same g (Array.getElem?_eq_some_iff.1 hh).1 (.inr (by omega))).trans hh, r⟩
theorem Kw.own {n₀ : Nat} {S : Nat → Prop} {W W' : World} {B e s n : Nat} {v : Value} {xs : List Value} (h : W.ownsRow B e s v n xs) (he : e ∉ TN) (hg : W.grownBy W' v.ownBlock) (hB : B ≤ W.heap.size) (hn : n₀ ≤ B) (hS : ∀ k, S k → k < B) : Kw n₀ S W W' := by
  have hr : ∀ k, v.ownBlock = some k → B ≤ k := fun k hk => (h.lt k hk).1
  refine ⟨(Below.refl n₀ W).grown hg (by omega) (fun k hk => Nat.le_trans hn (hr k hk)), fun k hk hl => hg.block k hl (fun e1 => by have := hr k e1.symm; have := hS k hk; omega), fun k cs t ht hb => ?_⟩
  unfold Bt at hb ⊢
  refine (hg.block k (Array.getElem?_eq_some_iff.1 hb).1 (fun e1 => ?_)).trans hb
  rcases h.2 with ⟨rfl, _⟩ | ⟨g, cap, cur, rfl, hB, hh, _⟩
  · cases e1
  · cases e1
    rw [hb] at hh
    cases hh
    exact he ht
theorem Bt.grown {W W' : World} {k : Nat} {t : TypeId} {cs : Array Value} {row : Option Nat} (h : Bt W k t cs) (hg : W.grownBy W' row) (hne : row ≠ some k) : Bt W' k t cs :=
  (hg.block k h.lt (fun e => hne e.symm)).trans h
theorem own_far {W : World} {B e s n k : Nat} {v : Value} {xs : List Value} (h : W.ownsRow B e s v n xs) (hk : k < B) : v.ownBlock ≠ some k := by
  intro he
  have := (h.lt k he).1
  omega
theorem own_put {W : World} {B e s n D : Nat} {v : Value} {xs : List Value} (h : W.ownsRow B e s v n xs) (hD : D < B) (o : Obj) : (W.putObj D o).ownsRow B e s v n xs := by
  obtain ⟨h1, h2⟩ := h
  refine ⟨h1, ?_⟩
  rcases h2 with h2 | ⟨g, cap, cur, hv, hg, hh, r⟩
  · exact .inl h2
  · exact .inr ⟨g, cap, cur, hv, hg, (World.putObj_heap_other (by omega)).trans hh, r⟩
end Go.Proofs.YtbfbpddfcakieaaGreat
namespace Go.Proofs.YtbfbpddfcakieaaGreat
open Go.RowKit Go.Shelf
attribute [local go_sem] Oper.semAt_some
attribute [local go_sem] run_store_func

theorem bts4 {w W : World} {c0 c1 c2 c3 : Array Value} {t0 t1 t2 t3 : TypeId} (h : (((w.alloc (.cells c0 t0)).alloc (.cells c1 t1)).alloc (.cells c2 t2)).alloc (.cells c3 t3) = W) : Ext w W ∧ W.heap.size = w.heap.size + 4 ∧ Bt W (w.heap.size + 1) t1 c1 ∧ Bt W (w.heap.size + 1 + 1) t2 c2 ∧ Bt W (w.heap.size + 1 + 1 + 1) t3 c3 := by
  obtain ⟨h1, h2, _, h4, h5⟩ := bts3 (w := w) (c0 := c0) (c1 := c1) (c2 := c2) (t0 := t0) (t1 := t1) (t2 := t2) rfl
  subst h
  have b3 := Bt.new (((w.alloc (.cells c0 t0)).alloc (.cells c1 t1)).alloc (.cells c2 t2)) c3 t3
  rw [h2] at b3
  have y := (Ext.refl (((w.alloc (.cells c0 t0)).alloc (.cells c1 t1)).alloc (.cells c2 t2))).alloc (.cells c3 t3)
  exact ⟨h1.trans y, by simp, h4.below y, h5.below y, b3⟩
set_option maxRecDepth 100000 in
set_option maxHeartbeats 800000 in
theorem get_in (R : Option Addr) (l : List HC) (n q : Nat) (keep keep' p key : Int) (w : World) (hl : AllR l) (hn : l.length ≤ 2000) (hr : rightR ⟨l, keep'⟩ p = true) (hA : HcSl w R n q l) :
    CallsIn Fence.wide 5 Tryz.prog 20 #[.agg #[.slice R n q, .int .i64 keep], .int .i64 p, .int .i64 key] w fun e w' => e = .returned (.tuple #[.int .i64 (getV (getT l p key)), .int .i64 (getE (getT l p key))]) ∧ Ext w w' := by
  obtain ⟨A, C, hLie⟩ := lie_ex hA
  have HN := Lib.hid hA.1
  clear hA
  refine callsIn_of_wp_marks Tryz.func20 rfl trivial ?_ rfl
  simp only [Tryz.ntmps20, List.size_toArray, List.length_cons, List.length_nil, Nat.reduceAdd, Nat.reduceSub, Array.replicate_succ, Array.replicate_zero, List.push_toArray, List.append_toArray, List.nil_append, List.cons_append]
  gi_wp2_with (refine ⟨trivial, ?_⟩; gi_at_call 42; refine (items_in _ _ _ _ _ _ _ _).mono ?_; rintro e w' ⟨rfl, rfl⟩)
  obtain ⟨W1, hW1⟩ : ∃ W1, (((w.alloc (.cells #[.slice R n q, .int .i64 keep] 24)).alloc (.cells #[.int .i64 key] 3)).alloc (.cells #[.int .i64 0] 3)).alloc (.cells #[.int .i64 0] 29) = W1 := ⟨_, rfl⟩
  obtain ⟨hx1, hz1, b1, b2, b3⟩ := bts4 hW1
  rw [hW1]
  obtain ⟨W0, hW0⟩ : ∃ W0, ((W1.alloc (.cells #[.slice R n q, .int .i64 keep] 24)).alloc (.cells #[.int .i64 p] 3)).alloc (.cells #[.int .i64 key] 3) = W0 := ⟨_, rfl⟩
  obtain ⟨hx2, hz2, b4, b5, b6⟩ := bts3 hW0
  rw [hW0]
  rw [hz1] at b4 b5 b6 hz2
  replace b1 := b1.below hx2
  replace b2 := b2.below hx2
  replace b3 := b3.below hx2
  have hX0 := hx1.trans hx2
  clear hW1 hW0 hx1 hx2 hz1
  have HX0 := Lib.hid hX0
  have HZ := Lib.hid hz2
  have HIP := Lib.hid (itemsP_right hl hn hr key)
  have HGF := Lib.hid (get_first hl hr key)
  refine range_own (m := 3) (gf := 68) (lb := #[.pointer (some ⟨w.heap.size + 1 + 1 + 1 + 1, 0, none⟩), .pointer (some ⟨w.heap.size + 1 + 1 + 1 + 1 + 1, 0, none⟩), .pointer (some ⟨w.heap.size + 1 + 1 + 1 + 1 + 1 + 1, 0, none⟩)]) rfl (enters_of Tryz.func68 (by kernel_rfl) rfl)
    (items_seq l hl R n q keep p key A C (w.heap.size + 1 + 1 + 1 + 1) (w.heap.size + 1 + 1 + 1 + 1 + 1 + 1) (w.heap.size + 1 + 1 + 1 + 1 + 1) w W0 hLie HN.out hX0 b4 b6 b5) (Ext.refl _) hX0.size (fun k hk => by omega) (fun _ => rfl)
    (fun pre V => pre = [] ∧ (Bt V (w.heap.size + 1) 3 #[.int .i64 key] ∧ (Bt V (w.heap.size + 1 + 1) 3 #[.int .i64 0] ∧ (Bt V (w.heap.size + 1 + 1 + 1) 29 #[.int .i64 0] ∧ Below w.heap.size w V))))
    (fun c u V => (∃ x : It, u = [x] ∧ ((c = .ret ∧ x.1 = key ∧ Bt V (w.heap.size + 1 + 1) 3 #[.int .i64 x.2]) ∨ (c = .exit 0 ∧ x.1 ≠ key ∧ Bt V (w.heap.size + 1 + 1) 3 #[.int .i64 0]))) ∧ (Bt V (w.heap.size + 1 + 1 + 1) 29 #[.int .i64 0] ∧ Below w.heap.size w V))
    (Stays.and (stays_pure _ _ (fun pre : List It => pre = [])) (Stays.and (stays_bt (fun _ => _) (by omega)) (Stays.and (stays_bt (fun _ => _) (by omega)) (Stays.and (stays_bt (fun _ => _) (by omega)) (stays_below w hX0.size (Nat.le_refl _))))))
    (fun c => Stays.and (fun u X Y hs ho => by
      obtain ⟨x, h1, h2⟩ := hs
      refine ⟨x, h1, h2.imp (fun h => ⟨h.1, h.2.1, stays_bt (fun (_ : Unit) => #[Value.int .i64 x.2]) (by omega) () X Y h.2.2 ho⟩) (fun h => ⟨h.1, h.2.1, stays_bt (fun (_ : Unit) => #[Value.int .i64 0]) (by omega) () X Y h.2.2 ho⟩)⟩)
      (Stays.and (stays_bt (fun _ => _) (by omega)) (stays_below w hX0.size (Nat.le_refl _))))
    ⟨rfl, b1, b2, b3, hX0⟩
    (fun x a' V => ∃ Bx, W0.heap.size + (2 + 9) ≤ Bx ∧ Bt V Bx 46 #[.int .i64 x.1, .int .i64 x.2] ∧ a' = { tmps := #[.agg #[.slice R n q, .int .i64 keep], .int .i64 p, .int .i64 key, .pointer (some ⟨w.heap.size, 0, none⟩), undef, .pointer (some ⟨w.heap.size + 1, 0, none⟩), .pointer (some ⟨w.heap.size + 1 + 1, 0, none⟩), .pointer (some ⟨w.heap.size + 1 + 1 + 1, 0, none⟩), .pointer (some ⟨Bx, 0, none⟩), .agg #[.slice R n q, .int .i64 keep], .int .i64 p, .int .i64 key, .func (.func 68) #[] #[.pointer (some ⟨w.heap.size + 1 + 1 + 1 + 1, 0, none⟩), .pointer (some ⟨w.heap.size + 1 + 1 + 1 + 1 + 1, 0, none⟩), .pointer (some ⟨w.heap.size + 1 + 1 + 1 + 1 + 1 + 1, 0, none⟩)], .agg #[.int .i64 x.1, .int .i64 x.2], undef, undef, undef, undef, undef, undef], defers := [] })
    (fun p a' s X Y hs ho => ⟨hs.choose, hs.choose_spec.1, stays_bt (fun (_ : Unit) => _) (.inr hs.choose_spec.1) () X Y hs.choose_spec.2.1 ho, hs.choose_spec.2.2⟩)
    ?assign ?body ?done ?stop
  case assign =>
    rintro l2 pre x V K ⟨he, h1, h2, h3, hb⟩ hz hp hK
    have HV := Lib.hid (show Ext V (V.alloc (.cells #[.int .i64 x.1, .int .i64 x.2] 46)) from (Ext.refl V).alloc _)
    have HI := Lib.hid (And.intro he (And.intro (h1.below HV.out) (And.intro (h2.below HV.out) (And.intro (h3.below HV.out) (Below.trans hb (HV.out.mono hb.size))))))
    have HKV := Lib.hid hK
    have HS0 := Lib.hid hb.size
    clear he h1 h2 h3 hb hK
    simp only [encI]
    gi_wp2
    exact HKV.out _ _ (Kw.ext _ HV.out HS0.out) HI.out ⟨V.heap.size, hz, Bt.new V _ _, rfl⟩
  case body =>
    rintro l2 pre x a' V ⟨rfl, h1, h2, h3, hb⟩ ⟨Bx, hBx, bX, rfl⟩ hz hp
    obtain ⟨xa, xb⟩ := x
    simp only at bX ⊢
    obtain ⟨x0, x1, x2⟩ := bX.bx.read2
    have c1 := h1.bx.at 0 _ rfl
    have c2 := h2.bx.at 0 _ rfl
    have c3 := h3.bx.at 0 _ rfl
    have f2 := h2.bx.free 0
    have f3 := h3.bx.free 0
    have e1 := h1.lt
    have e2 := h2.lt
    have e3 := h3.lt
    have HZ2 := HZ.out
    by_cases h : xa = key
    · have HE := Lib.hid h
      have t1 : (xa == key) = true := by rw [beq_iff_eq]; exact h
      have HS := Lib.hid (show Kw w.heap.size (fun k => (k = w.heap.size + 1 + 1 + 1 + 1 ∨ k = w.heap.size + 1 + 1 + 1 + 1 + 1 + 1 ∨ k = w.heap.size + 1 + 1 + 1 + 1 + 1) ∨ (W0.heap.size ≤ k ∧ k < W0.heap.size + (2 + 9))) V ((V.setCell ⟨w.heap.size + 1 + 1, 0, none⟩ (.int .i64 xb)).setCell ⟨w.heap.size + 1 + 1 + 1, 0, none⟩ (.int .i64 0)) from
        (Kw.set h2 (by decide) (by omega) (by omega) _ _).trans (Kw.set (h3.other (by show w.heap.size + 1 + 1 ≠ w.heap.size + 1 + 1 + 1; omega) _) (by decide) (by omega) (by omega) _ _))
      have HG := Lib.hid (show Bt ((V.setCell ⟨w.heap.size + 1 + 1, 0, none⟩ (.int .i64 xb)).setCell ⟨w.heap.size + 1 + 1 + 1, 0, none⟩ (.int .i64 0)) (w.heap.size + 1 + 1) 3 #[.int .i64 xb] from (h2.set1 _).other (by show w.heap.size + 1 + 1 + 1 ≠ w.heap.size + 1 + 1; omega) _)
      have HH := Lib.hid (show Bt ((V.setCell ⟨w.heap.size + 1 + 1, 0, none⟩ (.int .i64 xb)).setCell ⟨w.heap.size + 1 + 1 + 1, 0, none⟩ (.int .i64 0)) (w.heap.size + 1 + 1 + 1) 29 #[.int .i64 0] from (h3.other (by show w.heap.size + 1 + 1 ≠ w.heap.size + 1 + 1 + 1; omega) _).set1 _)
      have HB := Lib.hid (Below.trans hb HS.out.old)
      clear h h1 h2 h3 hb bX HZ2 hz2 hp
      gi_wp2
      exact ⟨HS.out, ⟨(xa, xb), rfl, .inl ⟨rfl, HE.out, HG.out⟩⟩, HH.out, HB.out⟩
    · have HE := Lib.hid h
      have t1 : (xa == key) = false := by rw [beq_eq_false_iff_ne]; exact h
      have HG := Lib.hid h2
      have HH := Lib.hid h3
      have HB := Lib.hid hb
      clear h h1 h2 h3 hb bX HZ2 hz2 hp
      gi_wp2
      exact ⟨Kw.refl _ _ _, ⟨(xa, xb), rfl, .inr ⟨rfl, HE.out, HG.out⟩⟩, HH.out, HB.out⟩
  case done =>
    rintro D V rfl ⟨he, h1, h2, h3, hb⟩ hK
    have HH := Lib.hid (HGF.out.1 (by rw [← HIP.out]; exact he))
    have c2 := h2.bx.at 0 _ rfl
    have c3 := h3.bx.at 0 _ rfl
    have f2 := h2.bx.free 0
    have f3 := h3.bx.free 0
    have e2 := h2.lt
    have e3 := h3.lt
    have HK := Lib.hid ((KeepsOthers.setCell (V.setCell ⟨w.heap.size + 1 + 1, 0, none⟩ (.int .i64 0)) ⟨w.heap.size + 1 + 1 + 1, 0, none⟩ (.int .i64 4)).same W0.heap.size _ ((KeepsOthers.setCell V ⟨w.heap.size + 1 + 1, 0, none⟩ (.int .i64 0)).same W0.heap.size _ hK rfl) rfl)
    have HB := Lib.hid (show Below w.heap.size w ((V.setCell ⟨w.heap.size + 1 + 1, 0, none⟩ (.int .i64 0)).setCell ⟨w.heap.size + 1 + 1 + 1, 0, none⟩ (.int .i64 4)) from Below.setCell (Below.setCell hb (p := ⟨w.heap.size + 1 + 1, 0, none⟩) (by show w.heap.size ≤ w.heap.size + 1 + 1; omega) _) (p := ⟨w.heap.size + 1 + 1 + 1, 0, none⟩) (by show w.heap.size ≤ w.heap.size + 1 + 1 + 1; omega) _)
    have HG := Lib.hid (show Bt ((V.setCell ⟨w.heap.size + 1 + 1, 0, none⟩ (.int .i64 0)).setCell ⟨w.heap.size + 1 + 1 + 1, 0, none⟩ (.int .i64 4)) (w.heap.size + 1 + 1) 3 #[.int .i64 0] from (h2.set1 _).other (by show w.heap.size + 1 + 1 + 1 ≠ w.heap.size + 1 + 1; omega) _)
    have HG3 := Lib.hid (show Bt ((V.setCell ⟨w.heap.size + 1 + 1, 0, none⟩ (.int .i64 0)).setCell ⟨w.heap.size + 1 + 1 + 1, 0, none⟩ (.int .i64 4)) (w.heap.size + 1 + 1 + 1) 29 #[.int .i64 4] from (h3.other (by show w.heap.size + 1 + 1 ≠ w.heap.size + 1 + 1 + 1; omega) _).set1 _)
    clear he h1 h2 h3 hb hK hz2
    gi_wp2
    have hzz := HZ.out
    refine ⟨by simp, .inl ⟨_, _, rfl, run_takeDeferred HK.out, ?_⟩⟩
    have c5 := (HG.out.putObj (D := W0.heap.size) (by omega) (.deferred none)).bx.at 0 _ rfl
    have c6 := (HG3.out.putObj (D := W0.heap.size) (by omega) (.deferred none)).bx.at 0 _ rfl
    exact ⟨.tuple #[.int .i64 0, .int .i64 4], by simp [results, Tryz.results20, go_sem, c5, c6], by rw [HH.out]; rfl, kept_def HB.out (Nat.le_refl _) (by omega) HK.out _⟩
  case stop =>
    rintro D c u V rfl hu ⟨⟨x, rfl, h⟩, h3, hb⟩ hK
    obtain ⟨r, hpr⟩ := hu
    have hcons : (listT l p).filter (fun x => decide (key ≤ x.1)) = x :: r := by rw [← HIP.out, ← hpr]; rfl
    rcases h with ⟨rfl, hx, h2⟩ | ⟨rfl, hx, h2⟩
    · have HH := Lib.hid ((HGF.out.2 x r hcons).1 hx)
      have HG := Lib.hid h2
      have HG3 := Lib.hid h3
      have HB := Lib.hid (show Below w.heap.size w V from hb)
      have HK := Lib.hid hK
      clear hcons hpr hx h2 h3 hb hK hz2
      gi_wp2
      have hzz := HZ.out
      refine ⟨by simp, .inl ⟨_, _, rfl, run_takeDeferred HK.out, ?_⟩⟩
      have c5 := (HG.out.putObj (D := W0.heap.size) (by omega) (.deferred none)).bx.at 0 _ rfl
      have c6 := (HG3.out.putObj (D := W0.heap.size) (by omega) (.deferred none)).bx.at 0 _ rfl
      exact ⟨.tuple #[.int .i64 x.2, .int .i64 0], by simp [results, Tryz.results20, go_sem, c5, c6], by rw [HH.out]; rfl, kept_def HB.out (Nat.le_refl _) (by omega) HK.out _⟩
    · have HH := Lib.hid ((HGF.out.2 x r hcons).2 hx)
      have c2 := h2.bx.at 0 _ rfl
      have c3 := h3.bx.at 0 _ rfl
      have f2 := h2.bx.free 0
      have f3 := h3.bx.free 0
      have e2 := h2.lt
      have e3 := h3.lt
      have HK := Lib.hid ((KeepsOthers.setCell (V.setCell ⟨w.heap.size + 1 + 1, 0, none⟩ (.int .i64 0)) ⟨w.heap.size + 1 + 1 + 1, 0, none⟩ (.int .i64 4)).same W0.heap.size _ ((KeepsOthers.setCell V ⟨w.heap.size + 1 + 1, 0, none⟩ (.int .i64 0)).same W0.heap.size _ hK rfl) rfl)
      have HB := Lib.hid (show Below w.heap.size w ((V.setCell ⟨w.heap.size + 1 + 1, 0, none⟩ (.int .i64 0)).setCell ⟨w.heap.size + 1 + 1 + 1, 0, none⟩ (.int .i64 4)) from Below.setCell (Below.setCell hb (p := ⟨w.heap.size + 1 + 1, 0, none⟩) (by show w.heap.size ≤ w.heap.size + 1 + 1; omega) _) (p := ⟨w.heap.size + 1 + 1 + 1, 0, none⟩) (by show w.heap.size ≤ w.heap.size + 1 + 1 + 1; omega) _)
      have HG := Lib.hid (show Bt ((V.setCell ⟨w.heap.size + 1 + 1, 0, none⟩ (.int .i64 0)).setCell ⟨w.heap.size + 1 + 1 + 1, 0, none⟩ (.int .i64 4)) (w.heap.size + 1 + 1) 3 #[.int .i64 0] from (h2.set1 _).other (by show w.heap.size + 1 + 1 + 1 ≠ w.heap.size + 1 + 1; omega) _)
      have HG3 := Lib.hid (show Bt ((V.setCell ⟨w.heap.size + 1 + 1, 0, none⟩ (.int .i64 0)).setCell ⟨w.heap.size + 1 + 1 + 1, 0, none⟩ (.int .i64 4)) (w.heap.size + 1 + 1 + 1) 29 #[.int .i64 4] from (h3.other (by show w.heap.size + 1 + 1 ≠ w.heap.size + 1 + 1 + 1; omega) _).set1 _)
      clear hcons hpr hx h2 h3 hb hK hz2
      gi_wp2
      have hzz := HZ.out
      refine ⟨by simp, .inl ⟨_, _, rfl, run_takeDeferred HK.out, ?_⟩⟩
      have c5 := (HG.out.putObj (D := W0.heap.size) (by omega) (.deferred none)).bx.at 0 _ rfl
      have c6 := (HG3.out.putObj (D := W0.heap.size) (by omega) (.deferred none)).bx.at 0 _ rfl
      exact ⟨.tuple #[.int .i64 0, .int .i64 4], by simp [results, Tryz.results20, go_sem, c5, c6], by rw [HH.out]; rfl, kept_def HB.out (Nat.le_refl _) (by omega) HK.out _⟩
end Go.Proofs.YtbfbpddfcakieaaGreat
