/- A node made anew with an item: it comes to right trees, as high, with the items. No program in sight. An item put into a tree: the new root, and what is loosed; what is counted stays so. No program in sight. Where everything adds up: counted, and all that is used a right tree; and the other way round. No program in sight. -/
import Derived.Test.YtlbhcakjcklmgaaK09
namespace Go.Proofs.Ytlbhcakjcklmgaa
open Go.RowKit

theorem inL_iff {l : List Int} {x : Int} : inL l x = true ↔ x ∈ l := by
  unfold inL
  rw [List.any_eq_true]
  exact ⟨fun ⟨y, hy, e⟩ => by have : y = x := by simpa using e
                              subst this; exact hy, fun h => ⟨x, h, by simp⟩⟩
theorem head_or {l : List It} (d : Int) : (l = [] ∧ headK l d = d) ∨ ∃ y r, l = y :: r ∧ headK l d = y.1 := by
  cases l with
  | nil => exact .inl ⟨rfl, rfl⟩
  | cons y r => exact .inr ⟨y, r, rfl, rfl⟩
theorem anew_leaf {keep : Int} {c : List HC} {k : Nat} (hk : k < c.length) {m : Nat} {x : It} {e : Int} (hr : rightH ⟨c, keep⟩ = true) (hs : ∀ k (hk : k < c.length), c[k].ref ≤ 1000000) (hx : okIt x) (hb : (bel c 20 (k : Int)).is = true)
    (he : (bel c 20 (k : Int)).hi < e) (hxe : x.1 < e) (hf : 2 * (bel c 20 (k : Int)).high ≤ (c.countP freeC : Nat)) (hlf : c[k].leaf = true) : ∃ a, AnewR c keep (k : Int) x e (anewS (m + 1) c (k : Int) x).1 (anewS (m + 1) c (k : Int) x).2 a := by
  obtain ⟨R, hlo, hli, hnd⟩ := row_of_bel hr hk hb he
  rw [hlf] at R hli
  obtain ⟨hH, hasc, hlt⟩ := R.lf rfl
  rw [conts_leaf] at hli
  have W := with_leaf hnd x hx hlt hxe
  simp only at W
  have hdef : anewS (m + 1) c (k : Int) x = layS true [] (splitS (withS c[k].it (atI true c[k].it x.1).toNat (if atB c[k].it x.1 then 1 else 0) [x])) c := by
    rw [anewS, cellT_at hk, hlf, if_pos rfl]
  rw [hdef]
  generalize withS c[k].it (atI true c[k].it x.1).toNat (if atB c[k].it x.1 then 1 else 0) [x] = xs at *
  obtain ⟨⟨w1, w5⟩, w2, w3, w4, w6, w7⟩ := W
  obtain ⟨s1, s2, s3, s4⟩ := split_rows w1 w5
  have La := lay_rows (keep := keep) true [] 1 (splitS xs) c e hr (fun k hk => by have := hs k hk; omega) (by omega) (by rw [s1]; exact ⟨w3, fun _ => ⟨rfl, w2, w4⟩, fun h => by cases h⟩) s2 (by omega)
  rw [s1] at La
  refine ⟨(splitS xs).length, La.right, La.keeps, by rw [La.len]; exact ⟨s3, s4⟩, La.place, fun j hj => ?_, fun d => ?_, fun z => ?_, La.free, ⟨by omega, by omega⟩, La.refs, La.new, La.fresh, fun E hE => ?_⟩
  · rw [hH]; exact La.row j hj
  · rw [La.head, w7, hlo]
  · rw [La.conts_, conts_leaf, hli]; exact w6 z
  · refine rc_congr (La.rc E hE) (fun k _ => ?_)
    have : inL [] (k : Int) = false := rfl
    rw [this]
    simp
theorem key_ok {c : List HC} {keep : Int} (hr : rightH ⟨c, keep⟩ = true) {y : It} (h0 : 0 ≤ y.2) (h1 : y.2 < c.length) (hb : (bel c 20 y.2).is = true) (hlo : (bel c 20 y.2).lo = y.1) : okIt y := by
  have hsp := listB_spans c (allR_of hr) 20 y.2 h0 h1 hb
  obtain ⟨z, r, he, hz⟩ := hsp.head
  have hok := hsp.ok z (by rw [he]; exact List.mem_cons_self)
  have hn := (rightH_iff hr).1.1.2
  have hk := hok.1
  exact ⟨by omega, by omega⟩
theorem anew_other {keep : Int} {c : List HC} {k : Nat} (hk : k < c.length) {m : Nat} {x : It} {e : Int} (hr : rightH ⟨c, keep⟩ = true) (hs : ∀ k (hk : k < c.length), c[k].ref ≤ 1000000) (hb : (bel c 20 (k : Int)).is = true)
    (he : (bel c 20 (k : Int)).hi < e) (hxe : x.1 < e) (hf : 2 * (bel c 20 (k : Int)).high ≤ (c.countP freeC : Nat)) (hlf : c[k].leaf = false)
    (ih : ∀ e', (bel c 20 (childT c[k].it x.1).2).hi < e' → x.1 < e' → 2 * (bel c 20 (childT c[k].it x.1).2).high ≤ (c.countP freeC : Nat) → ∃ a, AnewR c keep (childT c[k].it x.1).2 x e' (anewS m c (childT c[k].it x.1).2 x).1 (anewS m c (childT c[k].it x.1).2 x).2 a) :
    ∃ a, AnewR c keep (k : Int) x e (anewS (m + 1) c (k : Int) x).1 (anewS (m + 1) c (k : Int) x).2 a := by
  obtain ⟨R, hlo, hli, hnd⟩ := row_of_bel hr hk hb he
  rw [hlf] at R hli
  have hal := allR_of hr
  have hdef : anewS (m + 1) c (k : Int) x = layS false ((anewS m c (childT c[k].it x.1).2 x).2.map (·.2)) (splitS (withS c[k].it (atI false c[k].it x.1).toNat 1 (anewS m c (childT c[k].it x.1).2 x).2)) (anewS m c (childT c[k].it x.1).2 x).1 := by
    rw [anewS, cellT_at hk, hlf, if_neg (by simp)]
  rw [hdef]
  obtain ⟨hi, hle⟩ := at_low hnd x.1
  have hnx := fun hj => at_next hnd x.1 (hi := hj)
  have hch : childT c[k].it x.1 = c[k].it[(atI false c[k].it x.1).toNat] := itD_at hi
  obtain ⟨H, hH⟩ : ∃ H, (bel c 20 (k : Int)).high = H := ⟨_, rfl⟩
  rw [hH] at R hf
  generalize (atI false c[k].it x.1).toNat = i at *
  generalize c[k].it = it at *
  obtain ⟨w, hw⟩ : ∃ w, it[i] = w := ⟨_, rfl⟩
  rw [hw] at hch hle
  rw [hch] at ih ⊢
  have hit : it = it.take i ++ (w :: it.drop (i + 1)) := by
    rw [← hw, ← List.drop_eq_getElem_cons hi, List.take_append_drop]
  have hwith : ∀ L, withS it i 1 L = it.take i ++ L ++ it.drop (i + 1) := fun L => rfl
  have hAl : (it.take i).length = i := by rw [List.length_take]; omega
  have hBl : (it.drop (i + 1)).length = it.length - (i + 1) := by rw [List.length_drop]
  have hl4 := hnd.1.2
  have hAm : ∀ y ∈ it.take i, y ∈ it := fun y hy => List.mem_of_mem_take hy
  have hBn : ∀ d, headK (it.drop (i + 1)) d = if h : i + 1 < it.length then it[i + 1].1 else d := fun d => by
    split
    · rename_i h; rw [List.drop_eq_getElem_cons h]; rfl
    · rw [List.drop_of_length_le (by omega)]; rfl
  have hascI := asc_of hnd
  have hBk : ∀ y ∈ it.drop (i + 1), x.1 < y.1 := fun y hy => by
    obtain ⟨j, hj, rfl⟩ := List.mem_iff_getElem.1 hy
    have hj2 : i + 1 + j < it.length := by omega
    rw [List.getElem_drop]
    have h1 := hnx (by omega)
    rcases Nat.eq_zero_or_pos j with h | h
    · subst h; simpa using h1
    · have := hnd.rise (i + 1 + j) (i + 1) hj2 (by omega); omega
  have hfirst : firstK it = headK (it.take i ++ [w]) 0 := by
    conv => lhs; rw [hit]
    cases it.take i with
    | nil => rfl
    | cons y r => rfl
  have R0 := R
  rw [hit] at R0
  obtain ⟨RA, RB⟩ := rowOK_app R0
  obtain ⟨RW, RBs⟩ := rowOK_app (show RowOK c false H ([w] ++ it.drop (i + 1)) e from RB)
  obtain ⟨⟨hH2, hH20⟩, hwp, hwr⟩ := RW.inn rfl
  have hw1 := hwr 0 (by simp)
  simp only [List.getElem_cons_zero, nextT_zero] at hw1
  obtain ⟨wis, whi, wlo, wlt⟩ := hw1
  have hxB : x.1 < headK (it.drop (i + 1)) e := by
    rcases head_or (l := it.drop (i + 1)) e with ⟨_, h⟩ | ⟨y, r, h1, h⟩
    · rw [h]; exact hxe
    · rw [h]; exact hBk y (by rw [h1]; exact List.mem_cons_self)
  have hBe : headK (it.drop (i + 1)) e ≤ e := by
    rcases head_or (l := it.drop (i + 1)) e with ⟨_, h⟩ | ⟨y, r, h1, h⟩
    · rw [h]; exact Int.le_refl _
    · rw [h]; exact Int.le_of_lt ((RBs.asc hr).2 y (by rw [h1]; exact List.mem_cons_self))
  obtain ⟨a1, I⟩ := ih (headK (it.drop (i + 1)) e) wlt hxB (by omega)
  generalize anewS m c w.2 x = S at *
  obtain ⟨c1, L1⟩ := S
  simp only at I ⊢
  rw [hwith]
  have hr1 := I.right
  have hl1 := allR_of hr1
  have RA1 := RA.keeps I.keeps hal
  have RB1 := RBs.keeps I.keeps hal
  have hLne : ∃ y r, L1 = y :: r := by
    cases L1 with
    | nil => have := I.len.1; simp at this
    | cons y r => exact ⟨y, r, rfl⟩
  have hhead := I.head
  rw [wlo] at hhead
  have RL : RowOK c1 false H L1 (headK (it.drop (i + 1)) e) := by
    refine ⟨fun y hy => ?_, (fun h => by cases h), fun _ => ⟨⟨hH2, hH20⟩, fun y hy => by rw [I.keeps.len]; exact (I.place y hy).2, fun j hj => ?_⟩⟩
    · obtain ⟨j, hj, rfl⟩ := List.mem_iff_getElem.1 hy
      exact key_ok hr1 (I.place _ hy).1 (by rw [I.keeps.len]; exact (I.place _ hy).2) (I.row j hj).1 (I.row j hj).2.2.1
    · obtain ⟨b1, b2, b3, b4⟩ := I.row j hj
      exact ⟨b1, by omega, b3, b4⟩
  have RLB : RowOK c1 false H (L1 ++ it.drop (i + 1)) e := rowOK_join hr1 RL RB1 (fun y hy => by have := (RL.asc hr1).2 y hy; omega)
  have hwx : it.take i ≠ [] → w.1 ≤ x.1 := fun hne => hle (by
    rcases Nat.eq_zero_or_pos i with h | h
    · subst h; simp at hne
    · exact h)
  have RX : RowOK c1 false H (it.take i ++ (L1 ++ it.drop (i + 1))) e := by
    by_cases hne : it.take i = []
    · rw [hne, List.nil_append]; exact RLB
    · have hh : headK (L1 ++ it.drop (i + 1)) e = w.1 := by
        obtain ⟨y, r, hy⟩ := hLne
        have h1 := hhead 0
        rw [if_neg (by have := hwx hne; omega)] at h1
        rw [hy] at h1 ⊢
        exact h1
      refine rowOK_join hr1 (by rw [hh]; exact RA1) RLB (fun y hy => ?_)
      exact ((R.asc hr).2 y (hAm y hy))
  rw [← List.append_assoc] at RX
  obtain ⟨s1, s2, s3, s4⟩ := split_rows (xs := it.take i ++ L1 ++ it.drop (i + 1)) (by rw [List.length_append, List.length_append]; have := I.len.1; omega) (by rw [List.length_append, List.length_append, hAl, hBl]; have := I.len.2; omega)
  have hmany := I.many
  have hfree := I.free
  have La := lay_rows (keep := keep) false (L1.map (·.2)) H (splitS (it.take i ++ L1 ++ it.drop (i + 1))) c1 e hr1 (fun k hk => by
    have hk' : k < c.length := by rw [I.keeps.len] at hk; exact hk
    have h1 := I.refs k hk' hk
    have h2 := hs k hk'
    have h3 : (a1 : Int) ≤ 40 := by omega
    split at h1 <;> omega) (by omega) (by rw [s1]; exact RX) s2 (by omega)
  rw [s1] at La
  refine ⟨a1 + (splitS (it.take i ++ L1 ++ it.drop (i + 1))).length, La.right, I.keeps.trans La.keeps, by rw [La.len]; exact ⟨s3, s4⟩, fun y hy => by have := La.place y hy; rw [I.keeps.len] at this; exact this, fun j hj => by rw [hH]; exact La.row j hj, fun d => ?_, fun z => ?_, ?_, ⟨by omega, by omega⟩, fun k hk hk' => ?_, fun k hk hk' h0 h1 => ?_, fun y hy => ?_, fun E hE => ?_⟩
  · rw [La.head, ← hlo, hfirst]
    obtain ⟨y, r, hy⟩ := hLne
    by_cases hne : it.take i = []
    · have h1 := hhead d
      rw [hne, List.nil_append, List.nil_append]
      rw [hy] at h1 ⊢
      exact h1
    · obtain ⟨v, s, hv⟩ : ∃ v s, it.take i = v :: s := by
        cases h : it.take i with
        | nil => exact absurd h hne
        | cons v s => exact ⟨v, s, rfl⟩
      have h2 := hwx hne
      have h3 : v.1 < w.1 := by
        have := (RA.asc hr).2 v (by rw [hv]; exact List.mem_cons_self)
        exact this
      rw [hv]
      show v.1 = if x.1 < v.1 then x.1 else v.1
      rw [if_neg (by omega)]
  · rw [La.conts_, conts_app, conts_app, conts_keeps I.keeps hal RA, conts_keeps I.keeps hal RBs, hli]
    conv => rhs; rw [hit, conts_app]
    have hcons : conts c false (w :: it.drop (i + 1)) = listB c 20 w.2 ++ conts c false (it.drop (i + 1)) := by
      rw [conts_other, conts_other, List.flatMap_cons]
    have hL1 : conts c1 false L1 = L1.flatMap (fun y => listB c1 20 y.2) := conts_other _ _
    rw [hcons, hL1]
    have hA : z ∈ conts c false (it.take i) → z.1 ≠ x.1 := fun hz => by
      rw [conts_other] at hz
      obtain ⟨y, hy, hz⟩ := List.mem_flatMap.1 hz
      obtain ⟨_, g3, g4⟩ := RA.inn rfl
      obtain ⟨j, hj, rfl⟩ := List.mem_iff_getElem.1 hy
      obtain ⟨b1, b2, b3, b4⟩ := g4 j hj
      have hsp := listB_spans c hal 20 _ (RA.ok _ hy).2.1 (g3 _ hy) b1
      have h1 := hsp.le z hz
      have h2 : nextT (it.take i) j (headK (w :: it.drop (i + 1)) e) ≤ w.1 := by
        unfold nextT
        split
        · rename_i h
          rw [itD_at h]
          exact Int.le_of_lt ((RA.asc hr).2 _ (List.getElem_mem h))
        · exact Int.le_refl _
      have h3 := hwx (fun e => by rw [e] at hj; simp at hj)
      omega
    have hB : z ∈ conts c false (it.drop (i + 1)) → z.1 ≠ x.1 := fun hz => by
      rw [conts_other] at hz
      obtain ⟨y, hy, hz⟩ := List.mem_flatMap.1 hz
      obtain ⟨_, g3, g4⟩ := RBs.inn rfl
      obtain ⟨j, hj, rfl⟩ := List.mem_iff_getElem.1 hy
      obtain ⟨b1, b2, b3, b4⟩ := g4 j hj
      have hsp := listB_spans c hal 20 _ (RBs.ok _ hy).2.1 (g3 _ hy) b1
      have h1 := hsp.ge z hz
      have h2 := hBk _ hy
      omega
    simp only [List.mem_append]
    rw [I.mem z]
    constructor
    · rintro ((h | h | h) | h)
      · exact .inr ⟨.inl h, hA h⟩
      · exact .inl h
      · exact .inr ⟨.inr (.inl h.1), h.2⟩
      · exact .inr ⟨.inr (.inr h), hB h⟩
    · rintro (h | ⟨h | h | h, hne⟩)
      · exact .inl (.inr (.inl h))
      · exact .inl (.inl h)
      · exact .inl (.inr (.inr ⟨h, hne⟩))
      · exact .inr h
  · have := La.free; omega
  · have hk1 : k < c1.length := by rw [I.keeps.len]; exact hk
    have h1 := I.refs k hk hk1
    have h2 := La.refs k hk1 hk'
    by_cases h0 : 0 < c[k].ref
    · rw [if_pos h0] at h1 ⊢
      rw [if_pos (I.keeps.cell k hk hk1 h0).1] at h2
      omega
    · rw [if_neg h0] at h1 ⊢
      split at h2 <;> omega
  · have hk1 : k < c1.length := by rw [I.keeps.len]; exact hk
    by_cases h2 : 0 < c1[k].ref
    · have h3 := I.new k hk hk1 h2 h1
      rw [(bel_keeps La.keeps hl1 20 (k : Int) (by omega) (by omega) h3).1]
      exact h3
    · exact La.new k hk1 hk' h0 h2
  · cases hu : usedC c y.2
    · rfl
    · have := La.fresh y hy
      rw [I.keeps.used hu] at this
      cases this
  · refine rc_congr (La.rc _ (I.rc E hE)) (fun k hk2 => ?_)
    have hzero : inL (L1.map (·.2)) (k : Int) = true → ∀ s : List It, (∀ y ∈ s, y ∈ it) → (s.map (·.2)).count (k : Int) = 0 := fun h s hs' => by
      rw [List.count_eq_zero]
      intro hm
      obtain ⟨y, hy, he⟩ := List.mem_map.1 hm
      obtain ⟨v, hv, he2⟩ := List.mem_map.1 (inL_iff.1 h)
      have h1 := I.fresh v hv
      rw [he2] at h1
      obtain ⟨j, hj, hje⟩ := List.mem_iff_getElem.1 (hs' y hy)
      obtain ⟨_, g3, g4⟩ := R.inn rfl
      have h2 := (g4 j hj).1
      rw [hje, he] at h2
      have h3 := (bel_is (m := 19) h2).1
      have hkc : k < c.length := by have := g3 y (hs' y hy); rw [he] at this; omega
      rw [cellT_at hkc] at h3
      rw [usedC_at hkc, decide_eq_true h3] at h1
      cases h1
    have htold : toldL false (it.take i ++ L1 ++ it.drop (i + 1)) = (it.take i).map (·.2) ++ L1.map (·.2) ++ (it.drop (i + 1)).map (·.2) := by
      show (it.take i ++ L1 ++ it.drop (i + 1)).map Prod.snd = _
      rw [List.map_append, List.map_append]
    rw [htold, List.count_append, List.count_append]
    cases hin : inL (L1.map (·.2)) (k : Int)
    · have h0 : (L1.map (·.2)).count (k : Int) = 0 := by
        rw [List.count_eq_zero]
        intro hm
        rw [inL_iff.2 hm] at hin
        cases hin
      rw [h0]
      simp
    · rw [hzero hin _ hAm, hzero hin _ (fun y hy => List.mem_of_mem_drop hy)]
      simp
      omega
theorem anew_ok {keep : Int} : ∀ (m : Nat) (c : List HC) (p : Int) (x : It) (e : Int), m ≤ 20 → rightH ⟨c, keep⟩ = true → (∀ k (hk : k < c.length), c[k].ref ≤ 1000000) → okIt x → 0 ≤ p → p < c.length → (bel c m p).is = true → (bel c 20 p).hi < e → x.1 < e →
    2 * (bel c 20 p).high ≤ (c.countP freeC : Nat) → ∃ a, AnewR c keep p x e (anewS m c p x).1 (anewS m c p x).2 a
  | 0, _, _, _, _, _, _, _, _, _, _, hb, _, _, _ => (bel_zero hb).elim
  | m + 1, c, p, x, e, hm, hr, hs, hx, h0, h1, hb, he, hxe, hf => by
    obtain ⟨k, rfl⟩ := Int.eq_ofNat_of_zero_le h0
    have hk : k < c.length := by omega
    have hb20 : (bel c 20 (k : Int)).is = true := by rw [bel_mono c (m + 1) 20 _ hb hm]; exact hb
    obtain ⟨hrf, hc⟩ := bel_is hb
    rw [cellT_at hk] at hrf hc
    have hok := cell_ok ((rightH_iff hr).2 k hk) hrf
    rcases hc with ⟨hlf, _⟩ | ⟨hlf, _, hch⟩
    · exact anew_leaf hk hr hs hx hb20 he hxe hf hlf
    · obtain ⟨hi, _⟩ := at_low hok.1 x.1
      have hcm : childT c[k].it x.1 ∈ c[k].it := by
        have : childT c[k].it x.1 = c[k].it[(atI false c[k].it x.1).toNat] := itD_at hi
        rw [this]; exact List.getElem_mem hi
      exact anew_other hk hr hs hb20 he hxe hf hlf (fun e' h2 h3 h4 => anew_ok m c _ x e' (by omega) hr hs hx (hok.2 hlf _ hcm).1 (hok.2 hlf _ hcm).2 (hch _ hcm).1 h2 h3 h4)
end Go.Proofs.Ytlbhcakjcklmgaa
namespace Go.Proofs.Ytlbhcakjcklmgaa
open Go.RowKit

def topS (c : List HC) (L : List It) : List HC × Int := if 1 < L.length then (allocL c false L (L.map (·.2)), (allocP c false L : Int)) else (c, (L.getD 0 (0, 0)).2)
/-- What is laid above the old tree, ahead of loosing it. -/
def aboveS (c : List HC) (root : Int) (x : It) : List HC × Int := if root < 0 then (allocL c true [x] [], (allocP c true [x] : Int)) else topS (anewS 20 c root x).1 (anewS 20 c root x).2
def putG (c : List HC) (root : Int) (x : It) : List HC × Int := if root < 0 then aboveS c root x else (looseL (c.length + 1) (aboveS c root x).1 root, (aboveS c root x).2)
structure TopR (c : List HC) (keep : Int) (root : Int) (x : It) (c' : List HC) (p : Int) (a : Nat) : Prop where
  right : rightH ⟨c', keep⟩ = true
  keeps : Keeps c c'
  place : 0 ≤ p ∧ p < c.length
  is_ : (bel c' 20 p).is = true
  high : highT c root ≤ (bel c' 20 p).high ∧ (bel c' 20 p).high ≤ highT c root + 1
  mem : ∀ z, z ∈ listB c' 20 p ↔ z = x ∨ (z ∈ listT c root ∧ z.1 ≠ x.1)
  free : c'.countP freeC + a = c.countP freeC
  many : (highT c root ≤ a ∧ 1 ≤ a) ∧ (a : Int) ≤ 2 * highT c root + 1
  refs : ∀ k (hk : k < c.length) (hk' : k < c'.length), c'[k].ref ≤ (if 0 < c[k].ref then c[k].ref else 1) + 4 * (a : Int)
  new : ∀ k (hk : k < c.length) (hk' : k < c'.length), 0 < c'[k].ref → ¬ 0 < c[k].ref → (bel c' 20 (k : Int)).is = true
  fresh : usedC c p = false
  rc : ∀ E, RC c E → RC c' (fun k => E k + (if k = p then 1 else 0))
theorem above_none {keep : Int} {c : List HC} {root : Int} {x : It} (hr : rightH ⟨c, keep⟩ = true) (hs : ∀ k (hk : k < c.length), c[k].ref ≤ 1000000) (hx : okIt x) (h0 : root < 0) (hf : 1 ≤ c.countP freeC) :
    allocE c true [x] = 0 ∧ ∃ a, TopR c keep root x (aboveS c root x).1 (aboveS c root x).2 a := by
  have hnd : NdR [x] := ⟨by simp, fun i hi => by
    have : i = 0 := by simpa using hi
    subst this
    exact ⟨hx, fun h => by omega⟩⟩
  have R : RowOK c true 1 [x] (x.1 + 1) := ⟨fun y hy => by simp at hy; subst hy; exact hx, fun _ => ⟨rfl, by unfold Asc; simp, fun y hy => by simp at hy; subst hy; omega⟩, fun h => by cases h⟩
  obtain ⟨e1, q, hq, La⟩ := laid (keep := keep) (leaf := true) (it := [x]) [] hr (fun k hk => by have := hs k hk; omega) (R.good hr (by simp) (by simp)) hf
  have hone := one_row hr R (by simp) La
  have hh : highT c root = 0 := by unfold highT; rw [if_pos h0]
  have hlt : listT c root = [] := by unfold listT; rw [if_pos h0]
  have hA : aboveS c root x = (allocL c true [x] [], (q : Int)) := by unfold aboveS; rw [if_pos h0, hq]
  rw [hA]
  refine ⟨e1, 1, La.right, La.keeps, ⟨by simp, by have := La.hq; simp only; omega⟩, hone.1, ⟨by rw [hh]; have := hone.2.1; simp only; omega, by rw [hh]; have := hone.2.1; simp only; omega⟩, fun z => ?_, La.free, ⟨⟨by rw [hh]; simp, Nat.le_refl _⟩, by rw [hh]; simp⟩, fun k hk hk' => ?_, fun k hk hk' h1 h2 => ?_, ?_, fun E hE => ?_⟩
  · have := hone.2.2.2.2
    rw [conts_leaf] at this
    simp only
    rw [this, hlt]
    simp
  · have := La.refs k hk hk'
    split at this <;> simp only <;> omega
  · have := La.new k hk hk' h1 h2
    subst this
    exact hone.1
  · simp only
    rw [usedC_at La.hq, decide_eq_false La.un]
  · refine rc_congr (La.rc E hE) (fun k _ => ?_)
    have : inL [] (k : Int) = false := rfl
    rw [this]
    simp
theorem above_some {keep : Int} {c : List HC} {root : Int} {x : It} (hr : rightH ⟨c, keep⟩ = true) (hs : ∀ k (hk : k < c.length), c[k].ref ≤ 1000000) (hx : okIt x) (h0 : 0 ≤ root) (h1 : root < c.length) (hb : (bel c 20 root).is = true) (hh : (bel c 20 root).high < 20)
    (hf : 2 * (bel c 20 root).high + 1 ≤ (c.countP freeC : Nat)) : (1 < (anewS 20 c root x).2.length → allocE (anewS 20 c root x).1 false (anewS 20 c root x).2 = 0) ∧ ∃ a, TopR c keep root x (aboveS c root x).1 (aboveS c root x).2 a := by
  have hal := allR_of hr
  have hT : highT c root = (bel c 20 root).high := by unfold highT; rw [if_neg (by omega)]
  have hL : listT c root = listB c 20 root := by unfold listT; rw [if_neg (by omega)]
  obtain ⟨e, he1, he2⟩ : ∃ e, (bel c 20 root).hi < e ∧ x.1 < e := by
    rcases Int.lt_or_le (bel c 20 root).hi x.1 with h | h
    · exact ⟨x.1 + 1, by omega, by omega⟩
    · exact ⟨(bel c 20 root).hi + 1, by omega, by omega⟩
  obtain ⟨a1, I⟩ := anew_ok (keep := keep) 20 c root x e (Nat.le_refl _) hr hs hx h0 h1 hb he1 he2 (by omega)
  have hA : aboveS c root x = topS (anewS 20 c root x).1 (anewS 20 c root x).2 := by unfold aboveS; rw [if_neg (by omega)]
  rw [hA]
  generalize anewS 20 c root x = S at *
  obtain ⟨c1, L⟩ := S
  simp only at I ⊢
  have hr1 := I.right
  have hpos := bel_pos c hal 20 root h0 h1 hb
  unfold topS
  by_cases h2 : 1 < L.length
  · rw [if_pos h2]
    have hl2 : L.length = 2 := by have := I.len.2; omega
    have R : RowOK c1 false ((bel c 20 root).high + 1) L e := by
      refine ⟨fun y hy => ?_, (fun h => by cases h), fun _ => ⟨⟨by omega, by omega⟩, fun y hy => by rw [I.keeps.len]; exact (I.place y hy).2, fun j hj => ?_⟩⟩
      · obtain ⟨j, hj, rfl⟩ := List.mem_iff_getElem.1 hy
        exact key_ok hr1 (I.place _ hy).1 (by rw [I.keeps.len]; exact (I.place _ hy).2) (I.row j hj).1 (I.row j hj).2.2.1
      · obtain ⟨b1, b2, b3, b4⟩ := I.row j hj
        exact ⟨b1, by omega, b3, b4⟩
    have hmany := I.many
    have hfree := I.free
    obtain ⟨e1, q, hq, La⟩ := laid (keep := keep) (leaf := false) (it := L) (L.map (·.2)) hr1 (fun k hk => by
      have hk' : k < c.length := by rw [I.keeps.len] at hk; exact hk
      have g1 := I.refs k hk' hk
      have g2 := hs k hk'
      split at g1 <;> omega) (R.good hr1 (by omega) (by omega)) (by omega)
    have hone := one_row hr1 R (by omega) La
    rw [hq]
    refine ⟨fun _ => e1, a1 + 1, La.right, I.keeps.trans La.keeps, ⟨by simp, by have := La.hq; rw [I.keeps.len] at this; simp only; omega⟩, hone.1, ⟨by rw [hT]; have := hone.2.1; simp only; omega, by rw [hT]; have := hone.2.1; simp only; omega⟩, fun z => ?_, ?_, ⟨⟨by rw [hT]; omega, by omega⟩, by rw [hT]; omega⟩, fun k hk hk' => ?_, fun k hk hk' g0 g1 => ?_, ?_, fun E hE => ?_⟩
    · have := hone.2.2.2.2
      rw [conts_other] at this
      simp only
      rw [this, hL]
      exact I.mem z
    · have := La.free; simp only; omega
    · have hk1 : k < c1.length := by rw [I.keeps.len]; exact hk
      have g1 := I.refs k hk hk1
      have g2 := La.refs k hk1 hk'
      simp only
      by_cases g0 : 0 < c[k].ref
      · rw [if_pos g0] at g1 ⊢
        rw [if_pos (I.keeps.cell k hk hk1 g0).1] at g2
        omega
      · rw [if_neg g0] at g1 ⊢
        split at g2 <;> omega
    · have hk1 : k < c1.length := by rw [I.keeps.len]; exact hk
      by_cases g2 : 0 < c1[k].ref
      · have g3 := I.new k hk hk1 g2 g1
        simp only
        rw [(bel_keeps La.keeps (allR_of hr1) 20 (k : Int) (by omega) (by omega) g3).1]
        exact g3
      · have := La.new k hk1 hk' g0 g2
        subst this
        exact hone.1
    · simp only
      cases hu : usedC c (q : Int)
      · rfl
      · have := I.keeps.used hu
        rw [usedC_at La.hq, decide_eq_false La.un] at this
        cases this
    · refine rc_congr (La.rc _ (I.rc E hE)) (fun k _ => ?_)
      have htold : toldL false L = L.map (·.2) := rfl
      rw [htold]
      cases hin : inL (L.map (·.2)) (k : Int)
      · have h0 : (L.map (·.2)).count (k : Int) = 0 := by
          rw [List.count_eq_zero]
          intro hm
          rw [inL_iff.2 hm] at hin
          cases hin
        rw [h0]
        simp
      · simp only [if_true]
        omega
  · rw [if_neg h2]
    obtain ⟨y, hy⟩ : ∃ y, L = [y] := by
      match L, I.len, h2 with
      | [y], _, _ => exact ⟨y, rfl⟩
      | y :: z :: r, _, h => exact absurd (by simp) h
      | [], h, _ => simp at h
    subst hy
    have hrow := I.row 0 (by simp)
    simp only [List.getElem_cons_zero] at hrow
    have hmem : y ∈ [y] := List.mem_singleton.2 rfl
    refine ⟨fun h => absurd h h2, a1, I.right, I.keeps, I.place y hmem, hrow.1, ⟨by rw [hT]; show _ ≤ (bel c1 20 y.2).high; omega, by rw [hT]; show (bel c1 20 y.2).high ≤ _; omega⟩, fun z => ?_, I.free, ⟨⟨by rw [hT]; exact I.many.1, by have := I.many.1; omega⟩, by rw [hT]; have := I.many.2; omega⟩, I.refs, I.new, I.fresh y hmem, fun E hE => ?_⟩
    · have := I.mem z
      rw [List.flatMap_singleton] at this
      show z ∈ listB c1 20 y.2 ↔ _
      rw [this, hL]
    · refine rc_congr (I.rc E hE) (fun k _ => ?_)
      show E (k : Int) + (if (k : Int) = y.2 then 1 else 0) = E (k : Int) + (((([y].map (·.2)).count (k : Int) : Nat)) : Int)
      rw [List.map_singleton, List.count_singleton]
      by_cases hk : (k : Int) = y.2
      · rw [if_pos hk, if_pos (by rw [beq_iff_eq]; exact hk.symm)]; rfl
      · rw [if_neg hk, if_neg (by rw [beq_iff_eq]; exact fun e => hk e.symm)]; rfl
/-- All that is used is a right tree. -/
def AT (c : List HC) : Prop := ∀ k (hk : k < c.length), 0 < c[k].ref → (bel c 20 (k : Int)).is = true
def rootE (root : Int) : Int → Int := fun k => if k = root then 1 else 0
theorem inn_pos {l : List HC} {j : Nat} (hj : j < l.length) {k : Int} (h : k ∈ tellC l[j]) : 1 ≤ inn l k := by
  have h1 := inn_set hj (⟨0, false, false, []⟩ : HC) k
  have h2 : tellC ⟨0, false, false, []⟩ = [] := rfl
  have h3 := List.count_pos_iff.2 h
  rw [h2, List.count_nil] at h1
  omega
/-- Where cells are counted, what stays used stays the tree that it was. -/
theorem bel_cuts {c g : List HC} {E : Int → Int} (h : Cuts c g) (hl : AllR c) (hE : ∀ k, 0 ≤ E k) (hrc : RC g E) : ∀ (m : Nat) (p : Int), 0 ≤ p → p < c.length → usedC g p = true → (bel c m p).is = true → bel g m p = bel c m p ∧ listB g m p = listB c m p
  | 0, _, _, _, _, hb => (bel_zero hb).elim
  | m + 1, p, h0, h1, hu, hb => by
    obtain ⟨k, rfl⟩ := Int.eq_ofNat_of_zero_le h0
    have hk : k < c.length := by omega
    have hk' : k < g.length := by rw [h.len]; exact hk
    rw [usedC_at hk'] at hu
    have hgr : 0 < g[k].ref := by simpa using hu
    obtain ⟨hr, hc⟩ := bel_is hb
    rw [cellT_at hk] at hr hc
    have hok := cell_ok (hl k hk) hr
    obtain ⟨_, g2, g3, _⟩ := h.on k hk hk' hgr
    rw [bel, bel, listB, listB, cellT_at hk, cellT_at hk', if_neg (show ¬ g[k].ref < 1 by omega), if_neg (show ¬ c[k].ref < 1 by omega), g2, g3]
    rcases hc with ⟨hlf, _⟩ | ⟨hlf, _, hch⟩
    · rw [hlf]; exact ⟨rfl, rfl⟩
    · rw [hlf]
      simp only [Bool.false_eq_true, if_false]
      have hrec := fun x (hx : x ∈ c[k].it) => bel_cuts h hl hE hrc m x.2 (hok.2 hlf x hx).1 (hok.2 hlf x hx).2 (by
        obtain ⟨j, hj⟩ := Int.eq_ofNat_of_zero_le (hok.2 hlf x hx).1
        have hjc : j < g.length := by rw [h.len]; have := (hok.2 hlf x hx).2; omega
        have ht : x.2 ∈ tellC g[k] := by
          unfold tellC toldL
          rw [if_pos hgr, g2, hlf, if_neg (by simp), g3]
          exact List.mem_map.2 ⟨x, hx, rfl⟩
        have h3 := inn_pos hk' ht
        have h4 := hrc j hjc
        have h5 := hE (j : Int)
        rw [hj] at h3 ⊢
        rw [usedC_at hjc, decide_eq_true (by omega)]) (hch x hx).1
      exact ⟨belRow_congr (fun x hx => (hrec x hx).1), flatMap_congr' (fun x hx => (hrec x hx).2)⟩
structure PutR (c : List HC) (keep : Int) (root : Int) (x : It) (g : List HC) (p : Int) (a : Nat) : Prop where
  right : rightH ⟨g, keep⟩ = true
  len : g.length = c.length
  place : 0 ≤ p ∧ p < g.length
  is_ : (bel g 20 p).is = true
  high : highT c root ≤ (bel g 20 p).high ∧ (bel g 20 p).high ≤ highT c root + 1
  mem : ∀ z, z ∈ listB g 20 p ↔ z = x ∨ (z ∈ listT c root ∧ z.1 ≠ x.1)
  free : g.countP freeC + a = c.countP freeC
  many : (highT c root ≤ a ∧ 1 ≤ a) ∧ (a : Int) ≤ 2 * highT c root + 1
  rc : RC g (rootE p)
  at_ : AT g
/-- Where all is counted, and all that is used is a right tree, it is so behind what is put. -/
theorem put_ok {keep : Int} {c : List HC} {root : Int} {x : It} (hr : rightH ⟨c, keep⟩ = true) (hc : RC c (rootE root)) (ha : AT c) {a : Nat} (T : TopR c keep root x (aboveS c root x).1 (aboveS c root x).2 a) (hroot : root = -1 ∨ (0 ≤ root ∧ root < c.length ∧ usedC c root = true)) :
    PutR c keep root x (putG c root x).1 (putG c root x).2 a := by
  have hal := allR_of hr
  have hat2 : AT (aboveS c root x).1 := fun k hk h0 => by
    have hk' : k < c.length := by rw [T.keeps.len] at hk; exact hk
    by_cases h1 : 0 < c[k].ref
    · have h2 := ha k hk' h1
      rw [(bel_keeps T.keeps hal 20 (k : Int) (by omega) (by omega) h2).1]
      exact h2
    · exact T.new k hk' hk h0 h1
  have hrc2 := T.rc _ hc
  rcases hroot with h | ⟨h0, h1, hu⟩
  · have hp : putG c root x = aboveS c root x := by unfold putG; rw [if_pos (by omega)]
    rw [hp]
    refine ⟨T.right, T.keeps.len, by rw [T.keeps.len]; exact T.place, T.is_, T.high, T.mem, T.free, T.many, rc_congr hrc2 (fun k _ => ?_), hat2⟩
    unfold rootE
    rw [if_neg (show ¬ (k : Int) = root by omega)]
    omega
  · have hp : putG c root x = (looseL (c.length + 1) (aboveS c root x).1 root, (aboveS c root x).2) := by unfold putG; rw [if_neg (by omega)]
    rw [hp]
    have hne : root ≠ (aboveS c root x).2 := fun e => by have := T.fresh; rw [← e, hu] at this; cases this
    obtain ⟨k, rfl⟩ := Int.eq_ofNat_of_zero_le h0
    have hkl : k < (aboveS c (k : Int) x).1.length := by rw [T.keeps.len]; omega
    have hcut := loose_cuts (c.length + 1) (aboveS c (k : Int) x).1 (k : Int)
    have hrg := rc_loose (c.length + 1) (aboveS c (k : Int) x).1 _ k (tells_right T.right) (fun j => by unfold rootE; split <;> split <;> omega) (by have := usedN_le (aboveS c (k : Int) x).1; rw [T.keeps.len] at this; omega) hrc2 hkl (by unfold rootE; rw [if_pos rfl]; split <;> omega)
    have hrg2 : RC (looseL (c.length + 1) (aboveS c (k : Int) x).1 (k : Int)) (rootE (aboveS c (k : Int) x).2) := rc_congr hrg (fun j _ => by
      unfold rootE
      by_cases h2 : (j : Int) = (k : Int)
      · rw [if_pos h2, if_neg (by omega)]; omega
      · rw [if_neg h2]; omega)
    have hE : ∀ j, 0 ≤ rootE (aboveS c (k : Int) x).2 j := fun j => by unfold rootE; split <;> omega
    have hpl := T.place
    obtain ⟨q, hq⟩ := Int.eq_ofNat_of_zero_le hpl.1
    have hql : q < (looseL (c.length + 1) (aboveS c (k : Int) x).1 (k : Int)).length := by rw [hcut.len, T.keeps.len]; omega
    have hup : usedC (looseL (c.length + 1) (aboveS c (k : Int) x).1 (k : Int)) (aboveS c (k : Int) x).2 = true := by
      have h3 := hrg2 q hql
      rw [hq, usedC_at hql]
      unfold rootE at h3
      rw [if_pos hq.symm] at h3
      exact decide_eq_true (by omega)
    have hb := bel_cuts hcut (allR_of T.right) hE hrg2 20 _ hpl.1 (by rw [T.keeps.len]; exact hpl.2) hup T.is_
    refine ⟨cuts_right hcut T.right, by rw [hcut.len, T.keeps.len], by rw [hcut.len, T.keeps.len]; exact hpl, by rw [hb.1]; exact T.is_, by rw [hb.1]; exact T.high, fun z => by rw [hb.2]; exact T.mem z, ?_, T.many, hrg2, fun j hj h2 => ?_⟩
    · rw [cuts_free hcut (fun j hj => (right_ref T.right j hj).1)]; exact T.free
    · have hj' : j < (aboveS c (k : Int) x).1.length := by rw [hcut.len] at hj; exact hj
      have h3 := hat2 j hj' (hcut.on j hj' hj h2).1
      rw [(bel_cuts hcut (allR_of T.right) hE hrg2 20 (j : Int) (by omega) (by omega) (by rw [usedC_at hj, decide_eq_true h2]) h3).1]
      exact h3
end Go.Proofs.Ytlbhcakjcklmgaa
namespace Go.Proofs.Ytlbhcakjcklmgaa
open Go.RowKit

/-- What is held behind so many rounds. -/
def heldB (c : List HC) (root : Int) : Nat → Nat → Bool
  | 0, k => decide ((k : Int) = root)
  | d + 1, k => heldB c root d k || (List.range c.length).any (fun p => heldB c root d p && decide (0 < (tellC (c.getD p HC.none)).count (k : Int)))
def soundB (c : List HC) (root : Int) : Bool := (List.range c.length).all (fun k => decide ((c.getD k HC.none).ref = rootE root (k : Int) + ((inn c (k : Int) : Nat) : Int)) && (heldB c root 25 k == decide (0 < (c.getD k HC.none).ref)))
theorem sound_iff {c : List HC} {root : Int} : soundB c root = true ↔ RC c (rootE root) ∧ ∀ k (hk : k < c.length), (heldB c root 25 k = true ↔ 0 < c[k].ref) := by
  unfold soundB
  rw [range_all]
  constructor
  · intro h
    refine ⟨fun k hk => ?_, fun k hk => ?_⟩
    · have := h k hk
      rw [Bool.and_eq_true, decide_eq_true_eq, getD_at hk] at this
      exact this.1
    · have := h k hk
      rw [Bool.and_eq_true, getD_at hk, beq_iff_eq] at this
      rw [this.2, decide_eq_true_eq]
  · rintro ⟨h1, h2⟩ k hk
    rw [Bool.and_eq_true, decide_eq_true_eq, getD_at hk, beq_iff_eq]
    refine ⟨h1 k hk, ?_⟩
    rw [Bool.eq_iff_iff, decide_eq_true_eq]
    exact h2 k hk
theorem held_step {c : List HC} {root : Int} {d k : Nat} : heldB c root (d + 1) k = true ↔ heldB c root d k = true ∨ ∃ p, ∃ hp : p < c.length, heldB c root d p = true ∧ (k : Int) ∈ tellC c[p] := by
  rw [heldB, Bool.or_eq_true, List.any_eq_true]
  constructor
  · rintro (h | ⟨p, hp, h⟩)
    · exact .inl h
    · have hpl := List.mem_range.1 hp
      rw [Bool.and_eq_true, decide_eq_true_eq, getD_at hpl] at h
      exact .inr ⟨p, hpl, h.1, List.count_pos_iff.1 h.2⟩
  · rintro (h | ⟨p, hp, h1, h2⟩)
    · exact .inl h
    · refine .inr ⟨p, List.mem_range.2 hp, ?_⟩
      rw [Bool.and_eq_true, decide_eq_true_eq, getD_at hp]
      exact ⟨h1, List.count_pos_iff.2 h2⟩
/-- What a right tree's root tells are right trees, less high by one. -/
theorem tell_tree {c : List HC} {keep : Int} (hr : rightH ⟨c, keep⟩ = true) {p : Nat} (hp : p < c.length) (hb : (bel c 20 (p : Int)).is = true) {k : Nat} (h : (k : Int) ∈ tellC c[p]) : k < c.length ∧ (bel c 20 (k : Int)).is = true ∧ (bel c 20 (k : Int)).high + 1 = (bel c 20 (p : Int)).high := by
  have ht := tells_right hr p hp _ h
  have hk : k < c.length := by omega
  unfold tellC at h
  by_cases h0 : 0 < c[p].ref
  · rw [if_pos h0] at h
    obtain ⟨_, hc⟩ := bel_is (m := 19) hb
    rw [cellT_at hp] at hc
    unfold toldL at h
    rcases hc with ⟨hlf, _⟩ | ⟨hlf, _, hch⟩
    · rw [hlf] at h; simp at h
    · rw [hlf, if_neg (by simp)] at h
      obtain ⟨x, hx, hxe⟩ := List.mem_map.1 h
      have h1 := hch x hx
      rw [hxe] at h1
      have h2 := bel_mono c 19 20 (k : Int) h1.1 (by omega)
      exact ⟨hk, by rw [h2]; exact h1.1, by rw [h2]; exact h1.2.2⟩
  · rw [if_neg h0] at h; simp at h
theorem sound_to {c : List HC} {keep root : Int} (hr : rightH ⟨c, keep⟩ = true) (hb : rightR ⟨c, keep⟩ root = true) (h : soundB c root = true) : RC c (rootE root) ∧ AT c := by
  obtain ⟨h1, h2⟩ := sound_iff.1 h
  refine ⟨h1, fun k hk h0 => ?_⟩
  have hind : ∀ d k, heldB c root d k = true → k < c.length → (bel c 20 (k : Int)).is = true := by
    intro d
    induction d with
    | zero =>
      intro k hk hkl
      have e : (k : Int) = root := by simpa [heldB] using hk
      rcases rightR_iff hb with h' | ⟨_, _, h'⟩
      · omega
      · rw [e]; exact h'
    | succ d ih =>
      intro k hk hkl
      rcases held_step.1 hk with h' | ⟨p, hp, h3, h4⟩
      · exact ih k h' hkl
      · exact (tell_tree hr hp (ih p h3 hp) h4).2.1
  exact hind 25 k ((h2 k hk).2 h0) hk
theorem inn_ex {l : List HC} {k : Int} (h : 1 ≤ inn l k) : ∃ j, ∃ hj : j < l.length, k ∈ tellC l[j] := by
  induction l with
  | nil => simp [inn] at h
  | cons x r ih =>
    by_cases hx : k ∈ tellC x
    · exact ⟨0, by simp, hx⟩
    · have h0 : (tellC x).count k = 0 := List.count_eq_zero.2 hx
      have h1 : 1 ≤ inn r k := by
        unfold inn at h ⊢
        rw [List.map_cons, List.sum_cons, h0] at h
        omega
      obtain ⟨j, hj, h2⟩ := ih h1
      exact ⟨j + 1, by simpa using hj, by simpa using h2⟩
theorem held_mono {c : List HC} {root : Int} {k : Nat} : ∀ {d : Nat} (e : Nat), heldB c root d k = true → heldB c root (d + e) k = true
  | _, 0, h => h
  | _, e + 1, h => held_step.2 (.inl (held_mono e h))
theorem sound_of {c : List HC} {keep p : Int} (hr : rightH ⟨c, keep⟩ = true) (h1 : RC c (rootE p)) (h2 : AT c) : soundB c p = true := by
  refine sound_iff.2 ⟨h1, fun k hk => ⟨fun h => ?_, fun h => ?_⟩⟩
  · have hind : ∀ d k, heldB c p d k = true → ∀ hk : k < c.length, 0 < c[k].ref := by
      intro d
      induction d with
      | zero =>
        intro k hkd hkl
        have e : (k : Int) = p := by simpa [heldB] using hkd
        have h3 := h1 k hkl
        unfold rootE at h3
        rw [if_pos e] at h3
        omega
      | succ d ih =>
        intro k hkd hkl
        rcases held_step.1 hkd with h' | ⟨j, hj, _, h4⟩
        · exact ih k h' hkl
        · have h3 := h1 k hkl
          have h5 := inn_pos hj h4
          unfold rootE at h3
          split at h3 <;> omega
    exact hind 25 k h hk
  · have hind : ∀ (d k : Nat) (hk : k < c.length), 0 < c[k].ref → 20 - (bel c 20 (k : Int)).high ≤ (d : Int) → heldB c p d k = true := by
      intro d
      induction d with
      | zero =>
        intro k hkl h0 hd
        by_cases e : (k : Int) = p
        · simpa [heldB] using e
        · exfalso
          have h3 := h1 k hkl
          unfold rootE at h3
          rw [if_neg e] at h3
          obtain ⟨j, hj, h4⟩ := inn_ex (l := c) (k := (k : Int)) (by omega)
          have hju : 0 < c[j].ref := by
            unfold tellC at h4
            by_cases h5 : 0 < c[j].ref
            · exact h5
            · rw [if_neg h5] at h4; simp at h4
          have h6 := (tell_tree hr hj (h2 j hj hju) h4).2.2
          have h7 := (bel_high c 20 (j : Int)).2
          omega
      | succ d ih =>
        intro k hkl h0 hd
        by_cases e : (k : Int) = p
        · have h3 : heldB c p 0 k = true := by simpa [heldB] using e
          have h4 := held_mono (d + 1) h3
          rw [Nat.zero_add] at h4
          exact h4
        · have h3 := h1 k hkl
          unfold rootE at h3
          rw [if_neg e] at h3
          obtain ⟨j, hj, h4⟩ := inn_ex (l := c) (k := (k : Int)) (by omega)
          have hju : 0 < c[j].ref := by
            unfold tellC at h4
            by_cases h5 : 0 < c[j].ref
            · exact h5
            · rw [if_neg h5] at h4; simp at h4
          have h6 := (tell_tree hr hj (h2 j hj hju) h4).2.2
          exact held_step.2 (.inr ⟨j, hj, ih j hj hju (by omega), h4⟩)
    have h3 := bel_pos c (allR_of hr) 20 (k : Int) (by omega) (by omega) (h2 k hk h)
    exact hind 25 k hk h (by omega)
/-- May it be, and does everything add up? -/
def mayT (h : Hp) (root most : Int) : Bool := mayH h most && rightR h root
def fineB (h : Hp) (root most : Int) : Bool := mayT h root most && soundB h.c root
theorem inn_le (k : Int) : ∀ {l : List HC}, (∀ j (hj : j < l.length), l[j].it.length ≤ 10) → inn l k ≤ 10 * l.length
  | [], _ => by simp [inn]
  | x :: r, h => by
    have h1 := inn_le k (l := r) (fun j hj => h (j + 1) (by simpa using hj))
    have h2 := h 0 (by simp)
    simp only [List.getElem_cons_zero] at h2
    have h3 : (tellC x).count k ≤ 10 := by
      refine Nat.le_trans List.count_le_length ?_
      unfold tellC
      split
      · exact Nat.le_trans (told_len _ _) h2
      · simp
    unfold inn at h1 ⊢
    rw [List.map_cons, List.sum_cons, List.length_cons]
    omega
theorem nd_len {c : List HC} {keep : Int} (hr : rightH ⟨c, keep⟩ = true) : ∀ k (hk : k < c.length), c[k].it.length ≤ 4 := fun k hk => by
  have h := (rightH_iff hr).2 k hk
  by_cases h0 : 0 < c[k].ref
  · exact (cell_ok h h0).1.1.2
  · unfold cellR at h
    by_cases h1 : c[k].ref = 0
    · rw [if_pos h1] at h
      simp only [Bool.and_eq_true, decide_eq_true_eq] at h
      omega
    · rw [if_neg h1] at h
      simp only [Bool.and_eq_true, decide_eq_true_eq] at h
      omega
theorem fine_may {h : Hp} {root most : Int} (hf : fineB h root most = true) : mayH h most = true ∧ rightR h root = true ∧ soundB h.c root = true := by
  unfold fineB mayT at hf
  simp only [Bool.and_eq_true] at hf
  exact ⟨hf.1.1, hf.1.2, hf.2⟩
/-- What is put where everything adds up leaves all adding up. -/
theorem fine_put {c : List HC} {keep root most : Int} {x : It} (hmost : most ≤ 60) (hf : fineB ⟨c, keep⟩ root most = true) (hx : okIt x) (hh : highT c root < 20) (hn : 2 * highT c root + 1 ≤ (c.countP freeC : Nat)) :
    ∃ a, PutR c keep root x (putG c root x).1 (putG c root x).2 a ∧ fineB ⟨(putG c root x).1, keep⟩ (putG c root x).2 most = true := by
  obtain ⟨hm, hrr, hs⟩ := fine_may hf
  obtain ⟨m1, m2, m3⟩ := may_iff hm
  obtain ⟨hrc, hat⟩ := sound_to m3 hrr hs
  have hroot : root = -1 ∨ (0 ≤ root ∧ root < c.length ∧ usedC c root = true ∧ (bel c 20 root).is = true) := by
    rcases rightR_iff hrr with h | ⟨h0, h1, h2⟩
    · left
      unfold rightR at hrr
      rw [Bool.or_eq_true, decide_eq_true_eq] at hrr
      rcases hrr with h' | h'
      · exact h'
      · rw [Bool.and_eq_true] at h'
        have h5 : usedC c root = true := h'.1
        rw [usedC_neg h] at h5
        cases h5
    · right
      obtain ⟨k, rfl⟩ := Int.eq_ofNat_of_zero_le h0
      have hk : k < c.length := by have h1' : (k : Int) < c.length := h1; omega
      have h5 : 0 < (cellT c (k : Int)).ref := (bel_is (m := 19) h2).1
      rw [cellT_at hk] at h5
      exact ⟨h0, h1, by rw [usedC_at hk, decide_eq_true h5], h2⟩
  obtain ⟨a, T⟩ : ∃ a, TopR c keep root x (aboveS c root x).1 (aboveS c root x).2 a := by
    rcases hroot with h | ⟨h0, h1, _, h2⟩
    · have hT : highT c root = 0 := by unfold highT; rw [if_pos (by omega)]
      exact (above_none m3 (fun k hk => (m2 k hk).2) hx (by omega) (by omega)).2
    · have hT : highT c root = (bel c 20 root).high := by unfold highT; rw [if_neg (by omega)]
      exact (above_some m3 (fun k hk => (m2 k hk).2) hx h0 h1 h2 (by omega) (by omega)).2
  have P := put_ok m3 hrc hat T (hroot.imp id (fun h => ⟨h.1, h.2.1, h.2.2.1⟩))
  refine ⟨a, P, ?_⟩
  unfold fineB mayT
  rw [Bool.and_eq_true, Bool.and_eq_true]
  have hnd := nd_len P.right
  refine ⟨⟨?_, rightR_of P.place.1 P.place.2 P.is_⟩, sound_of P.right P.rc P.at_⟩
  refine may_of ?_ P.right
  unfold smallH
  rw [Bool.and_eq_true, decide_eq_true_eq, List.all_eq_true]
  refine ⟨by simp only; rw [P.len]; exact m1, fun y hy => ?_⟩
  obtain ⟨k, hk, rfl⟩ := List.mem_iff_getElem.1 hy
  rw [Bool.and_eq_true, decide_eq_true_eq, decide_eq_true_eq]
  simp only at hk
  refine ⟨by have := hnd k hk; simp only; omega, ?_⟩
  have h1 := P.rc k hk
  have h2 := inn_le (k : Int) (l := (putG c root x).1) (fun j hj => by have := hnd j hj; omega)
  rw [P.len] at h2
  have h3 : rootE (putG c root x).2 (k : Int) ≤ 1 := by unfold rootE; split <;> omega
  simp only
  omega
end Go.Proofs.Ytlbhcakjcklmgaa
