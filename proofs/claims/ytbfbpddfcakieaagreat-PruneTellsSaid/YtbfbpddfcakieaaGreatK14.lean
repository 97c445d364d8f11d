/- Plain lemmas for the laws of layer 5: cells held once more for each place in a row; what is laid, and loosed again. The walk of List of the reference of layer 7. Items of right trees rise; what keys tell of them; parts of scans. No program in sight. The walk of Nodes of the reference of layer 7. -/
import Derived.Test.YtbfbpddfcakieaaGreatK13
namespace Go.Proofs.YtbfbpddfcakieaaGreat
open Go.RowKit

def upC (ps : List Int) (k : Nat) (c : HC) : HC := ⟨c.ref + (ps.count (k : Int) : Nat), c.pin, c.leaf, c.it⟩
/-- Each cell held once more for each time that its place stands in the row. -/
def upL (l : List HC) (ps : List Int) : List HC := l.mapIdx (upC ps)
theorem upL_len (l : List HC) (ps : List Int) : (upL l ps).length = l.length := by unfold upL; simp
theorem upL_at {l : List HC} {ps : List Int} {k : Nat} (hk : k < l.length) : (upL l ps)[k]'(by rw [upL_len]; exact hk) = upC ps k l[k] := by
  unfold upL; rw [List.getElem_mapIdx]
theorem upL_nil (l : List HC) : upL l [] = l := by
  apply List.ext_getElem (upL_len l [])
  intro k h1 h2
  rw [upL_at h2]
  unfold upC
  simp
theorem upL_same {l : List HC} {ps qs : List Int} (h : ∀ x, ps.count x = qs.count x) : upL l ps = upL l qs := by
  unfold upL
  congr 1
  funext k c
  unfold upC
  rw [h]
theorem upL_cons {l : List HC} {qs : List Int} {p : Nat} (hp : p < l.length) : moreI (upL l qs) (p : Int) = upL l ((p : Int) :: qs) := by
  unfold moreI
  rw [Int.toNat_natCast, getD_at (by rw [upL_len]; exact hp), upL_at hp]
  apply List.ext_getElem (by rw [List.length_set, upL_len, upL_len])
  intro k h1 h2
  rw [upL_len] at h2
  rw [List.getElem_set]
  split
  · rename_i e
    subst e
    rw [upL_at hp]
    unfold upC HC.more
    simp only [List.count_cons_self]
    have : l[p].ref + ((qs.count (p : Int) : Nat) : Int) + 1 = l[p].ref + ((qs.count (p : Int) + 1 : Nat) : Int) := by omega
    rw [this]
  · rename_i e
    rw [upL_at h2, upL_at h2]
    unfold upC
    rw [List.count_cons_of_ne (by omega)]
theorem upL_fold {l : List HC} : ∀ (ps qs : List Int), (∀ p ∈ ps, usedC l p = true) → ps.foldl moreI (upL l qs) = upL l (ps.reverse ++ qs)
  | [], qs, _ => rfl
  | p :: ps, qs, h => by
    obtain ⟨k, hk, rfl, _⟩ := usedC_iff (h p (by simp))
    rw [List.foldl_cons, upL_cons hk, upL_fold ps _ (fun x hx => h x (by simp [hx]))]
    simp
theorem more_up {l : List HC} {ps : List Int} (h : ∀ p ∈ ps, usedC l p = true) : ps.foldl moreI l = upL l ps := by
  have h1 := upL_fold ps [] h
  rw [upL_nil] at h1
  rw [h1]
  exact upL_same (fun x => by simp)
theorem count_unused {l : List HC} {ps : List Int} (h : ∀ p ∈ ps, usedC l p = true) {k : Nat} (hk : k < l.length) (h0 : ¬ 0 < l[k].ref) : ps.count (k : Int) = 0 := by
  rw [List.count_eq_zero]
  intro hm
  have := h _ hm
  rw [usedC_at hk] at this
  simp at this
  omega
theorem loose_up {l : List HC} {keep : Int} (hr : rightH ⟨l, keep⟩ = true) {q : Nat} (hq : ∀ hk : q < l.length, ¬ 0 < l[q].ref) (x : HC) (f : Nat) : ∀ (ps : List Int), (∀ p ∈ ps, usedC l p = true) → ps.foldl (looseL (f + 1)) ((upL l ps).set q x) = l.set q x
  | [], _ => by rw [upL_nil]; rfl
  | p :: ps, h => by
    obtain ⟨k, hk, rfl, hp⟩ := usedC_iff (h p (by simp))
    have hkq : ¬ q = k := fun e => by subst e; exact hq hk hp
    have hk' : k < ((upL l ((k : Int) :: ps)).set q x).length := by rw [List.length_set, upL_len]; exact hk
    have hg : ((upL l ((k : Int) :: ps)).set q x)[k] = upC ((k : Int) :: ps) k l[k] := by rw [List.getElem_set_ne hkq, upL_at hk]
    have hpn := used_nopin ((rightH_iff hr).2 k hk) hp
    have hu : usedC ((upL l ((k : Int) :: ps)).set q x) (k : Int) = true := by
      rw [usedC_at hk', hg]
      unfold upC
      simp only [decide_eq_true_eq]
      omega
    have hstep : looseL (f + 1) ((upL l ((k : Int) :: ps)).set q x) (k : Int) = (upL l ps).set q x := by
      rw [looseL_at f hk' hu, hg]
      have hc : (((k : Int) :: ps).count (k : Int)) = ps.count (k : Int) + 1 := List.count_cons_self ..
      rw [if_pos (by unfold upC; simp only; rw [hc]; omega)]
      apply List.ext_getElem (by simp [upL_len])
      intro j h1 h2
      have hj : j < l.length := by simpa [upL_len] using h2
      rw [List.getElem_set]
      split
      · rename_i e
        subst e
        rw [List.getElem_set_ne hkq, upL_at hj]
        unfold upC
        simp only
        rw [hc, hpn]
        have : l[k].ref + ((ps.count (k : Int) + 1 : Nat) : Int) - 1 = l[k].ref + ((ps.count (k : Int) : Nat) : Int) := by omega
        rw [this]
      · rename_i e
        rw [List.getElem_set, List.getElem_set]
        split
        · rfl
        · rw [upL_at hj, upL_at hj]
          unfold upC
          rw [List.count_cons_of_ne (by omega)]
    rw [List.foldl_cons, hstep]
    exact loose_up hr hq x f ps (fun y hy => h y (by simp [hy]))
theorem countP_set1 {α : Type} (p : α → Bool) : ∀ (l : List α) (k : Nat) (hk : k < l.length) (x : α), (l.set k x).countP p + (if p l[k] then 1 else 0) = l.countP p + (if p x then 1 else 0)
  | [], k, hk, _ => by simp at hk
  | y :: l, 0, _, x => by simp [List.countP_cons]; omega
  | y :: l, k + 1, hk, x => by
    have := countP_set1 p l k (by simpa using hk) x
    simp only [List.set_cons_succ, List.countP_cons, List.getElem_cons_succ]
    omega
theorem upL_free {l : List HC} {ps : List Int} (h : ∀ p ∈ ps, usedC l p = true) (_hr : ∀ k (hk : k < l.length), 0 ≤ l[k].ref) : (upL l ps).countP freeC = l.countP freeC := by
  have e : (upL l ps).map freeC = l.map freeC := by
    apply List.ext_getElem (by simp [upL_len])
    intro k h1 h2
    have hk : k < l.length := by simpa using h2
    rw [List.getElem_map, List.getElem_map, upL_at hk]
    unfold upC freeC
    simp only
    by_cases h0 : 0 < l[k].ref
    · rw [decide_eq_false (by omega), decide_eq_false (by omega)]
    · rw [count_unused h hk h0]; simp
  have h1 : ∀ m : List HC, m.countP freeC = (m.map freeC).countP id := fun m => by rw [List.countP_map]; rfl
  rw [h1, h1, e]
theorem upL_right {l : List HC} {ps : List Int} {keep : Int} (h : ∀ p ∈ ps, usedC l p = true) (hr : rightH ⟨l, keep⟩ = true) (hs : ∀ k (hk : k < l.length), l[k].ref ≤ 1000000) (hp : ps.length ≤ 100) : rightH ⟨upL l ps, keep⟩ = true := by
  obtain ⟨h1, h2⟩ := rightH_iff hr
  refine rightH_yes (by rw [upL_len]; exact h1) fun k hk => ?_
  have hk' : k < l.length := by rw [upL_len] at hk; exact hk
  rw [upL_len, upL_at hk']
  have hc : ps.count (k : Int) ≤ ps.length := List.count_le_length
  have hsk := hs k hk'
  by_cases h0 : 0 < l[k].ref
  · exact cellR_used (h2 k hk') h0 _ (by omega) (by omega)
  · have e : upC ps k l[k] = l[k] := by
      unfold upC
      rw [count_unused h hk' h0]
      simp
    rw [e]
    exact h2 k hk'
theorem told_all {l : List HC} {leaf : Bool} {it : List It} (h : leadsC l leaf it = true) : ∀ p ∈ toldL leaf it, usedC l p = true := by
  rw [leads_told, List.all_eq_true] at h
  exact h
theorem told_len (leaf : Bool) (it : List It) : (toldL leaf it).length ≤ it.length := by unfold toldL; split <;> simp
theorem places_leads {l : List HC} {leaf : Bool} {it : List It} (h : leadsC l leaf it = true) : placesC l.length leaf it = true := by
  rw [places_told]
  have h1 := told_all h
  have : (toldL leaf it).any (fun p => !isPl p l.length) = false := by
    rw [List.any_eq_false]
    intro p hp
    obtain ⟨k, hk, rfl, _⟩ := usedC_iff (h1 p hp)
    unfold isPl
    rw [decide_eq_true (by omega), decide_eq_true (by omega)]
    simp
  rw [this]; rfl
/-- What is laid: each cell held once more for each item that tells it, but those that are held already; the node in the first free cell. -/
theorem alloc_up {l : List HC} {leaf : Bool} {it : List It} {held : List Int} {q : Nat} (hg : (ndR it && leadsC l leaf it) = true) (hq : q < l.length) (hf : firstF l = q) :
    allocL l leaf it held = (upL l ((toldL leaf it).filter (fun x => !inL held x))).set q ⟨1, false, leaf, it⟩ := by
  rw [(alloc_ok (held := held) hg hq hf).2.2, ← more_told]
  rw [Bool.and_eq_true] at hg
  rw [more_up (fun p hp => told_all hg.2 p (List.mem_filter.1 hp).1)]
theorem first_free {l : List HC} {keep : Int} (hr : rightH ⟨l, keep⟩ = true) {q : Nat} (hq : q < l.length) (hf : firstF l = q) : l[q] = ⟨0, false, false, []⟩ := by
  have h1 : stopC l[q] = true := by
    unfold firstF at hf
    exact ((List.findIdx_eq hq).1 hf).1
  rw [free_stop (right_ref hr q hq).1] at h1
  have h2 := (rightH_iff hr).2 q hq
  unfold freeC at h1
  simp only [Bool.and_eq_true, decide_eq_true_eq, Bool.not_eq_true'] at h1
  unfold cellR at h2
  rw [if_pos h1.1] at h2
  simp only [Bool.and_eq_true, Bool.not_eq_true', decide_eq_true_eq] at h2
  have h3 := List.eq_nil_of_length_eq_zero h2.2
  generalize l[q] = x at *
  obtain ⟨a, b, c, d⟩ := x
  simp only at h1 h2 h3
  rw [h1.1, h1.2, h2.1, h3]
theorem first_ahead {l : List HC} {keep : Int} (hr : rightH ⟨l, keep⟩ = true) {q : Nat} (hq : q < l.length) (hf : firstF l = q) {k : Nat} (hk : k < l.length) (hkq : k ≤ q) : freeC l[k] = decide (k = q) := by
  rcases Nat.lt_or_ge k q with h | h
  · unfold firstF at hf
    have h1 := ((List.findIdx_eq hq).1 hf).2 k h
    rw [free_stop (right_ref hr k hk).1] at h1
    rw [h1, decide_eq_false (by omega)]
  · obtain rfl : k = q := by omega
    rw [first_free hr hk hf, decide_eq_true rfl]
    rfl
/-- What is laid, whatever is held already, is right, and has a free cell less. -/
theorem alloc_right {l : List HC} {leaf : Bool} {it : List It} {held : List Int} {keep : Int} {q : Nat} (hr : rightH ⟨l, keep⟩ = true) (hs : ∀ k (hk : k < l.length), l[k].ref ≤ 1000000) (hg : (ndR it && leadsC l leaf it) = true) (hq : q < l.length) (hf : firstF l = q) :
    rightH ⟨allocL l leaf it held, keep⟩ = true ∧ (allocL l leaf it held).countP freeC + 1 = l.countP freeC ∧ (allocL l leaf it held).length = l.length := by
  rw [alloc_up hg hq hf]
  have hg2 := hg
  rw [Bool.and_eq_true] at hg2
  have hu : ∀ p ∈ (toldL leaf it).filter (fun x => !inL held x), usedC l p = true := fun p hp => told_all hg2.2 p (List.mem_filter.1 hp).1
  have hlen : ((toldL leaf it).filter (fun x => !inL held x)).length ≤ 100 := by
    have h1 := List.length_filter_le (fun x => !inL held x) (toldL leaf it)
    have h2 := told_len leaf it
    have h3 := ((ndR_iff it).1 hg2.1).1
    omega
  refine ⟨right_set (upL_right hu hr hs hlen) q _ ?_, ?_, by rw [List.length_set, upL_len]⟩
  · unfold cellR
    rw [if_neg (by simp)]
    simp only
    rw [hg2.1, upL_len, places_leads hg2.2]
    rfl
  · have h1 := countP_set1 freeC (upL l ((toldL leaf it).filter (fun x => !inL held x))) q (by rw [upL_len]; exact hq) ⟨1, false, leaf, it⟩
    rw [upL_free hu (fun k hk => (right_ref hr k hk).1), upL_at hq, first_free hr hq hf] at h1
    have h2 : freeC (upC ((toldL leaf it).filter (fun x => !inL held x)) q ⟨0, false, false, []⟩) = true := by
      unfold upC freeC
      rw [count_unused hu hq (by rw [first_free hr hq hf]; simp)]
      rfl
    rw [h2] at h1
    have h3 : freeC ⟨1, false, leaf, it⟩ = false := rfl
    rw [h3] at h1
    simp only [if_true, Bool.false_eq_true, if_false] at h1
    omega
/-- What is laid, and loosed again, is as it was, but for its Pin. -/
theorem alloc_back {l : List HC} {leaf : Bool} {it : List It} {keep : Int} {q : Nat} (hr : rightH ⟨l, keep⟩ = true) (hg : (ndR it && leadsC l leaf it) = true) (hq : q < l.length) (hf : firstF l = q) :
    looseE ⟨allocL l leaf it [], keep⟩ (q : Int) = 0 ∧ looseL ((allocL l leaf it []).length + 1) (allocL l leaf it []) (q : Int) = l.set q ⟨0, true, false, []⟩ := by
  have hg2 := hg
  rw [Bool.and_eq_true] at hg2
  have ef : (toldL leaf it).filter (fun x => !inL [] x) = toldL leaf it := by
    rw [List.filter_eq_self]; intro x _; rfl
  have ha := alloc_up (held := []) hg hq hf
  rw [ef] at ha
  have hlen : (allocL l leaf it []).length = l.length := by rw [ha, List.length_set, upL_len]
  have hq' : q < (allocL l leaf it []).length := by rw [hlen]; exact hq
  have hat : (allocL l leaf it [])[q] = ⟨1, false, leaf, it⟩ := by simp only [ha, List.getElem_set_self]
  have hu : usedC (allocL l leaf it []) (q : Int) = true := by rw [usedC_at hq', hat]; rfl
  refine ⟨by unfold looseE usedH; simp only [hu]; rfl, ?_⟩
  rw [looseL_told _ hq' hu (by rw [hat]; simp), hat, hlen]
  simp only
  rw [ha, List.set_set]
  obtain ⟨f, hf9⟩ : ∃ f, l.length = f + 1 := ⟨l.length - 1, by omega⟩
  rw [hf9]
  exact loose_up hr (fun hk => by rw [first_free hr hk hf]; simp) _ f _ (told_all hg2.2)
theorem alloc_cell {l : List HC} {leaf : Bool} {it : List It} {held : List Int} {q : Nat} (hg : (ndR it && leadsC l leaf it) = true) (hq : q < l.length) (hf : firstF l = q) (hq' : q < (allocL l leaf it held).length) : (allocL l leaf it held)[q] = ⟨1, false, leaf, it⟩ := by
  simp only [alloc_up hg hq hf, List.getElem_set_self]
theorem alloc_other {l : List HC} {leaf : Bool} {it : List It} {held : List Int} {q : Nat} (hg : (ndR it && leadsC l leaf it) = true) (hq : q < l.length) (hf : firstF l = q) {k : Nat} (hk : k < l.length) (hkq : k ≠ q) (hk' : k < (allocL l leaf it held).length) :
    (allocL l leaf it held)[k] = ⟨l[k].ref + ((if inL held (k : Int) then 0 else (toldL leaf it).count (k : Int) : Nat) : Int), l[k].pin, l[k].leaf, l[k].it⟩ := by
  simp only [alloc_up hg hq hf]
  rw [List.getElem_set_ne (Ne.symm hkq), upL_at hk]
  unfold upC
  cases hi : inL held (k : Int)
  · rw [List.count_filter (by rw [hi]; rfl)]
    simp
  · have h0 : ((toldL leaf it).filter (fun x => !inL held x)).count (k : Int) = 0 := by
      rw [List.count_eq_zero]
      intro hm
      have := (List.mem_filter.1 hm).2
      rw [hi] at this
      cases this
    rw [h0]
    simp
end Go.Proofs.YtbfbpddfcakieaaGreat
namespace Go.Proofs.YtbfbpddfcakieaaGreat
open Go.RowKit
attribute [local go_sem ↓] Go.wp_at_zero Go.wp_at_succ

theorem flatMap_le {α β : Type} (f : α → List β) (b : Nat) : ∀ (l : List α), (∀ x ∈ l, (f x).length ≤ b) → (l.flatMap f).length ≤ l.length * b
  | [], _ => by simp
  | x :: l, h => by
    rw [List.flatMap_cons, List.length_append, List.length_cons, Nat.succ_mul, Nat.add_comm]
    exact Nat.add_le_add (flatMap_le f b l (fun y hy => h y (List.mem_cons_of_mem _ hy))) (h x List.mem_cons_self)
/-- How many items there are at most. -/
theorem listB_len (l : List HC) (hl : AllR l) : ∀ (m : Nat) (p : Int), 0 ≤ p → p < l.length → (bel l m p).is = true → (listB l m p).length ≤ 4 ^ m
  | 0, p, h0, h1, h => (bel_zero h).elim
  | m + 1, p, h0, h1, h => by
    obtain ⟨k, rfl⟩ := Int.eq_ofNat_of_zero_le h0
    have hk : k < l.length := by omega
    obtain ⟨hr, hc⟩ := bel_is h
    rw [cellT_at hk] at hr hc
    have hok := cell_ok (hl k hk) hr
    have hp : 0 < 4 ^ m := Nat.pow_pos (by omega)
    unfold listB
    rw [cellT_at hk, Nat.pow_succ]
    rcases hc with ⟨hlf, _⟩ | ⟨hlf, _, hch⟩
    · rw [hlf, if_pos rfl]
      have := hok.1.1
      omega
    · rw [hlf]
      simp only [Bool.false_eq_true, if_false]
      have h2 := flatMap_le (fun x => listB l m x.2) (4 ^ m) l[k].it (fun x hx => listB_len l hl m x.2 (hok.2 hlf x hx).1 (by have := (hok.2 hlf x hx).2; omega) (hch x hx).1)
      have h3 := Nat.mul_le_mul_right (4 ^ m) hok.1.1.2
      omega
theorem flatMap_take {α β : Type} (f : α → List β) (l : List α) {j : Nat} (hj : j < l.length) : (l.take (j + 1)).flatMap f = (l.take j).flatMap f ++ f l[j] := by
  rw [List.take_succ_eq_append_getElem hj, List.flatMap_append]; simp
theorem flatMap_take_le {α β : Type} (f : α → List β) (l : List α) (j : Nat) : ((l.take j).flatMap f).length ≤ (l.flatMap f).length := by
  have h : l.flatMap f = (l.take j).flatMap f ++ (l.drop j).flatMap f := by rw [← List.flatMap_append, List.take_append_drop]
  rw [h, List.length_append]; omega
set_option maxRecDepth 100000 in
set_option maxHeartbeats 3200000 in
theorem ref07List_bel (l : List HC) (hl : AllR l) (hn : l.length ≤ 2000) : ∀ (m : Nat) (p : Int) (R : Option Addr) (n q : Nat) (keep : Int) (w : World), m ≤ 20 → 0 ≤ p → p < l.length → (bel l m p).is = true → HcSl w R n q l →
    Calls Tryz.prog 18 #[.agg #[.slice R n q, .int .i64 keep], .int .i64 p] w fun e w' => ∃ S s d, e = .returned (.slice S s d) ∧ s = (listB l m p).length ∧ Sl w' S s d (ivs (listB l m p)) ∧ Ext w w'
  | 0, p, R, n, q, keep, w, hm, h0, h1, h, hA => (bel_zero h).elim
  | m + 1, p, R, n, q, keep, w, hm, h0, h1, h, hA => by
    obtain ⟨k, rfl⟩ := Int.eq_ofNat_of_zero_le h0
    have hk : k < l.length := by omega
    have hnl := hA.1
    have hlen0 := listB_len l hl (m + 1) (k : Int) h0 h1 h
    obtain ⟨hr, hc⟩ := bel_is h
    rw [cellT_at hk] at hr hc
    have hx0 := (Ext.refl w).alloc (.cells #[.slice R n q, .int .i64 keep] 24)
    have HB0 := Lib.hid (Bx.new w #[.slice R n q, .int .i64 keep] 24)
    have HX := Lib.hid hx0
    obtain ⟨p0, p1, p2⟩ := HB0.out.read2
    obtain ⟨b, off, rfl, hbl, A, c, r0, r1, r2, r3, hI⟩ := (hA.ext hx0).cell hk
    have hok := cell_ok (hl k hk) hr
    have hkn : k < n := by omega
    have hlen := hok.1.1
    have he : listB l (m + 1) (k : Int) = if l[k].leaf then l[k].it else l[k].it.flatMap (fun x => listB l m x.2) := by rw [listB, cellT_at hk]
    rcases hc with ⟨hlf, hb⟩ | ⟨hlf, hb, hch⟩
    · rw [hlf, if_pos rfl] at he
      rw [he]
      rw [hlf] at r2
      have HI := Lib.hid (hI.ext ((Ext.refl _).alloc (.cells #[.bool true, .slice A l[k].it.length c] 51)))
      generalize hit : l[k].it = it at *
      obtain ⟨li, hli⟩ : ∃ li, it.length = li := ⟨_, rfl⟩
      rw [hli] at HI r3 hlen
      have HLI := Lib.hid hli
      clear hb h hok hA hI hx0 hnl hr hlf h0 h1 he hit hli hlen0
      go_enter Tryz.func18, Tryz.ntmps18
      go_wp2
      go_ret
      exact ⟨A, li, c, rfl, HLI.out.symm, HI.out, HX.out.alloc _⟩
    · rw [hlf] at he
      simp only [Bool.false_eq_true, if_false] at he
      rw [he]
      rw [he] at hlen0
      rw [hlf] at r2
      have HIH := Lib.hid (fun j (hj : j < l[k].it.length) w' (hx : Ext w w') => ref07List_bel l hl hn m l[k].it[j].2 (some ⟨b, off, none⟩) n q keep w' (by omega) (hok.2 hlf _ (List.getElem_mem hj)).1 (by have := (hok.2 hlf _ (List.getElem_mem hj)).2; omega) (hch _ (List.getElem_mem hj)).1 (hA.ext hx))
      have hst : Ext (w.alloc (.cells #[.slice (some ⟨b, off, none⟩) n q, .int .i64 keep] 24)) ((w.alloc (.cells #[.slice (some ⟨b, off, none⟩) n q, .int .i64 keep] 24)).alloc (.cells #[.bool false, .slice A l[k].it.length c] 51)) := (Ext.refl _).alloc _
      have HI := Lib.hid (hI.ext hst)
      have HBN := Lib.hid (Bx.new (w.alloc (.cells #[.slice (some ⟨b, off, none⟩) n q, .int .i64 keep] 24)) #[.bool false, .slice A l[k].it.length c] 51)
      have HBH := Lib.hid (HB0.out.ext hst)
      have HX1 := Lib.hid (hx0.trans hst)
      rw [World.size_alloc] at HBN
      generalize hit : l[k].it = it at *
      obtain ⟨li, hli⟩ : ∃ li, it.length = li := ⟨_, rfl⟩
      rw [hli] at HI r3 hlen HBN HBH HX1
      have HLI := Lib.hid hli
      have HLE := Lib.hid (show (it.flatMap (fun x => listB l m x.2)).length ≤ 1099511627776 from Nat.le_trans hlen0 (Nat.le_trans (Nat.pow_le_pow_right (by omega) hm) (by decide)))
      clear hb h hok hA hI hx0 hnl hr hlf h0 h1 he hit hli hlen0 hst hch HB0
      obtain ⟨F, hF⟩ : ∃ F : It → List It, (fun x => listB l m x.2) = F := ⟨_, rfl⟩
      rw [hF] at HLE
      rw [hF]
      have HIH := Lib.hid (fun j (hj : j < it.length) w' (hx : Ext w w') => (show Calls Tryz.prog 18 #[.agg #[.slice (some ⟨b, off, none⟩) n q, .int .i64 keep], .int .i64 it[j].2] w' fun e w2 => ∃ S s d, e = .returned (.slice S s d) ∧ s = (F it[j]).length ∧ Sl w2 S s d (ivs (F it[j])) ∧ Ext w' w2 from by rw [← hF]; exact HIH.out j hj w' hx))
      clear hF
      go_enter Tryz.func18, Tryz.ntmps18
      go_wp2
      generalize World.alloc (World.alloc w _) _ = W at *
      clear p0 p1 p2 r0 r1 r2 r3 hbl HX
      go_loopw [6, 7] (fun v i wr => ∃ (j t : Nat) (S : Option Addr) (d : Nat), j ≤ li ∧ i = .int .i64 j ∧ v = .slice S t d ∧ t = ((it.take j).flatMap F).length ∧ wr.ownsRow W.heap.size 46 2 (.slice S t d) t (ivs ((it.take j).flatMap F)) ∧ Ext W wr) (fun _ i _ => li - (intOf i).toNat)
      case atStart => exact ⟨0, 0, none, 0, Nat.zero_le _, rfl, rfl, by simp, by rw [List.take_zero, List.flatMap_nil]; exact ⟨rfl, .inl ⟨rfl, rfl⟩⟩, Ext.refl _⟩
      case round =>
        obtain ⟨j, t, S, d, hj, rfl, rfl, ht, ho, hx⟩ := hrel
        have HT := Lib.hid ht
        have HO := Lib.hid ho
        have HXR := Lib.hid hx
        obtain ⟨p0, p1, p2⟩ := (HBH.out.ext hx).read2
        obtain ⟨r0, r1, r2⟩ := (HBN.out.ext hx).read2
        rcases Nat.lt_or_ge j li with hlt | hlt
        · have hjl : j < it.length := by rw [HLI.out]; exact hlt
          obtain ⟨b2, off2, rfl, hb2, i0, i1⟩ := it_at HI.out hjl
          have i0 := (hx.cell (p := ⟨b2, off2 + j * 2, none⟩) hb2).trans i0
          have i1 := (hx.cell (p := ⟨b2, off2 + j * 2 + 1, none⟩) hb2).trans i1
          have hji : (j : Int) < (li : Int) := by omega
          have HTK := Lib.hid (flatMap_take F it hjl)
          have HTL := Lib.hid (show ((it.take (j + 1)).flatMap F).length ≤ 1099511627776 from Nat.le_trans (flatMap_take_le F it (j + 1)) HLE.out)
          have HCL := Lib.hid (fun w' (hx : Ext w w') => HIH.out j hjl w' hx)
          have HM := Lib.hid (HX1.out.trans hx)
          generalize it[j].2 = V at *
          generalize it[j].1 = K at *
          generalize it[j] = xj at *
          clear ht ho hjl
          go_wp2
          go_region_law
            (first
              | ((go_simp
                  go_at_call 18
                  refine (HCL.out _ ?_).mono ?_
                  (first | exact HM.out.drew | exact HM.out)
                  rintro e w4 ⟨S4, s4, d4, rfl, hs4, hsl4, hx4⟩
                  have E4 := Lib.hid (show Ext wr w4 from by first | exact (Ext.refl _).drew.trans hx4 | exact hx4)
                  have N4 := Lib.hid hs4
                  have S4H := Lib.hid hsl4
                  clear hs4 hsl4 hx4))
              | ((refine step_app_sl ?_ ?_ ?_ 47 ?_ W.heap.size 46 (.agg #[.int .i64 0, .int .i64 0]) 2 16 Tryz.underlying47 infoIt rfl Nat.two_pos ?_ t (ivs ((it.take j).flatMap F)) ?_ ?_ S4 s4 d4 (ivs (F xj)) ?_ (by rw [ivs_length, N4.out]) S4H.out (ivs_oneCell _) ?_ ?_ ?_ ?_
                  rfl
                  rotate_left 2
                  rfl
                  rotate_left 1
                  rfl
                  (exact own_ext HO.out E4.out)
                  rfl
                  (have h1 := HTL.out; rw [HTK.out, List.length_append, ← HT.out, ← N4.out] at h1; unfold maxLen; omega)
                  (have h1 := HTL.out; rw [HTK.out, List.length_append, ← HT.out, ← N4.out] at h1; omega)
                  (exact (HXR.out.trans E4.out).size)
                  intro A5 d5 w5 hown hg
                  have HX5 := Lib.hid (Ext.app (HXR.out.trans E4.out) (own_ext HO.out E4.out) (Nat.le_refl _) hg)
                  rw [← ivs_append, ← HTK.out] at hown
                  have HO5 := Lib.hid hown
                  clear hown hg)))
          all_goals
            go_wp2_with fail
            go_roundw
            case rel => exact ⟨j + 1, t + s4, A5, d5, by omega, by go_num, rfl, by rw [HTK.out, List.length_append, ← HT.out, ← N4.out], HO5.out, HX5.out⟩
            case measure => simp [intOf]; omega
        · obtain rfl : li = j := by omega
          have d0 : decide ((li : Int) < (li : Int)) = false := decide_eq_false (by omega)
          have HE := Lib.hid (show it.take li = it by rw [← HLI.out, List.take_length])
          rw [HE.out] at HT HO
          clear ht ho hlt
          go_wp2
          go_ret
          exact ⟨S, t, d, rfl, HT.out, own_sl HO.out, HX1.out.trans HXR.out⟩
end Go.Proofs.YtbfbpddfcakieaaGreat
namespace Go.Proofs.YtbfbpddfcakieaaGreat
open Go.RowKit

def Asc (xs : List It) : Prop := xs.Pairwise (fun a b => a.1 < b.1)
/-- Items that rise, from the key lo to the key hi. -/
structure Spans (xs : List It) (lo hi : Int) : Prop where
  asc : Asc xs
  head : ∃ y r, xs = y :: r ∧ y.1 = lo
  last : ∃ y ∈ xs, y.1 = hi
  le : ∀ x ∈ xs, x.1 ≤ hi
  ok : ∀ x ∈ xs, okIt x
theorem Spans.ge {xs : List It} {lo hi : Int} (h : Spans xs lo hi) : ∀ x ∈ xs, lo ≤ x.1 := by
  obtain ⟨y, r, rfl, rfl⟩ := h.head
  intro x hx
  rcases List.mem_cons.1 hx with rfl | hx
  · exact Int.le_refl _
  · exact Int.le_of_lt ((List.pairwise_cons.1 h.asc).1 x hx)
theorem Spans.le2 {xs : List It} {lo hi : Int} (h : Spans xs lo hi) : lo ≤ hi := by
  obtain ⟨y, hy, rfl⟩ := h.last
  exact h.ge y hy
theorem asc_of {xs : List It} (h : NdR xs) : Asc xs := by
  unfold Asc
  rw [List.pairwise_iff_getElem]
  intro i j hi hj hij
  exact h.rise j i hj hij
theorem spans_leaf {xs : List It} (h : NdR xs) : Spans xs (firstK xs) (lastK xs) := by
  have hlen := h.1.1
  refine ⟨asc_of h, ?_, ?_, ?_, h.ok⟩
  · cases xs with
    | nil => simp at hlen
    | cons y r => exact ⟨y, r, rfl, rfl⟩
  · refine ⟨xs[xs.length - 1], List.getElem_mem _, ?_⟩
    unfold lastK
    rw [List.getD_eq_getElem?_getD, List.getElem?_eq_getElem (by omega)]
    rfl
  · intro x hx
    obtain ⟨i, hi, rfl⟩ := List.mem_iff_getElem.1 hx
    unfold lastK
    rw [List.getD_eq_getElem?_getD, List.getElem?_eq_getElem (by omega)]
    show xs[i].1 ≤ xs[xs.length - 1].1
    rcases Nat.lt_or_ge i (xs.length - 1) with h' | h'
    · exact Int.le_of_lt (h.rise (xs.length - 1) i (by omega) h')
    · have : i = xs.length - 1 := by omega
      subst this
      exact Int.le_refl _
theorem Spans.app {xs ys : List It} {a b c d : Int} (h : Spans xs a b) (k : Spans ys c d) (hbc : b < c) : Spans (xs ++ ys) a d := by
  refine ⟨?_, ?_, ?_, ?_, ?_⟩
  · unfold Asc
    rw [List.pairwise_append]
    exact ⟨h.asc, k.asc, fun x hx y hy => by have h1 := h.le x hx; have h2 := k.ge y hy; omega⟩
  · obtain ⟨y, r, rfl, hy⟩ := h.head
    exact ⟨y, r ++ ys, rfl, hy⟩
  · obtain ⟨y, hy, e⟩ := k.last
    exact ⟨y, List.mem_append_right _ hy, e⟩
  · intro x hx
    rcases List.mem_append.1 hx with hx | hx
    · have h1 := h.le x hx; have h2 := k.le2; omega
    · exact k.le x hx
  · intro x hx
    rcases List.mem_append.1 hx with hx | hx
    · exact h.ok x hx
    · exact k.ok x hx
/-- Rows whose parts span what is found of them: all of it spans from the first part's least key to the last one's greatest. -/
theorem spans_row {f : Int → Gt} {g : Int → List It} : ∀ {r : List It} {i : Nat} {o : Gt} {xs : List It}, (∀ x ∈ r, Spans (g x.2) (f x.2).lo (f x.2).hi) → (belRow f i r o).is = true →
    0 < i → Spans xs o.lo o.hi → Spans (xs ++ r.flatMap (fun x => g x.2)) (belRow f i r o).lo (belRow f i r o).hi
  | [], i, o, xs, _, _, _, h => by simpa [belRow] using h
  | x :: r, i, o, xs, hg, hb, hi, h => by
    unfold belRow at hb ⊢
    cases hbad : badR i x (f x.2) o
    · rw [hbad] at hb
      simp only [Bool.false_eq_true, if_false] at hb ⊢
      unfold badR at hbad
      simp only [Bool.or_eq_false_iff, Bool.and_eq_false_iff, decide_eq_false_iff_not] at hbad
      have hlt : o.hi < (f x.2).lo := by
        rcases hbad.2.2 with b | b
        · omega
        · omega
      have h1 := h.app (hg x List.mem_cons_self) hlt
      have hnx : (nextR i (f x.2) o).lo = o.lo ∧ (nextR i (f x.2) o).hi = (f x.2).hi := by
        unfold nextR
        simp only
        rw [if_neg (by omega)]
        exact ⟨rfl, trivial⟩
      rw [← hnx.1, ← hnx.2] at h1
      have h2 := spans_row (fun y hy => hg y (List.mem_cons_of_mem _ hy)) hb (by omega) h1
      rw [List.flatMap_cons, ← List.append_assoc]
      exact h2
    · rw [hbad] at hb; simp [Gt.no] at hb
/-- A right tree's items span from its least key to its greatest. -/
theorem listB_spans (l : List HC) (hl : AllR l) : ∀ (m : Nat) (p : Int), 0 ≤ p → p < l.length → (bel l m p).is = true → Spans (listB l m p) (bel l m p).lo (bel l m p).hi
  | 0, p, _, _, h => (bel_zero h).elim
  | m + 1, p, h0, h1, h => by
    obtain ⟨k, rfl⟩ := Int.eq_ofNat_of_zero_le h0
    have hk : k < l.length := by omega
    obtain ⟨hr, hc⟩ := bel_is h
    rw [cellT_at hk] at hr hc
    have hok := cell_ok (hl k hk) hr
    unfold listB
    rw [cellT_at hk]
    rcases hc with ⟨hlf, e⟩ | ⟨hlf, e, hch⟩
    · rw [hlf, if_pos rfl, e]
      exact spans_leaf hok.1
    · rw [hlf]
      simp only [Bool.false_eq_true, if_false]
      rw [e] at h ⊢
      have hg : ∀ x ∈ l[k].it, Spans (listB l m x.2) (bel l m x.2).lo (bel l m x.2).hi := fun x hx => listB_spans l hl m x.2 (hok.2 hlf x hx).1 (by have := (hok.2 hlf x hx).2; omega) (hch x hx).1
      have hlen := hok.1.1.1
      generalize l[k].it = it at *
      cases it with
      | nil => simp at hlen
      | cons x r =>
        unfold belRow at h ⊢
        cases hbad : badR 0 x (bel l m x.2) Gt.no
        · rw [hbad] at h
          simp only [Bool.false_eq_true, if_false] at h ⊢
          have h1 := hg x List.mem_cons_self
          have hnx : (nextR 0 (bel l m x.2) Gt.no).lo = (bel l m x.2).lo ∧ (nextR 0 (bel l m x.2) Gt.no).hi = (bel l m x.2).hi := ⟨rfl, rfl⟩
          rw [← hnx.1, ← hnx.2] at h1
          rw [List.flatMap_cons]
          exact spans_row (fun y hy => hg y (List.mem_cons_of_mem _ hy)) h (by omega) h1
        · rw [hbad] at h; simp [Gt.no] at h
/-- In items that rise each key stands once. -/
theorem asc_one {xs : List It} (h : Asc xs) : ∀ x ∈ xs, ∀ y ∈ xs, x.1 = y.1 → x = y := by
  induction xs with
  | nil => intro x hx; cases hx
  | cons z r ih =>
    intro x hx y hy e
    obtain ⟨h1, h2⟩ := List.pairwise_cons.1 h
    rcases List.mem_cons.1 hx with e1 | e1 <;> rcases List.mem_cons.1 hy with e2 | e2
    · rw [e1, e2]
    · have := h1 y e2; rw [e1] at e; omega
    · have := h1 x e1; rw [e2] at e; omega
    · exact ih h2 x e1 y e2 e
theorem getL_iff {xs : List It} (h : Asc xs) (k v : Int) : (xs.find? (fun x => decide (x.1 = k))).map (·.2) = some v ↔ (k, v) ∈ xs := by
  cases hf : xs.find? (fun x => decide (x.1 = k)) with
  | none =>
    have h1 := List.find?_eq_none.1 hf
    constructor
    · intro h; cases h
    · intro hm; have := h1 _ hm; simp at this
  | some z =>
    have h1 := List.find?_some hf
    have h2 := List.mem_of_find?_eq_some hf
    simp only [decide_eq_true_eq] at h1
    constructor
    · intro he
      have : z.2 = v := by simpa using he
      rw [← h1, ← this]; exact h2
    · intro hm
      have := asc_one h z h2 (k, v) hm h1
      subst this
      rfl
def inR (lo hi : Int) (x : It) : Bool := decide (lo ≤ x.1) && decide (x.1 < hi)
/-- Scans of two parts, one behind the other, are the scan of both. -/
theorem filter_parts {xs : List It} (h : Asc xs) {lo mid hi : Int} (h1 : lo ≤ mid) (h2 : mid ≤ hi) : xs.filter (inR lo mid) ++ xs.filter (inR mid hi) = xs.filter (inR lo hi) := by
  induction xs with
  | nil => rfl
  | cons z r ih =>
    obtain ⟨h3, h4⟩ := List.pairwise_cons.1 h
    have ih := ih h4
    simp only [List.filter_cons]
    by_cases hz : z.1 < mid
    · have e1 : inR mid hi z = false := by unfold inR; rw [decide_eq_false (show ¬ mid ≤ z.1 by omega)]; rfl
      have e2 : inR lo mid z = inR lo hi z := by unfold inR; rw [decide_eq_true hz, decide_eq_true (show z.1 < hi by omega)]
      rw [e1, e2]
      cases inR lo hi z
      · simpa using ih
      · simpa using ih
    · have e0 : ∀ y ∈ z :: r, inR lo mid y = false := by
        intro y hy
        have : z.1 ≤ y.1 := by
          rcases List.mem_cons.1 hy with rfl | hy
          · exact Int.le_refl _
          · exact Int.le_of_lt (h3 y hy)
        unfold inR
        rw [decide_eq_false (show ¬ y.1 < mid by omega)]; simp
      have e1 : r.filter (inR lo mid) = [] := by
        rw [List.filter_eq_nil_iff]
        intro y hy
        rw [e0 y (List.mem_cons_of_mem _ hy)]
        simp
      have e2 : inR mid hi z = inR lo hi z := by unfold inR; rw [decide_eq_true (show mid ≤ z.1 by omega), decide_eq_true (show lo ≤ z.1 by omega)]
      rw [e0 z List.mem_cons_self, e2]
      rw [e1] at ih ⊢
      simp only [List.nil_append] at ih
      cases inR lo hi z
      · simpa using ih
      · simpa using ih
end Go.Proofs.YtbfbpddfcakieaaGreat
namespace Go.Proofs.YtbfbpddfcakieaaGreat
open Go.RowKit
attribute [local go_sem ↓] Go.wp_at_zero Go.wp_at_succ

/-- How many nodes there are at most. -/
theorem nodesB_len (l : List HC) (hl : AllR l) : ∀ (m : Nat) (p : Int), 0 ≤ p → p < l.length → (bel l m p).is = true → (nodesB l m p).length + 1 ≤ 2 * 4 ^ m
  | 0, p, h0, h1, h => (bel_zero h).elim
  | m + 1, p, h0, h1, h => by
    obtain ⟨k, rfl⟩ := Int.eq_ofNat_of_zero_le h0
    have hk : k < l.length := by omega
    obtain ⟨hr, hc⟩ := bel_is h
    rw [cellT_at hk] at hr hc
    have hok := cell_ok (hl k hk) hr
    have hp : 0 < 4 ^ m := Nat.pow_pos (by omega)
    unfold nodesB
    rw [cellT_at hk, Nat.pow_succ]
    rcases hc with ⟨hlf, _⟩ | ⟨hlf, _, hch⟩
    · rw [hlf, if_pos rfl]
      simp only [List.length_cons, List.length_nil]
      omega
    · rw [hlf]
      simp only [Bool.false_eq_true, if_false, List.length_cons]
      have h2 := flatMap_le (fun x => nodesB l m x.2) (2 * 4 ^ m - 1) l[k].it (fun x hx => by have := nodesB_len l hl m x.2 (hok.2 hlf x hx).1 (by have := (hok.2 hlf x hx).2; omega) (hch x hx).1; omega)
      have h3 := Nat.mul_le_mul_right (2 * 4 ^ m - 1) hok.1.1.2
      omega
theorem infoI1 : (Tryz.prog.info? 3).map (fun i => (i.zero, i.size, i.bytes)) = some (some (.int .i64 0), 1, 8) := by kernel_rfl
theorem iv_one (l : List Int) : ∀ u ∈ l.map iv, u.oneCell' = true := by
  intro u hu
  obtain ⟨_, _, rfl⟩ := List.mem_map.1 hu
  rfl
/-- A row of numbers of the call's own is no node's box. -/
theorem own_ne {w : World} {B e n : Nat} {v : Value} {l : List Int} (h : w.ownsRow B e 1 v n (l.map iv)) (hl : l ≠ []) {x : Nat} {u : Value} {b : Bool} (hb : Bx w x #[.bool b, u]) : v.ownBlock ≠ some x := by
  intro hv
  rcases h.2 with ⟨h', h2⟩ | ⟨g, cap, cur, rfl, _⟩
  · have h1 := h.1
    subst h2
    apply hl
    simpa using h1
  · cases hv
    have h1 := h.1
    have hn : 0 < n * 1 := by
      rcases Nat.eq_zero_or_pos n with h0 | h0
      · exfalso; apply hl; subst h0; simpa using h1
      · omega
    have h2 := World.ownsRow.cellAt h 0 hn
    rw [hb.at 0 _ rfl] at h2
    cases l with
    | nil => exact hl rfl
    | cons y r => simp [iv] at h2
end Go.Proofs.YtbfbpddfcakieaaGreat
