/- Plain lemmas for the laws of layer 5: cells held once more for each place in a row; what is laid, and loosed again. -/
import Derived.Test.YtclpeeemnmhdcaaHeapQ
namespace Go.Proofs.Ytclpeeemnmhdcaa
open Go.RowKit

def upC (ps : List Int) (k : Nat) (c : HC) : HC := ⟨c.ref + (ps.count (k : Int) : Nat), c.pin, c.leaf, c.it⟩
/-- Each cell held once more for each time that its place stands in the row. -/
def upL (l : List HC) (ps : List Int) : List HC := l.mapIdx (upC ps)
theorem upL_len (l : List HC) (ps : List Int) : (upL l ps).length = l.length := by unfold upL; simp
theorem upL_at {l : List HC} {ps : List Int} {k : Nat} (hk : k < l.length) : (upL l ps)[k]'(by rw [upL_len]; exact hk) = upC ps k l[k] := by
  unfold upL; rw [List.getElem_mapIdx]
theorem upL_nil (l : List HC) : upL l [] = l := by
  apply List.ext_getElem (upL_len l [])
  intro k h1 h2
  rw [upL_at h2]
  unfold upC
  simp
theorem upL_same {l : List HC} {ps qs : List Int} (h : ∀ x, ps.count x = qs.count x) : upL l ps = upL l qs := by
  unfold upL
  congr 1
  funext k c
  unfold upC
  rw [h]
theorem upL_cons {l : List HC} {qs : List Int} {p : Nat} (hp : p < l.length) : moreI (upL l qs) (p : Int) = upL l ((p : Int) :: qs) := by
  unfold moreI
  rw [Int.toNat_natCast, getD_at (by rw [upL_len]; exact hp), upL_at hp]
  apply List.ext_getElem (by rw [List.length_set, upL_len, upL_len])
  intro k h1 h2
  rw [upL_len] at h2
  rw [List.getElem_set]
  split
  · rename_i e
    subst e
    rw [upL_at hp]
    unfold upC HC.more
    simp only [List.count_cons_self]
    have : l[p].ref + ((qs.count (p : Int) : Nat) : Int) + 1 = l[p].ref + ((qs.count (p : Int) + 1 : Nat) : Int) := by omega
    rw [this]
  · rename_i e
    rw [upL_at h2, upL_at h2]
    unfold upC
    rw [List.count_cons_of_ne (by omega)]
theorem upL_fold {l : List HC} : ∀ (ps qs : List Int), (∀ p ∈ ps, usedC l p = true) → ps.foldl moreI (upL l qs) = upL l (ps.reverse ++ qs)
  | [], qs, _ => rfl
  | p :: ps, qs, h => by
    obtain ⟨k, hk, rfl, _⟩ := usedC_iff (h p (by simp))
    rw [List.foldl_cons, upL_cons hk, upL_fold ps _ (fun x hx => h x (by simp [hx]))]
    simp
theorem more_up {l : List HC} {ps : List Int} (h : ∀ p ∈ ps, usedC l p = true) : ps.foldl moreI l = upL l ps := by
  have h1 := upL_fold ps [] h
  rw [upL_nil] at h1
  rw [h1]
  exact upL_same (fun x => by simp)
theorem count_unused {l : List HC} {ps : List Int} (h : ∀ p ∈ ps, usedC l p = true) {k : Nat} (hk : k < l.length) (h0 : ¬ 0 < l[k].ref) : ps.count (k : Int) = 0 := by
  rw [List.count_eq_zero]
  intro hm
  have := h _ hm
  rw [usedC_at hk] at this
  simp at this
  omega
theorem loose_up {l : List HC} {keep : Int} (hr : rightH ⟨l, keep⟩ = true) {q : Nat} (hq : ∀ hk : q < l.length, ¬ 0 < l[q].ref) (x : HC) (f : Nat) : ∀ (ps : List Int), (∀ p ∈ ps, usedC l p = true) → ps.foldl (looseL (f + 1)) ((upL l ps).set q x) = l.set q x
  | [], _ => by rw [upL_nil]; rfl
  | p :: ps, h => by
    obtain ⟨k, hk, rfl, hp⟩ := usedC_iff (h p (by simp))
    have hkq : ¬ q = k := fun e => by subst e; exact hq hk hp
    have hk' : k < ((upL l ((k : Int) :: ps)).set q x).length := by rw [List.length_set, upL_len]; exact hk
    have hg : ((upL l ((k : Int) :: ps)).set q x)[k] = upC ((k : Int) :: ps) k l[k] := by rw [List.getElem_set_ne hkq, upL_at hk]
    have hpn := used_nopin ((rightH_iff hr).2 k hk) hp
    have hu : usedC ((upL l ((k : Int) :: ps)).set q x) (k : Int) = true := by
      rw [usedC_at hk', hg]
      unfold upC
      simp only [decide_eq_true_eq]
      omega
    have hstep : looseL (f + 1) ((upL l ((k : Int) :: ps)).set q x) (k : Int) = (upL l ps).set q x := by
      rw [looseL_at f hk' hu, hg]
      have hc : (((k : Int) :: ps).count (k : Int)) = ps.count (k : Int) + 1 := List.count_cons_self ..
      rw [if_pos (by unfold upC; simp only; rw [hc]; omega)]
      apply List.ext_getElem (by simp [upL_len])
      intro j h1 h2
      have hj : j < l.length := by simpa [upL_len] using h2
      rw [List.getElem_set]
      split
      · rename_i e
        subst e
        rw [List.getElem_set_ne hkq, upL_at hj]
        unfold upC
        simp only
        rw [hc, hpn]
        have : l[k].ref + ((ps.count (k : Int) + 1 : Nat) : Int) - 1 = l[k].ref + ((ps.count (k : Int) : Nat) : Int) := by omega
        rw [this]
      · rename_i e
        rw [List.getElem_set, List.getElem_set]
        split
        · rfl
        · rw [upL_at hj, upL_at hj]
          unfold upC
          rw [List.count_cons_of_ne (by omega)]
    rw [List.foldl_cons, hstep]
    exact loose_up hr hq x f ps (fun y hy => h y (by simp [hy]))
theorem countP_set1 {α : Type} (p : α → Bool) : ∀ (l : List α) (k : Nat) (hk : k < l.length) (x : α), (l.set k x).countP p + (if p l[k] then 1 else 0) = l.countP p + (if p x then 1 else 0)
  | [], k, hk, _ => by simp at hk
  | y :: l, 0, _, x => by simp [List.countP_cons]; omega
  | y :: l, k + 1, hk, x => by
    have := countP_set1 p l k (by simpa using hk) x
    simp only [List.set_cons_succ, List.countP_cons, List.getElem_cons_succ]
    omega
theorem upL_free {l : List HC} {ps : List Int} (h : ∀ p ∈ ps, usedC l p = true) (_hr : ∀ k (hk : k < l.length), 0 ≤ l[k].ref) : (upL l ps).countP freeC = l.countP freeC := by
  have e : (upL l ps).map freeC = l.map freeC := by
    apply List.ext_getElem (by simp [upL_len])
    intro k h1 h2
    have hk : k < l.length := by simpa using h2
    rw [List.getElem_map, List.getElem_map, upL_at hk]
    unfold upC freeC
    simp only
    by_cases h0 : 0 < l[k].ref
    · rw [decide_eq_false (by omega), decide_eq_false (by omega)]
    · rw [count_unused h hk h0]; simp
  have h1 : ∀ m : List HC, m.countP freeC = (m.map freeC).countP id := fun m => by rw [List.countP_map]; rfl
  rw [h1, h1, e]
theorem upL_right {l : List HC} {ps : List Int} {keep : Int} (h : ∀ p ∈ ps, usedC l p = true) (hr : rightH ⟨l, keep⟩ = true) (hs : ∀ k (hk : k < l.length), l[k].ref ≤ 1000000) (hp : ps.length ≤ 100) : rightH ⟨upL l ps, keep⟩ = true := by
  obtain ⟨h1, h2⟩ := rightH_iff hr
  refine rightH_yes (by rw [upL_len]; exact h1) fun k hk => ?_
  have hk' : k < l.length := by rw [upL_len] at hk; exact hk
  rw [upL_len, upL_at hk']
  have hc : ps.count (k : Int) ≤ ps.length := List.count_le_length
  have hsk := hs k hk'
  by_cases h0 : 0 < l[k].ref
  · exact cellR_used (h2 k hk') h0 _ (by omega) (by omega)
  · have e : upC ps k l[k] = l[k] := by
      unfold upC
      rw [count_unused h hk' h0]
      simp
    rw [e]
    exact h2 k hk'
theorem told_all {l : List HC} {leaf : Bool} {it : List It} (h : leadsC l leaf it = true) : ∀ p ∈ toldL leaf it, usedC l p = true := by
  rw [leads_told, List.all_eq_true] at h
  exact h
theorem told_len (leaf : Bool) (it : List It) : (toldL leaf it).length ≤ it.length := by unfold toldL; split <;> simp
theorem places_leads {l : List HC} {leaf : Bool} {it : List It} (h : leadsC l leaf it = true) : placesC l.length leaf it = true := by
  rw [places_told]
  have h1 := told_all h
  have : (toldL leaf it).any (fun p => !isPl p l.length) = false := by
    rw [List.any_eq_false]
    intro p hp
    obtain ⟨k, hk, rfl, _⟩ := usedC_iff (h1 p hp)
    unfold isPl
    rw [decide_eq_true (by omega), decide_eq_true (by omega)]
    simp
  rw [this]; rfl
/-- What is laid: each cell held once more for each item that tells it, but those that are held already; the node in the first free cell. -/
theorem alloc_up {l : List HC} {leaf : Bool} {it : List It} {held : List Int} {q : Nat} (hg : (ndR it && leadsC l leaf it) = true) (hq : q < l.length) (hf : firstF l = q) :
    allocL l leaf it held = (upL l ((toldL leaf it).filter (fun x => !inL held x))).set q ⟨1, false, leaf, it⟩ := by
  rw [(alloc_ok (held := held) hg hq hf).2.2, ← more_told]
  rw [Bool.and_eq_true] at hg
  rw [more_up (fun p hp => told_all hg.2 p (List.mem_filter.1 hp).1)]
theorem first_free {l : List HC} {keep : Int} (hr : rightH ⟨l, keep⟩ = true) {q : Nat} (hq : q < l.length) (hf : firstF l = q) : l[q] = ⟨0, false, false, []⟩ := by
  have h1 : stopC l[q] = true := by
    unfold firstF at hf
    exact ((List.findIdx_eq hq).1 hf).1
  rw [free_stop (right_ref hr q hq).1] at h1
  have h2 := (rightH_iff hr).2 q hq
  unfold freeC at h1
  simp only [Bool.and_eq_true, decide_eq_true_eq, Bool.not_eq_true'] at h1
  unfold cellR at h2
  rw [if_pos h1.1] at h2
  simp only [Bool.and_eq_true, Bool.not_eq_true', decide_eq_true_eq] at h2
  have h3 := List.eq_nil_of_length_eq_zero h2.2
  generalize l[q] = x at *
  obtain ⟨a, b, c, d⟩ := x
  simp only at h1 h2 h3
  rw [h1.1, h1.2, h2.1, h3]
theorem first_ahead {l : List HC} {keep : Int} (hr : rightH ⟨l, keep⟩ = true) {q : Nat} (hq : q < l.length) (hf : firstF l = q) {k : Nat} (hk : k < l.length) (hkq : k ≤ q) : freeC l[k] = decide (k = q) := by
  rcases Nat.lt_or_ge k q with h | h
  · unfold firstF at hf
    have h1 := ((List.findIdx_eq hq).1 hf).2 k h
    rw [free_stop (right_ref hr k hk).1] at h1
    rw [h1, decide_eq_false (by omega)]
  · obtain rfl : k = q := by omega
    rw [first_free hr hk hf, decide_eq_true rfl]
    rfl
/-- What is laid, whatever is held already, is right, and has a free cell less. -/
theorem alloc_right {l : List HC} {leaf : Bool} {it : List It} {held : List Int} {keep : Int} {q : Nat} (hr : rightH ⟨l, keep⟩ = true) (hs : ∀ k (hk : k < l.length), l[k].ref ≤ 1000000) (hg : (ndR it && leadsC l leaf it) = true) (hq : q < l.length) (hf : firstF l = q) :
    rightH ⟨allocL l leaf it held, keep⟩ = true ∧ (allocL l leaf it held).countP freeC + 1 = l.countP freeC ∧ (allocL l leaf it held).length = l.length := by
  rw [alloc_up hg hq hf]
  have hg2 := hg
  rw [Bool.and_eq_true] at hg2
  have hu : ∀ p ∈ (toldL leaf it).filter (fun x => !inL held x), usedC l p = true := fun p hp => told_all hg2.2 p (List.mem_filter.1 hp).1
  have hlen : ((toldL leaf it).filter (fun x => !inL held x)).length ≤ 100 := by
    have h1 := List.length_filter_le (fun x => !inL held x) (toldL leaf it)
    have h2 := told_len leaf it
    have h3 := ((ndR_iff it).1 hg2.1).1
    omega
  refine ⟨right_set (upL_right hu hr hs hlen) q _ ?_, ?_, by rw [List.length_set, upL_len]⟩
  · unfold cellR
    rw [if_neg (by simp)]
    simp only
    rw [hg2.1, upL_len, places_leads hg2.2]
    rfl
  · have h1 := countP_set1 freeC (upL l ((toldL leaf it).filter (fun x => !inL held x))) q (by rw [upL_len]; exact hq) ⟨1, false, leaf, it⟩
    rw [upL_free hu (fun k hk => (right_ref hr k hk).1), upL_at hq, first_free hr hq hf] at h1
    have h2 : freeC (upC ((toldL leaf it).filter (fun x => !inL held x)) q ⟨0, false, false, []⟩) = true := by
      unfold upC freeC
      rw [count_unused hu hq (by rw [first_free hr hq hf]; simp)]
      rfl
    rw [h2] at h1
    have h3 : freeC ⟨1, false, leaf, it⟩ = false := rfl
    rw [h3] at h1
    simp only [if_true, Bool.false_eq_true, if_false] at h1
    omega
/-- What is laid, and loosed again, is as it was, but for its Pin. -/
theorem alloc_back {l : List HC} {leaf : Bool} {it : List It} {keep : Int} {q : Nat} (hr : rightH ⟨l, keep⟩ = true) (hg : (ndR it && leadsC l leaf it) = true) (hq : q < l.length) (hf : firstF l = q) :
    looseE ⟨allocL l leaf it [], keep⟩ (q : Int) = 0 ∧ looseL ((allocL l leaf it []).length + 1) (allocL l leaf it []) (q : Int) = l.set q ⟨0, true, false, []⟩ := by
  have hg2 := hg
  rw [Bool.and_eq_true] at hg2
  have ef : (toldL leaf it).filter (fun x => !inL [] x) = toldL leaf it := by
    rw [List.filter_eq_self]; intro x _; rfl
  have ha := alloc_up (held := []) hg hq hf
  rw [ef] at ha
  have hlen : (allocL l leaf it []).length = l.length := by rw [ha, List.length_set, upL_len]
  have hq' : q < (allocL l leaf it []).length := by rw [hlen]; exact hq
  have hat : (allocL l leaf it [])[q] = ⟨1, false, leaf, it⟩ := by simp only [ha, List.getElem_set_self]
  have hu : usedC (allocL l leaf it []) (q : Int) = true := by rw [usedC_at hq', hat]; rfl
  refine ⟨by unfold looseE usedH; simp only [hu]; rfl, ?_⟩
  rw [looseL_told _ hq' hu (by rw [hat]; simp), hat, hlen]
  simp only
  rw [ha, List.set_set]
  obtain ⟨f, hf9⟩ : ∃ f, l.length = f + 1 := ⟨l.length - 1, by omega⟩
  rw [hf9]
  exact loose_up hr (fun hk => by rw [first_free hr hk hf]; simp) _ f _ (told_all hg2.2)
theorem alloc_cell {l : List HC} {leaf : Bool} {it : List It} {held : List Int} {q : Nat} (hg : (ndR it && leadsC l leaf it) = true) (hq : q < l.length) (hf : firstF l = q) (hq' : q < (allocL l leaf it held).length) : (allocL l leaf it held)[q] = ⟨1, false, leaf, it⟩ := by
  simp only [alloc_up hg hq hf, List.getElem_set_self]
theorem alloc_other {l : List HC} {leaf : Bool} {it : List It} {held : List Int} {q : Nat} (hg : (ndR it && leadsC l leaf it) = true) (hq : q < l.length) (hf : firstF l = q) {k : Nat} (hk : k < l.length) (hkq : k ≠ q) (hk' : k < (allocL l leaf it held).length) :
    (allocL l leaf it held)[k] = ⟨l[k].ref + ((if inL held (k : Int) then 0 else (toldL leaf it).count (k : Int) : Nat) : Int), l[k].pin, l[k].leaf, l[k].it⟩ := by
  simp only [alloc_up hg hq hf]
  rw [List.getElem_set_ne (Ne.symm hkq), upL_at hk]
  unfold upC
  cases hi : inL held (k : Int)
  · rw [List.count_filter (by rw [hi]; rfl)]
    simp
  · have h0 : ((toldL leaf it).filter (fun x => !inL held x)).count (k : Int) = 0 := by
      rw [List.count_eq_zero]
      intro hm
      have := (List.mem_filter.1 hm).2
      rw [hi] at this
      cases this
    rw [h0]
    simp
end Go.Proofs.Ytclpeeemnmhdcaa
