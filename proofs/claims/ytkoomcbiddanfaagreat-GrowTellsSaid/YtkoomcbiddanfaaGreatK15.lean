/- The contracts of package heap, all together. What is small, and right; the contracts of layer 5 as the laws use them. Plain lemmas for the laws of layer 5: what stays right. Plain lemmas for the laws of layer 5: cells held once more for each place in a row; what is laid, and loosed again. The walk of List of the reference of layer 7. -/
import Derived.Test.YtkoomcbiddanfaaGreatK10
import Derived.Test.YtkoomcbiddanfaaGreatK13
namespace Go.Proofs.YtkoomcbiddanfaaGreat
end Go.Proofs.YtkoomcbiddanfaaGreat
namespace Go.Proofs.YtkoomcbiddanfaaGreat
open Go.RowKit

theorem may_iff {l : List HC} {keep most : Int} (h : mayH ⟨l, keep⟩ most = true) : (l.length : Int) ≤ most ∧ (∀ k (hk : k < l.length), l[k].it.length ≤ 10 ∧ l[k].ref ≤ 1000000) ∧ rightH ⟨l, keep⟩ = true := by
  unfold mayH smallH at h
  simp only [Bool.and_eq_true, decide_eq_true_eq, List.all_eq_true] at h
  exact ⟨h.1.1, fun k hk => h.1.2 _ (List.getElem_mem hk), h.2⟩
theorem may_small {l : List HC} {keep most : Int} (h : mayH ⟨l, keep⟩ most = true) : smallH ⟨l, keep⟩ most = true := by
  unfold mayH at h; simp only [Bool.and_eq_true] at h; exact h.1
theorem may_bd {l : List HC} {keep most : Int} (h : mayH ⟨l, keep⟩ most = true) : Bd l := fun k hk => by have := ((may_iff h).2.1 k hk).2; omega
theorem right_ref {l : List HC} {keep : Int} (h : rightH ⟨l, keep⟩ = true) : ∀ k (hk : k < l.length), 0 ≤ l[k].ref ∧ l[k].ref ≤ 2147483647 := fun k hk => by
  have h1 := (rightH_iff h).2 k hk
  unfold cellR at h1
  split at h1
  · rename_i e; omega
  · simp only [Bool.and_eq_true, decide_eq_true_eq] at h1; omega
theorem ref05Alloc_any (R : Option Addr) (l : List HC) (n q : Nat) (keep : Int) (leaf : Bool) (A : Option Addr) (it : List It) (m c : Nat) (H : Option Addr) (held : List Int) (t d : Nat) (w : World) (hb : n ≤ 90000) (hbd : ∀ k (hk : k < l.length), l[k].ref ≤ 8000000000000000000) (hA : HcSl w R n q l) (hm : m = it.length) (hI : Sl w A m c (ivs it)) (ht : t = held.length) (hH : Sl w H t d (held.map iv)) :
    Calls Tryz.prog 29 #[.agg #[.slice R n q, .int .i64 keep], .agg #[.bool leaf, .slice A m c], .slice H t d] w fun e w' => ∃ S d, e = .returned (.tuple #[.agg #[.slice S n d, .int .i64 keep], .int .i64 (allocP l leaf it : Nat), .int .i64 (allocE l leaf it)]) ∧ HcSl w' S n d (allocL l leaf it held) ∧ Ext w w' := by
  cases hg : (ndR it && leadsC l leaf it)
  · obtain ⟨e1, e2, e3⟩ := alloc_bad (held := held) hg
    rw [e1, e2, e3]
    exact ref05Alloc_no R l n q keep leaf A it m c H held t d w hg hA hm hI
  · cases leaf
    · exact ref05Alloc_over R l n q keep A it m c H held t d w hg hb hbd hA hm hI ht hH
    · exact ref05Alloc_leaf R l n q keep A it m c H held t d w hg hb hbd hA hm hI ht hH
theorem usedN_le (l : List HC) : usedN l ≤ l.length := List.countP_le_length
theorem ref05Loose_is (R : Option Addr) (l : List HC) (n q : Nat) (keep p : Int) (w : World) (hb : n ≤ 90000) (hbd : Bd l) (hA : HcSl w R n q l) :
    Calls Tryz.prog 31 #[.agg #[.slice R n q, .int .i64 keep], .int .i64 p] w fun e w' => ∃ S d, e = .returned (.tuple #[.agg #[.slice S n d, .int .i64 keep], .int .i64 (looseE ⟨l, keep⟩ p)]) ∧ HcSl w' S n d (looseL (l.length + 1) l p) ∧ Ext w w' :=
  ref05Loose_any (usedN l) (l.length + 1) R l n q keep p w (Nat.le_refl _) (by have := usedN_le l; omega) hb hbd hA
theorem heapLoose_is (R : Option Addr) (l : List HC) (n q : Nat) (keep p : Int) (w : World) (hM : rightH ⟨l, keep⟩ = true) (hbd : Bd l) (hA : HcSl w R n q l) :
    Calls Tryz.prog 48 #[.agg #[.slice R n q, .int .i64 keep], .int .i64 p] w fun e w' => ∃ S d, e = .returned (.tuple #[.agg #[.slice S n d, .int .i64 keep], .int .i64 (looseE ⟨l, keep⟩ p)]) ∧ HcSl w' S n d (looseL (l.length + 1) l p) ∧ Ext w w' := by
  refine (heapLoose_any R l n q keep w p hM hbd hA).mono ?_
  rintro e w' ⟨S, d, cs, rfl, _, h1, h2, hx⟩
  exact ⟨S, d, rfl, ⟨by rw [loose_len]; exact hA.1, cs, h1, h2⟩, hx⟩
theorem ref05Same_eq (R S : Option Addr) (a : List HC) (n q q' : Nat) (k : Int) (w : World) (hA : HcSl w R n q a) (hB : HcSl w S n q' a) :
    Calls Tryz.prog 10 #[.agg #[.slice R n q, .int .i64 k], .agg #[.slice S n q', .int .i64 k]] w fun e w' => e = .returned (.bool true) ∧ Ext w w' := by
  have h := ref05Same_any R S a a n n q q' k k w hA hB
  unfold sameH at h
  rw [decide_eq_true rfl] at h
  exact h
theorem ref05May_is (R : Option Addr) (l : List HC) (n q : Nat) (keep most : Int) (w : World) (hA : HcSl w R n q l) {r : Bool} (h : mayH ⟨l, keep⟩ most = r) :
    Calls Tryz.prog 17 #[.agg #[.slice R n q, .int .i64 keep], .int .i64 most] w fun e w' => e = .returned (.bool r) ∧ Ext w w' := by
  subst h; exact ref05May_any R l n q keep most w hA
theorem may_of {l : List HC} {keep most : Int} (h1 : smallH ⟨l, keep⟩ most = true) (h2 : rightH ⟨l, keep⟩ = true) : mayH ⟨l, keep⟩ most = true := by unfold mayH; rw [h1, h2]; rfl
theorem ref05Small_is (R : Option Addr) (l : List HC) (n q : Nat) (keep most : Int) (w : World) (hA : HcSl w R n q l) {r : Bool} (h : smallH ⟨l, keep⟩ most = r) :
    Calls Tryz.prog 37 #[.agg #[.slice R n q, .int .i64 keep], .int .i64 most] w fun e w' => e = .returned (.bool r) ∧ Ext w w' := by
  subst h; exact ref05Small_any R l n q keep most w hA
theorem ref05Right_is (R : Option Addr) (l : List HC) (n q : Nat) (keep : Int) (w : World) (hA : HcSl w R n q l) {r : Bool} (h : rightH ⟨l, keep⟩ = r) :
    Calls Tryz.prog 38 #[.agg #[.slice R n q, .int .i64 keep]] w fun e w' => e = .returned (.bool r) ∧ Ext w w' := by
  subst h; exact ref05Right_any R l n q keep w hA
section
variable (R : Option Addr) (l : List HC) (n q : Nat) (keep : Int) (w : World)
theorem heapFree_is {m : Nat} (hM : mayH ⟨l, keep⟩ 60 = true) (h : l.countP freeC = m) (hA : HcSl w R n q l) :
    Calls Tryz.prog 42 #[.agg #[.slice R n q, .int .i64 keep]] w fun e w' => e = .returned (.int .i64 m) ∧ Ext w w' := by subst h; exact heapFree_any R l n q keep w hM hA
theorem ref05Free_is {m : Nat} (h : l.countP freeC = m) (hA : HcSl w R n q l) :
    Calls Tryz.prog 49 #[.agg #[.slice R n q, .int .i64 keep]] w fun e w' => e = .returned (.int .i64 m) ∧ Ext w w' := by subst h; exact ref05Free_any R l n q keep w hA
theorem heapFits_is {r : Bool} (x : Int) (deep : Bool) (hM : mayH ⟨l, keep⟩ 60 = true) (h : fitsH ⟨l, keep⟩ x deep = r) (hA : HcSl w R n q l) :
    Calls Tryz.prog 21 #[.agg #[.slice R n q, .int .i64 keep], .int .i64 x, .bool deep] w fun e w' => e = .returned (.bool r) ∧ Ext w w' := by subst h; exact heapFits_any R l n q keep w x deep hM hA
theorem ref05Fits_is {r : Bool} (x : Int) (deep : Bool) (hk : 0 ≤ keep ∧ keep ≤ 9223372036854775807) (h : fitsH ⟨l, keep⟩ x deep = r) (hA : HcSl w R n q l) :
    Calls Tryz.prog 27 #[.agg #[.slice R n q, .int .i64 keep], .int .i64 x, .bool deep] w fun e w' => e = .returned (.bool r) ∧ Ext w w' := by subst h; exact ref05Fits_any R l n q keep x deep w hk hA
end
theorem ref05Same_is (R S : Option Addr) (a b : List HC) (n m q q' : Nat) (ka kb : Int) (w : World) {r : Bool} (h : sameH ⟨a, ka⟩ ⟨b, kb⟩ = r) (hA : HcSl w R n q a) (hB : HcSl w S m q' b) :
    Calls Tryz.prog 10 #[.agg #[.slice R n q, .int .i64 ka], .agg #[.slice S m q', .int .i64 kb]] w fun e w' => e = .returned (.bool r) ∧ Ext w w' := by subst h; exact ref05Same_any R S a b n m q q' ka kb w hA hB
end Go.Proofs.YtkoomcbiddanfaaGreat
namespace Go.Proofs.YtkoomcbiddanfaaGreat
open Go.RowKit

theorem right_set {l : List HC} {keep : Int} (h : rightH ⟨l, keep⟩ = true) (k : Nat) (x : HC) (hx : cellR l.length x = true) : rightH ⟨l.set k x, keep⟩ = true := by
  obtain ⟨h1, h2⟩ := rightH_iff h
  refine rightH_yes (by rw [List.length_set]; exact h1) fun j hj => ?_
  rw [List.length_set] at hj ⊢
  rw [List.getElem_set]
  split
  · exact hx
  · exact h2 j hj
theorem cellR_used {n : Nat} {x : HC} (h : cellR n x = true) (hp : 0 < x.ref) (r : Int) (h0 : 0 < r) (h1 : r ≤ 2147483647) : cellR n ⟨r, x.pin, x.leaf, x.it⟩ = true := by
  unfold cellR at h ⊢
  rw [if_neg (by omega)] at h
  rw [if_neg (by simp only; omega)]
  simp only [Bool.and_eq_true, decide_eq_true_eq] at h ⊢
  exact ⟨h0, h1, h.2.2⟩
theorem used_nopin {n : Nat} {x : HC} (h : cellR n x = true) (hp : 0 < x.ref) : x.pin = false := by
  unfold cellR at h
  rw [if_neg (by omega)] at h
  simp only [Bool.and_eq_true, decide_eq_true_eq, Bool.not_eq_true'] at h
  exact h.2.2.1
theorem right_more {l : List HC} {keep : Int} {k : Nat} (h : rightH ⟨l, keep⟩ = true) (hk : k < l.length) (hp : 0 < l[k].ref) (hm : l[k].ref < 2147483647) : rightH ⟨l.set k l[k].more, keep⟩ = true :=
  right_set h k _ (cellR_used ((rightH_iff h).2 k hk) hp _ (by omega) (by omega))
/-- Held, and loosed, as often as that. -/
def plusC (l : List HC) (k : Nat) (j : Nat) : List HC := l.set k ⟨(l.getD k HC.none).ref + j, (l.getD k HC.none).pin, (l.getD k HC.none).leaf, (l.getD k HC.none).it⟩
theorem plusC_len (l : List HC) (k j : Nat) : (plusC l k j).length = l.length := by unfold plusC; simp
theorem getD_at {l : List HC} {k : Nat} (hk : k < l.length) : l.getD k HC.none = l[k] := by rw [List.getD_eq_getElem?_getD, List.getElem?_eq_getElem hk]; rfl
theorem plusC_zero {l : List HC} {k : Nat} (hk : k < l.length) : plusC l k 0 = l := by
  unfold plusC; rw [getD_at hk]
  have e : (⟨l[k].ref + (0 : Nat), l[k].pin, l[k].leaf, l[k].it⟩ : HC) = l[k] := by
    have : l[k].ref + ((0 : Nat) : Int) = l[k].ref := by omega
    rw [this]
  rw [e, List.set_getElem_self]
theorem plusC_at {l : List HC} {k j : Nat} (hk : k < l.length) : (plusC l k j)[k]'(by rw [plusC_len]; exact hk) = ⟨l[k].ref + j, l[k].pin, l[k].leaf, l[k].it⟩ := by
  unfold plusC; rw [List.getElem_set_self, getD_at hk]
theorem plusC_succ {l : List HC} {k j : Nat} (hk : k < l.length) : (plusC l k j).set k ((plusC l k j)[k]'(by rw [plusC_len]; exact hk)).more = plusC l k (j + 1) := by
  rw [plusC_at hk]
  unfold plusC HC.more
  rw [List.set_set, getD_at hk]
  have : l[k].ref + (j : Int) + 1 = l[k].ref + ((j + 1 : Nat) : Int) := by omega
  simp only [this]
theorem plusC_used {l : List HC} {k j : Nat} (hk : k < l.length) (hp : 0 < l[k].ref) : usedC (plusC l k j) (k : Int) = true := by
  rw [usedC_at (by rw [plusC_len]; exact hk), plusC_at hk]
  simp only [decide_eq_true_eq]; omega
theorem plusC_hold {l : List HC} {keep : Int} {k j : Nat} (hk : k < l.length) (hp : 0 < l[k].ref) : holdH ⟨plusC l k j, keep⟩ (k : Int) = ⟨plusC l k (j + 1), keep⟩ ∧ holdE ⟨plusC l k j, keep⟩ (k : Int) = 0 := by
  obtain ⟨e1, e2⟩ := holdH_at (keep := keep) (by rw [plusC_len]; exact hk) (plusC_used (j := j) hk hp)
  exact ⟨by rw [e1, plusC_succ hk], e2⟩
theorem plusC_loose {l : List HC} {n : Nat} {k j f : Nat} (hk : k < l.length) (hr : cellR n l[k] = true) (hp : 0 < l[k].ref) : looseL (f + 1) (plusC l k (j + 1)) (k : Int) = plusC l k j := by
  have hk' : k < (plusC l k (j + 1)).length := by rw [plusC_len]; exact hk
  rw [looseL_at f hk' (plusC_used hk hp), plusC_at hk, if_pos (by simp only; omega)]
  have hpn := used_nopin hr hp
  unfold plusC
  rw [List.set_set, getD_at hk, hpn]
  have : l[k].ref + ((j + 1 : Nat) : Int) - 1 = l[k].ref + (j : Int) := by omega
  simp only [this]
theorem plusC_right {l : List HC} {keep : Int} {k j : Nat} (h : rightH ⟨l, keep⟩ = true) (hk : k < l.length) (hp : 0 < l[k].ref) (hm : l[k].ref + j ≤ 2147483647) : rightH ⟨plusC l k j, keep⟩ = true := by
  unfold plusC; rw [getD_at hk]
  exact right_set h k _ (cellR_used ((rightH_iff h).2 k hk) hp _ (by omega) (by omega))
theorem plusC_bd {l : List HC} {k j : Nat} (h : Bd l) (hk : k < l.length) (hm : l[k].ref + j ≤ 2147483647) : Bd (plusC l k j) := by
  unfold plusC; rw [getD_at hk]
  exact h.set k _ (by simp only; omega)
end Go.Proofs.YtkoomcbiddanfaaGreat
namespace Go.Proofs.YtkoomcbiddanfaaGreat
open Go.RowKit

def upC (ps : List Int) (k : Nat) (c : HC) : HC := ⟨c.ref + (ps.count (k : Int) : Nat), c.pin, c.leaf, c.it⟩
/-- Each cell held once more for each time that its place stands in the row. -/
def upL (l : List HC) (ps : List Int) : List HC := l.mapIdx (upC ps)
theorem upL_len (l : List HC) (ps : List Int) : (upL l ps).length = l.length := by unfold upL; simp
theorem upL_at {l : List HC} {ps : List Int} {k : Nat} (hk : k < l.length) : (upL l ps)[k]'(by rw [upL_len]; exact hk) = upC ps k l[k] := by
  unfold upL; rw [List.getElem_mapIdx]
theorem upL_nil (l : List HC) : upL l [] = l := by
  apply List.ext_getElem (upL_len l [])
  intro k h1 h2
  rw [upL_at h2]
  unfold upC
  simp
theorem upL_same {l : List HC} {ps qs : List Int} (h : ∀ x, ps.count x = qs.count x) : upL l ps = upL l qs := by
  unfold upL
  congr 1
  funext k c
  unfold upC
  rw [h]
theorem upL_cons {l : List HC} {qs : List Int} {p : Nat} (hp : p < l.length) : moreI (upL l qs) (p : Int) = upL l ((p : Int) :: qs) := by
  unfold moreI
  rw [Int.toNat_natCast, getD_at (by rw [upL_len]; exact hp), upL_at hp]
  apply List.ext_getElem (by rw [List.length_set, upL_len, upL_len])
  intro k h1 h2
  rw [upL_len] at h2
  rw [List.getElem_set]
  split
  · rename_i e
    subst e
    rw [upL_at hp]
    unfold upC HC.more
    simp only [List.count_cons_self]
    have : l[p].ref + ((qs.count (p : Int) : Nat) : Int) + 1 = l[p].ref + ((qs.count (p : Int) + 1 : Nat) : Int) := by omega
    rw [this]
  · rename_i e
    rw [upL_at h2, upL_at h2]
    unfold upC
    rw [List.count_cons_of_ne (by omega)]
theorem upL_fold {l : List HC} : ∀ (ps qs : List Int), (∀ p ∈ ps, usedC l p = true) → ps.foldl moreI (upL l qs) = upL l (ps.reverse ++ qs)
  | [], qs, _ => rfl
  | p :: ps, qs, h => by
    obtain ⟨k, hk, rfl, _⟩ := usedC_iff (h p (by simp))
    rw [List.foldl_cons, upL_cons hk, upL_fold ps _ (fun x hx => h x (by simp [hx]))]
    simp
theorem more_up {l : List HC} {ps : List Int} (h : ∀ p ∈ ps, usedC l p = true) : ps.foldl moreI l = upL l ps := by
  have h1 := upL_fold ps [] h
  rw [upL_nil] at h1
  rw [h1]
  exact upL_same (fun x => by simp)
theorem count_unused {l : List HC} {ps : List Int} (h : ∀ p ∈ ps, usedC l p = true) {k : Nat} (hk : k < l.length) (h0 : ¬ 0 < l[k].ref) : ps.count (k : Int) = 0 := by
  rw [List.count_eq_zero]
  intro hm
  have := h _ hm
  rw [usedC_at hk] at this
  simp at this
  omega
theorem loose_up {l : List HC} {keep : Int} (hr : rightH ⟨l, keep⟩ = true) {q : Nat} (hq : ∀ hk : q < l.length, ¬ 0 < l[q].ref) (x : HC) (f : Nat) : ∀ (ps : List Int), (∀ p ∈ ps, usedC l p = true) → ps.foldl (looseL (f + 1)) ((upL l ps).set q x) = l.set q x
  | [], _ => by rw [upL_nil]; rfl
  | p :: ps, h => by
    obtain ⟨k, hk, rfl, hp⟩ := usedC_iff (h p (by simp))
    have hkq : ¬ q = k := fun e => by subst e; exact hq hk hp
    have hk' : k < ((upL l ((k : Int) :: ps)).set q x).length := by rw [List.length_set, upL_len]; exact hk
    have hg : ((upL l ((k : Int) :: ps)).set q x)[k] = upC ((k : Int) :: ps) k l[k] := by rw [List.getElem_set_ne hkq, upL_at hk]
    have hpn := used_nopin ((rightH_iff hr).2 k hk) hp
    have hu : usedC ((upL l ((k : Int) :: ps)).set q x) (k : Int) = true := by
      rw [usedC_at hk', hg]
      unfold upC
      simp only [decide_eq_true_eq]
      omega
    have hstep : looseL (f + 1) ((upL l ((k : Int) :: ps)).set q x) (k : Int) = (upL l ps).set q x := by
      rw [looseL_at f hk' hu, hg]
      have hc : (((k : Int) :: ps).count (k : Int)) = ps.count (k : Int) + 1 := List.count_cons_self ..
      rw [if_pos (by unfold upC; simp only; rw [hc]; omega)]
      apply List.ext_getElem (by simp [upL_len])
      intro j h1 h2
      have hj : j < l.length := by simpa [upL_len] using h2
      rw [List.getElem_set]
      split
      · rename_i e
        subst e
        rw [List.getElem_set_ne hkq, upL_at hj]
        unfold upC
        simp only
        rw [hc, hpn]
        have : l[k].ref + ((ps.count (k : Int) + 1 : Nat) : Int) - 1 = l[k].ref + ((ps.count (k : Int) : Nat) : Int) := by omega
        rw [this]
      · rename_i e
        rw [List.getElem_set, List.getElem_set]
        split
        · rfl
        · rw [upL_at hj, upL_at hj]
          unfold upC
          rw [List.count_cons_of_ne (by omega)]
    rw [List.foldl_cons, hstep]
    exact loose_up hr hq x f ps (fun y hy => h y (by simp [hy]))
theorem countP_set1 {α : Type} (p : α → Bool) : ∀ (l : List α) (k : Nat) (hk : k < l.length) (x : α), (l.set k x).countP p + (if p l[k] then 1 else 0) = l.countP p + (if p x then 1 else 0)
  | [], k, hk, _ => by simp at hk
  | y :: l, 0, _, x => by simp [List.countP_cons]; omega
  | y :: l, k + 1, hk, x => by
    have := countP_set1 p l k (by simpa using hk) x
    simp only [List.set_cons_succ, List.countP_cons, List.getElem_cons_succ]
    omega
theorem upL_free {l : List HC} {ps : List Int} (h : ∀ p ∈ ps, usedC l p = true) (_hr : ∀ k (hk : k < l.length), 0 ≤ l[k].ref) : (upL l ps).countP freeC = l.countP freeC := by
  have e : (upL l ps).map freeC = l.map freeC := by
    apply List.ext_getElem (by simp [upL_len])
    intro k h1 h2
    have hk : k < l.length := by simpa using h2
    rw [List.getElem_map, List.getElem_map, upL_at hk]
    unfold upC freeC
    simp only
    by_cases h0 : 0 < l[k].ref
    · rw [decide_eq_false (by omega), decide_eq_false (by omega)]
    · rw [count_unused h hk h0]; simp
  have h1 : ∀ m : List HC, m.countP freeC = (m.map freeC).countP id := fun m => by rw [List.countP_map]; rfl
  rw [h1, h1, e]
theorem upL_right {l : List HC} {ps : List Int} {keep : Int} (h : ∀ p ∈ ps, usedC l p = true) (hr : rightH ⟨l, keep⟩ = true) (hs : ∀ k (hk : k < l.length), l[k].ref ≤ 1000000) (hp : ps.length ≤ 100) : rightH ⟨upL l ps, keep⟩ = true := by
  obtain ⟨h1, h2⟩ := rightH_iff hr
  refine rightH_yes (by rw [upL_len]; exact h1) fun k hk => ?_
  have hk' : k < l.length := by rw [upL_len] at hk; exact hk
  rw [upL_len, upL_at hk']
  have hc : ps.count (k : Int) ≤ ps.length := List.count_le_length
  have hsk := hs k hk'
  by_cases h0 : 0 < l[k].ref
  · exact cellR_used (h2 k hk') h0 _ (by omega) (by omega)
  · have e : upC ps k l[k] = l[k] := by
      unfold upC
      rw [count_unused h hk' h0]
      simp
    rw [e]
    exact h2 k hk'
theorem told_all {l : List HC} {leaf : Bool} {it : List It} (h : leadsC l leaf it = true) : ∀ p ∈ toldL leaf it, usedC l p = true := by
  rw [leads_told, List.all_eq_true] at h
  exact h
theorem told_len (leaf : Bool) (it : List It) : (toldL leaf it).length ≤ it.length := by unfold toldL; split <;> simp
theorem places_leads {l : List HC} {leaf : Bool} {it : List It} (h : leadsC l leaf it = true) : placesC l.length leaf it = true := by
  rw [places_told]
  have h1 := told_all h
  have : (toldL leaf it).any (fun p => !isPl p l.length) = false := by
    rw [List.any_eq_false]
    intro p hp
    obtain ⟨k, hk, rfl, _⟩ := usedC_iff (h1 p hp)
    unfold isPl
    rw [decide_eq_true (by omega), decide_eq_true (by omega)]
    simp
  rw [this]; rfl
/-- What is laid: each cell held once more for each item that tells it, but those that are held already; the node in the first free cell. -/
theorem alloc_up {l : List HC} {leaf : Bool} {it : List It} {held : List Int} {q : Nat} (hg : (ndR it && leadsC l leaf it) = true) (hq : q < l.length) (hf : firstF l = q) :
    allocL l leaf it held = (upL l ((toldL leaf it).filter (fun x => !inL held x))).set q ⟨1, false, leaf, it⟩ := by
  rw [(alloc_ok (held := held) hg hq hf).2.2, ← more_told]
  rw [Bool.and_eq_true] at hg
  rw [more_up (fun p hp => told_all hg.2 p (List.mem_filter.1 hp).1)]
theorem first_free {l : List HC} {keep : Int} (hr : rightH ⟨l, keep⟩ = true) {q : Nat} (hq : q < l.length) (hf : firstF l = q) : l[q] = ⟨0, false, false, []⟩ := by
  have h1 : stopC l[q] = true := by
    unfold firstF at hf
    exact ((List.findIdx_eq hq).1 hf).1
  rw [free_stop (right_ref hr q hq).1] at h1
  have h2 := (rightH_iff hr).2 q hq
  unfold freeC at h1
  simp only [Bool.and_eq_true, decide_eq_true_eq, Bool.not_eq_true'] at h1
  unfold cellR at h2
  rw [if_pos h1.1] at h2
  simp only [Bool.and_eq_true, Bool.not_eq_true', decide_eq_true_eq] at h2
  have h3 := List.eq_nil_of_length_eq_zero h2.2
  generalize l[q] = x at *
  obtain ⟨a, b, c, d⟩ := x
  simp only at h1 h2 h3
  rw [h1.1, h1.2, h2.1, h3]
theorem first_ahead {l : List HC} {keep : Int} (hr : rightH ⟨l, keep⟩ = true) {q : Nat} (hq : q < l.length) (hf : firstF l = q) {k : Nat} (hk : k < l.length) (hkq : k ≤ q) : freeC l[k] = decide (k = q) := by
  rcases Nat.lt_or_ge k q with h | h
  · unfold firstF at hf
    have h1 := ((List.findIdx_eq hq).1 hf).2 k h
    rw [free_stop (right_ref hr k hk).1] at h1
    rw [h1, decide_eq_false (by omega)]
  · obtain rfl : k = q := by omega
    rw [first_free hr hk hf, decide_eq_true rfl]
    rfl
/-- What is laid, whatever is held already, is right, and has a free cell less. -/
theorem alloc_right {l : List HC} {leaf : Bool} {it : List It} {held : List Int} {keep : Int} {q : Nat} (hr : rightH ⟨l, keep⟩ = true) (hs : ∀ k (hk : k < l.length), l[k].ref ≤ 1000000) (hg : (ndR it && leadsC l leaf it) = true) (hq : q < l.length) (hf : firstF l = q) :
    rightH ⟨allocL l leaf it held, keep⟩ = true ∧ (allocL l leaf it held).countP freeC + 1 = l.countP freeC ∧ (allocL l leaf it held).length = l.length := by
  rw [alloc_up hg hq hf]
  have hg2 := hg
  rw [Bool.and_eq_true] at hg2
  have hu : ∀ p ∈ (toldL leaf it).filter (fun x => !inL held x), usedC l p = true := fun p hp => told_all hg2.2 p (List.mem_filter.1 hp).1
  have hlen : ((toldL leaf it).filter (fun x => !inL held x)).length ≤ 100 := by
    have h1 := List.length_filter_le (fun x => !inL held x) (toldL leaf it)
    have h2 := told_len leaf it
    have h3 := ((ndR_iff it).1 hg2.1).1
    omega
  refine ⟨right_set (upL_right hu hr hs hlen) q _ ?_, ?_, by rw [List.length_set, upL_len]⟩
  · unfold cellR
    rw [if_neg (by simp)]
    simp only
    rw [hg2.1, upL_len, places_leads hg2.2]
    rfl
  · have h1 := countP_set1 freeC (upL l ((toldL leaf it).filter (fun x => !inL held x))) q (by rw [upL_len]; exact hq) ⟨1, false, leaf, it⟩
    rw [upL_free hu (fun k hk => (right_ref hr k hk).1), upL_at hq, first_free hr hq hf] at h1
    have h2 : freeC (upC ((toldL leaf it).filter (fun x => !inL held x)) q ⟨0, false, false, []⟩) = true := by
      unfold upC freeC
      rw [count_unused hu hq (by rw [first_free hr hq hf]; simp)]
      rfl
    rw [h2] at h1
    have h3 : freeC ⟨1, false, leaf, it⟩ = false := rfl
    rw [h3] at h1
    simp only [if_true, Bool.false_eq_true, if_false] at h1
    omega
/-- What is laid, and loosed again, is as it was, but for its Pin. -/
theorem alloc_back {l : List HC} {leaf : Bool} {it : List It} {keep : Int} {q : Nat} (hr : rightH ⟨l, keep⟩ = true) (hg : (ndR it && leadsC l leaf it) = true) (hq : q < l.length) (hf : firstF l = q) :
    looseE ⟨allocL l leaf it [], keep⟩ (q : Int) = 0 ∧ looseL ((allocL l leaf it []).length + 1) (allocL l leaf it []) (q : Int) = l.set q ⟨0, true, false, []⟩ := by
  have hg2 := hg
  rw [Bool.and_eq_true] at hg2
  have ef : (toldL leaf it).filter (fun x => !inL [] x) = toldL leaf it := by
    rw [List.filter_eq_self]; intro x _; rfl
  have ha := alloc_up (held := []) hg hq hf
  rw [ef] at ha
  have hlen : (allocL l leaf it []).length = l.length := by rw [ha, List.length_set, upL_len]
  have hq' : q < (allocL l leaf it []).length := by rw [hlen]; exact hq
  have hat : (allocL l leaf it [])[q] = ⟨1, false, leaf, it⟩ := by simp only [ha, List.getElem_set_self]
  have hu : usedC (allocL l leaf it []) (q : Int) = true := by rw [usedC_at hq', hat]; rfl
  refine ⟨by unfold looseE usedH; simp only [hu]; rfl, ?_⟩
  rw [looseL_told _ hq' hu (by rw [hat]; simp), hat, hlen]
  simp only
  rw [ha, List.set_set]
  obtain ⟨f, hf9⟩ : ∃ f, l.length = f + 1 := ⟨l.length - 1, by omega⟩
  rw [hf9]
  exact loose_up hr (fun hk => by rw [first_free hr hk hf]; simp) _ f _ (told_all hg2.2)
theorem alloc_cell {l : List HC} {leaf : Bool} {it : List It} {held : List Int} {q : Nat} (hg : (ndR it && leadsC l leaf it) = true) (hq : q < l.length) (hf : firstF l = q) (hq' : q < (allocL l leaf it held).length) : (allocL l leaf it held)[q] = ⟨1, false, leaf, it⟩ := by
  simp only [alloc_up hg hq hf, List.getElem_set_self]
theorem alloc_other {l : List HC} {leaf : Bool} {it : List It} {held : List Int} {q : Nat} (hg : (ndR it && leadsC l leaf it) = true) (hq : q < l.length) (hf : firstF l = q) {k : Nat} (hk : k < l.length) (hkq : k ≠ q) (hk' : k < (allocL l leaf it held).length) :
    (allocL l leaf it held)[k] = ⟨l[k].ref + ((if inL held (k : Int) then 0 else (toldL leaf it).count (k : Int) : Nat) : Int), l[k].pin, l[k].leaf, l[k].it⟩ := by
  simp only [alloc_up hg hq hf]
  rw [List.getElem_set_ne (Ne.symm hkq), upL_at hk]
  unfold upC
  cases hi : inL held (k : Int)
  · rw [List.count_filter (by rw [hi]; rfl)]
    simp
  · have h0 : ((toldL leaf it).filter (fun x => !inL held x)).count (k : Int) = 0 := by
      rw [List.count_eq_zero]
      intro hm
      have := (List.mem_filter.1 hm).2
      rw [hi] at this
      cases this
    rw [h0]
    simp
end Go.Proofs.YtkoomcbiddanfaaGreat
namespace Go.Proofs.YtkoomcbiddanfaaGreat
open Go.RowKit
attribute [local go_sem ↓] Go.wp_at_zero Go.wp_at_succ

theorem flatMap_le {α β : Type} (f : α → List β) (b : Nat) : ∀ (l : List α), (∀ x ∈ l, (f x).length ≤ b) → (l.flatMap f).length ≤ l.length * b
  | [], _ => by simp
  | x :: l, h => by
    rw [List.flatMap_cons, List.length_append, List.length_cons, Nat.succ_mul, Nat.add_comm]
    exact Nat.add_le_add (flatMap_le f b l (fun y hy => h y (List.mem_cons_of_mem _ hy))) (h x List.mem_cons_self)
/-- How many items there are at most. -/
theorem listB_len (l : List HC) (hl : AllR l) : ∀ (m : Nat) (p : Int), 0 ≤ p → p < l.length → (bel l m p).is = true → (listB l m p).length ≤ 4 ^ m
  | 0, p, h0, h1, h => (bel_zero h).elim
  | m + 1, p, h0, h1, h => by
    obtain ⟨k, rfl⟩ := Int.eq_ofNat_of_zero_le h0
    have hk : k < l.length := by omega
    obtain ⟨hr, hc⟩ := bel_is h
    rw [cellT_at hk] at hr hc
    have hok := cell_ok (hl k hk) hr
    have hp : 0 < 4 ^ m := Nat.pow_pos (by omega)
    unfold listB
    rw [cellT_at hk, Nat.pow_succ]
    rcases hc with ⟨hlf, _⟩ | ⟨hlf, _, hch⟩
    · rw [hlf, if_pos rfl]
      have := hok.1.1
      omega
    · rw [hlf]
      simp only [Bool.false_eq_true, if_false]
      have h2 := flatMap_le (fun x => listB l m x.2) (4 ^ m) l[k].it (fun x hx => listB_len l hl m x.2 (hok.2 hlf x hx).1 (by have := (hok.2 hlf x hx).2; omega) (hch x hx).1)
      have h3 := Nat.mul_le_mul_right (4 ^ m) hok.1.1.2
      omega
theorem flatMap_take {α β : Type} (f : α → List β) (l : List α) {j : Nat} (hj : j < l.length) : (l.take (j + 1)).flatMap f = (l.take j).flatMap f ++ f l[j] := by
  rw [List.take_succ_eq_append_getElem hj, List.flatMap_append]; simp
theorem flatMap_take_le {α β : Type} (f : α → List β) (l : List α) (j : Nat) : ((l.take j).flatMap f).length ≤ (l.flatMap f).length := by
  have h : l.flatMap f = (l.take j).flatMap f ++ (l.drop j).flatMap f := by rw [← List.flatMap_append, List.take_append_drop]
  rw [h, List.length_append]; omega
set_option maxRecDepth 100000 in
set_option maxHeartbeats 3200000 in
theorem ref07List_bel (l : List HC) (hl : AllR l) (hn : l.length ≤ 2000) : ∀ (m : Nat) (p : Int) (R : Option Addr) (n q : Nat) (keep : Int) (w : World), m ≤ 20 → 0 ≤ p → p < l.length → (bel l m p).is = true → HcSl w R n q l →
    Calls Tryz.prog 16 #[.agg #[.slice R n q, .int .i64 keep], .int .i64 p] w fun e w' => ∃ S s d, e = .returned (.slice S s d) ∧ s = (listB l m p).length ∧ Sl w' S s d (ivs (listB l m p)) ∧ Ext w w'
  | 0, p, R, n, q, keep, w, hm, h0, h1, h, hA => (bel_zero h).elim
  | m + 1, p, R, n, q, keep, w, hm, h0, h1, h, hA => by
    obtain ⟨k, rfl⟩ := Int.eq_ofNat_of_zero_le h0
    have hk : k < l.length := by omega
    have hnl := hA.1
    have hlen0 := listB_len l hl (m + 1) (k : Int) h0 h1 h
    obtain ⟨hr, hc⟩ := bel_is h
    rw [cellT_at hk] at hr hc
    have hx0 := (Ext.refl w).alloc (.cells #[.slice R n q, .int .i64 keep] 24)
    have HB0 := Lib.hid (Bx.new w #[.slice R n q, .int .i64 keep] 24)
    have HX := Lib.hid hx0
    obtain ⟨p0, p1, p2⟩ := HB0.out.read2
    obtain ⟨b, off, rfl, hbl, A, c, r0, r1, r2, r3, hI⟩ := (hA.ext hx0).cell hk
    have hok := cell_ok (hl k hk) hr
    have hkn : k < n := by omega
    have hlen := hok.1.1
    have he : listB l (m + 1) (k : Int) = if l[k].leaf then l[k].it else l[k].it.flatMap (fun x => listB l m x.2) := by rw [listB, cellT_at hk]
    rcases hc with ⟨hlf, hb⟩ | ⟨hlf, hb, hch⟩
    · rw [hlf, if_pos rfl] at he
      rw [he]
      rw [hlf] at r2
      have HI := Lib.hid (hI.ext ((Ext.refl _).alloc (.cells #[.bool true, .slice A l[k].it.length c] 48)))
      generalize hit : l[k].it = it at *
      obtain ⟨li, hli⟩ : ∃ li, it.length = li := ⟨_, rfl⟩
      rw [hli] at HI r3 hlen
      have HLI := Lib.hid hli
      clear hb h hok hA hI hx0 hnl hr hlf h0 h1 he hit hli hlen0
      go_enter Tryz.func16, Tryz.ntmps16
      go_wp2
      go_ret
      exact ⟨A, li, c, rfl, HLI.out.symm, HI.out, HX.out.alloc _⟩
    · rw [hlf] at he
      simp only [Bool.false_eq_true, if_false] at he
      rw [he]
      rw [he] at hlen0
      rw [hlf] at r2
      have HIH := Lib.hid (fun j (hj : j < l[k].it.length) w' (hx : Ext w w') => ref07List_bel l hl hn m l[k].it[j].2 (some ⟨b, off, none⟩) n q keep w' (by omega) (hok.2 hlf _ (List.getElem_mem hj)).1 (by have := (hok.2 hlf _ (List.getElem_mem hj)).2; omega) (hch _ (List.getElem_mem hj)).1 (hA.ext hx))
      have hst : Ext (w.alloc (.cells #[.slice (some ⟨b, off, none⟩) n q, .int .i64 keep] 24)) ((w.alloc (.cells #[.slice (some ⟨b, off, none⟩) n q, .int .i64 keep] 24)).alloc (.cells #[.bool false, .slice A l[k].it.length c] 48)) := (Ext.refl _).alloc _
      have HI := Lib.hid (hI.ext hst)
      have HBN := Lib.hid (Bx.new (w.alloc (.cells #[.slice (some ⟨b, off, none⟩) n q, .int .i64 keep] 24)) #[.bool false, .slice A l[k].it.length c] 48)
      have HBH := Lib.hid (HB0.out.ext hst)
      have HX1 := Lib.hid (hx0.trans hst)
      rw [World.size_alloc] at HBN
      generalize hit : l[k].it = it at *
      obtain ⟨li, hli⟩ : ∃ li, it.length = li := ⟨_, rfl⟩
      rw [hli] at HI r3 hlen HBN HBH HX1
      have HLI := Lib.hid hli
      have HLE := Lib.hid (show (it.flatMap (fun x => listB l m x.2)).length ≤ 1099511627776 from Nat.le_trans hlen0 (Nat.le_trans (Nat.pow_le_pow_right (by omega) hm) (by decide)))
      clear hb h hok hA hI hx0 hnl hr hlf h0 h1 he hit hli hlen0 hst hch HB0
      obtain ⟨F, hF⟩ : ∃ F : It → List It, (fun x => listB l m x.2) = F := ⟨_, rfl⟩
      rw [hF] at HLE
      rw [hF]
      have HIH := Lib.hid (fun j (hj : j < it.length) w' (hx : Ext w w') => (show Calls Tryz.prog 16 #[.agg #[.slice (some ⟨b, off, none⟩) n q, .int .i64 keep], .int .i64 it[j].2] w' fun e w2 => ∃ S s d, e = .returned (.slice S s d) ∧ s = (F it[j]).length ∧ Sl w2 S s d (ivs (F it[j])) ∧ Ext w' w2 from by rw [← hF]; exact HIH.out j hj w' hx))
      clear hF
      go_enter Tryz.func16, Tryz.ntmps16
      go_wp2
      generalize World.alloc (World.alloc w _) _ = W at *
      clear p0 p1 p2 r0 r1 r2 r3 hbl HX
      go_loopw [6, 7] (fun v i wr => ∃ (j t : Nat) (S : Option Addr) (d : Nat), j ≤ li ∧ i = .int .i64 j ∧ v = .slice S t d ∧ t = ((it.take j).flatMap F).length ∧ wr.ownsRow W.heap.size 26 2 (.slice S t d) t (ivs ((it.take j).flatMap F)) ∧ Ext W wr) (fun _ i _ => li - (intOf i).toNat)
      case atStart => exact ⟨0, 0, none, 0, Nat.zero_le _, rfl, rfl, by simp, by rw [List.take_zero, List.flatMap_nil]; exact ⟨rfl, .inl ⟨rfl, rfl⟩⟩, Ext.refl _⟩
      case round =>
        obtain ⟨j, t, S, d, hj, rfl, rfl, ht, ho, hx⟩ := hrel
        have HT := Lib.hid ht
        have HO := Lib.hid ho
        have HXR := Lib.hid hx
        obtain ⟨p0, p1, p2⟩ := (HBH.out.ext hx).read2
        obtain ⟨r0, r1, r2⟩ := (HBN.out.ext hx).read2
        rcases Nat.lt_or_ge j li with hlt | hlt
        · have hjl : j < it.length := by rw [HLI.out]; exact hlt
          obtain ⟨b2, off2, rfl, hb2, i0, i1⟩ := it_at HI.out hjl
          have i0 := (hx.cell (p := ⟨b2, off2 + j * 2, none⟩) hb2).trans i0
          have i1 := (hx.cell (p := ⟨b2, off2 + j * 2 + 1, none⟩) hb2).trans i1
          have hji : (j : Int) < (li : Int) := by omega
          have HTK := Lib.hid (flatMap_take F it hjl)
          have HTL := Lib.hid (show ((it.take (j + 1)).flatMap F).length ≤ 1099511627776 from Nat.le_trans (flatMap_take_le F it (j + 1)) HLE.out)
          have HCL := Lib.hid (fun w' (hx : Ext w w') => HIH.out j hjl w' hx)
          have HM := Lib.hid (HX1.out.trans hx)
          generalize it[j].2 = V at *
          generalize it[j].1 = K at *
          generalize it[j] = xj at *
          clear ht ho hjl
          go_wp2
          go_region_law
            (first
              | ((go_simp
                  go_at_call 16
                  refine (HCL.out _ ?_).mono ?_
                  (first | exact HM.out.drew | exact HM.out)
                  rintro e w4 ⟨S4, s4, d4, rfl, hs4, hsl4, hx4⟩
                  have E4 := Lib.hid (show Ext wr w4 from by first | exact (Ext.refl _).drew.trans hx4 | exact hx4)
                  have N4 := Lib.hid hs4
                  have S4H := Lib.hid hsl4
                  clear hs4 hsl4 hx4))
              | ((refine step_app_sl ?_ ?_ ?_ 27 ?_ W.heap.size 26 (.agg #[.int .i64 0, .int .i64 0]) 2 16 Tryz.underlying27 infoIt rfl Nat.two_pos ?_ t (ivs ((it.take j).flatMap F)) ?_ ?_ S4 s4 d4 (ivs (F xj)) ?_ (by rw [ivs_length, N4.out]) S4H.out (ivs_oneCell _) ?_ ?_ ?_ ?_
                  rfl
                  rotate_left 2
                  rfl
                  rotate_left 1
                  rfl
                  (exact own_ext HO.out E4.out)
                  rfl
                  (have h1 := HTL.out; rw [HTK.out, List.length_append, ← HT.out, ← N4.out] at h1; unfold maxLen; omega)
                  (have h1 := HTL.out; rw [HTK.out, List.length_append, ← HT.out, ← N4.out] at h1; omega)
                  (exact (HXR.out.trans E4.out).size)
                  intro A5 d5 w5 hown hg
                  have HX5 := Lib.hid (Ext.app (HXR.out.trans E4.out) (own_ext HO.out E4.out) (Nat.le_refl _) hg)
                  rw [← ivs_append, ← HTK.out] at hown
                  have HO5 := Lib.hid hown
                  clear hown hg)))
          all_goals
            go_wp2_with fail
            go_roundw
            case rel => exact ⟨j + 1, t + s4, A5, d5, by omega, by go_num, rfl, by rw [HTK.out, List.length_append, ← HT.out, ← N4.out], HO5.out, HX5.out⟩
            case measure => simp [intOf]; omega
        · obtain rfl : li = j := by omega
          have d0 : decide ((li : Int) < (li : Int)) = false := decide_eq_false (by omega)
          have HE := Lib.hid (show it.take li = it by rw [← HLI.out, List.take_length])
          rw [HE.out] at HT HO
          clear ht ho hlt
          go_wp2
          go_ret
          exact ⟨S, t, d, rfl, HT.out, own_sl HO.out, HX1.out.trans HXR.out⟩
end Go.Proofs.YtkoomcbiddanfaaGreat
