/- What is small, and right; the contracts of layer 5 as the laws use them. -/
import Derived.Test.YtclpeeemnmhdcaaHeapA
namespace Go.Proofs.Ytclpeeemnmhdcaa
open Go.RowKit

theorem may_iff {l : List HC} {keep most : Int} (h : mayH ⟨l, keep⟩ most = true) : (l.length : Int) ≤ most ∧ (∀ k (hk : k < l.length), l[k].it.length ≤ 10 ∧ l[k].ref ≤ 1000000) ∧ rightH ⟨l, keep⟩ = true := by
  unfold mayH smallH at h
  simp only [Bool.and_eq_true, decide_eq_true_eq, List.all_eq_true] at h
  exact ⟨h.1.1, fun k hk => h.1.2 _ (List.getElem_mem hk), h.2⟩
theorem may_small {l : List HC} {keep most : Int} (h : mayH ⟨l, keep⟩ most = true) : smallH ⟨l, keep⟩ most = true := by
  unfold mayH at h; simp only [Bool.and_eq_true] at h; exact h.1
theorem may_bd {l : List HC} {keep most : Int} (h : mayH ⟨l, keep⟩ most = true) : Bd l := fun k hk => by have := ((may_iff h).2.1 k hk).2; omega
theorem right_ref {l : List HC} {keep : Int} (h : rightH ⟨l, keep⟩ = true) : ∀ k (hk : k < l.length), 0 ≤ l[k].ref ∧ l[k].ref ≤ 2147483647 := fun k hk => by
  have h1 := (rightH_iff h).2 k hk
  unfold cellR at h1
  split at h1
  · rename_i e; omega
  · simp only [Bool.and_eq_true, decide_eq_true_eq] at h1; omega
theorem ref05Alloc_any (R : Option Addr) (l : List HC) (n q : Nat) (keep : Int) (leaf : Bool) (A : Option Addr) (it : List It) (m c : Nat) (H : Option Addr) (held : List Int) (t d : Nat) (w : World) (hb : n ≤ 90000) (hbd : ∀ k (hk : k < l.length), l[k].ref ≤ 8000000000000000000) (hA : HcSl w R n q l) (hm : m = it.length) (hI : Sl w A m c (ivs it)) (ht : t = held.length) (hH : Sl w H t d (held.map iv)) :
    Calls Try.prog 23 #[.agg #[.slice R n q, .int .i64 keep], .agg #[.bool leaf, .slice A m c], .slice H t d] w fun e w' => ∃ S d, e = .returned (.tuple #[.agg #[.slice S n d, .int .i64 keep], .int .i64 (allocP l leaf it : Nat), .int .i64 (allocE l leaf it)]) ∧ HcSl w' S n d (allocL l leaf it held) ∧ Ext w w' := by
  cases hg : (ndR it && leadsC l leaf it)
  · obtain ⟨e1, e2, e3⟩ := alloc_bad (held := held) hg
    rw [e1, e2, e3]
    exact ref05Alloc_no R l n q keep leaf A it m c H held t d w hg hA hm hI
  · cases leaf
    · exact ref05Alloc_over R l n q keep A it m c H held t d w hg hb hbd hA hm hI ht hH
    · exact ref05Alloc_leaf R l n q keep A it m c H held t d w hg hb hbd hA hm hI ht hH
theorem usedN_le (l : List HC) : usedN l ≤ l.length := List.countP_le_length
theorem ref05Loose_is (R : Option Addr) (l : List HC) (n q : Nat) (keep p : Int) (w : World) (hb : n ≤ 90000) (hbd : Bd l) (hA : HcSl w R n q l) :
    Calls Try.prog 27 #[.agg #[.slice R n q, .int .i64 keep], .int .i64 p] w fun e w' => ∃ S d, e = .returned (.tuple #[.agg #[.slice S n d, .int .i64 keep], .int .i64 (looseE ⟨l, keep⟩ p)]) ∧ HcSl w' S n d (looseL (l.length + 1) l p) ∧ Ext w w' :=
  ref05Loose_any (usedN l) (l.length + 1) R l n q keep p w (Nat.le_refl _) (by have := usedN_le l; omega) hb hbd hA
theorem heapLoose_is (R : Option Addr) (l : List HC) (n q : Nat) (keep p : Int) (w : World) (hM : rightH ⟨l, keep⟩ = true) (hbd : Bd l) (hA : HcSl w R n q l) :
    Calls Try.prog 26 #[.agg #[.slice R n q, .int .i64 keep], .int .i64 p] w fun e w' => ∃ S d, e = .returned (.tuple #[.agg #[.slice S n d, .int .i64 keep], .int .i64 (looseE ⟨l, keep⟩ p)]) ∧ HcSl w' S n d (looseL (l.length + 1) l p) ∧ Ext w w' := by
  refine (heapLoose_any R l n q keep w p hM hbd hA).mono ?_
  rintro e w' ⟨S, d, cs, rfl, _, h1, h2, hx⟩
  exact ⟨S, d, rfl, ⟨by rw [loose_len]; exact hA.1, cs, h1, h2⟩, hx⟩
theorem ref05Same_eq (R S : Option Addr) (a : List HC) (n q q' : Nat) (k : Int) (w : World) (hA : HcSl w R n q a) (hB : HcSl w S n q' a) :
    Calls Try.prog 14 #[.agg #[.slice R n q, .int .i64 k], .agg #[.slice S n q', .int .i64 k]] w fun e w' => e = .returned (.bool true) ∧ Ext w w' := by
  have h := ref05Same_any R S a a n n q q' k k w hA hB
  unfold sameH at h
  rw [decide_eq_true rfl] at h
  exact h
theorem ref05May_is (R : Option Addr) (l : List HC) (n q : Nat) (keep most : Int) (w : World) (hA : HcSl w R n q l) {r : Bool} (h : mayH ⟨l, keep⟩ most = r) :
    Calls Try.prog 21 #[.agg #[.slice R n q, .int .i64 keep], .int .i64 most] w fun e w' => e = .returned (.bool r) ∧ Ext w w' := by
  subst h; exact ref05May_any R l n q keep most w hA
theorem may_of {l : List HC} {keep most : Int} (h1 : smallH ⟨l, keep⟩ most = true) (h2 : rightH ⟨l, keep⟩ = true) : mayH ⟨l, keep⟩ most = true := by unfold mayH; rw [h1, h2]; rfl
theorem ref05Small_is (R : Option Addr) (l : List HC) (n q : Nat) (keep most : Int) (w : World) (hA : HcSl w R n q l) {r : Bool} (h : smallH ⟨l, keep⟩ most = r) :
    Calls Try.prog 10 #[.agg #[.slice R n q, .int .i64 keep], .int .i64 most] w fun e w' => e = .returned (.bool r) ∧ Ext w w' := by
  subst h; exact ref05Small_any R l n q keep most w hA
theorem ref05Right_is (R : Option Addr) (l : List HC) (n q : Nat) (keep : Int) (w : World) (hA : HcSl w R n q l) {r : Bool} (h : rightH ⟨l, keep⟩ = r) :
    Calls Try.prog 13 #[.agg #[.slice R n q, .int .i64 keep]] w fun e w' => e = .returned (.bool r) ∧ Ext w w' := by
  subst h; exact ref05Right_any R l n q keep w hA
theorem heapRight_is (R : Option Addr) (l : List HC) (n q : Nat) (keep : Int) (w : World) (hS : smallH ⟨l, keep⟩ 60 = true) (hA : HcSl w R n q l) {r : Bool} (h : rightH ⟨l, keep⟩ = r) :
    Calls Try.prog 15 #[.agg #[.slice R n q, .int .i64 keep]] w fun e w' => e = .returned (.bool r) ∧ Ext w w' := by
  subst h; exact heapRight_any R l n q keep w hS hA
section
variable (R : Option Addr) (l : List HC) (n q : Nat) (keep : Int) (w : World)
theorem heapFree_is {m : Nat} (hM : mayH ⟨l, keep⟩ 60 = true) (h : l.countP freeC = m) (hA : HcSl w R n q l) :
    Calls Try.prog 17 #[.agg #[.slice R n q, .int .i64 keep]] w fun e w' => e = .returned (.int .i64 m) ∧ Ext w w' := by subst h; exact heapFree_any R l n q keep w hM hA
theorem ref05Free_is {m : Nat} (h : l.countP freeC = m) (hA : HcSl w R n q l) :
    Calls Try.prog 18 #[.agg #[.slice R n q, .int .i64 keep]] w fun e w' => e = .returned (.int .i64 m) ∧ Ext w w' := by subst h; exact ref05Free_any R l n q keep w hA
theorem heapFits_is {r : Bool} (x : Int) (deep : Bool) (hM : mayH ⟨l, keep⟩ 60 = true) (h : fitsH ⟨l, keep⟩ x deep = r) (hA : HcSl w R n q l) :
    Calls Try.prog 19 #[.agg #[.slice R n q, .int .i64 keep], .int .i64 x, .bool deep] w fun e w' => e = .returned (.bool r) ∧ Ext w w' := by subst h; exact heapFits_any R l n q keep w x deep hM hA
theorem ref05Fits_is {r : Bool} (x : Int) (deep : Bool) (hk : 0 ≤ keep ∧ keep ≤ 9223372036854775807) (h : fitsH ⟨l, keep⟩ x deep = r) (hA : HcSl w R n q l) :
    Calls Try.prog 20 #[.agg #[.slice R n q, .int .i64 keep], .int .i64 x, .bool deep] w fun e w' => e = .returned (.bool r) ∧ Ext w w' := by subst h; exact ref05Fits_any R l n q keep x deep w hk hA
end
theorem heapSame_is (R : Option Addr) (l : List HC) (n q : Nat) (keep : Int) (w : World) (S : Option Addr) (b : List HC) (m q' : Nat) (kb : Int) {r : Bool} (h : sameH ⟨l, keep⟩ ⟨b, kb⟩ = r) (hA : HcSl w R n q l) (hB : HcSl w S m q' b) :
    Calls Try.prog 16 #[.agg #[.slice R n q, .int .i64 keep], .agg #[.slice S m q', .int .i64 kb]] w fun e w' => e = .returned (.bool r) ∧ Ext w w' := by subst h; exact heapSame_all R l n q keep w S b m q' kb hA hB
theorem ref05Same_is (R S : Option Addr) (a b : List HC) (n m q q' : Nat) (ka kb : Int) (w : World) {r : Bool} (h : sameH ⟨a, ka⟩ ⟨b, kb⟩ = r) (hA : HcSl w R n q a) (hB : HcSl w S m q' b) :
    Calls Try.prog 14 #[.agg #[.slice R n q, .int .i64 ka], .agg #[.slice S m q', .int .i64 kb]] w fun e w' => e = .returned (.bool r) ∧ Ext w w' := by subst h; exact ref05Same_any R S a b n m q q' ka kb w hA hB
end Go.Proofs.Ytclpeeemnmhdcaa
