/- What the laws of layer 10 ask, of heaps that are fine; contracts with answers that are told. -/
import Derived.Test.YtbfbpddfcakieaaGreatK43
import Derived.Test.YtbfbpddfcakieaaGreatK04
import Derived.Test.YtbfbpddfcakieaaGreatK15
import Derived.Test.YtbfbpddfcakieaaGreatK44
namespace Go.Proofs.YtbfbpddfcakieaaGreat
open Go.RowKit

theorem high_boundsP (c : List HC) (root : Int) : 0 ≤ highT c root ∧ highT c root ≤ 20 := by
  unfold highT
  split
  · omega
  · exact bel_high c 20 root
theorem mayT_ofP {h : Hp} {root most : Int} (hf : fineB h root most = true) : mayT h root most = true := by unfold fineB at hf; rw [Bool.and_eq_true] at hf; exact hf.1
theorem fine_allP {c : List HC} {keep root most : Int} (hf : fineB ⟨c, keep⟩ root most = true) : AllR c ∧ c.length ≤ 2000 ∧ rightR ⟨c, keep⟩ root = true ∧ mayR ⟨c, keep⟩ root most = true := by
  obtain ⟨h1, h2, h3⟩ := fine_may hf
  have h4 := may_iff h1
  exact ⟨allR_of h4.2.2, by have := (rightH_iff h4.2.2).1.1.2; exact this, h2, mayT_ofP hf⟩
theorem get_someP {c : List HC} {root key : Int} (hg : getT c root key ≠ none) : ∃ z ∈ listT c root, z.1 = key := by
  unfold getT at hg
  cases h : (listT c root).find? (fun x => decide (x.1 = key)) with
  | none => rw [h] at hg; exact absurd rfl hg
  | some z => exact ⟨z, List.mem_of_find?_eq_some h, by simpa using List.find?_some h⟩
theorem get_noneP {c : List HC} {keep root key : Int} (hg : getT c root key = none) : delR ⟨c, keep⟩ root key = (c, root, 4) := by unfold delR; rw [if_pos hg]
section
variable {l : List HC} {R : Option Addr} {n q : Nat} {keep root : Int} {w : World}
theorem rFine_is {r : Bool} (A : Option Addr) (c : Nat) (most : Int) (h : fineB ⟨l, keep⟩ root most = r) (hA : HcSl w R n q l) (hR : Sl w A 1 c ([root].map iv)) :
    Calls Tryz.prog 11 #[.agg #[.slice R n q, .int .i64 keep], .slice A 1 c, .slice none 0 0, .int .i64 most] w fun e w' => e = .returned (.bool r) ∧ Ext w w' := by subst h; exact ref08Fine_one l R n q keep A c root most w hA hR
theorem pDel_is {most : Int} {key : Int} {c2 : List HC} {r2 e2 : Int} (hmost : most ≤ 60) (hm : mayT ⟨l, keep⟩ root most = true) (h : delR ⟨l, keep⟩ root key = (c2, r2, e2)) (hA : HcSl w R n q l) :
    Calls Tryz.prog 6 #[.agg #[.slice R n q, .int .i64 keep], .int .i64 root, .int .i64 key] w fun e w' => ∃ S d, e = .returned (.tuple #[.agg #[.slice S n d, .int .i64 keep], .int .i64 r2, .int .i64 e2]) ∧ HcSl w' S n d c2 ∧ Ext w w' := by
  have h1 := pruneDel_any R l n q keep root key most w hmost hm hA
  rw [h] at h1
  exact h1
theorem pLow_is {most : Int} {c2 : List HC} {r2 : Int} (hm : mayT ⟨l, keep⟩ root most = true) (h : lowS 20 l root = (c2, r2)) (hA : HcSl w R n q l) :
    Calls Tryz.prog 8 #[.agg #[.slice R n q, .int .i64 keep], .int .i64 root] w fun e w' => ∃ S d, e = .returned (.tuple #[.agg #[.slice S n d, .int .i64 keep], .int .i64 r2]) ∧ HcSl w' S n d c2 ∧ Ext w w' := by
  have h1 := pruneLow_any R l n q keep root most w hm hA
  rw [h] at h1
  exact h1
theorem pCut_is {most lo hi : Int} {m : Nat} {c2 : List HC} {r2 e2 : Int} {k : Nat} (hmost : most ≤ 60) (hm1 : m ≤ 1000) (hf : fineB ⟨l, keep⟩ root most = true) (h : cutS keep lo hi m l root = (c2, r2, k, e2)) (hA : HcSl w R n q l) :
    Calls Tryz.prog 12 #[.agg #[.slice R n q, .int .i64 keep], .int .i64 root, .int .i64 lo, .int .i64 hi, .int .i64 m] w fun e w' => ∃ S d, e = .returned (.tuple #[.agg #[.slice S n d, .int .i64 keep], .int .i64 r2, .int .i64 k, .int .i64 e2]) ∧ HcSl w' S n d c2 ∧ Ext w w' := by
  have h1 := pruneCut_any R l n q keep root lo hi most m w hmost hm1 hf hA
  rw [h] at h1
  exact h1
theorem rPut_is {most : Int} {key val : Int} {deep : Bool} {c2 : List HC} {r2 e2 : Int} (hmost : most ≤ 60) (hm : mayT ⟨l, keep⟩ root most = true) (h : putR ⟨l, keep⟩ root (key, val) deep = (c2, r2, e2)) (hA : HcSl w R n q l) :
    Calls Tryz.prog 37 #[.agg #[.slice R n q, .int .i64 keep], .int .i64 root, .int .i64 key, .int .i64 val, .bool deep] w fun e w' => ∃ S d, e = .returned (.tuple #[.agg #[.slice S n d, .int .i64 keep], .int .i64 r2, .int .i64 e2]) ∧ HcSl w' S n d c2 ∧ Ext w w' := by
  have h1 := ref09Put_any R l n q keep root most (key, val) deep w hmost hm hA
  rw [h] at h1
  exact h1
theorem rHigh_is {H : Int} (hl : AllR l) (hn : l.length ≤ 2000) (hr : rightR ⟨l, keep⟩ root = true) (h : highT l root = H) (hA : HcSl w R n q l) :
    Calls Tryz.prog 27 #[.agg #[.slice R n q, .int .i64 keep], .int .i64 root] w fun e w' => e = .returned (.int .i64 H) ∧ Ext w w' := by
  subst h
  exact (ref07High_any R l n q keep root w hl hn hr hA).mono (fun e w2 h => ⟨h.1, h.2.2⟩)
theorem rFree_is {f : Nat} (h : l.countP freeC = f) (hA : HcSl w R n q l) :
    Calls Tryz.prog 52 #[.agg #[.slice R n q, .int .i64 keep]] w fun e w' => e = .returned (.int .i64 f) ∧ Ext w w' := by subst h; exact ref05Free_any R l n q keep w hA
theorem rMay_is {r : Bool} (most : Int) (h : mayR ⟨l, keep⟩ root most = r) (hA : HcSl w R n q l) :
    Calls Tryz.prog 5 #[.agg #[.slice R n q, .int .i64 keep], .int .i64 root, .int .i64 most] w fun e w' => e = .returned (.bool r) ∧ Ext w w' := by subst h; exact ref07May_any R l n q keep root most w hA
theorem rList_is {L : List It} {s : Nat} (hl : AllR l) (hn : l.length ≤ 2000) (hr : rightR ⟨l, keep⟩ root = true) (h : listT l root = L) (hs : L.length = s) (hA : HcSl w R n q l) :
    Calls Tryz.prog 18 #[.agg #[.slice R n q, .int .i64 keep], .int .i64 root] w fun e w' => ∃ S d, e = .returned (.slice S s d) ∧ Sl w' S s d (ivs L) ∧ Ext w w' := by
  subst h; subst hs
  refine (ref07List_any R l n q keep keep root w hl hn hr hA).mono ?_
  rintro e w2 ⟨T, s, c, rfl, rfl, h1, h2⟩
  exact ⟨T, c, rfl, h1, h2⟩
theorem rScan_is {L : List It} {s : Nat} (lo hi : Int) (hl : AllR l) (hn : l.length ≤ 2000) (hr : rightR ⟨l, keep⟩ root = true) (h : scanT l root lo hi = L) (hs : L.length = s) (hA : HcSl w R n q l) :
    Calls Tryz.prog 36 #[.agg #[.slice R n q, .int .i64 keep], .int .i64 root, .int .i64 lo, .int .i64 hi] w fun e w' => ∃ S d, e = .returned (.slice S s d) ∧ Sl w' S s d (ivs L) ∧ Ext w w' := by
  subst h; subst hs
  refine (ref07Scan_any R l n q keep keep root lo hi w hl hn hr hA).mono ?_
  rintro e w2 ⟨T, s, c, rfl, rfl, h1, h2⟩
  exact ⟨T, c, rfl, h1, h2⟩
theorem rGet_is {v g : Int} (key : Int) (hl : AllR l) (hn : l.length ≤ 2000) (hr : rightR ⟨l, keep⟩ root = true) (h1 : getV (getT l root key) = v) (h2 : getE (getT l root key) = g) (hA : HcSl w R n q l) :
    Calls Tryz.prog 25 #[.agg #[.slice R n q, .int .i64 keep], .int .i64 root, .int .i64 key] w fun e w' => e = .returned (.tuple #[.int .i64 v, .int .i64 g]) ∧ Ext w w' := by
  subst h1; subst h2
  exact ref07Get_any R l n q keep keep root key w hl hn hr hA
theorem rItems_is (A B : Option Addr) (a : List It) (s c c' : Nat) (hs : a.length = s) (hA : Sl w A s c (ivs a)) (hB : Sl w B s c' (ivs a)) :
    Calls Tryz.prog 17 #[.slice A s c, .slice B s c'] w fun e w' => e = .returned (.bool true) ∧ Ext w w' := by
  have h := ref04Items_any A B a a s s c c' w hs.symm hs.symm hA hB
  rw [show sameI a a = true from by unfold sameI; simp] at h
  exact h
end
end Go.Proofs.YtbfbpddfcakieaaGreat
