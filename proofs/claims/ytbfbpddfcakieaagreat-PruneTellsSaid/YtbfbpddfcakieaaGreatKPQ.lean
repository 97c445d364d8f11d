/- Contracts of the reference of layer 10 with answers that are told. -/
import Derived.Test.YtbfbpddfcakieaaGreatKPK
import Derived.Test.YtbfbpddfcakieaaGreatK45
namespace Go.Proofs.YtbfbpddfcakieaaGreat
open Go.RowKit

section
variable {l : List HC} {R : Option Addr} {n q : Nat} {keep root : Int} {w : World}
theorem rSame_is (S : Option Addr) (m q' : Nat) (hA : HcSl w R n q l) (hB : HcSl w S m q' l) :
    Calls Tryz.prog 10 #[.agg #[.slice R n q, .int .i64 keep], .agg #[.slice S m q', .int .i64 keep]] w fun e w' => e = .returned (.bool true) ∧ Ext w w' := by
  have h := ref05Same_any R S l l n m q q' keep keep w hA hB
  rw [show sameH ⟨l, keep⟩ ⟨l, keep⟩ = true from by unfold sameH; simp] at h
  exact h
theorem rDel_is {most : Int} {key : Int} {c2 : List HC} {r2 e2 : Int} (hmost : most ≤ 60) (hm : mayT ⟨l, keep⟩ root most = true) (h : delR ⟨l, keep⟩ root key = (c2, r2, e2)) (hA : HcSl w R n q l) :
    Calls Tryz.prog 7 #[.agg #[.slice R n q, .int .i64 keep], .int .i64 root, .int .i64 key] w fun e w' => ∃ S d, e = .returned (.tuple #[.agg #[.slice S n d, .int .i64 keep], .int .i64 r2, .int .i64 e2]) ∧ HcSl w' S n d c2 ∧ Ext w w' := by
  have h1 := ref10Del_any R l n q keep root key most w hmost hm hA
  rw [h] at h1
  exact h1
theorem rLow_is {most : Int} {c2 : List HC} {r2 : Int} (hm : mayT ⟨l, keep⟩ root most = true) (h : lowS 20 l root = (c2, r2)) (hA : HcSl w R n q l) :
    Calls Tryz.prog 9 #[.agg #[.slice R n q, .int .i64 keep], .int .i64 root] w fun e w' => ∃ S d, e = .returned (.tuple #[.agg #[.slice S n d, .int .i64 keep], .int .i64 r2]) ∧ HcSl w' S n d c2 ∧ Ext w w' := by
  have h1 := ref10Low_may R l n q keep root most w hm hA
  rw [h] at h1
  exact h1
theorem rCut_is {most lo hi : Int} {m : Nat} {c2 : List HC} {r2 e2 : Int} {k : Nat} (hmost : most ≤ 60) (hm1 : m ≤ 1000) (hf : fineB ⟨l, keep⟩ root most = true) (h : cutS keep lo hi m l root = (c2, r2, k, e2)) (hA : HcSl w R n q l) :
    Calls Tryz.prog 13 #[.agg #[.slice R n q, .int .i64 keep], .int .i64 root, .int .i64 lo, .int .i64 hi, .int .i64 m] w fun e w' => ∃ S d, e = .returned (.tuple #[.agg #[.slice S n d, .int .i64 keep], .int .i64 r2, .int .i64 k, .int .i64 e2]) ∧ HcSl w' S n d c2 ∧ Ext w w' := by
  have h1 := ref10Cut_any R l n q keep root lo hi most m w hmost hm1 hf hA
  rw [h] at h1
  exact h1
end
end Go.Proofs.YtbfbpddfcakieaaGreat
