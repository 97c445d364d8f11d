/- The contracts of layer 7 with lengths and rows told together. -/
import Derived.Test.YthlencnlgnbpaaaTreeN
namespace Go.Proofs.Ythlencnlgnbpaaa
open Go.RowKit

/-- A row of numbers, and of items, with its length. -/
def Ns (w : World) (S : Option Addr) (s d : Nat) (xs : List Int) : Prop := s = xs.length ∧ Sl w S s d (xs.map iv)
theorem Ns.ext {w w' : World} {S : Option Addr} {s d : Nat} {xs : List Int} (h : Ns w S s d xs) (hx : Ext w w') : Ns w' S s d xs := ⟨h.1, h.2.ext hx⟩
def Is (w : World) (S : Option Addr) (s d : Nat) (xs : List It) : Prop := s = xs.length ∧ Sl w S s d (ivs xs)
theorem Is.ext {w w' : World} {S : Option Addr} {s d : Nat} {xs : List It} (h : Is w S s d xs) (hx : Ext w w') : Is w' S s d xs := ⟨h.1, h.2.ext hx⟩
theorem ref05May_is (R : Option Addr) (l : List HC) (n q : Nat) (keep most : Int) (w : World) {b : Bool} (hA : HcSl w R n q l) (hb : mayH ⟨l, keep⟩ most = b) :
    Calls Try.prog 10 #[.agg #[.slice R n q, .int .i64 keep], .int .i64 most] w fun e w' => e = .returned (.bool b) ∧ Ext w w' := by
  have h := ref05May_any R l n q keep most w hA
  rw [hb] at h
  exact h
theorem ref07May_is (R : Option Addr) (l : List HC) (n q : Nat) (keep root most : Int) (w : World) {b : Bool} (hA : HcSl w R n q l) (hb : mayR ⟨l, keep⟩ root most = b) :
    Calls Try.prog 20 #[.agg #[.slice R n q, .int .i64 keep], .int .i64 root, .int .i64 most] w fun e w' => e = .returned (.bool b) ∧ Ext w w' := by
  have h := ref07May_any R l n q keep root most w hA
  rw [hb] at h
  exact h
theorem ref07High_is (R : Option Addr) (l : List HC) (n q : Nat) (keep p : Int) (w : World) (hl : AllR l) (hn : l.length ≤ 2000) (hr : rightR ⟨l, keep⟩ p = true) (hA : HcSl w R n q l) :
    Calls Try.prog 16 #[.agg #[.slice R n q, .int .i64 keep], .int .i64 p] w fun e w' => e = .returned (.int .i64 (highT l p)) ∧ Ext w w' :=
  (ref07High_any R l n q keep p w hl hn hr hA).mono (fun _ _ h => ⟨h.1, h.2.2⟩)
theorem treeNodes_is (R : Option Addr) (l : List HC) (n q : Nat) (keep keep' p : Int) (w : World) (hl : AllR l) (hn : l.length ≤ 2000) (hr : rightR ⟨l, keep'⟩ p = true) (hA : HcSl w R n q l) :
    Calls Try.prog 18 #[.agg #[.slice R n q, .int .i64 keep], .int .i64 p] w fun e w' => ∃ S s d, e = .returned (.slice S s d) ∧ Ns w' S s d (nodesT l p) ∧ Ext w w' := by
  refine (treeNodes_any R l n q keep keep' p w hl hn hr hA).mono ?_
  rintro e w' ⟨S, s, d, rfl, h1, h2, h3⟩
  exact ⟨S, s, d, rfl, ⟨h1, h2⟩, h3⟩
theorem ref07Nodes_is (R : Option Addr) (l : List HC) (n q : Nat) (keep keep' p : Int) (w : World) (hl : AllR l) (hn : l.length ≤ 2000) (hr : rightR ⟨l, keep'⟩ p = true) (hA : HcSl w R n q l) :
    Calls Try.prog 19 #[.agg #[.slice R n q, .int .i64 keep], .int .i64 p] w fun e w' => ∃ S s d, e = .returned (.slice S s d) ∧ Ns w' S s d (nodesT l p) ∧ Ext w w' := by
  refine (ref07Nodes_any R l n q keep keep' p w hl hn hr hA).mono ?_
  rintro e w' ⟨S, s, d, rfl, h1, h2, h3⟩
  exact ⟨S, s, d, rfl, ⟨h1, h2⟩, h3⟩
theorem treeScan_is (R : Option Addr) (l : List HC) (n q : Nat) (keep keep' p lo hi : Int) (w : World) (hl : AllR l) (hn : l.length ≤ 2000) (hr : rightR ⟨l, keep'⟩ p = true) (hA : HcSl w R n q l) :
    Calls Try.prog 24 #[.agg #[.slice R n q, .int .i64 keep], .int .i64 p, .int .i64 lo, .int .i64 hi] w fun e w' => ∃ S s d, e = .returned (.slice S s d) ∧ Is w' S s d (scanT l p lo hi) ∧ Ext w w' := by
  refine (treeScan_any R l n q keep keep' p lo hi w hl hn hr hA).mono ?_
  rintro e w' ⟨S, s, d, rfl, h1, h2, h3⟩
  exact ⟨S, s, d, rfl, ⟨h1, h2⟩, h3⟩
theorem ref07Scan_is (R : Option Addr) (l : List HC) (n q : Nat) (keep keep' p lo hi : Int) (w : World) (hl : AllR l) (hn : l.length ≤ 2000) (hr : rightR ⟨l, keep'⟩ p = true) (hA : HcSl w R n q l) :
    Calls Try.prog 25 #[.agg #[.slice R n q, .int .i64 keep], .int .i64 p, .int .i64 lo, .int .i64 hi] w fun e w' => ∃ S s d, e = .returned (.slice S s d) ∧ Is w' S s d (scanT l p lo hi) ∧ Ext w w' := by
  refine (ref07Scan_any R l n q keep keep' p lo hi w hl hn hr hA).mono ?_
  rintro e w' ⟨S, s, d, rfl, h1, h2, h3⟩
  exact ⟨S, s, d, rfl, ⟨h1, h2⟩, h3⟩
theorem ref07Ints_self (A B : Option Addr) (a b : List Int) (n m c d : Nat) (w : World) (hab : a = b) (hA : Ns w A n c a) (hB : Ns w B m d b) :
    Calls Try.prog 17 #[.slice A n c, .slice B m d] w fun e w' => e = .returned (.bool true) ∧ Ext w w' := by
  refine (ref07Ints_any A B a b n m c d w hA.1 hB.1 hA.2 hB.2).mono ?_
  rintro e w2 ⟨rfl, q, rfl⟩
  exact ⟨by rw [show sameZ a b = true from decide_eq_true hab], (Ext.refl _).drewN q⟩
theorem ref04Items_self (A B : Option Addr) (a b : List It) (n m c d : Nat) (w : World) (hab : sameI a b = true) (hA : Is w A n c a) (hB : Is w B m d b) :
    Calls Try.prog 23 #[.slice A n c, .slice B m d] w fun e w' => e = .returned (.bool true) ∧ Ext w w' := by
  have h := ref04Items_any A B a b n m c d w hA.1 hB.1 hA.2 hB.2
  rw [hab] at h
  exact h
theorem sameI_self (xs : List It) : sameI xs xs = true := by unfold sameI; simp
/-- A guard that is met is struck. -/
theorem wpList_unguard {P : Program} {ops : Array Oper} {Q : Exit → Act → World → Prop} {rest : List Oper} {a : Act} {w : World} {o : Oper} (hw : Region.wanted o (yielded ops a.tmps) = true)
    (h : wpList P ops Q ({ o with guard := none } :: rest) a w) : wpList P ops Q (o :: rest) a w := by
  unfold wpList at h ⊢
  rw [if_pos hw]
  rw [if_pos (by simp [Region.wanted])] at h
  exact h
theorem mayR_all {l : List HC} {keep root most : Int} (h : mayR ⟨l, keep⟩ root most = true) : AllR l ∧ l.length ≤ 2000 ∧ rightR ⟨l, keep⟩ root = true := by
  unfold mayR at h
  rw [Bool.and_eq_true] at h
  exact ⟨(may_all h.1).1, (may_all h.1).2, h.2⟩
end Go.Proofs.Ythlencnlgnbpaaa
