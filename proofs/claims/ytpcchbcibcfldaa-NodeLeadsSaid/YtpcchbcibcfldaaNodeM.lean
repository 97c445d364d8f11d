/- The contracts of layer 4 with their values laid by equations. -/
import Derived.Test.YtpcchbcibcfldaaNodeN
import Derived.Deep.DrawnRows
namespace Go.Proofs.Ytpcchbcibcfldaa
open Go.RowKit

section
variable (f : Bool) (A : Option Addr) (l : List It) (n c : Nat) (w : World) (hn : n = l.length) (hA : Sl w A n c (ivs l))
include hn hA
theorem nodePrint_is {x : ByteArray} {e : Int} (h1 : ndB f l = x) (h2 : ndE l = e) : Calls Try.prog 11 #[.agg #[.bool f, .slice A n c]] w fun r w' => r = .returned (.tuple #[.string x, .int .i64 e]) ∧ Ext w w' := by
  subst h1 h2; exact nodePrint_any f A l n c w hn hA
theorem ref04Print_is {x : ByteArray} {e : Int} (h1 : ndB f l = x) (h2 : ndE l = e) : Calls Try.prog 12 #[.agg #[.bool f, .slice A n c]] w fun r w' => r = .returned (.tuple #[.string x, .int .i64 e]) ∧ Ext w w' := by
  subst h1 h2; exact ref04Print_any f A l n c w hn hA
theorem nodeRight_is {r : Bool} (h : ndR l = r) : Calls Try.prog 18 #[.agg #[.bool f, .slice A n c]] w fun e w' => e = .returned (.bool r) ∧ Ext w w' := by
  subst h; exact nodeRight_any f A l n c w hn hA
theorem ref04Right_is {r : Bool} (h : ndR l = r) : Calls Try.prog 15 #[.agg #[.bool f, .slice A n c]] w fun e w' => e = .returned (.bool r) ∧ Ext w w' := by
  subst h; exact ref04Right_any f A l n c w hn hA
end
section
variable (b : ByteArray) (w : World) (hs : b.size ≤ maxLen)
include hs
theorem nodeParse_is {f : Bool} {l : List It} {m : Nat} {e : Int} (h1 : ndPL b = f) (h2 : ndPI b = l) (hm : m = l.length) (h3 : ndPE b = e) : Calls Try.prog 13 #[.string b] w fun r w' => ∃ A c, r = .returned (.tuple #[.agg #[.bool f, .slice A m c], .int .i64 e]) ∧ Sl w' A m c (ivs l) ∧ Ext w w' := by
  subst h1 h2 hm h3; exact nodeParse_any b w hs
theorem ref04Parse_is {f : Bool} {l : List It} {m : Nat} {e : Int} (h1 : ndPL b = f) (h2 : ndPI b = l) (hm : m = l.length) (h3 : ndPE b = e) : Calls Try.prog 14 #[.string b] w fun r w' => ∃ A c, r = .returned (.tuple #[.agg #[.bool f, .slice A m c], .int .i64 e]) ∧ Sl w' A m c (ivs l) ∧ Ext w w' := by
  subst h1 h2 hm h3; exact ref04Parse_any b w hs
end
section
variable (f g : Bool) (A B : Option Addr) (a b : List It) (n m c c' : Nat) (w : World) (hn : n = a.length) (hm : m = b.length) (hA : Sl w A n c (ivs a)) (hB : Sl w B m c' (ivs b))
include hn hm hA hB
theorem ref04Same_is {r : Bool} (h : sameN f a g b = r) : Calls Try.prog 17 #[.agg #[.bool f, .slice A n c], .agg #[.bool g, .slice B m c']] w fun e w' => e = .returned (.bool r) ∧ Ext w w' := by
  subst h; exact ref04Same_any f g A B a b n m c c' w hn hm hA hB
theorem nodeSame_is {r : Bool} (ha : ndR a = true) (hb : ndR b = true) (h : sameN f a g b = r) : Calls Try.prog 16 #[.agg #[.bool f, .slice A n c], .agg #[.bool g, .slice B m c']] w fun e w' => e = .returned (.bool r) ∧ Ext w w' := by
  subst h; exact nodeSame_any f g A B a b n m c c' w hn hm ha hb hA hB
end
theorem block_same {f g : Bool} {l m : List It} (hl : ndR l = true) (hm : ndR m = true) : ((ndB f l).toList == (ndB g m).toList) = sameN f l g m := by
  rw [bytes_same]
  unfold sameN sameI
  by_cases h : f = g ∧ l = m
  · obtain ⟨rfl, rfl⟩ := h; simp
  · rw [decide_eq_false (fun e => h (ndB_inj hl hm e))]
    by_cases h1 : f = g
    · subst h1
      have h2 : ¬ l = m := fun e => h ⟨rfl, e⟩
      simp [h2]
    · have : (f == g) = false := by simpa using h1
      simp [this]
theorem withS_len {l more : List It} {a g n m : Nat} (hn : n = l.length) (hm : m = more.length) (h : a + g ≤ n) : a + m + (n - (a + g)) = (withS l a g more).length := by
  subst hn hm
  unfold withS
  rw [List.length_append, List.length_append, List.length_take, List.length_drop, Nat.min_eq_left (by omega)]
theorem ref04Rows_same (A B : Option Addr) (a : List (List It)) (n c c' : Nat) (w : World) (hm : n ≤ 100000) (hA : RowsSl w A n c a) (hB : RowsSl w B n c' a) :
    Calls Try.prog 21 #[.slice A n c, .slice B n c'] w fun e w' => e = .returned (.bool true) ∧ Ext w w' := by
  have h := ref04Rows_any A B a a n n c c' w hm hA hB
  unfold sameRows at h
  simpa using h
theorem ref04Items_same (A B : Option Addr) (a : List It) (n c c' : Nat) (w : World) (hn : n = a.length) (hA : Sl w A n c (ivs a)) (hB : Sl w B n c' (ivs a)) :
    Calls Try.prog 24 #[.slice A n c, .slice B n c'] w fun e w' => e = .returned (.bool true) ∧ Ext w w' := by
  have h := ref04Items_any A B a a n n c c' w hn hn hA hB
  unfold sameI at h
  simpa using h
theorem ref04Items_two (A B : Option Addr) (a : List It) (n m c c' : Nat) (w : World) (hn : n = a.length) (hm : m = a.length) (hA : Sl w A n c (ivs a)) (hB : Sl w B m c' (ivs a)) :
    Calls Try.prog 24 #[.slice A n c, .slice B m c'] w fun e w' => e = .returned (.bool true) ∧ Ext w w' := by
  have h := ref04Items_any A B a a n m c c' w hn hm hA hB
  unfold sameI at h
  simpa using h
theorem with_head {l more : List It} {k g : Nat} (h : k ≤ l.length) : (withS l k g more).take k = l.take k := by
  unfold withS; rw [List.append_assoc, List.take_append_of_le_length (by simp; omega), List.take_take, Nat.min_self]
theorem with_mid {l more : List It} {k g : Nat} (h : k ≤ l.length) : ((withS l k g more).drop k).take more.length = more := by
  unfold withS; rw [List.append_assoc, List.drop_left' (by simp; omega), List.take_append_of_le_length (Nat.le_refl _), List.take_length]
theorem with_tail {l more : List It} {k g : Nat} (h : k ≤ l.length) : (withS l k g more).drop (k + more.length) = l.drop (k + g) := by
  unfold withS; rw [List.drop_left' (by simp; omega)]
theorem with_back {l more : List It} {k g : Nat} (h : k ≤ l.length) : withS (withS l k g more) k more.length ((l.drop k).take g) = l := by
  have h1 := with_head (more := more) (g := g) h
  have h2 := with_tail (more := more) (g := g) h
  generalize withS l k g more = W at *
  unfold withS
  rw [h1, h2]
  have h3 : (l.drop k).take g ++ l.drop (k + g) = l.drop k := by rw [← List.drop_drop, List.take_append_drop]
  rw [List.append_assoc, h3, List.take_append_drop]
theorem same_self (f : Bool) (l : List It) : sameN f l f l = true := by unfold sameN sameI; simp
end Go.Proofs.Ytpcchbcibcfldaa
