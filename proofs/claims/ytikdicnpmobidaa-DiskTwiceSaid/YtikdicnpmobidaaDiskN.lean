/- The contracts of package disk, with lengths as numbers of their own. -/
import Derived.Test.YtikdicnpmobidaaDiskL5
namespace Go.Proofs.Ytikdicnpmobidaa
open Go.RowKit

/-- A value that is a disk of n blocks and m writes. -/
def DiskN (w : World) (v : Value) (n : Nat) (b : List ByteArray) (m : Nat) (l : List Wr) : Prop :=
  ∃ A c A' c', v = .agg #[.slice A n c, .slice A' m c'] ∧ Sl w A n c (b.map sv) ∧ Sl w A' m c' (wvs l)
theorem IsDisk.toN {w : World} {v : Value} {b : List ByteArray} {l : List Wr} {n m : Nat} (h : IsDisk w v b l) (hn : n = b.length) (hm : m = l.length) : DiskN w v n b m l := by
  subst hn hm; exact h
theorem flushD_n (A A' : Option Addr) (b : List ByteArray) (l : List Wr) (n m : Nat) (c c' : Nat) (fb : List ByteArray) (w : World) (hn : n = b.length) (hm : m = l.length) (hb : n ≤ 1000000) (hl : m ≤ 1000000) (hf : writeL b l = fb) (hA : Sl w A n c (b.map sv)) (hA' : Sl w A' m c' (wvs l)) :
    Calls Try.prog 24 #[.agg #[.slice A n c, .slice A' m c']] w fun e w' => ∃ v, e = .returned v ∧ DiskN w' v n fb 0 [] ∧ Ext w w' := by
  subst hn hm hf
  refine (flushD_any A A' b l c c' w hb hl hA hA').mono ?_
  rintro e w' ⟨v, rfl, h, hx⟩
  exact ⟨v, rfl, h.toN (by rw [writeL_length]) rfl, hx⟩
theorem putD_n (A A' : Option Addr) (b : List ByteArray) (l : List Wr) (n m c c' : Nat) (xa : Int) (xs : ByteArray) (w : World) (hn : n = b.length) (hm : m = l.length) (hb : n ≤ 1000000) (hl : m ≤ 900000) (ht : takesS n (xa, xs) = true)
    (hA : Sl w A n c (b.map sv)) (hA' : Sl w A' m c' (wvs l)) :
    Calls Try.prog 20 #[.agg #[.slice A n c, .slice A' m c'], .int .i64 xa, .string xs] w fun e w' => ∃ v, e = .returned (.tuple #[v, .int .i64 0]) ∧ DiskN w' v n b (m + 1) (l ++ [(xa, xs)]) ∧ Ext w w' := by
  subst hn hm
  have h := putD_any A A' b l c c' xa xs w hb hl hA hA'
  rw [putE_yes ht, putW_yes ht] at h
  refine h.mono ?_
  rintro e w' ⟨v, rfl, h, hx⟩
  exact ⟨v, rfl, h.toN rfl (by simp), hx⟩
theorem crashD_n (A A' K : Option Addr) (b : List ByteArray) (l : List Wr) (ks : List Bool) (n m q c c' ck : Nat) (fb : List ByteArray) (w : World) (hn : n = b.length) (hm : m = l.length) (hq : q = ks.length) (hb : n ≤ 1000000) (hl : m ≤ 1000000) (hk0 : q ≤ 1000000) (hf : writeL b (kept l ks) = fb)
    (hA : Sl w A n c (b.map sv)) (hA' : Sl w A' m c' (wvs l)) (hK : Sl w K q ck (ks.map Value.bool)) :
    Calls Try.prog 26 #[.agg #[.slice A n c, .slice A' m c'], .slice K q ck] w fun e w' => ∃ v, e = .returned v ∧ DiskN w' v n fb 0 [] ∧ Ext w w' := by
  subst hn hm hq hf
  refine (crashD_any A A' K b l ks c c' ck w hb hl hk0 hA hA' hK).mono ?_
  rintro e w' ⟨v, rfl, h, hx⟩
  exact ⟨v, rfl, h.toN (by rw [writeL_length]) rfl, hx⟩
theorem readD_n (A A' : Option Addr) (b : List ByteArray) (l : List Wr) (n m c c' : Nat) (at_ : Int) (s : ByteArray) (w : World) (hn : n = b.length) (hm : m = l.length) (hb : n ≤ 1000000) (hl : m ≤ 1000000) (hh : hasS n at_ = true) (hs : readS b l at_ = s) (hA : Sl w A n c (b.map sv)) (hA' : Sl w A' m c' (wvs l)) :
    Calls Try.prog 16 #[.agg #[.slice A n c, .slice A' m c'], .int .i64 at_] w fun e w' => e = .returned (.tuple #[.string s, .int .i64 0]) ∧ Ext w w' := by
  subst hn hm hs
  have h := readD_any A A' b l c c' at_ w hb hl hA.cells hA'.cells
  rw [readE_has hh] at h
  exact h
theorem same_n (A A' B B' : Option Addr) (b : List ByteArray) (l : List Wr) (n m c c' d d' : Nat) (w : World) (hn : n = b.length) (hm : m = l.length) (hb : n ≤ 1000000) (hl : m ≤ 1000000)
    (hA : Sl w A n c (b.map sv)) (hA' : Sl w A' m c' (wvs l)) (hB : Sl w B n d (b.map sv)) (hB' : Sl w B' m d' (wvs l)) :
    Calls Try.prog 14 #[.agg #[.slice A n c, .slice A' m c'], .agg #[.slice B n d, .slice B' m d']] w fun e w' => e = .returned (.bool true) ∧ Ext w w' := by
  subst hn hm; exact same1R_any A A' B B' b l c c' d d' w hb hl hA hA' hB hB'
theorem right_n (A A' : Option Addr) (b : List ByteArray) (l : List Wr) (n m c c' : Nat) (w : World) (hn : n = b.length) (hm : m = l.length) (hb : n ≤ 1000000) (hl : m ≤ 1000000) (hr : rightS b l = true) (hA : Sl w A n c (b.map sv)) (hA' : Sl w A' m c' (wvs l)) :
    Calls Try.prog 13 #[.agg #[.slice A n c, .slice A' m c']] w fun e w' => e = .returned (.bool true) ∧ Ext w w' := by
  subst hn hm
  have h := rightR_any A A' b l c c' w (by unfold maxLen; omega) (by unfold maxLen; omega) hA.cells hA'.cells
  rw [hr] at h
  exact h

theorem write1_at {b : List ByteArray} {x : Wr} {k : Nat} (hk : k < b.length) (hx : x.1 = (k : Int)) : write1 b x = b.set k x.2 := by
  unfold write1; rw [if_pos (by rw [hx]; exact hasS_nat hk), hx]; simp
/-- What stands in a text's block, wherever it lies. -/
theorem Sl.strAt {w : World} {A : Option Addr} {n c : Nat} {l : List ByteArray} (h : Sl w A n c (l.map sv)) {k : Nat} (hk : k < l.length) :
    ∃ b off, A = some ⟨b, off, none⟩ ∧ ∀ w', Ext w w' → w'.cell? ⟨b, off + k, none⟩ = some (.string l[k]) := by
  obtain ⟨b, off, rfl, _, _⟩ := h.cells.str hk
  refine ⟨b, off, rfl, fun w' hx => ?_⟩
  obtain ⟨b', off', e, _, hc⟩ := (h.ext hx).cells.str hk
  cases e
  exact hc k hk
end Go.Proofs.Ytikdicnpmobidaa
