/- Walks of the reference's Rows and Split. -/
import Derived.Test.YtpcchbcibcfldaaNodeW5
import Derived.Deep.AppendLies
import Derived.Deep.RegionHeld3
import Derived.Deep.DeepCutAuto
import Derived.RegionTactic
import Derived.StillTailTactics
namespace Go.Proofs.Ytpcchbcibcfldaa
open Go.RowKit

/-- Cells that are rows of items. -/
def RowsAt (w : World) (cs : List Value) (rows : List (List It)) : Prop := cs.length = rows.length ∧ ∀ i (h : i < rows.length), ∃ A c, cs[i]? = some (.slice A rows[i].length c) ∧ Sl w A rows[i].length c (ivs rows[i])
theorem RowsAt.ext {w w' : World} {cs : List Value} {rows : List (List It)} (h : RowsAt w cs rows) (hx : Ext w w') : RowsAt w' cs rows :=
  ⟨h.1, fun i hi => by obtain ⟨A, c, h1, h2⟩ := h.2 i hi; exact ⟨A, c, h1, h2.ext hx⟩⟩
theorem RowsAt.nil (w : World) : RowsAt w [] [] := ⟨rfl, fun i hi => by simp at hi⟩
theorem RowsAt.cons {w : World} {A : Option Addr} {n c : Nat} {r : List It} {cs : List Value} {rows : List (List It)} (hn : n = r.length) (h : Sl w A n c (ivs r)) (hr : RowsAt w cs rows) : RowsAt w (.slice A n c :: cs) (r :: rows) := by
  subst hn
  refine ⟨by simp [hr.1], fun i hi => ?_⟩
  match i with
  | 0 => exact ⟨A, c, rfl, h⟩
  | i + 1 => simpa using hr.2 i (by simpa using hi)
/-- A slice of rows. -/
def RowsSl (w : World) (R : Option Addr) (m q : Nat) (rows : List (List It)) : Prop := m = rows.length ∧ ∃ cs, Sl w R m q cs ∧ RowsAt w cs rows
theorem RowsSl.ext {w w' : World} {R : Option Addr} {m q : Nat} {rows : List (List It)} (h : RowsSl w R m q rows) (hx : Ext w w') : RowsSl w' R m q rows := by
  obtain ⟨h1, cs, h2, h3⟩ := h
  exact ⟨h1, cs, h2.ext hx, h3.ext hx⟩
/-- Where a row stands. -/
theorem RowsSl.row {w : World} {R : Option Addr} {m q : Nat} {rows : List (List It)} (h : RowsSl w R m q rows) {k : Nat} (hk : k < rows.length) :
    ∃ b off, R = some ⟨b, off, none⟩ ∧ ∃ A c, w.cell? ⟨b, off + k, none⟩ = some (.slice A rows[k].length c) ∧ Sl w A rows[k].length c (ivs rows[k]) := by
  obtain ⟨h1, cs, h2, h3⟩ := h
  obtain ⟨A, c, h4, h5⟩ := h3.2 k hk
  have hne : cs ≠ [] := by intro e; subst e; simp at h4
  obtain ⟨b, off, rfl, _, hc⟩ := h2.cells hne
  exact ⟨b, off, rfl, A, c, hc k _ h4, h5⟩

def sameRows (a b : List (List It)) : Bool := decide (a = b)
set_option maxHeartbeats 2000000 in
theorem ref04Rows_any (A B : Option Addr) (a b : List (List It)) (n m c c' : Nat) (w : World) (hm : n ≤ 100000) (hA : RowsSl w A n c a) (hB : RowsSl w B m c' b) :
    Calls Try.prog 21 #[.slice A n c, .slice B m c'] w fun e w' => e = .returned (.bool (sameRows a b)) ∧ Ext w w' := by
  obtain rfl := hA.1
  obtain rfl := hB.1
  unfold sameRows
  have HA := Lib.hid hA
  have HB := Lib.hid hB
  clear hA hB
  by_cases hl : a.length = b.length
  · have HL := Lib.hid hl
    have hl1 : ((a.length : Int) != (b.length : Int)) = false := by simp [hl]
    have hl2 : a.length ≤ b.length := by omega
    have hl3 : b.length ≤ a.length := by omega
    clear hl
    go_enter Try.func21, Try.ntmps21
    go_wp2_with fail
    go_loopw [5] (fun i wr => ∃ k : Nat, k ≤ a.length ∧ i = .int .i64 k ∧ a.take k = b.take k ∧ Ext w wr) (fun i _ => a.length - (intOf i).toNat)
    case atStart => exact ⟨0, Nat.zero_le _, rfl, rfl, Ext.refl _⟩
    case round =>
      obtain ⟨k, hk, rfl, hal, hX⟩ := hrel
      have HT := Lib.hid hal
      have HX := Lib.hid hX
      clear hal
      by_cases hlt : k < a.length
      · have hlt2 : k < b.length := by omega
        obtain ⟨ba, offa, rfl, Ak, ck, hck, sa⟩ := (HA.out.ext hX).row hlt
        obtain ⟨bb, offb, rfl, Bk, dk, hdk, sb⟩ := (HB.out.ext hX).row hlt2
        have hki : (k : Int) < (a.length : Int) := by omega
        have hki2 : (k : Int) < (b.length : Int) := by omega
        have HF := Lib.hid (ne_at (a := a) (b := b) k hlt hlt2)
        have HS := Lib.hid (eq_step (a := a) (b := b) k hlt hlt2 HT.out)
        have HI := Lib.hid (fun w' (hx : Ext wr w') => ref04Items_any Ak Bk a[k] b[k] a[k].length b[k].length ck dk w' rfl rfl (sa.ext hx) (sb.ext hx))
        clear HT hX sa sb
        generalize hq : a[k] = qa at *
        generalize hq2 : b[k] = qb at *
        clear hq hq2
        have HXD := Lib.hid ((Ext.refl wr).drew)
        rcases Decidable.em (qa = qb) with he | he
        · have hs : sameI qa qb = true := by unfold sameI; exact decide_eq_true he
          rw [hs] at HI
          have HE := Lib.hid (HS.out he)
          clear he hs
          go_wp2_with fail
          go_still_tail 8, (by kernel_rfl)
          change wpList _ _ _ _ _ wr.drew
          go_wp2_with (go_at_call 24; refine (HI.out _ HXD.out).mono ?_; rintro e w1 ⟨rfl, hx⟩; have HX1 := Lib.hid (HX.out.trans (HXD.out.trans hx)); clear hx)
          go_roundw
          case rel => exact ⟨k + 1, by omega, by go_num, HE.out, HX1.out⟩
          case measure => simp [intOf]; omega
        · have hs : sameI qa qb = false := by unfold sameI; exact decide_eq_false he
          rw [hs] at HI
          have HE := Lib.hid (HF.out he)
          clear he hs
          go_wp2_with fail
          go_still_tail 8, (by kernel_rfl)
          change wpList _ _ _ _ _ wr.drew
          go_wp2_with (go_at_call 24; refine (HI.out _ HXD.out).mono ?_; rintro e w1 ⟨rfl, hx⟩; have HX1 := Lib.hid (HX.out.trans (HXD.out.trans hx)); clear hx)
          go_ret
          exact ⟨ret_bool (by rw [decide_eq_false HE.out]), HX1.out⟩
      · obtain rfl : k = a.length := by omega
        have HE := Lib.hid (eq_end HL.out HT.out)
        clear HT hX
        go_wp2_with fail
        go_ret
        exact ⟨ret_bool (by rw [decide_eq_true HE.out]), HX.out⟩
  · have HL := Lib.hid (show ¬ a = b from fun e => hl (by rw [e]))
    have hl1 : ((a.length : Int) != (b.length : Int)) = true := by simp; omega
    clear hl
    go_enter Try.func21, Try.ntmps21
    go_wp2_with fail
    go_ret
    exact ⟨ret_bool (by rw [decide_eq_false HL.out]), Ext.refl _⟩
end Go.Proofs.Ytpcchbcibcfldaa
