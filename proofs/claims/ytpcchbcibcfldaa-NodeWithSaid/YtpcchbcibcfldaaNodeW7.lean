/- Walk of the reference's Split. -/
import Derived.Test.YtpcchbcibcfldaaNodeW6
import Derived.Deep.DrawnRows
namespace Go.Proofs.Ytpcchbcibcfldaa
open Go.RowKit
attribute [local go_sem ↓] Go.wp_at_zero Go.wp_at_succ

theorem infoRow : (Try.prog.info? 22).map (fun i => (i.zero, i.size, i.bytes)) = some (some (.slice none 0 0), 1, 24) := by kernel_rfl
theorem row_one {w w' : World} {A : Option Addr} {n c : Nat} {l : List It} (hn : n = l.length) (h : Sl w A n c (ivs l)) (hx : Ext w w') : RowsAt w' [.slice A n c] [l] := RowsAt.cons hn (h.ext hx) (RowsAt.nil _)

theorem rows_one {w : World} {cs : List Value} {rows : List (List It)} (h : RowsAt w cs rows) : ∀ u ∈ cs, u.oneCell' = true := fun u hu => by
  obtain ⟨i, hi, rfl⟩ := List.mem_iff_getElem.1 hu
  obtain ⟨A, c, h1, _⟩ := h.2 i (by rw [← h.1]; exact hi)
  rw [List.getElem?_eq_getElem hi] at h1
  have e := Option.some.inj h1
  rw [e]; rfl
theorem splitS_le : ∀ (l : List It), (splitS l).length ≤ l.length := by
  intro l
  induction h : l.length using Nat.strongRecOn generalizing l with
  | ind N ih =>
    by_cases h4 : l.length ≤ 4
    · by_cases h0 : l.length = 0
      · rw [splitS, dif_pos h4, if_pos h0]; simp
      · rw [splitS, dif_pos h4, if_neg h0]; simp; omega
    · rw [splitS_more h4]
      have := ih (l.drop 3).length (by simp; omega) (l.drop 3) rfl
      simp at this ⊢
      omega
set_option maxRecDepth 100000 in
set_option maxHeartbeats 400000 in
theorem ref04Split_any : ∀ (N : Nat) (A : Option Addr) (l : List It) (n c : Nat) (w0 w : World), l.length ≤ N → n = l.length → n ≤ 1000 → Ext w0 w → Sl w0 A n c (ivs l) →
    Calls Try.prog 23 #[.slice A n c] w fun e w' => ∃ R q cs, e = .returned (.slice R (splitS l).length q) ∧ Sl w' R (splitS l).length q cs ∧ RowsAt w0 cs (splitS l) ∧ Ext w w' := by
  intro N
  induction N using Nat.strongRecOn with
  | ind N ih =>
    intro A l n c w0 w hN hn hb hx0 hS
    by_cases h0 : n = 0
    · subst h0
      obtain rfl : l = [] := List.eq_nil_of_length_eq_zero hn.symm
      rw [splitS_nil]
      clear hn hN hS ih hx0
      go_enter Try.func23, Try.ntmps23
      go_wp2_with fail
      go_ret
      exact ⟨none, 0, [], rfl, Sl.nil _, RowsAt.nil _, Ext.refl _⟩
    by_cases h4 : n ≤ 4
    · rw [splitS_few (by omega) (by omega)]
      have e0 : ((n : Int) == 0) = false := by simpa using h0
      have HS := Lib.hid hS
      have HN := Lib.hid hn
      clear hn hN hS ih h0 hx0
      go_enter Try.func23, Try.ntmps23
      go_wp2_with fail
      go_ret
      exact ⟨_, _, [.slice A n c], rfl, sl_lit w 22 1 [.slice A n c] (by unfold maxLen; omega), row_one HN.out HS.out (Ext.refl _), (Ext.refl w).alloc _⟩
    · rw [splitS_more (by omega)]
      have e0 : ((n : Int) == 0) = false := by simpa using h0
      have hnc := hS.2.1
      obtain ⟨b, off, rfl, _, _⟩ := hS.cells.it (k := 0) (by omega)
      have HP := Lib.hid (hS.pre hn 3 (by omega))
      have hQ := hS.post hn 3 (by omega)
      rw [if_neg (by omega)] at hQ
      simp only [Option.map_some, Addr.add_lit, Nat.reduceMul] at hQ
      have HIH := Lib.hid (fun w' (hx : Ext w w') => ih (l.drop 3).length (by simp; omega) _ (l.drop 3) (n - 3) (c - 3) w0 w' (Nat.le_refl _) (by simp; omega) (by omega) (hx0.trans hx) hQ)
      have HN := Lib.hid hn
      have hc3 : ¬ c = 3 := by omega
      have i1 : (3 : Int) ≤ (c : Int) := by omega
      have i2 : (3 : Int) ≤ (n : Int) := by omega
      have HLA := Lib.hid (show (splitS (l.drop 3)).length ≤ 100000 from Nat.le_trans (splitS_le _) (by simp; omega))
      have HOW := Lib.hid (fun (wx : World) (h : w.heap.size ≤ wx.heap.size) => (show (wx.alloc (.cells #[.slice (some ⟨b, off, none⟩) 3 c] 22)).ownsRow w.heap.size 22 1 (.slice (some ⟨wx.heap.size, 0, none⟩) 1 1) 1 [.slice (some ⟨b, off, none⟩) 3 c] from World.ownsRow_lit (base := w.heap.size) (e := 22) (size := 1) wx #[.slice (some ⟨b, off, none⟩) 3 c] 1 h (by unfold maxLen; omega) rfl))
      clear hn hN hS ih h0 hQ hx0
      go_enter Try.func23, Try.ntmps23
      go_wp2_with fail
      go_region_law
        (first
          | ((go_simp
              go_at_call 23
              refine (HIH.out _ ?_).mono ?_
              (first | exact (Ext.refl _).drew | exact ((Ext.refl _).alloc _).drew | exact ((Ext.refl _).drew).alloc _)
              rintro e w1 ⟨R, q, cs, rfl, hsl, hat, hx⟩
              have HSL := Lib.hid hsl
              have HAT := Lib.hid hat
              have HXA := Lib.hid hx
              clear hsl hat hx))
          | ((refine step_app_sl ?_ ?_ ?_ 43 ?_ w.heap.size 22 (.slice none 0 0) 1 24 Try.underlying43 infoRow rfl Nat.one_pos ?_ 1 [.slice (some ⟨b, off, none⟩) 3 c] ?_ ?_ R (splitS (l.drop 3)).length q cs ?_ (by rw [HAT.out.1, Nat.mul_one]) ?_ ?_ ?_ ?_ ?_ ?_
              rfl
              rotate_left 2
              rfl
              rotate_left 1
              rfl
              (first | exact own_below (w := (w.alloc _).drew) (HOW.out w (Nat.le_refl _)) HXA.out | exact HOW.out w1 HXA.out.size)
              rfl
              (first | exact HSL.out | exact HSL.out.ext ((Ext.refl _).alloc _))
              (exact rows_one HAT.out)
              (exact Nat.le_trans (Nat.add_le_add_left HLA.out 1) (by unfold maxLen; omega))
              (have := HLA.out; omega)
              (have := HXA.out.size; first | omega | (simp at this ⊢; omega))
              intro A5 q5 w5 hown hg
              have HX5 := Lib.hid (show Ext w w5 from by
                first
                | exact Below.grown ((((Ext.refl w).alloc _).drew).trans HXA.out) hg (by have := HXA.out.size; simp at this ⊢; omega) (fun q hq => ((own_below (w := (w.alloc _).drew) (HOW.out w (Nat.le_refl _)) HXA.out).lt q hq).1)
                | exact Below.grown ((((Ext.refl w).drew).trans HXA.out).alloc _) hg (by have := HXA.out.size; simp at this ⊢; omega) (fun q hq => ((HOW.out w1 HXA.out.size).lt q hq).1))
              have HO5 := Lib.hid (own_sl hown)
              have HP5 := Lib.hid (RowsAt.cons (by rw [List.length_take, ← HN.out]; omega) HP.out HAT.out)
              clear hown hg)))
      all_goals
        go_wp2_with fail
        go_ret
        refine ⟨A5, q5, .slice (some ⟨b, off, none⟩) 3 c :: cs, ?_, ?_, HP5.out, HX5.out⟩
        · rw [Nat.add_comm (splitS (l.drop 3)).length 1]; rfl
        · have h := HO5.out
          rw [Nat.add_comm] at h
          exact h
end Go.Proofs.Ytpcchbcibcfldaa
