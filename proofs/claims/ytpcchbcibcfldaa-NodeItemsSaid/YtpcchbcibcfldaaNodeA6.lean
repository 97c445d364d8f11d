/- Walk of Split of package node. -/
import Derived.Test.YtpcchbcibcfldaaNodeA5
import Derived.Test.YtpcchbcibcfldaaNodeW7
namespace Go.Proofs.Ytpcchbcibcfldaa
open Go.RowKit

theorem RowsAt.app {w : World} {cs ds : List Value} {rows rs : List (List It)} (h : RowsAt w cs rows) (k : RowsAt w ds rs) : RowsAt w (cs ++ ds) (rows ++ rs) := by
  refine ⟨by rw [List.length_append, List.length_append, h.1, k.1], fun i hi => ?_⟩
  rcases Nat.lt_or_ge i rows.length with h1 | h1
  · obtain ⟨A, c, e, hs⟩ := h.2 i h1
    refine ⟨A, c, ?_, ?_⟩
    · rw [List.getElem?_append_left (by rw [h.1]; exact h1), List.getElem_append_left h1]; exact e
    · rw [List.getElem_append_left h1]; exact hs
  · obtain ⟨A, c, e, hs⟩ := k.2 (i - rows.length) (by rw [List.length_append] at hi; omega)
    refine ⟨A, c, ?_, ?_⟩
    · rw [List.getElem?_append_right (by rw [h.1]; exact h1), List.getElem_append_right h1, h.1]; exact e
    · rw [List.getElem_append_right h1]; exact hs
theorem RowsAt.one {w : World} {A : Option Addr} {n c : Nat} {r : List It} (hn : n = r.length) (h : Sl w A n c (ivs r)) : RowsAt w [.slice A n c] [r] := RowsAt.cons hn h (RowsAt.nil w)
theorem Sl.room {w : World} {A : Option Addr} {n c : Nat} {xs : List Value} (h : Sl w A n c xs) (_hn : 0 < n) (hA : A ≠ none) (k : Nat) (hk : n ≤ k) (hc : k ≤ c) : Sl w A n k xs :=
  ⟨fun e => absurd e hA, hk, Nat.le_trans hc h.2.2.1, h.2.2.2⟩
/-- append of a row onto rows of the call's own. -/
theorem app_rows (w : World) {ops : Array Oper} {rest : List Oper} {o : Oper} {a : Act} {Q : Exit → Act → World → Prop} (hgd : o.guard = none) (s x : Operand)
    (ho : o.op = .call { callee := .builtin .append, args := #[s, x], argTypes := #[43, 43] })
    (B : Nat) (v : Value) (n : Nat) (cs : List Value) (hs : a.eval s = v) (hown : w.ownsRow B 22 1 v n cs)
    (A : Option Addr) (m c : Nat) (ds : List Value) (hx : a.eval x = .slice A m c) (hl : ds.length = m) (hS : Sl w A m c ds) (hone : ∀ u ∈ ds, u.oneCell' = true)
    (hsz : n + m ≤ 100000) (hB : B ≤ w.heap.size)
    (h : ∀ A' c' w', w'.ownsRow B 22 1 (.slice A' (n + m) c') (n + m) (cs ++ ds) → w.grownBy w' v.ownBlock → wpList Try.prog ops Q rest (a.put o.dst (.slice A' (n + m) c')) w') : wpList Try.prog ops Q (o :: rest) a w := by
  refine wpList_app_sl w hgd s x 43 ho B 22 (.slice none 0 0) 1 24 Try.underlying43 infoRow rfl (by omega) v n cs hs hown A m c ds hx (by rw [hl, Nat.mul_one]) hS hone (by unfold maxLen; omega) (by omega) hB ?_
  intro A' c' w' h1 h2
  exact h A' c' w' h1 h2

set_option maxRecDepth 100000 in
set_option maxHeartbeats 1000000 in
theorem nodeSplit_any (A : Option Addr) (l : List It) (n c : Nat) (w : World) (hn : n = l.length) (hb : n ≤ 1000) (hA : Sl w A n c (ivs l)) :
    Calls Try.prog 22 #[.slice A n c] w fun e w' => ∃ R q, e = .returned (.slice R (splitS l).length q) ∧ RowsSl w' R (splitS l).length q (splitS l) ∧ Ext w w' := by
  have HC := Lib.hid (cloneI_any A l n c w hn (by omega) hA)
  have HN := Lib.hid hn
  clear hA hn
  go_enter Try.func22, Try.ntmps22
  go_wp2_with (go_at_call 41; refine HC.out.mono ?_; rintro e w1 ⟨B, d, rfl, hs, hx⟩; have HS1 := Lib.hid hs; have HX1 := Lib.hid hx; clear hs hx)
  go_loopw [3, 4] (fun r v wr => ∃ (done : List (List It)) (rest : List It) (Ar : Option Addr) (nr cr k : Nat) (cs : List Value) (Av : Option Addr) (cv : Nat), r = .slice Ar nr cr ∧ nr = rest.length ∧ v = .slice Av k cv ∧ k = done.length ∧
    wr.ownsRow w1.heap.size 22 1 (.slice Av k cv) k cs ∧ RowsAt w1 cs done ∧ Sl w1 Ar nr cr (ivs rest) ∧ done ++ splitS rest = splitS l ∧ Ext w1 wr ∧ k + nr ≤ n) (fun r _ _ => slLen r)
  case atStart => exact ⟨[], l, B, n, d, 0, [], none, 0, rfl, HN.out, rfl, rfl, World.ownsRow_nil _ _ _ _, RowsAt.nil _, HS1.out, rfl, Ext.refl _, by omega⟩
  case round =>
    obtain ⟨done, rest, Ar, nr, cr, k, cs, Av, cv, rfl, hnr, rfl, hkd, ho, hat, hsl, hsp, hx, hle⟩ := hrel
    have hcr := hsl.2.1
    have HO := Lib.hid ho
    have HAT := Lib.hid hat
    have HSL := Lib.hid hsl
    have HSP := Lib.hid hsp
    have HX := Lib.hid hx
    have HNR := Lib.hid hnr
    have HKD := Lib.hid hkd
    rcases Nat.lt_or_ge 4 nr with hlt | hlt
    · obtain ⟨b, off, rfl, _, _⟩ := hsl.cells.it (k := 0) (by omega)
      have HP := Lib.hid ((hsl.pre hnr 3 (by omega)).room (by omega) (by simp) 3 (by omega) (by omega))
      have hQ := hsl.post hnr 3 (by omega)
      rw [if_neg (by omega)] at hQ
      simp only [Option.map_some, Addr.add_lit, Nat.reduceMul] at hQ
      have HQ := Lib.hid hQ
      have hc3 : ¬ cr = 3 := by omega
      have i1 : (3 : Int) ≤ (cr : Int) := by omega
      have i2 : (3 : Int) ≤ (nr : Int) := by omega
      have i3 : (4 : Int) < (nr : Int) := by omega
      have i4 : (nr : Int) ≤ (cr : Int) := by omega
      clear ho hat hsl hsp hx hnr hkd hQ
      go_wp2_with (at_builtin; refine stop_here ?_)
      refine stop_on ?_
      refine app_rows _ rfl _ _ rfl w1.heap.size _ k cs rfl (HO.out.alloc _) (some ⟨wr.heap.size, 0, none⟩) 1 1 [.slice (some ⟨b, off, none⟩) 3 3] rfl rfl (sl_lit wr 22 1 [.slice (some ⟨b, off, none⟩) 3 3] (by unfold maxLen; omega)) (by simp [Value.oneCell']) (by omega) (by have := HX.out.size; simp; omega) ?_
      intro A4 c4 w4 hown hg4
      have HX4 := Lib.hid (show Ext w1 w4 from Below.grown (HX.out.alloc (.cells #[.slice (some ⟨b, off, none⟩) 3 3] 22)) hg4 (by have := HX.out.size; simp; omega) (fun q hq => ((HO.out.alloc (.cells #[.slice (some ⟨b, off, none⟩) 3 3] 22)).lt q hq).1))
      have HO4 := Lib.hid hown
      clear hown hg4
      go_wp2_with fail
      go_roundw
      case rel =>
        refine ⟨done ++ [rest.take 3], rest.drop 3, some ⟨b, off + 6, none⟩, nr - 3, cr - 3, k + 1, cs ++ [.slice (some ⟨b, off, none⟩) 3 3], A4, c4, rfl, by rw [List.length_drop, ← HNR.out], rfl, by rw [List.length_append, ← HKD.out]; rfl, HO4.out, HAT.out.app (RowsAt.one (by rw [List.length_take, ← HNR.out]; omega) HP.out), HQ.out, ?_, HX4.out, by omega⟩
        rw [← HSP.out, splitS_more (l := rest) (by rw [← HNR.out]; omega), List.append_assoc]; rfl
      case measure => simp [slLen]; omega
    · rcases Nat.eq_zero_or_pos nr with h0 | h0
      · subst h0
        have hr0 : rest = [] := List.eq_nil_of_length_eq_zero HNR.out.symm
        have HE := Lib.hid (show done = splitS l by have := HSP.out; rw [hr0, splitS_nil, List.append_nil] at this; exact this)
        clear ho hat hsl hsp hx hnr hkd hr0
        go_wp2_with fail
        go_ret
        rw [← HE.out]
        refine ⟨Av, cv, by rw [HKD.out]; rfl, ⟨rfl, cs, ?_, HAT.out.ext HX.out⟩, HX1.out.trans HX.out⟩
        have h := own_sl HO.out
        rw [HKD.out] at h
        exact h
      · obtain ⟨b, off, rfl, _, _⟩ := hsl.cells.it (k := 0) (by omega)
        have HP := Lib.hid (hsl.room h0 (by simp) nr (Nat.le_refl _) hcr)
        have HE := Lib.hid (show done ++ [rest] = splitS l by have := HSP.out; rw [splitS_few (by omega) (by omega)] at this; exact this)
        have i1 : ¬ (4 : Int) < (nr : Int) := by omega
        have i2 : (0 : Int) < (nr : Int) := by omega
        have i4 : (nr : Int) ≤ (cr : Int) := by omega
        clear ho hat hsl hsp hx hnr hkd
        go_wp2_with (at_builtin; refine stop_here ?_)
        refine stop_on ?_
        refine app_rows _ rfl _ _ rfl w1.heap.size _ k cs rfl (HO.out.alloc _) (some ⟨wr.heap.size, 0, none⟩) 1 1 [.slice (some ⟨b, off, none⟩) nr nr] rfl rfl (sl_lit wr 22 1 [.slice (some ⟨b, off, none⟩) nr nr] (by unfold maxLen; omega)) (by simp [Value.oneCell']) (by omega) (by have := HX.out.size; simp; omega) ?_
        intro A4 c4 w4 hown hg4
        have HX4 := Lib.hid (show Ext w1 w4 from Below.grown (HX.out.alloc (.cells #[.slice (some ⟨b, off, none⟩) nr nr] 22)) hg4 (by have := HX.out.size; simp; omega) (fun q hq => ((HO.out.alloc (.cells #[.slice (some ⟨b, off, none⟩) nr nr] 22)).lt q hq).1))
        have HO4 := Lib.hid (own_sl hown)
        clear hown hg4
        go_wp2_with fail
        go_ret
        rw [← HE.out]
        have e : (done ++ [rest]).length = k + 1 := by rw [List.length_append, ← HKD.out]; rfl
        rw [e]
        exact ⟨A4, c4, rfl, ⟨e.symm, _, HO4.out, (HAT.out.app (RowsAt.one HNR.out HP.out)).ext HX4.out⟩, HX1.out.trans HX4.out⟩
end Go.Proofs.Ytpcchbcibcfldaa
