/- Walk of the reference's With. -/
import Derived.Test.YtpcchbcibcfldaaNodeW4
namespace Go.Proofs.Ytpcchbcibcfldaa
open Go.RowKit

theorem infoIt : (Try.prog.info? 50).map (fun i => (i.zero, i.size, i.bytes)) = some (some (.agg #[.int .i64 0, .int .i64 0]), 2, 16) := by kernel_rfl
/-- append of items onto a row of the call's own. -/
theorem app_items (w : World) {ops : Array Oper} {rest : List Oper} {o : Oper} {a : Act} {Q : Exit → Act → World → Prop} (hgd : o.guard = none) (s x : Operand)
    (ho : o.op = .call { callee := .builtin .append, args := #[s, x], argTypes := #[22, 22] })
    (B : Nat) (v : Value) (n : Nat) (l : List It) (hs : a.eval s = v) (hown : w.ownsRow B 50 2 v n (ivs l))
    (A : Option Addr) (m c : Nat) (k : List It) (hx : a.eval x = .slice A m c) (hl : k.length = m) (hS : Sl w A m c (ivs k))
    (hsz : n + m ≤ 100000) (hB : B ≤ w.heap.size)
    (h : ∀ A' c' w', w'.ownsRow B 50 2 (.slice A' (n + m) c') (n + m) (ivs (l ++ k)) → w.grownBy w' v.ownBlock → wpList Try.prog ops Q rest (a.put o.dst (.slice A' (n + m) c')) w') : wpList Try.prog ops Q (o :: rest) a w := by
  refine wpList_app_sl w hgd s x 22 ho B 50 (.agg #[.int .i64 0, .int .i64 0]) 2 16 Try.underlying22 infoIt rfl (by omega) v n (ivs l) hs hown A m c (ivs k) hx (by rw [ivs_length, hl]) hS (ivs_oneCell k) (by unfold maxLen; omega) (by omega) hB ?_
  intro A' c' w' h1 h2
  rw [← ivs_append] at h1
  exact h A' c' w' h1 h2

theorem Sl.pre {w : World} {A : Option Addr} {n c : Nat} {l : List It} (h : Sl w A n c (ivs l)) (hn : n = l.length) (k : Nat) (hk : k ≤ n) : Sl w A k c (ivs (l.take k)) := by
  obtain ⟨ha, hb, hc, hd⟩ := h
  refine ⟨ha, by omega, hc, fun hne => ?_⟩
  obtain ⟨b, off, e, hlt, hcell⟩ := hd (by intro e; have := ivs_nil e; subst this; simp [ivs] at hne)
  refine ⟨b, off, e, hlt, fun j u hu => hcell j u ?_⟩
  rw [← ivs_take, List.getElem?_take] at hu
  split at hu
  · exact hu
  · cases hu
theorem Sl.post {w : World} {A : Option Addr} {n c : Nat} {l : List It} (h : Sl w A n c (ivs l)) (hn : n = l.length) (k : Nat) (hk : k ≤ n) : Sl w (if c = k then A else A.map (fun x => x.add (k * 2))) (n - k) (c - k) (ivs (l.drop k)) := by
  have h1 := h.items hn k n hk (Nat.le_refl _)
  rwa [List.take_of_length_le (by simp; omega)] at h1
set_option maxRecDepth 100000 in
set_option maxHeartbeats 1000000 in
theorem ref04With_any (A B : Option Addr) (l more : List It) (n m c d at_ gone : Nat) (w : World) (hn : n = l.length) (hm : m = more.length) (h1 : at_ ≤ n) (h2 : at_ + gone ≤ n) (hb1 : n ≤ 1000) (hb2 : m ≤ 1000) (hA : Sl w A n c (ivs l)) (hB : Sl w B m d (ivs more)) :
    Calls Try.prog 26 #[.slice A n c, .int .i64 at_, .int .i64 gone, .slice B m d] w fun e w' => ∃ R q, e = .returned (.slice R (at_ + m + (n - (at_ + gone))) q) ∧ Sl w' R (at_ + m + (n - (at_ + gone))) q (ivs (withS l at_ gone more)) ∧ Ext w w' := by
  have hnc := hA.2.1
  have HA := Lib.hid hA
  have HB := Lib.hid hB
  have HN := Lib.hid hn
  have HM := Lib.hid hm
  clear hA hB hn hm
  go_enter Try.func26, Try.ntmps26
  go_wp2_with (at_builtin; refine stop_here ?_)
  refine stop_on ?_
  refine app_items _ rfl _ _ rfl w.heap.size _ 0 [] rfl (own_empty w 50 2) A at_ c (l.take at_) rfl (by rw [List.length_take, ← HN.out]; omega) ((HA.out.pre HN.out at_ h1).ext ((Ext.refl w).alloc _)) (by omega) (by simp) ?_
  intro A1 c1 w1 hown hg
  rw [List.nil_append, Nat.zero_add] at hown
  rw [Nat.zero_add]
  have HX1 := Lib.hid (show Ext w w1 from Below.grown ((Ext.refl w).alloc _) hg (by simp) (by intro q hq; cases hq; exact Nat.le_refl _))
  have HO1 := Lib.hid hown
  clear hown hg
  go_wp2_with (at_builtin; refine stop_here ?_)
  refine stop_on ?_
  refine app_items _ rfl _ _ rfl w.heap.size _ at_ (l.take at_) rfl HO1.out B m d more rfl HM.out.symm (HB.out.ext HX1.out) (by omega) HX1.out.size ?_
  intro A2 c2 w2 hown hg
  have HX2 := Lib.hid (HX1.out.app HO1.out (Nat.le_refl _) hg)
  have HO2 := Lib.hid hown
  clear hown hg
  have HT := Lib.hid ((HA.out.ext HX2.out).post HN.out (at_ + gone) h2)
  go_wp2_with (at_builtin; refine stop_here ?_)
  all_goals
    (try refine stop_on ?_)
    by_cases hc : c = at_ + gone
  all_goals first
    | (exfalso; omega)
    | (have HT := HT.out
       first | rw [if_pos hc, show c - (at_ + gone) = 0 by omega] at HT | rw [if_neg hc] at HT
       refine app_items _ rfl _ _ rfl w.heap.size _ (at_ + m) (l.take at_ ++ more) rfl HO2.out _ (n - (at_ + gone)) _ (l.drop (at_ + gone)) rfl (by rw [List.length_drop, ← HN.out]) HT (by omega) HX2.out.size ?_
       intro A3 c3 w3 hown hg
       have HX3 := Lib.hid (HX2.out.app HO2.out (Nat.le_refl _) hg)
       have HO3 := Lib.hid (own_sl hown)
       clear hown hg
       go_wp2
       go_ret
       exact ⟨A3, c3, rfl, HO3.out, HX3.out⟩)
end Go.Proofs.Ytpcchbcibcfldaa
