/- Walks of slices.Grow, slices.Concat, slices.Clone over items, and With of package node. -/
import Derived.Test.YtpcchbcibcfldaaNodeA1
import Derived.Test.YtpcchbcibcfldaaNodeW6
import Derived.Deep.DrawnRows
import Derived.StillTailTactics
namespace Go.Proofs.Ytpcchbcibcfldaa
open Go.RowKit

/-- append of noughts, told by their number, onto nothing. -/
theorem app_zeros (w : World) {ops : Array Oper} {rest : List Oper} {o : Oper} {a : Act} {Q : Exit → Act → World → Prop} (hgd : o.guard = none) (s x : Operand)
    (ho : o.op = .call { callee := .builtin .append, args := #[s, x], argTypes := #[22, 3] })
    (n : Nat) (hs : a.eval s = .slice none 0 0) (hx : a.eval x = .int .i64 n) (hn : 0 < n) (hsz : n ≤ 100000)
    (h : ∀ g c w', w'.ownsRow w.heap.size 50 2 (.slice (some ⟨g, 0, none⟩) 0 c) 0 [] → n ≤ c → Ext w w' → wpList Try.prog ops Q rest (a.put o.dst (.slice (some ⟨g, 0, none⟩) n c)) w') : wpList Try.prog ops Q (o :: rest) a w := by
  obtain ⟨i0, hi, hz0, hz1, hz2⟩ := info_parts infoIt
  have e0 : ¬ ((n : Int) < 0) := by omega
  have e1 : ¬ (281474976710656 < (n : Int) * (i0.bytes : Int)) := by rw [hz2]; omega
  have e2 : ¬ (n = 0) := by omega
  have e3 : ¬ (9223372036854775807 < (n : Int)) := by omega
  have e4 : ¬ (281474976710656 < Builtin.nextslicecap n 0 * i0.bytes) := by rw [nextslicecap_zero hn, hz2]; omega
  have e5 : IntKind.i64.wrap (n : Int) = (n : Int) := by rw [IntKind.wrap_i64]; omega
  have e6 : max (n : Int) 0 = (n : Int) := by rw [Int.max_def]; split <;> omega
  have hu := run_underlying (P := Try.prog) Try.underlying3
  have hr : (Builtin.append_ #[22, 3] o.type #[.slice none 0 0, .int .i64 n]).run Try.prog w = .ok (.slice (some ⟨w.heap.size, 0, none⟩) n (grownCap w n 0 50)) (w.drew.alloc (.cells (Builtin.zeroCells (Value.agg #[.int .i64 0, .int .i64 0]).cells n ++ Builtin.zeroCells (Value.agg #[.int .i64 0, .int .i64 0]).cells (grownCap w n 0 50 - n)) 50)) := by
    simp [Builtin.append_, run_underlying (P := Try.prog) Try.underlying22, hu, sizeOf, typeInfo, zeroValue, hi, hz0, hz1, asInt, asIntOf, e0, e1, e2, e3, e4, e5, e6, Question.forced, run_firstCells_none, newRow, grownCap]
    intro hq
    omega
  refine wpList_plain hgd fun K hK => ?_
  unfold Oper.wp execOp
  simp only [ho, resolve, invoke, builtin, Sem.run_bind, Sem.run_pure, Result.andThen_ok, List.map_toArray, List.map_cons, List.map_nil, hs, hx, hr]
  have hge := grownCap_ge w n 0 50
  have hcm : grownCap w n 0 50 ≤ maxLen := grownCap_le_maxLen w _ 0 50 (by unfold maxLen; omega)
  refine hK _ _ (h _ _ _ ?_ hge ((Ext.refl w).drew.alloc _))
  refine World.ownsRow_made (base := w.heap.size) (e := 50) (size := 2) w.drew _ _ (Nat.le_refl _) hcm ?_
  have hzc : (Value.agg #[.int .i64 0, .int .i64 0]).cells.size = 2 := rfl
  simp only [Array.size_append, size_zeroCells, hzc]
  omega

set_option maxHeartbeats 400000 in
theorem growI_any (n : Nat) (w : World) (hn : n ≤ 100000) :
    Calls Try.prog 50 #[.slice none 0 0, .int .i64 n] w fun e w' => ∃ A c, e = .returned (.slice A 0 c) ∧ w'.ownsRow w.heap.size 50 2 (.slice A 0 c) 0 [] ∧ Ext w w' := by
  rcases Nat.eq_zero_or_pos n with h0 | h0
  · subst h0
    go_enter Try.func50, Try.ntmps50
    go_wp2
    go_ret
    exact ⟨none, 0, rfl, World.ownsRow_nil _ _ _ _, Ext.refl w⟩
  · go_enter Try.func50, Try.ntmps50
    go_wp2_with (at_builtin; refine stop_here ?_)
    refine stop_on ?_
    refine app_zeros _ rfl _ _ rfl n rfl rfl h0 hn ?_
    intro g c w1 ho hc hx
    have HO := Lib.hid ho
    have HX := Lib.hid hx
    clear ho hx
    go_wp2
    go_ret
    exact ⟨_, _, rfl, HO.out, HX.out⟩

/-- A slice of items that is owned, told as a slice. -/
theorem flatten_take_succ {rows : List (List It)} {k : Nat} (hk : k < rows.length) : (rows.take (k + 1)).flatten = (rows.take k).flatten ++ rows[k] := by
  rw [List.take_succ_eq_append_getElem hk, List.flatten_append]; simp
theorem flatten_take_le {rows : List (List It)} (k : Nat) : (rows.take k).flatten.length ≤ rows.flatten.length := by
  have h : rows.flatten = (rows.take k).flatten ++ (rows.drop k).flatten := by rw [← List.flatten_append, List.take_append_drop]
  rw [h]; simp
set_option maxRecDepth 100000 in
set_option maxHeartbeats 1000000 in
theorem concatI_any (R : Option Addr) (rows : List (List It)) (m q : Nat) (w : World) (hb : rows.flatten.length ≤ 10000) (hR : RowsSl w R m q rows) :
    Calls Try.prog 42 #[.slice R m q] w fun e w' => ∃ A c, e = .returned (.slice A rows.flatten.length c) ∧ Sl w' A rows.flatten.length c (ivs rows.flatten) ∧ Ext w w' := by
  have hm := hR.1
  have hml : m ≤ maxLen := by obtain ⟨_, cs, h, _⟩ := hR; exact h.len
  unfold maxLen at hml
  subst hm
  have HR := Lib.hid hR
  obtain ⟨N, hN⟩ : ∃ N, rows.flatten.length = N := ⟨_, rfl⟩
  rw [hN] at hb ⊢
  have HNN := Lib.hid hN
  have HLE := Lib.hid (fun k => (show (rows.take k).flatten.length ≤ N from by rw [← hN]; exact flatten_take_le k))
  clear hR hN
  go_enter Try.func42, Try.ntmps42
  go_wp2_with fail
  go_loop [3, 11] (fun s i => ∃ k s0 : Nat, k ≤ rows.length ∧ i = .int .i64 k ∧ s = .int .i64 s0 ∧ s0 = (rows.take k).flatten.length) (fun _ i => rows.length - (intOf i).toNat)
  case atStart => exact ⟨0, 0, Nat.zero_le _, rfl, rfl, rfl⟩
  case round =>
    obtain ⟨k, s0, hk, rfl, rfl, hs⟩ := hrel
    have HS := Lib.hid hs
    have h9 : s0 ≤ N := by rw [hs]; exact HLE.out k
    clear hs
    rcases Nat.lt_or_ge k rows.length with hlt | hlt
    · obtain ⟨b, off, rfl, A0, c0, hc0, hs0⟩ := HR.out.row hlt
      have hki : (k : Int) < (rows.length : Int) := by omega
      have hsum : s0 + rows[k].length = (rows.take (k + 1)).flatten.length := by rw [flatten_take_succ hlt, List.length_append, ← HS.out]
      have hle : s0 + rows[k].length ≤ N := by rw [hsum]; exact HLE.out (k + 1)
      have HSUM := Lib.hid hsum
      generalize rows[k].length = r0 at *
      have h5 : ¬ (s0 : Int) + (r0 : Int) < 0 := by omega
      have h6 : (s0 : Int) + (r0 : Int) ≤ 10000 := by omega
      clear hs0 hsum
      go_wp2_with fail
      go_round
      case rel => exact ⟨k + 1, s0 + r0, by omega, by go_num, by go_num, HSUM.out⟩
      case measure => simp [intOf]; omega
    · obtain rfl : k = rows.length := by omega
      obtain rfl : s0 = N := by rw [HS.out, List.take_length]; exact HNN.out
      have HG := Lib.hid (growI_any s0 w (by omega))
      clear hlt
      go_wp2_with (go_at_call 50; refine HG.out.mono ?_; rintro e w1 ⟨A, c, rfl, ho, hx⟩; have HO := Lib.hid ho; have HX := Lib.hid hx; clear ho hx)
      go_loopw [6, 27] (fun v i wr => ∃ k s1 : Nat, k ≤ rows.length ∧ i = .int .i64 k ∧ s1 = (rows.take k).flatten.length ∧ ∃ A' c', v = .slice A' s1 c' ∧ wr.ownsRow w.heap.size 50 2 (.slice A' s1 c') s1 (ivs (rows.take k).flatten) ∧ Ext w wr) (fun _ i _ => rows.length - (intOf i).toNat)
      case atStart => exact ⟨0, 0, Nat.zero_le _, rfl, rfl, A, c, rfl, HO.out, HX.out⟩
      case round =>
        obtain ⟨k, s1, hk, rfl, hs1, A1, c1, rfl, ho, hx⟩ := hrel
        have HO1 := Lib.hid ho
        have HX1 := Lib.hid hx
        have HS1 := Lib.hid hs1
        clear hs1 ho
        rcases Nat.lt_or_ge k rows.length with hlt | hlt
        · obtain ⟨b, off, rfl, A0, c0, hc0, hs0⟩ := (HR.out.ext hx).row hlt
          have hki : (k : Int) < (rows.length : Int) := by omega
          have HF := Lib.hid (flatten_take_succ hlt)
          have hsum : s1 + rows[k].length = (rows.take (k + 1)).flatten.length := by rw [flatten_take_succ hlt, List.length_append, ← HS1.out]
          have hle : s1 + rows[k].length ≤ s0 := by rw [hsum]; exact HLE.out (k + 1)
          have HSUM := Lib.hid hsum
          have HS0 := Lib.hid hs0
          obtain ⟨r, hr⟩ : ∃ r, rows[k] = r := ⟨_, rfl⟩
          rw [hr] at HF HSUM HS0 hc0 hle
          obtain ⟨m, hm⟩ : ∃ m, r.length = m := ⟨_, rfl⟩
          have HM := Lib.hid hm
          rw [hm] at HSUM HS0 hc0 hle
          clear hs0 hsum hx hr hm
          go_wp2_with (at_builtin; refine stop_here ?_)
          refine stop_on ?_
          refine app_items _ rfl _ _ rfl w.heap.size _ s1 (rows.take k).flatten rfl HO1.out A0 m c0 r rfl HM.out HS0.out (by omega) HX1.out.size ?_
          intro A4 c4 w4 hown hg4
          have HX4 := Lib.hid (HX1.out.app HO1.out (Nat.le_refl _) hg4)
          rw [← HF.out] at hown
          have HO4 := Lib.hid hown
          clear hown hg4
          go_wp2_with fail
          go_roundw
          case rel => exact ⟨k + 1, s1 + m, by omega, by go_num, HSUM.out, A4, c4, rfl, HO4.out, HX4.out⟩
          case measure => simp [intOf]; omega
        · obtain rfl : k = rows.length := by omega
          obtain rfl : s1 = s0 := by rw [HS1.out, List.take_length]; exact HNN.out
          have HS := Lib.hid (own_sl HO1.out)
          rw [List.take_length] at HS
          clear hx hlt
          go_wp2_with fail
          go_ret
          exact ⟨_, _, rfl, HS.out, HX1.out⟩

set_option maxRecDepth 100000 in
set_option maxHeartbeats 400000 in
theorem cloneI_any (A : Option Addr) (l : List It) (n c : Nat) (w : World) (hn : n = l.length) (hb : n ≤ 10000) (hA : Sl w A n c (ivs l)) :
    Calls Try.prog 41 #[.slice A n c] w fun e w' => ∃ B d, e = .returned (.slice B n d) ∧ Sl w' B n d (ivs l) ∧ Ext w w' := by
  cases A with
  | none =>
    have h1 := hA.1 rfl
    have h2 := hA.2.1
    obtain rfl : n = 0 := by omega
    obtain rfl : c = 0 := h1
    obtain rfl : l = [] := List.eq_nil_of_length_eq_zero hn.symm
    have hq : ∀ w', (binOp .eql 22 (.slice none 0 0) (.slice none 0 0)).run Try.prog w' = .ok (.bool true) w' := fun w' => Lib.run_eql_slice_nil (P := Try.prog) w' 22 50 none 0 0 0 0 Try.underlying22
    clear h2 hA hn
    go_enter Try.func41, Try.ntmps41
    go_wp2_with fail
    go_ret
    exact ⟨none, 0, rfl, Sl.nil _, Ext.refl _⟩
  | some ad =>
    have HA := Lib.hid hA
    have HN := Lib.hid hn
    have hq : ∀ w', (binOp .eql 22 (.slice (some ad) n c) (.slice none 0 0)).run Try.prog w' = .ok (.bool false) w' := fun w' => Lib.run_eql_slice_nil (P := Try.prog) w' 22 50 (some ad) n c 0 0 Try.underlying22
    clear hA hn
    go_enter Try.func41, Try.ntmps41
    go_wp2_with (at_builtin; refine stop_here ?_)
    refine stop_on ?_
    refine app_items _ rfl _ _ rfl w.heap.size _ 0 [] rfl (own_empty w 50 2) (some ad) n c l rfl HN.out.symm (HA.out.ext ((Ext.refl w).alloc _)) (by omega) (by simp) ?_
    intro A1 c1 w1 hown hg
    rw [List.nil_append, Nat.zero_add] at hown
    rw [Nat.zero_add]
    have HX1 := Lib.hid (show Ext w w1 from Below.grown ((Ext.refl w).alloc _) hg (by simp) (by intro q hq; cases hq; exact Nat.le_refl _))
    have HO1 := Lib.hid (own_sl hown)
    clear hown hg
    go_wp2_with fail
    go_ret
    exact ⟨_, _, rfl, HO1.out, HX1.out⟩

theorem rows3 {w : World} {g : Nat} {A B C : Option Addr} {a b c ca cb cc : Nat} {x y z : List It} (ha : a = x.length) (hb : b = y.length) (hc : c = z.length) (h0 : Sl w A a ca (ivs x)) (h1 : Sl w B b cb (ivs y)) (h2 : Sl w C c cc (ivs z))
    (hg : Sl w (some ⟨g, 0, none⟩) 3 3 [.slice A a ca, .slice B b cb, .slice C c cc]) : RowsSl w (some ⟨g, 0, none⟩) 3 3 [x, y, z] :=
  ⟨rfl, _, hg, RowsAt.cons ha h0 (RowsAt.cons hb h1 (RowsAt.cons hc h2 (RowsAt.nil w)))⟩
set_option maxRecDepth 100000 in
set_option maxHeartbeats 1000000 in
theorem nodeWith_any (A B : Option Addr) (l more : List It) (n m c d at_ gone : Nat) (w : World) (hn : n = l.length) (hm : m = more.length) (h1 : at_ ≤ n) (h2 : at_ + gone ≤ n) (hb1 : n ≤ 1000) (hb2 : m ≤ 1000) (hA : Sl w A n c (ivs l)) (hB : Sl w B m d (ivs more)) :
    Calls Try.prog 25 #[.slice A n c, .int .i64 at_, .int .i64 gone, .slice B m d] w fun e w' => ∃ R q, e = .returned (.slice R (at_ + m + (n - (at_ + gone))) q) ∧ Sl w' R (at_ + m + (n - (at_ + gone))) q (ivs (withS l at_ gone more)) ∧ Ext w w' := by
  have hnc := hA.2.1
  have hcm := hA.2.2.1
  unfold maxLen at hcm
  have HA := Lib.hid hA
  have HB := Lib.hid hB
  have HN := Lib.hid hn
  have HM := Lib.hid hm
  have i1 : (at_ : Int) + (gone : Int) ≤ (n : Int) := by omega
  have i2 : (n : Int) ≤ (c : Int) := by omega
  have i3 : (at_ : Int) ≤ (c : Int) := by omega
  have m1 : ¬ (at_ : Int) < 0 := by omega
  have m2 : ¬ (n : Int) < (at_ : Int) := by omega
  have m3 : ¬ (gone : Int) < 0 := by omega
  have m4 : ¬ (n : Int) - (at_ : Int) < (gone : Int) := by omega
  have wr1 : IntKind.i64.wrap ((at_ : Int) + (gone : Int)) = (at_ : Int) + (gone : Int) := by rw [IntKind.wrap_i64]; omega
  have tn1 : ((at_ : Int) + (gone : Int)).toNat = at_ + gone := by omega
  have i4 : (at_ : Int) + (gone : Int) ≤ (c : Int) := by omega
  have i5 : (0 : Int) ≤ (at_ : Int) + (gone : Int) := by omega
  obtain ⟨S3, hI3⟩ : ∃ X, (if c = at_ + gone then A else A.map (fun x => x.add ((at_ + gone) * 2))) = X := ⟨_, rfl⟩
  have HS1 := Lib.hid (hA.pre hn at_ h1)
  have HS3 := Lib.hid (hA.post hn (at_ + gone) h2)
  rw [hI3] at HS3
  clear hA hB hn hm
  go_enter Try.func25, Try.ntmps25
  go_wp2_with fail
  go_still_tail 9, (by kernel_rfl)
  change wpList _ _ _ _ _ w.drew
  have HC := Lib.hid (fun (g : Nat) w' (hx : Ext w w') (hg : Sl w' (some ⟨g, 0, none⟩) 3 3 [.slice A at_ c, .slice B m d, .slice S3 (n - (at_ + gone)) (c - (at_ + gone))]) =>
    concatI_any (some ⟨g, 0, none⟩) [l.take at_, more, l.drop (at_ + gone)] 3 3 w' (by have := HN.out; have := HM.out; simp; omega)
      (rows3 (by have := HN.out; rw [List.length_take]; omega) HM.out (by rw [List.length_drop, ← HN.out]) (HS1.out.ext hx) (HB.out.ext hx) (HS3.out.ext hx) hg))
  have e1 : [l.take at_, more, l.drop (at_ + gone)].flatten = withS l at_ gone more := by simp [withS]
  have e2 : (withS l at_ gone more).length = at_ + m + (n - (at_ + gone)) := by
    have := HN.out; have := HM.out
    unfold withS; rw [List.length_append, List.length_append, List.length_take, List.length_drop]; omega
  rw [e1, e2] at HC
  have HG := Lib.hid (HC.out w.heap.size (w.drew.alloc (.cells #[.slice A at_ c, .slice B m d, .slice S3 (n - (at_ + gone)) (c - (at_ + gone))] 22)) (((Ext.refl w).drew).alloc _)
    (sl_lit w.drew 22 3 [.slice A at_ c, .slice B m d, .slice S3 (n - (at_ + gone)) (c - (at_ + gone))] (by unfold maxLen; omega)))
  have HXA := Lib.hid (((Ext.refl w).drew).alloc (.cells #[.slice A at_ c, .slice B m d, .slice S3 (n - (at_ + gone)) (c - (at_ + gone))] 22))
  clear HC e1 e2
  go_wp2_with (go_at_call 42; refine HG.out.mono ?_; rintro e w1 ⟨R, q, rfl, hs, hx⟩; have HS := Lib.hid hs; have HX := Lib.hid (HXA.out.trans hx); clear hs hx)
  go_ret
  exact ⟨R, q, rfl, HS.out, HX.out⟩
end Go.Proofs.Ytpcchbcibcfldaa
