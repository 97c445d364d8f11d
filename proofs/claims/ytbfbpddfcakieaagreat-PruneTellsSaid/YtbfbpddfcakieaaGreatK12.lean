/- Walk of With of package node. Walk of Split of the reference, of nodes. Walk of Split of package node. A heap that is built on, in a box: what a call on it keeps. Trees in a heap of cells, as plain functions; what is right about them. No program in sight. -/
import Derived.Test.YtbfbpddfcakieaaGreatK11
import Derived.Deep.DrawnRows
import Derived.StillTailTactics
import Derived.Test.YtbfbpddfcakieaaGreatK10
import Derived.Test.YtbfbpddfcakieaaGreatK03
namespace Go.Proofs.YtbfbpddfcakieaaGreat
open Go.RowKit



/-- append of noughts, told by their number, onto nothing. -/
theorem app_zeros (w : World) {ops : Array Oper} {rest : List Oper} {o : Oper} {a : Act} {Q : Exit → Act → World → Prop} (hgd : o.guard = none) (s x : Operand)
    (ho : o.op = .call { callee := .builtin .append, args := #[s, x], argTypes := #[47, 3] })
    (n : Nat) (hs : a.eval s = .slice none 0 0) (hx : a.eval x = .int .i64 n) (hn : 0 < n) (hsz : n ≤ 100000)
    (h : ∀ g c w', w'.ownsRow w.heap.size 46 2 (.slice (some ⟨g, 0, none⟩) 0 c) 0 [] → n ≤ c → Ext w w' → wpList Tryz.prog ops Q rest (a.put o.dst (.slice (some ⟨g, 0, none⟩) n c)) w') : wpList Tryz.prog ops Q (o :: rest) a w := by
  obtain ⟨i0, hi, hz0, hz1, hz2⟩ := info_parts infoIt
  have e0 : ¬ ((n : Int) < 0) := by omega
  have e1 : ¬ (281474976710656 < (n : Int) * (i0.bytes : Int)) := by rw [hz2]; omega
  have e2 : ¬ (n = 0) := by omega
  have e3 : ¬ (9223372036854775807 < (n : Int)) := by omega
  have e4 : ¬ (281474976710656 < Builtin.nextslicecap n 0 * i0.bytes) := by rw [nextslicecap_zero hn, hz2]; omega
  have e5 : IntKind.i64.wrap (n : Int) = (n : Int) := by rw [IntKind.wrap_i64]; omega
  have e6 : max (n : Int) 0 = (n : Int) := by rw [Int.max_def]; split <;> omega
  have hu := run_underlying (P := Tryz.prog) Tryz.underlying3
  have hr : (Builtin.append_ #[47, 3] o.type #[.slice none 0 0, .int .i64 n]).run Tryz.prog w = .ok (.slice (some ⟨w.heap.size, 0, none⟩) n (grownCap w n 0 46)) (w.drew.alloc (.cells (Builtin.zeroCells (Value.agg #[.int .i64 0, .int .i64 0]).cells n ++ Builtin.zeroCells (Value.agg #[.int .i64 0, .int .i64 0]).cells (grownCap w n 0 46 - n)) 46)) := by
    simp [Builtin.append_, run_underlying (P := Tryz.prog) Tryz.underlying47, hu, sizeOf, typeInfo, zeroValue, hi, hz0, hz1, asInt, asIntOf, e0, e1, e2, e3, e4, e5, e6, Question.forced, run_firstCells_none, newRow, grownCap]
    intro hq
    omega
  refine wpList_plain hgd fun K hK => ?_
  unfold Oper.wp execOp
  simp only [ho, resolve, invoke, builtin, Sem.run_bind, Sem.run_pure, Result.andThen_ok, List.map_toArray, List.map_cons, List.map_nil, hs, hx, hr]
  have hge := grownCap_ge w n 0 46
  have hcm : grownCap w n 0 46 ≤ maxLen := grownCap_le_maxLen w _ 0 46 (by unfold maxLen; omega)
  refine hK _ _ (h _ _ _ ?_ hge ((Ext.refl w).drew.alloc _))
  refine World.ownsRow_made (base := w.heap.size) (e := 46) (size := 2) w.drew _ _ (Nat.le_refl _) hcm ?_
  have hzc : (Value.agg #[.int .i64 0, .int .i64 0]).cells.size = 2 := rfl
  simp only [Array.size_append, size_zeroCells, hzc]
  omega

set_option maxHeartbeats 400000 in
theorem growI_any (n : Nat) (w : World) (hn : n ≤ 100000) :
    Calls Tryz.prog 98 #[.slice none 0 0, .int .i64 n] w fun e w' => ∃ A c, e = .returned (.slice A 0 c) ∧ w'.ownsRow w.heap.size 46 2 (.slice A 0 c) 0 [] ∧ Ext w w' := by
  rcases Nat.eq_zero_or_pos n with h0 | h0
  · subst h0
    go_enter Tryz.func98, Tryz.ntmps98
    go_wp2
    go_ret
    exact ⟨none, 0, rfl, World.ownsRow_nil _ _ _ _, Ext.refl w⟩
  · go_enter Tryz.func98, Tryz.ntmps98
    go_wp2_with (at_builtin; refine stop_here ?_)
    refine stop_on ?_
    refine app_zeros _ rfl _ _ rfl n rfl rfl h0 hn ?_
    intro g c w1 ho hc hx
    have HO := Lib.hid ho
    have HX := Lib.hid hx
    clear ho hx
    go_wp2
    go_ret
    exact ⟨_, _, rfl, HO.out, HX.out⟩

/-- A slice of items that is owned, told as a slice. -/
theorem flatten_take_succ {rows : List (List It)} {k : Nat} (hk : k < rows.length) : (rows.take (k + 1)).flatten = (rows.take k).flatten ++ rows[k] := by
  rw [List.take_succ_eq_append_getElem hk, List.flatten_append]; simp
theorem flatten_take_le {rows : List (List It)} (k : Nat) : (rows.take k).flatten.length ≤ rows.flatten.length := by
  have h : rows.flatten = (rows.take k).flatten ++ (rows.drop k).flatten := by rw [← List.flatten_append, List.take_append_drop]
  rw [h]; simp
set_option maxRecDepth 100000 in
set_option maxHeartbeats 1000000 in
theorem concatI_any (R : Option Addr) (rows : List (List It)) (m q : Nat) (w : World) (hb : rows.flatten.length ≤ 10000) (hR : RowsSl w R m q rows) :
    Calls Tryz.prog 76 #[.slice R m q] w fun e w' => ∃ A c, e = .returned (.slice A rows.flatten.length c) ∧ Sl w' A rows.flatten.length c (ivs rows.flatten) ∧ Ext w w' := by
  have hm := hR.1
  have hml : m ≤ maxLen := by obtain ⟨_, cs, h, _⟩ := hR; exact h.len
  unfold maxLen at hml
  subst hm
  have HR := Lib.hid hR
  obtain ⟨N, hN⟩ : ∃ N, rows.flatten.length = N := ⟨_, rfl⟩
  rw [hN] at hb ⊢
  have HNN := Lib.hid hN
  have HLE := Lib.hid (fun k => (show (rows.take k).flatten.length ≤ N from by rw [← hN]; exact flatten_take_le k))
  clear hR hN
  go_enter Tryz.func76, Tryz.ntmps76
  go_wp2_with fail
  go_loop [3, 11] (fun s i => ∃ k s0 : Nat, k ≤ rows.length ∧ i = .int .i64 k ∧ s = .int .i64 s0 ∧ s0 = (rows.take k).flatten.length) (fun _ i => rows.length - (intOf i).toNat)
  case atStart => exact ⟨0, 0, Nat.zero_le _, rfl, rfl, rfl⟩
  case round =>
    obtain ⟨k, s0, hk, rfl, rfl, hs⟩ := hrel
    have HS := Lib.hid hs
    have h9 : s0 ≤ N := by rw [hs]; exact HLE.out k
    clear hs
    rcases Nat.lt_or_ge k rows.length with hlt | hlt
    · obtain ⟨b, off, rfl, A0, c0, hc0, hs0⟩ := HR.out.row hlt
      have hki : (k : Int) < (rows.length : Int) := by omega
      have hsum : s0 + rows[k].length = (rows.take (k + 1)).flatten.length := by rw [flatten_take_succ hlt, List.length_append, ← HS.out]
      have hle : s0 + rows[k].length ≤ N := by rw [hsum]; exact HLE.out (k + 1)
      have HSUM := Lib.hid hsum
      generalize rows[k].length = r0 at *
      have h5 : ¬ (s0 : Int) + (r0 : Int) < 0 := by omega
      have h6 : (s0 : Int) + (r0 : Int) ≤ 10000 := by omega
      clear hs0 hsum
      go_wp2_with fail
      go_round
      case rel => exact ⟨k + 1, s0 + r0, by omega, by go_num, by go_num, HSUM.out⟩
      case measure => simp [intOf]; omega
    · obtain rfl : k = rows.length := by omega
      obtain rfl : s0 = N := by rw [HS.out, List.take_length]; exact HNN.out
      have HG := Lib.hid (growI_any s0 w (by omega))
      clear hlt
      go_wp2_with (go_at_call 98; refine HG.out.mono ?_; rintro e w1 ⟨A, c, rfl, ho, hx⟩; have HO := Lib.hid ho; have HX := Lib.hid hx; clear ho hx)
      go_loopw [6, 27] (fun v i wr => ∃ k s1 : Nat, k ≤ rows.length ∧ i = .int .i64 k ∧ s1 = (rows.take k).flatten.length ∧ ∃ A' c', v = .slice A' s1 c' ∧ wr.ownsRow w.heap.size 46 2 (.slice A' s1 c') s1 (ivs (rows.take k).flatten) ∧ Ext w wr) (fun _ i _ => rows.length - (intOf i).toNat)
      case atStart => exact ⟨0, 0, Nat.zero_le _, rfl, rfl, A, c, rfl, HO.out, HX.out⟩
      case round =>
        obtain ⟨k, s1, hk, rfl, hs1, A1, c1, rfl, ho, hx⟩ := hrel
        have HO1 := Lib.hid ho
        have HX1 := Lib.hid hx
        have HS1 := Lib.hid hs1
        clear hs1 ho
        rcases Nat.lt_or_ge k rows.length with hlt | hlt
        · obtain ⟨b, off, rfl, A0, c0, hc0, hs0⟩ := (HR.out.ext hx).row hlt
          have hki : (k : Int) < (rows.length : Int) := by omega
          have HF := Lib.hid (flatten_take_succ hlt)
          have hsum : s1 + rows[k].length = (rows.take (k + 1)).flatten.length := by rw [flatten_take_succ hlt, List.length_append, ← HS1.out]
          have hle : s1 + rows[k].length ≤ s0 := by rw [hsum]; exact HLE.out (k + 1)
          have HSUM := Lib.hid hsum
          have HS0 := Lib.hid hs0
          obtain ⟨r, hr⟩ : ∃ r, rows[k] = r := ⟨_, rfl⟩
          rw [hr] at HF HSUM HS0 hc0 hle
          obtain ⟨m, hm⟩ : ∃ m, r.length = m := ⟨_, rfl⟩
          have HM := Lib.hid hm
          rw [hm] at HSUM HS0 hc0 hle
          clear hs0 hsum hx hr hm
          go_wp2_with (at_builtin; refine stop_here ?_)
          refine stop_on ?_
          refine app_items _ rfl _ _ rfl w.heap.size _ s1 (rows.take k).flatten rfl HO1.out A0 m c0 r rfl HM.out HS0.out (by omega) HX1.out.size ?_
          intro A4 c4 w4 hown hg4
          have HX4 := Lib.hid (HX1.out.app HO1.out (Nat.le_refl _) hg4)
          rw [← HF.out] at hown
          have HO4 := Lib.hid hown
          clear hown hg4
          go_wp2_with fail
          go_roundw
          case rel => exact ⟨k + 1, s1 + m, by omega, by go_num, HSUM.out, A4, c4, rfl, HO4.out, HX4.out⟩
          case measure => simp [intOf]; omega
        · obtain rfl : k = rows.length := by omega
          obtain rfl : s1 = s0 := by rw [HS1.out, List.take_length]; exact HNN.out
          have HS := Lib.hid (own_sl HO1.out)
          rw [List.take_length] at HS
          clear hx hlt
          go_wp2_with fail
          go_ret
          exact ⟨_, _, rfl, HS.out, HX1.out⟩

theorem rows3 {w : World} {g : Nat} {A B C : Option Addr} {a b c ca cb cc : Nat} {x y z : List It} (ha : a = x.length) (hb : b = y.length) (hc : c = z.length) (h0 : Sl w A a ca (ivs x)) (h1 : Sl w B b cb (ivs y)) (h2 : Sl w C c cc (ivs z))
    (hg : Sl w (some ⟨g, 0, none⟩) 3 3 [.slice A a ca, .slice B b cb, .slice C c cc]) : RowsSl w (some ⟨g, 0, none⟩) 3 3 [x, y, z] :=
  ⟨rfl, _, hg, RowsAt.cons ha h0 (RowsAt.cons hb h1 (RowsAt.cons hc h2 (RowsAt.nil w)))⟩
set_option maxRecDepth 100000 in
set_option maxHeartbeats 1000000 in
theorem nodeWith_any (A B : Option Addr) (l more : List It) (n m c d at_ gone : Nat) (w : World) (hn : n = l.length) (hm : m = more.length) (h1 : at_ ≤ n) (h2 : at_ + gone ≤ n) (hb1 : n ≤ 1000) (hb2 : m ≤ 1000) (hA : Sl w A n c (ivs l)) (hB : Sl w B m d (ivs more)) :
    Calls Tryz.prog 47 #[.slice A n c, .int .i64 at_, .int .i64 gone, .slice B m d] w fun e w' => ∃ R q, e = .returned (.slice R (at_ + m + (n - (at_ + gone))) q) ∧ Sl w' R (at_ + m + (n - (at_ + gone))) q (ivs (withS l at_ gone more)) ∧ Ext w w' := by
  have hnc := hA.2.1
  have hcm := hA.2.2.1
  unfold maxLen at hcm
  have HA := Lib.hid hA
  have HB := Lib.hid hB
  have HN := Lib.hid hn
  have HM := Lib.hid hm
  have i1 : (at_ : Int) + (gone : Int) ≤ (n : Int) := by omega
  have i2 : (n : Int) ≤ (c : Int) := by omega
  have i3 : (at_ : Int) ≤ (c : Int) := by omega
  have m1 : ¬ (at_ : Int) < 0 := by omega
  have m2 : ¬ (n : Int) < (at_ : Int) := by omega
  have m3 : ¬ (gone : Int) < 0 := by omega
  have m4 : ¬ (n : Int) - (at_ : Int) < (gone : Int) := by omega
  have wr1 : IntKind.i64.wrap ((at_ : Int) + (gone : Int)) = (at_ : Int) + (gone : Int) := by rw [IntKind.wrap_i64]; omega
  have tn1 : ((at_ : Int) + (gone : Int)).toNat = at_ + gone := by omega
  have i4 : (at_ : Int) + (gone : Int) ≤ (c : Int) := by omega
  have i5 : (0 : Int) ≤ (at_ : Int) + (gone : Int) := by omega
  obtain ⟨S3, hI3⟩ : ∃ X, (if c = at_ + gone then A else A.map (fun x => x.add ((at_ + gone) * 2))) = X := ⟨_, rfl⟩
  have HS1 := Lib.hid (hA.pre hn at_ h1)
  have HS3 := Lib.hid (hA.post hn (at_ + gone) h2)
  rw [hI3] at HS3
  clear hA hB hn hm
  go_enter Tryz.func47, Tryz.ntmps47
  go_wp2_with fail
  go_still_tail 9, (by kernel_rfl)
  change wpList _ _ _ _ _ w.drew
  have HC := Lib.hid (fun (g : Nat) w' (hx : Ext w w') (hg : Sl w' (some ⟨g, 0, none⟩) 3 3 [.slice A at_ c, .slice B m d, .slice S3 (n - (at_ + gone)) (c - (at_ + gone))]) =>
    concatI_any (some ⟨g, 0, none⟩) [l.take at_, more, l.drop (at_ + gone)] 3 3 w' (by have := HN.out; have := HM.out; simp; omega)
      (rows3 (by have := HN.out; rw [List.length_take]; omega) HM.out (by rw [List.length_drop, ← HN.out]) (HS1.out.ext hx) (HB.out.ext hx) (HS3.out.ext hx) hg))
  have e1 : [l.take at_, more, l.drop (at_ + gone)].flatten = withS l at_ gone more := by simp [withS]
  have e2 : (withS l at_ gone more).length = at_ + m + (n - (at_ + gone)) := by
    have := HN.out; have := HM.out
    unfold withS; rw [List.length_append, List.length_append, List.length_take, List.length_drop]; omega
  rw [e1, e2] at HC
  have HG := Lib.hid (HC.out w.heap.size (w.drew.alloc (.cells #[.slice A at_ c, .slice B m d, .slice S3 (n - (at_ + gone)) (c - (at_ + gone))] 47)) (((Ext.refl w).drew).alloc _)
    (sl_lit w.drew 47 3 [.slice A at_ c, .slice B m d, .slice S3 (n - (at_ + gone)) (c - (at_ + gone))] (by unfold maxLen; omega)))
  have HXA := Lib.hid (((Ext.refl w).drew).alloc (.cells #[.slice A at_ c, .slice B m d, .slice S3 (n - (at_ + gone)) (c - (at_ + gone))] 47))
  clear HC e1 e2
  go_wp2_with (go_at_call 76; refine HG.out.mono ?_; rintro e w1 ⟨R, q, rfl, hs, hx⟩; have HS := Lib.hid hs; have HX := Lib.hid (HXA.out.trans hx); clear hs hx)
  go_ret
  exact ⟨R, q, rfl, HS.out, HX.out⟩
end Go.Proofs.YtbfbpddfcakieaaGreat
namespace Go.Proofs.YtbfbpddfcakieaaGreat
open Go.RowKit


attribute [local go_sem ↓] Go.wp_at_zero Go.wp_at_succ

theorem infoRow : (Tryz.prog.info? 47).map (fun i => (i.zero, i.size, i.bytes)) = some (some (.slice none 0 0), 1, 24) := by kernel_rfl
theorem row_one {w w' : World} {A : Option Addr} {n c : Nat} {l : List It} (hn : n = l.length) (h : Sl w A n c (ivs l)) (hx : Ext w w') : RowsAt w' [.slice A n c] [l] := RowsAt.cons hn (h.ext hx) (RowsAt.nil _)

theorem rows_one {w : World} {cs : List Value} {rows : List (List It)} (h : RowsAt w cs rows) : ∀ u ∈ cs, u.oneCell' = true := fun u hu => by
  obtain ⟨i, hi, rfl⟩ := List.mem_iff_getElem.1 hu
  obtain ⟨A, c, h1, _⟩ := h.2 i (by rw [← h.1]; exact hi)
  rw [List.getElem?_eq_getElem hi] at h1
  have e := Option.some.inj h1
  rw [e]; rfl
theorem splitS_le : ∀ (l : List It), (splitS l).length ≤ l.length := by
  intro l
  induction h : l.length using Nat.strongRecOn generalizing l with
  | ind N ih =>
    by_cases h4 : l.length ≤ 4
    · by_cases h0 : l.length = 0
      · rw [splitS, dif_pos h4, if_pos h0]; simp
      · rw [splitS, dif_pos h4, if_neg h0]; simp; omega
    · rw [splitS_more h4]
      have := ih (l.drop 3).length (by simp; omega) (l.drop 3) rfl
      simp at this ⊢
      omega
set_option maxRecDepth 100000 in
set_option maxHeartbeats 400000 in
theorem ref04Split_any : ∀ (N : Nat) (A : Option Addr) (l : List It) (n c : Nat) (w0 w : World), l.length ≤ N → n = l.length → n ≤ 1000 → Ext w0 w → Sl w0 A n c (ivs l) →
    Calls Tryz.prog 94 #[.slice A n c] w fun e w' => ∃ R q cs, e = .returned (.slice R (splitS l).length q) ∧ Sl w' R (splitS l).length q cs ∧ RowsAt w0 cs (splitS l) ∧ Ext w w' := by
  intro N
  induction N using Nat.strongRecOn with
  | ind N ih =>
    intro A l n c w0 w hN hn hb hx0 hS
    by_cases h0 : n = 0
    · subst h0
      obtain rfl : l = [] := List.eq_nil_of_length_eq_zero hn.symm
      rw [splitS_nil]
      clear hn hN hS ih hx0
      go_enter Tryz.func94, Tryz.ntmps94
      go_wp2_with fail
      go_ret
      exact ⟨none, 0, [], rfl, Sl.nil _, RowsAt.nil _, Ext.refl _⟩
    by_cases h4 : n ≤ 4
    · rw [splitS_few (by omega) (by omega)]
      have e0 : ((n : Int) == 0) = false := by simpa using h0
      have HS := Lib.hid hS
      have HN := Lib.hid hn
      clear hn hN hS ih h0 hx0
      go_enter Tryz.func94, Tryz.ntmps94
      go_wp2_with fail
      go_ret
      exact ⟨_, _, [.slice A n c], rfl, sl_lit w 47 1 [.slice A n c] (by unfold maxLen; omega), row_one HN.out HS.out (Ext.refl _), (Ext.refl w).alloc _⟩
    · rw [splitS_more (by omega)]
      have e0 : ((n : Int) == 0) = false := by simpa using h0
      have hnc := hS.2.1
      obtain ⟨b, off, rfl, _, _⟩ := hS.cells.it (k := 0) (by omega)
      have HP := Lib.hid (hS.pre hn 3 (by omega))
      have hQ := hS.post hn 3 (by omega)
      rw [if_neg (by omega)] at hQ
      simp only [Option.map_some, Addr.add_lit, Nat.reduceMul] at hQ
      have HIH := Lib.hid (fun w' (hx : Ext w w') => ih (l.drop 3).length (by simp; omega) _ (l.drop 3) (n - 3) (c - 3) w0 w' (Nat.le_refl _) (by simp; omega) (by omega) (hx0.trans hx) hQ)
      have HN := Lib.hid hn
      have hc3 : ¬ c = 3 := by omega
      have i1 : (3 : Int) ≤ (c : Int) := by omega
      have i2 : (3 : Int) ≤ (n : Int) := by omega
      have HLA := Lib.hid (show (splitS (l.drop 3)).length ≤ 100000 from Nat.le_trans (splitS_le _) (by simp; omega))
      have HOW := Lib.hid (fun (wx : World) (h : w.heap.size ≤ wx.heap.size) => (show (wx.alloc (.cells #[.slice (some ⟨b, off, none⟩) 3 c] 47)).ownsRow w.heap.size 47 1 (.slice (some ⟨wx.heap.size, 0, none⟩) 1 1) 1 [.slice (some ⟨b, off, none⟩) 3 c] from World.ownsRow_lit (base := w.heap.size) (e := 47) (size := 1) wx #[.slice (some ⟨b, off, none⟩) 3 c] 1 h (by unfold maxLen; omega) rfl))
      clear hn hN hS ih h0 hQ hx0
      go_enter Tryz.func94, Tryz.ntmps94
      go_wp2_with fail
      go_region_law
        (first
          | ((go_simp
              go_at_call 94
              refine (HIH.out _ ?_).mono ?_
              (first | exact (Ext.refl _).drew | exact ((Ext.refl _).alloc _).drew | exact ((Ext.refl _).drew).alloc _)
              rintro e w1 ⟨R, q, cs, rfl, hsl, hat, hx⟩
              have HSL := Lib.hid hsl
              have HAT := Lib.hid hat
              have HXA := Lib.hid hx
              clear hsl hat hx))
          | ((refine step_app_sl ?_ ?_ ?_ 93 ?_ w.heap.size 47 (.slice none 0 0) 1 24 Tryz.underlying93 infoRow rfl Nat.one_pos ?_ 1 [.slice (some ⟨b, off, none⟩) 3 c] ?_ ?_ R (splitS (l.drop 3)).length q cs ?_ (by rw [HAT.out.1, Nat.mul_one]) ?_ ?_ ?_ ?_ ?_ ?_
              rfl
              rotate_left 2
              rfl
              rotate_left 1
              rfl
              (first | exact own_ext (w := (w.alloc _).drew) (HOW.out w (Nat.le_refl _)) HXA.out | exact HOW.out w1 HXA.out.size)
              rfl
              (first | exact HSL.out | exact HSL.out.ext ((Ext.refl _).alloc _))
              (exact rows_one HAT.out)
              (exact Nat.le_trans (Nat.add_le_add_left HLA.out 1) (by unfold maxLen; omega))
              (have := HLA.out; omega)
              (have := HXA.out.size; first | omega | (simp at this ⊢; omega))
              intro A5 q5 w5 hown hg
              have HX5 := Lib.hid (show Ext w w5 from by
                first
                | exact Below.grown ((((Ext.refl w).alloc _).drew).trans HXA.out) hg (by have := HXA.out.size; simp at this ⊢; omega) (fun q hq => ((own_ext (w := (w.alloc _).drew) (HOW.out w (Nat.le_refl _)) HXA.out).lt q hq).1)
                | exact Below.grown ((((Ext.refl w).drew).trans HXA.out).alloc _) hg (by have := HXA.out.size; simp at this ⊢; omega) (fun q hq => ((HOW.out w1 HXA.out.size).lt q hq).1))
              have HO5 := Lib.hid (own_sl hown)
              have HP5 := Lib.hid (RowsAt.cons (by rw [List.length_take, ← HN.out]; omega) HP.out HAT.out)
              clear hown hg)))
      all_goals
        go_wp2_with fail
        go_ret
        refine ⟨A5, q5, .slice (some ⟨b, off, none⟩) 3 c :: cs, ?_, ?_, HP5.out, HX5.out⟩
        · rw [Nat.add_comm (splitS (l.drop 3)).length 1]; rfl
        · have h := HO5.out
          rw [Nat.add_comm] at h
          exact h
theorem ref04Split_rows (A : Option Addr) (l : List It) (n c : Nat) (w : World) (hn : n = l.length) (hb : n ≤ 1000) (hA : Sl w A n c (ivs l)) :
    Calls Tryz.prog 94 #[.slice A n c] w fun e w' => ∃ R q, e = .returned (.slice R (splitS l).length q) ∧ RowsSl w' R (splitS l).length q (splitS l) ∧ Ext w w' := by
  refine (ref04Split_any l.length A l n c w w (Nat.le_refl _) hn hb (Ext.refl w) hA).mono ?_
  rintro e w' ⟨R, q, cs, rfl, h1, h2, hx⟩
  exact ⟨R, q, rfl, ⟨rfl, cs, h1, h2.ext hx⟩, hx⟩

end Go.Proofs.YtbfbpddfcakieaaGreat
namespace Go.Proofs.YtbfbpddfcakieaaGreat
open Go.RowKit

def slLen : Value → Nat | .slice _ n _ => n | _ => 0


theorem RowsAt.app {w : World} {cs ds : List Value} {rows rs : List (List It)} (h : RowsAt w cs rows) (k : RowsAt w ds rs) : RowsAt w (cs ++ ds) (rows ++ rs) := by
  refine ⟨by rw [List.length_append, List.length_append, h.1, k.1], fun i hi => ?_⟩
  rcases Nat.lt_or_ge i rows.length with h1 | h1
  · obtain ⟨A, c, e, hs⟩ := h.2 i h1
    refine ⟨A, c, ?_, ?_⟩
    · rw [List.getElem?_append_left (by rw [h.1]; exact h1), List.getElem_append_left h1]; exact e
    · rw [List.getElem_append_left h1]; exact hs
  · obtain ⟨A, c, e, hs⟩ := k.2 (i - rows.length) (by rw [List.length_append] at hi; omega)
    refine ⟨A, c, ?_, ?_⟩
    · rw [List.getElem?_append_right (by rw [h.1]; exact h1), List.getElem_append_right h1, h.1]; exact e
    · rw [List.getElem_append_right h1]; exact hs
theorem RowsAt.one {w : World} {A : Option Addr} {n c : Nat} {r : List It} (hn : n = r.length) (h : Sl w A n c (ivs r)) : RowsAt w [.slice A n c] [r] := RowsAt.cons hn h (RowsAt.nil w)
theorem Sl.room {w : World} {A : Option Addr} {n c : Nat} {xs : List Value} (h : Sl w A n c xs) (_hn : 0 < n) (hA : A ≠ none) (k : Nat) (hk : n ≤ k) (hc : k ≤ c) : Sl w A n k xs :=
  ⟨fun e => absurd e hA, hk, Nat.le_trans hc h.2.2.1, h.2.2.2⟩
/-- append of a row onto rows of the call's own. -/
theorem app_rows (w : World) {ops : Array Oper} {rest : List Oper} {o : Oper} {a : Act} {Q : Exit → Act → World → Prop} (hgd : o.guard = none) (s x : Operand)
    (ho : o.op = .call { callee := .builtin .append, args := #[s, x], argTypes := #[93, 93] })
    (B : Nat) (v : Value) (n : Nat) (cs : List Value) (hs : a.eval s = v) (hown : w.ownsRow B 47 1 v n cs)
    (A : Option Addr) (m c : Nat) (ds : List Value) (hx : a.eval x = .slice A m c) (hl : ds.length = m) (hS : Sl w A m c ds) (hone : ∀ u ∈ ds, u.oneCell' = true)
    (hsz : n + m ≤ 100000) (hB : B ≤ w.heap.size)
    (h : ∀ A' c' w', w'.ownsRow B 47 1 (.slice A' (n + m) c') (n + m) (cs ++ ds) → w.grownBy w' v.ownBlock → wpList Tryz.prog ops Q rest (a.put o.dst (.slice A' (n + m) c')) w') : wpList Tryz.prog ops Q (o :: rest) a w := by
  refine wpList_app_sl w hgd s x 93 ho B 47 (.slice none 0 0) 1 24 Tryz.underlying93 infoRow rfl (by omega) v n cs hs hown A m c ds hx (by rw [hl, Nat.mul_one]) hS hone (by unfold maxLen; omega) (by omega) hB ?_
  intro A' c' w' h1 h2
  exact h A' c' w' h1 h2

end Go.Proofs.YtbfbpddfcakieaaGreat
namespace Go.Proofs.YtbfbpddfcakieaaGreat
open Go.RowKit

/-- All blocks but one are as they were; that one holds a heap, and no error. -/
structure Gx (b : Nat) (keep : Int) (w w' : World) : Prop where
  os : w'.os = w.os
  tape : w'.tape = w.tape
  output : w'.output = w.output
  size : w.heap.size ≤ w'.heap.size
  block : ∀ k, k < w.heap.size → k ≠ b → w'.heap[k]? = w.heap[k]?
  old : ∃ S n d, Bx w b #[.slice S n d, .int .i64 keep, .int .i64 0]
  new : ∃ S n d, Bx w' b #[.slice S n d, .int .i64 keep, .int .i64 0]
theorem Gx.lt {b : Nat} {keep : Int} {w w' : World} (h : Gx b keep w w') : b < w.heap.size := by
  obtain ⟨_, _, _, h⟩ := h.old; exact h.lt
theorem Gx.trans {b : Nat} {keep : Int} {u v w : World} (h : Gx b keep u v) (k : Gx b keep v w) : Gx b keep u w :=
  ⟨k.os.trans h.os, k.tape.trans h.tape, k.output.trans h.output, Nat.le_trans h.size k.size, fun i hi hb => (k.block i (Nat.lt_of_lt_of_le hi h.size) hb).trans (h.block i hi hb), h.old, k.new⟩
theorem Gx.of_ext {b : Nat} {keep : Int} {w w' : World} {S : Option Addr} {n d : Nat} (hb : Bx w b #[.slice S n d, .int .i64 keep, .int .i64 0]) (hx : Ext w w') : Gx b keep w w' :=
  ⟨hx.os, hx.tape, hx.output, hx.size, fun k hk _ => hx.block k hk, ⟨S, n, d, hb⟩, ⟨S, n, d, hb.ext hx⟩⟩
theorem Gx.ext {b : Nat} {keep : Int} {u v w : World} (h : Gx b keep u v) (hx : Ext v w) : Gx b keep u w := by
  obtain ⟨S, n, d, hb⟩ := h.new
  exact h.trans (Gx.of_ext hb hx)
theorem Gx.bx {b k : Nat} {keep : Int} {w w' : World} {cs : Array Value} (h : Gx b keep w w') (hk : Bx w k cs) (hne : k ≠ b) : Bx w' k cs := by
  have hl := hk.lt
  obtain ⟨t, hk⟩ := hk
  exact ⟨t, (h.block k hl hne).trans hk⟩
theorem Gx.cell {b : Nat} {keep : Int} {w w' : World} {k o : Nat} {v : Value} (h : Gx b keep w w') (hv : w.cell? ⟨k, o, none⟩ = some v) (hne : ∀ S n d, v ≠ .slice S n d) : w'.cell? ⟨k, o, none⟩ = some v := by
  by_cases hk : k = b
  · subst hk
    obtain ⟨S, n, d, h1⟩ := h.old
    obtain ⟨S', n', d', h2⟩ := h.new
    match o, hv with
    | 0, hv => rw [h1.at 0 _ rfl] at hv; cases hv; exact absurd rfl (hne _ _ _)
    | 1, hv => rw [h1.at 1 _ rfl] at hv; rw [h2.at 1 _ rfl]; exact hv
    | 2, hv => rw [h1.at 2 _ rfl] at hv; rw [h2.at 2 _ rfl]; exact hv
    | i + 3, hv =>
      obtain ⟨t, h1⟩ := h1
      unfold World.cell? at hv
      rw [show w.heap[(⟨k, i + 3, none⟩ : Addr).block]? = _ from h1] at hv
      simp at hv
  · have hl := World.block_lt_of_cell? w _ hv
    exact (World.cell?_of_block (h.block k hl hk)).trans hv
theorem Gx.other {b : Nat} {keep : Int} {w w' : World} {p : Addr} {v : Value} (h : Gx b keep w w') (hv : w.cell? p = some v) (hne : p.block ≠ b) : w'.cell? p = some v :=
  (World.cell?_of_block (h.block p.block (World.block_lt_of_cell? w _ hv) hne)).trans hv
/-- A row of numbers. -/
theorem Gx.row {b : Nat} {keep : Int} {w w' : World} {A : Option Addr} {n c : Nat} {xs : List Value} (h : Gx b keep w w') (hs : Sl w A n c xs) (hne : ∀ u ∈ xs, ∀ S n d, u ≠ .slice S n d) : Sl w' A n c xs := by
  refine ⟨hs.1, hs.2.1, hs.2.2.1, fun hx => ?_⟩
  obtain ⟨k, off, rfl, hlt, hc⟩ := hs.cells hx
  exact ⟨k, off, rfl, Nat.lt_of_lt_of_le hlt h.size, fun j u hu => h.cell (hc j u hu) (hne u (List.mem_of_getElem? hu))⟩
theorem ivs_num (l : List It) : ∀ u ∈ ivs l, ∀ S n d, u ≠ .slice S n d := by
  intro u hu S n d e
  subst e
  induction l with
  | nil => simp [ivs] at hu
  | cons x r ih => simp [ivs] at hu; exact ih (by simpa [ivs] using hu)
theorem iv_num (l : List Int) : ∀ u ∈ l.map iv, ∀ S n d, u ≠ .slice S n d := by
  intro u hu S n d e
  obtain ⟨x, _, rfl⟩ := List.mem_map.1 hu
  cases e
theorem Gx.its {b : Nat} {keep : Int} {w w' : World} {A : Option Addr} {n c : Nat} {l : List It} (h : Gx b keep w w') (hs : Sl w A n c (ivs l)) : Sl w' A n c (ivs l) := h.row hs (ivs_num l)
theorem Gx.ints {b : Nat} {keep : Int} {w w' : World} {A : Option Addr} {n c : Nat} {l : List Int} (h : Gx b keep w w') (hs : Sl w A n c (l.map iv)) : Sl w' A n c (l.map iv) := h.row hs (iv_num l)
/-- Rows of items that lie elsewhere. -/
theorem Gx.rows {b : Nat} {keep : Int} {w w' : World} {P : Option Addr} {m q : Nat} {rows : List (List It)} (h : Gx b keep w w') (hr : RowsSl w P m q rows) (hp : ∀ p, P = some p → p.block ≠ b) : RowsSl w' P m q rows := by
  obtain ⟨h1, cs, h2, h3⟩ := hr
  refine ⟨h1, cs, ⟨h2.1, h2.2.1, h2.2.2.1, fun hx => ?_⟩, h3.1, fun i hi => ?_⟩
  · obtain ⟨k, off, rfl, hlt, hc⟩ := h2.cells hx
    exact ⟨k, off, rfl, Nat.lt_of_lt_of_le hlt h.size, fun j u hu => h.other (hc j u hu) (hp ⟨k, off, none⟩ rfl)⟩
  · obtain ⟨A, c, e1, e2⟩ := h3.2 i hi
    exact ⟨A, c, e1, h.its e2⟩
/-- A slice of cells. -/
theorem Gx.hc {b : Nat} {keep : Int} {w w' : World} {R : Option Addr} {m q : Nat} {l : List HC} (h : Gx b keep w w') (hA : HcSl w R m q l) : HcSl w' R m q l := by
  obtain ⟨h1, cs, h2, h3⟩ := hA
  refine ⟨h1, cs, ⟨h2.1, h2.2.1, h2.2.2.1, fun hx => ?_⟩, h3.1, fun i hi => ?_⟩
  · obtain ⟨k, off, rfl, hlt, hc⟩ := h2.cells hx
    have hl := h3.1
    have hpos : 0 < l.length := by
      rcases Nat.eq_zero_or_pos l.length with h0 | h0
      · rw [h0] at hl; exact absurd (List.eq_nil_of_length_eq_zero hl) hx
      · exact h0
    obtain ⟨A, c, e1, e2, e3, e4, _⟩ := h3.2 0 hpos
    have hne : k ≠ b := fun e => by
      subst e
      obtain ⟨S, n, d, t, h1⟩ := h.old
      have g3 := hc _ _ e4
      unfold World.cell? at g3
      rw [show w.heap[(⟨k, off + (0 * 4 + 3), none⟩ : Addr).block]? = _ from h1] at g3
      simp only [Nat.zero_mul, Nat.zero_add] at g3
      match off, g3 with
      | 0, g3 => simp at g3
      | o + 1, g3 => simp at g3
    exact ⟨k, off, rfl, Nat.lt_of_lt_of_le hlt h.size, fun j u hu => h.other (hc j u hu) hne⟩
  · obtain ⟨A, c, e1, e2, e3, e4, h5⟩ := h3.2 i hi
    exact ⟨A, c, e1, e2, e3, e4, h.its h5⟩
theorem Gx.own {b : Nat} {keep : Int} {w w' : World} {B e s n : Nat} {v : Value} {xs : List Value} (h : Gx b keep w w') (ho : w.ownsRow B e s v n xs) (hb : b < B) : w'.ownsRow B e s v n xs :=
  ho.kept (row := some b) ⟨h.os, h.tape, h.output, h.size, fun k hk hne => h.block k hk (fun e => hne (by rw [e]))⟩ (.inr (own_old ho hb))
/-- A heap that is written into its box. -/
theorem gx_store {b : Nat} {keep : Int} {w : World} {S : Option Addr} {n d : Nat} (hb : Bx w b #[.slice S n d, .int .i64 keep, .int .i64 0]) (S' : Option Addr) (n' d' : Nat) :
    Bx (((w.setCell ⟨b, 0, none⟩ (.slice S' n' d')).setCell ⟨b, 1, none⟩ (.int .i64 keep)).setCell ⟨b, 2, none⟩ (.int .i64 0)) b #[.slice S' n' d', .int .i64 keep, .int .i64 0] ∧
    Gx b keep w (((w.setCell ⟨b, 0, none⟩ (.slice S' n' d')).setCell ⟨b, 1, none⟩ (.int .i64 keep)).setCell ⟨b, 2, none⟩ (.int .i64 0)) := by
  have h := ((hb.set 0 (.slice S' n' d')).set 1 (.int .i64 keep)).set 2 (.int .i64 0)
  refine ⟨h, rfl, rfl, rfl, by simp [World.setCell], fun k hk hne => ?_, ⟨S, n, d, hb⟩, ⟨S', n', d', h⟩⟩
  rw [Below.heap_setCell _ _ _ _ (by simpa using hne), Below.heap_setCell _ _ _ _ (by simpa using hne), Below.heap_setCell _ _ _ _ (by simpa using hne)]
/-- A heap that is built on. -/
def HBd (w : World) (b : Nat) (keep : Int) (n : Nat) (c : List HC) : Prop := ∃ S d, Bx w b #[.slice S n d, .int .i64 keep, .int .i64 0] ∧ HcSl w S n d c
theorem HBd.ext {w w' : World} {b n : Nat} {keep : Int} {c : List HC} (h : HBd w b keep n c) (hx : Ext w w') : HBd w' b keep n c := by
  obtain ⟨S, d, h1, h2⟩ := h
  exact ⟨S, d, h1.ext hx, h2.ext hx⟩
theorem HBd.lt {w : World} {b n : Nat} {keep : Int} {c : List HC} (h : HBd w b keep n c) : b < w.heap.size := by
  obtain ⟨S, d, h1, h2⟩ := h
  exact h1.lt
theorem HBd.len {w : World} {b n : Nat} {keep : Int} {c : List HC} (h : HBd w b keep n c) : n = c.length := by
  obtain ⟨S, d, h1, h2⟩ := h
  exact h2.1
theorem HBd.gx {w w' : World} {b n : Nat} {keep : Int} {c : List HC} (h : HBd w b keep n c) (hx : Ext w w') : Gx b keep w w' := by
  obtain ⟨S, d, h1, h2⟩ := h
  exact Gx.of_ext h1 hx
theorem HBd.refl {w : World} {b n : Nat} {keep : Int} {c : List HC} (h : HBd w b keep n c) : Gx b keep w w := h.gx (Ext.refl w)
theorem Bx.read3 {w : World} {k : Nat} {a b c : Value} (h : Bx w k #[a, b, c]) : w.cell? ⟨k, 0, none⟩ = some a ∧ w.cell? ⟨k, 1, none⟩ = some b ∧ w.cell? ⟨k, 2, none⟩ = some c ∧ k < w.heap.size := ⟨h.at 0 _ rfl, h.at 1 _ rfl, h.at 2 _ rfl, h.lt⟩
theorem Bx.free3 {w : World} {k : Nat} {a b c : Value} (h : Bx w k #[a, b, c]) : w.frozen? ⟨k, 0, none⟩ = false ∧ w.frozen? ⟨k, 1, none⟩ = false ∧ w.frozen? ⟨k, 2, none⟩ = false := ⟨h.free 0, h.free 1, h.free 2⟩
end Go.Proofs.YtbfbpddfcakieaaGreat
namespace Go.Proofs.YtbfbpddfcakieaaGreat
open Go.RowKit

/-- What is found below a node. -/
structure Gt where
  lo : Int
  hi : Int
  high : Int
  is : Bool
deriving DecidableEq
def Gt.no : Gt := ⟨0, 0, 0, false⟩
def cellT (l : List HC) (p : Int) : HC := l.getD p.toNat HC.none
def firstK (it : List It) : Int := (it.getD 0 (0, 0)).1
def lastK (it : List It) : Int := (it.getD (it.length - 1) (0, 0)).1
def badR (i : Nat) (x : It) (g o : Gt) : Bool := !g.is || (decide (g.lo ≠ x.1) || (decide (0 < i) && (decide (g.lo ≤ o.hi) || decide (o.high ≠ g.high + 1))))
def nextR (i : Nat) (g o : Gt) : Gt := ⟨if i = 0 then g.lo else o.lo, g.hi, if i = 0 then g.high + 1 else o.high, false⟩
def belRow (f : Int → Gt) : Nat → List It → Gt → Gt
  | _, [], o => ⟨o.lo, o.hi, o.high, true⟩
  | i, x :: r, o => if badR i x (f x.2) o then Gt.no else belRow f (i + 1) r (nextR i (f x.2) o)
def bel (l : List HC) : Nat → Int → Gt
  | 0, _ => Gt.no
  | m + 1, p => if (cellT l p).ref < 1 then Gt.no else if (cellT l p).leaf then ⟨firstK (cellT l p).it, lastK (cellT l p).it, 1, true⟩ else belRow (bel l m) 0 (cellT l p).it Gt.no
def rightR (h : Hp) (root : Int) : Bool := decide (root = -1) || (usedH h root && (bel h.c 20 root).is)
def highT (l : List HC) (root : Int) : Int := if root < 0 then 0 else (bel l 20 root).high
def listB (l : List HC) : Nat → Int → List It
  | 0, _ => []
  | m + 1, p => if (cellT l p).leaf then (cellT l p).it else (cellT l p).it.flatMap (fun x => listB l m x.2)
def listT (l : List HC) (root : Int) : List It := if root < 0 then [] else listB l 20 root
def scanT (l : List HC) (root lo hi : Int) : List It := (listT l root).filter (fun x => decide (lo ≤ x.1) && decide (x.1 < hi))
def getT (l : List HC) (root key : Int) : Option Int := ((listT l root).find? (fun x => decide (x.1 = key))).map (·.2)
def nodesB (l : List HC) : Nat → Int → List Int
  | 0, _ => []
  | m + 1, p => p :: (if (cellT l p).leaf then [] else (cellT l p).it.flatMap (fun x => nodesB l m x.2))
def nodesT (l : List HC) (root : Int) : List Int := if root < 0 then [] else nodesB l 20 root

/-- What each item of a row leads to is right, and as high as the others. -/
theorem belRow_is {f : Int → Gt} : ∀ {r : List It} {i : Nat} {o : Gt}, (belRow f i r o).is = true →
    (∀ x ∈ r, (f x.2).is = true ∧ (f x.2).lo = x.1) ∧ (∀ x ∈ r, (f x.2).high + 1 = (belRow f i r o).high) ∧ (0 < i → (belRow f i r o).high = o.high ∧ (belRow f i r o).lo = o.lo)
  | [], i, o, _ => ⟨by simp, by simp, fun _ => ⟨rfl, rfl⟩⟩
  | x :: r, i, o, h => by
    unfold belRow at h ⊢
    cases hb : badR i x (f x.2) o
    · rw [hb] at h
      simp only [Bool.false_eq_true, if_false] at h ⊢
      obtain ⟨h1, h2, h3⟩ := belRow_is h
      obtain ⟨h4, h5⟩ := h3 (by omega)
      unfold badR at hb
      simp only [Bool.or_eq_false_iff, Bool.not_eq_false', Bool.and_eq_false_iff, decide_eq_false_iff_not, Decidable.not_not] at hb
      obtain ⟨b1, b2, b3⟩ := hb
      have h6 : (f x.2).high + 1 = (belRow f (i + 1) r (nextR i (f x.2) o)).high := by
        rw [h4]
        unfold nextR
        split
        · rfl
        · rcases b3 with b | b
          · omega
          · exact b.2.symm
      refine ⟨fun y hy => ?_, fun y hy => ?_, fun hi => ?_⟩
      · rcases List.mem_cons.1 hy with rfl | hy
        · exact ⟨b1, b2⟩
        · exact h1 y hy
      · rcases List.mem_cons.1 hy with rfl | hy
        · exact h6
        · exact h2 y hy
      · rw [h4, h5]
        unfold nextR
        rw [if_neg (by omega), if_neg (by omega)]
        exact ⟨rfl, rfl⟩
    · rw [hb] at h
      simp [Gt.no] at h
/-- A right tree's root: a cell that is held; a leaf, or one whose items lead to right trees, all as high. -/
theorem bel_is {l : List HC} {m : Nat} {p : Int} (h : (bel l (m + 1) p).is = true) : 0 < (cellT l p).ref ∧ (((cellT l p).leaf = true ∧ bel l (m + 1) p = ⟨firstK (cellT l p).it, lastK (cellT l p).it, 1, true⟩) ∨ ((cellT l p).leaf = false ∧ bel l (m + 1) p = belRow (bel l m) 0 (cellT l p).it Gt.no ∧ ∀ x ∈ (cellT l p).it, (bel l m x.2).is = true ∧ (bel l m x.2).lo = x.1 ∧ (bel l m x.2).high + 1 = (bel l (m + 1) p).high)) := by
  rw [bel] at h ⊢
  by_cases h1 : (cellT l p).ref < 1
  · rw [if_pos h1] at h; simp [Gt.no] at h
  · rw [if_neg h1] at h ⊢
    refine ⟨by omega, ?_⟩
    cases h2 : (cellT l p).leaf
    · right
      rw [h2] at h
      simp only [Bool.false_eq_true, if_false] at h ⊢
      have h3 := belRow_is h
      exact ⟨trivial, trivial, fun x hx => ⟨(h3.1 x hx).1, (h3.1 x hx).2, h3.2.1 x hx⟩⟩
    · left; simp
theorem bel_zero {l : List HC} {p : Int} (h : (bel l 0 p).is = true) : False := by simp [bel, Gt.no] at h
/-- Cells of a right heap that are held have right nodes. -/
theorem cell_ok {n : Nat} {c : HC} (h : cellR n c = true) (hr : 0 < c.ref) : NdR c.it ∧ (c.leaf = false → ∀ x ∈ c.it, 0 ≤ x.2 ∧ x.2 < n) := by
  unfold cellR at h
  rw [if_neg (by omega)] at h
  simp only [Bool.and_eq_true, decide_eq_true_eq] at h
  refine ⟨(ndR_iff _).1 h.2.2.2.1, fun hl x hx => ?_⟩
  have h1 := h.2.2.2.2
  unfold placesC at h1
  rw [hl, Bool.false_or, List.all_eq_true] at h1
  have := h1 x hx
  simpa using this
theorem cellT_at {l : List HC} {k : Nat} (hk : k < l.length) : cellT l (k : Int) = l[k] := by
  unfold cellT
  rw [Int.toNat_natCast, List.getD_eq_getElem?_getD, List.getElem?_eq_getElem hk]
  rfl
/-- All cells are right. -/
def AllR (l : List HC) : Prop := ∀ k (hk : k < l.length), cellR l.length l[k] = true
end Go.Proofs.YtbfbpddfcakieaaGreat
