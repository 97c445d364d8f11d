/- The walk of Scan of the reference of layer 7. -/
import Derived.Test.YthlencnlgnbpaaaTreeW4
namespace Go.Proofs.Ythlencnlgnbpaaa
open Go.RowKit
attribute [local go_sem ↓] Go.wp_at_zero Go.wp_at_succ

/-- append of items onto a row of the call's own, however many. -/
theorem app_itemsW (w : World) {ops : Array Oper} {rest : List Oper} {o : Oper} {a : Act} {Q : Exit → Act → World → Prop} (hgd : o.guard = none) (s x : Operand)
    (ho : o.op = .call { callee := .builtin .append, args := #[s, x], argTypes := #[43, 43] })
    (B : Nat) (v : Value) (n : Nat) (l : List It) (hs : a.eval s = v) (hown : w.ownsRow B 49 2 v n (ivs l))
    (A : Option Addr) (m c : Nat) (k : List It) (hx : a.eval x = .slice A m c) (hl : k.length = m) (hS : Sl w A m c (ivs k))
    (hsz : n + m ≤ 4398046511104) (hB : B ≤ w.heap.size)
    (h : ∀ A' c' w', w'.ownsRow B 49 2 (.slice A' (n + m) c') (n + m) (ivs (l ++ k)) → w.grownBy w' v.ownBlock → wpList Try.prog ops Q rest (a.put o.dst (.slice A' (n + m) c')) w') : wpList Try.prog ops Q (o :: rest) a w := by
  refine wpList_app_sl w hgd s x 43 ho B 49 (.agg #[.int .i64 0, .int .i64 0]) 2 16 Try.underlying43 infoIt rfl (by omega) v n (ivs l) hs hown A m c (ivs k) hx (by rw [ivs_length, hl]) hS (ivs_oneCell k) (by unfold maxLen; omega) (by omega) hB ?_
  intro A' c' w' h1 h2
  rw [← ivs_append] at h1
  exact h A' c' w' h1 h2
theorem sl_lit' {w : World} {z : Nat} (hz : z = w.heap.size) (e n : Nat) (xs : List Value) (hn : n ≤ maxLen) : Sl (w.alloc (.cells xs.toArray e)) (some ⟨z, 0, none⟩) n n xs := by subst hz; exact sl_lit w e n xs hn
theorem filter_take {l : List It} (P : It → Bool) {j : Nat} (hj : j < l.length) : (l.take (j + 1)).filter P = (l.take j).filter P ++ (if P l[j] then [l[j]] else []) := by
  rw [List.take_succ_eq_append_getElem hj, List.filter_append]
  congr 1
  simp only [List.filter_cons, List.filter_nil]
set_option maxRecDepth 100000 in
set_option maxHeartbeats 3200000 in
theorem ref07Scan_any (R : Option Addr) (l : List HC) (n q : Nat) (keep keep' p lo hi : Int) (w : World) (hl : AllR l) (hn : l.length ≤ 2000) (hr : rightR ⟨l, keep'⟩ p = true) (hA : HcSl w R n q l) :
    Calls Try.prog 25 #[.agg #[.slice R n q, .int .i64 keep], .int .i64 p, .int .i64 lo, .int .i64 hi] w fun e w' => ∃ S s d, e = .returned (.slice S s d) ∧ s = (scanT l p lo hi).length ∧ Sl w' S s d (ivs (scanT l p lo hi)) ∧ Ext w w' := by
  have hx0 := (Ext.refl w).alloc (.cells #[.slice R n q, .int .i64 keep] 24)
  have HX := Lib.hid hx0
  have HB := Lib.hid (Bx.new w #[.slice R n q, .int .i64 keep] 24)
  have HL := Lib.hid (ref07List_any R l n q keep keep' p _ hl hn hr (hA.ext hx0))
  obtain ⟨P, hP⟩ : ∃ P : It → Bool, (fun x : It => decide (lo ≤ x.1) && decide (x.1 < hi)) = P := ⟨_, rfl⟩
  have hsc : scanT l p lo hi = (listT l p).filter P := by rw [← hP]; rfl
  rw [hsc]
  have HP := Lib.hid (fun (x : It) => (show P x = (decide (lo ≤ x.1) && decide (x.1 < hi)) by rw [← hP]))
  have hlen := listT_len hl hr
  generalize listT l p = t at *
  obtain ⟨p0, p1, p2⟩ := HB.out.read2
  clear hx0 hl hn hr hA hsc hP
  go_enter Try.func25, Try.ntmps25
  go_wp2_with (go_at_call 36; refine HL.out.mono ?_; rintro e w1 ⟨S, s, d, rfl, hs, hsl, hx⟩; have HX1 := Lib.hid (HX.out.trans hx); have HS := Lib.hid hs; have HSL := Lib.hid hsl; clear hs hsl hx p0 p1 p2)
  have hsb : s ≤ 1099511627776 := by rw [HS.out]; exact hlen
  go_loopw [10, 11] (fun v i wr => ∃ (j u : Nat) (A : Option Addr) (c : Nat), j ≤ s ∧ i = .int .i64 j ∧ v = .slice A u c ∧ (u = ((t.take j).filter P).length ∧ u ≤ j) ∧ wr.ownsRow w1.heap.size 49 2 (.slice A u c) u (ivs ((t.take j).filter P)) ∧ Ext w1 wr) (fun _ i _ => s - (intOf i).toNat)
  case atStart => exact ⟨0, 0, none, 0, Nat.zero_le _, rfl, rfl, ⟨by simp, by omega⟩, by rw [List.take_zero, List.filter_nil]; exact ⟨rfl, .inl ⟨rfl, rfl⟩⟩, Ext.refl _⟩
  case round =>
    obtain ⟨j, u, A, c, hj, rfl, rfl, ⟨hu, huj⟩, ho, hx⟩ := hrel
    have HU := Lib.hid hu
    have HO := Lib.hid ho
    have HXR := Lib.hid hx
    clear hu ho
    rcases Nat.lt_or_ge j s with hlt | hlt
    · have hjt : j < t.length := by rw [← HS.out]; exact hlt
      obtain ⟨b, off, rfl, hb, a0, a1⟩ := it_at HSL.out hjt
      have i0 := (hx.cell (p := ⟨b, off + j * 2, none⟩) hb).trans a0
      have i1 := (hx.cell (p := ⟨b, off + j * 2 + 1, none⟩) hb).trans a1
      have hji : (j : Int) < (s : Int) := by omega
      have HPJ := Lib.hid (HP.out t[j])
      have HFT := Lib.hid (filter_take P hjt)
      obtain ⟨⟨K, V⟩, hkv⟩ : ∃ x, t[j] = x := ⟨_, rfl⟩
      rw [hkv] at i0 i1 HPJ HFT
      simp only at i0 i1 HPJ
      clear hkv a0 a1 hjt hx hb
      rcases Int.lt_or_le K lo with h1 | h1
      · have d0 : decide (lo ≤ K) = false := decide_eq_false (by omega)
        rw [d0, Bool.false_and] at HPJ
        rw [HPJ.out] at HFT
        simp only [Bool.false_eq_true, if_false, List.append_nil] at HFT
        go_wp2
        go_roundw
        case rel => exact ⟨j + 1, u, A, c, by omega, by go_num, rfl, ⟨by rw [HFT.out]; exact HU.out, by omega⟩, by rw [HFT.out]; exact HO.out, HXR.out⟩
        case measure => simp [intOf]; omega
      · have d0 : decide (lo ≤ K) = true := decide_eq_true h1
        rcases Int.lt_or_le K hi with h2 | h2
        · have d1 : decide (K < hi) = true := decide_eq_true h2
          rw [d0, d1, Bool.true_and] at HPJ
          rw [HPJ.out] at HFT
          simp only [if_true] at HFT
          go_wp2_with (at_builtin; refine stop_here ?_)
          refine stop_on ?_
          refine app_itemsW _ rfl _ _ rfl w1.heap.size _ u ((t.take j).filter P) rfl (own_ext HO.out ((Ext.refl _).alloc _)) _ 1 1 [(K, V)] rfl rfl (sl_lit' rfl _ 1 _ (by unfold maxLen; omega)) (by omega) (by have := HXR.out.size; simp; omega) ?_
          intro A5 c5 w5 hown hg
          have HX5 := Lib.hid (Ext.app (HXR.out.alloc _) (own_ext HO.out ((Ext.refl _).alloc _)) (Nat.le_refl _) hg)
          rw [← HFT.out] at hown
          have HO5 := Lib.hid hown
          clear hown hg
          go_wp2_with fail
          go_roundw
          case rel => exact ⟨j + 1, u + 1, A5, c5, by omega, by go_num, rfl, ⟨by rw [HFT.out, List.length_append, ← HU.out]; rfl, by omega⟩, HO5.out, HX5.out⟩
          case measure => simp [intOf]; omega
        · have d1 : decide (K < hi) = false := decide_eq_false (by omega)
          rw [d0, d1, Bool.and_false] at HPJ
          rw [HPJ.out] at HFT
          simp only [Bool.false_eq_true, if_false, List.append_nil] at HFT
          go_wp2
          go_roundw
          case rel => exact ⟨j + 1, u, A, c, by omega, by go_num, rfl, ⟨by rw [HFT.out]; exact HU.out, by omega⟩, by rw [HFT.out]; exact HO.out, HXR.out⟩
          case measure => simp [intOf]; omega
    · obtain rfl : s = j := by omega
      have d0 : decide ((s : Int) < (s : Int)) = false := decide_eq_false (by omega)
      have HE := Lib.hid (show t.take s = t by rw [HS.out, List.take_length])
      rw [HE.out] at HU HO
      clear hlt hx
      go_wp2
      go_ret
      exact ⟨A, u, c, rfl, HU.out, own_sl HO.out, HX1.out.trans HXR.out⟩
end Go.Proofs.Ythlencnlgnbpaaa
