/- Walks of isNumber, Right and Same of package node. -/
import Derived.Test.YtclpeeemnmhdcaaItR
namespace Go.Proofs.Ytclpeeemnmhdcaa
open Go.RowKit

def isNum (x : Int) : Bool := decide (0 ≤ x) && decide (x ≤ 2147483647)
set_option maxHeartbeats 400000 in
theorem nodeIsNumber_any (x : Int) (w : World) :
    Calls Try.prog 61 #[.int .i64 x] w fun e w' => e = .returned (.bool (isNum x)) ∧ w = w' := by
  unfold isNum
  by_cases h0 : 0 ≤ x
  · by_cases h1 : x ≤ 2147483647
    · have d0 : decide (0 ≤ x) = true := decide_eq_true h0
      have d1 : decide (x ≤ 2147483647) = true := decide_eq_true h1
      go_enter Try.func61, Try.ntmps61
      go_wp2
      go_ret
      exact ⟨ret_bool (by first | rfl | (rw [d0, d1]; rfl)), rfl⟩
    · have d0 : decide (0 ≤ x) = true := decide_eq_true h0
      have d1 : decide (x ≤ 2147483647) = false := decide_eq_false h1
      go_enter Try.func61, Try.ntmps61
      go_wp2
      go_ret
      exact ⟨ret_bool (by first | rfl | (rw [d0, d1]; rfl)), rfl⟩
  · have d0 : decide (0 ≤ x) = false := decide_eq_false h0
    go_enter Try.func61, Try.ntmps61
    go_wp2
    go_ret
    exact ⟨ret_bool (by first | rfl | (rw [d0]; rfl)), rfl⟩
theorem isNum_iff (x : Int) : isNum x = true ↔ 0 ≤ x ∧ x ≤ 2147483647 := by unfold isNum; simp
theorem isNum_ok {x : It} (h1 : isNum x.1 = true) (h2 : isNum x.2 = true) : okIt x := ⟨(isNum_iff _).1 h1, (isNum_iff _).1 h2⟩
theorem isNum_no {x : It} (h : isNum x.1 = false ∨ isNum x.2 = false) : ¬ okIt x := fun e => by
  have h1 := (isNum_iff _).2 e.1
  have h2 := (isNum_iff _).2 e.2
  rw [h1, h2] at h
  simp at h
set_option maxRecDepth 100000 in
set_option maxHeartbeats 800000 in
theorem nodeRight_any (leaf : Bool) (A : Option Addr) (l : List It) (n c : Nat) (w : World) (hn : n = l.length) (hA : Sl w A n c (ivs l)) :
    Calls Try.prog 40 #[.agg #[.bool leaf, .slice A n c]] w fun e w' => e = .returned (.bool (ndR l)) ∧ Ext w w' := by
  subst hn
  have hl := hA.len
  unfold maxLen at hl
  have HX := Lib.hid ((Ext.refl w).alloc (.cells #[.bool leaf, .slice A l.length c] 41))
  have HB := Lib.hid (Bx.new w #[.bool leaf, .slice A l.length c] 41)
  have HA := Lib.hid (hA.cells.ext HX.out)
  clear hA
  by_cases h1 : l.length < 1
  · go_enter Try.func40, Try.ntmps40
    go_wp2
    go_ret
    exact ⟨ret_bool (ndR_no (fun h => by have := h.1; omega)).symm, HX.out⟩
  by_cases h4 : 4 < l.length
  · go_enter Try.func40, Try.ntmps40
    go_wp2
    go_ret
    exact ⟨ret_bool (ndR_no (fun h => by have := h.1; omega)).symm, HX.out⟩
  go_enter Try.func40, Try.ntmps40
  go_wp2
  generalize hW : World.alloc w _ = W at *
  clear hW
  go_loopw [18] (fun i wr => ∃ k : Nat, k ≤ l.length ∧ i = .int .i64 k ∧ NdK l k ∧ Ext W wr) (fun i _ => l.length - (intOf i).toNat)
  case atStart => exact ⟨0, Nat.zero_le _, rfl, NdK.zero l, Ext.refl _⟩
  case round =>
    obtain ⟨k, hk, rfl, hnk, hx⟩ := hrel
    have HK := Lib.hid hnk
    have HXR := Lib.hid hx
    obtain ⟨b0, b1, b2⟩ := (HB.out.ext hx).read2
    clear hnk
    by_cases hlt : k < l.length
    · obtain ⟨bb, off, rfl, hbb, hc⟩ := (HA.out.ext hx).it hlt
      obtain ⟨hck, hcv⟩ := hc k hlt
      have HNO := Lib.hid (fun (h : ¬ okIt l[k]) => ndR_no (l := l) (fun e => h (e.2 k hlt).1))
      have HS := Lib.hid (fun h h2 => HK.out.succ hlt h h2)
      have HNR := Lib.hid (fun (h0 : 0 < k) (h : ¬ l[k - 1].1 < l[k].1) => ndR_no (l := l) (fun e => h ((e.2 k hlt).2 h0)))
      have HPV := Lib.hid (fun (h0 : 0 < k) (h : k - 1 < l.length) => (hc (k - 1) h).1)
      have hki : (k : Int) < (l.length : Int) := by omega
      clear hc
      generalize hq : l[k] = q at *
      clear hq
      obtain ⟨K, V⟩ := q
      simp only at hck hcv
      have HXA := Lib.hid (hx.alloc (.cells #[.int .i64 K, .int .i64 V] 62))
      have HBI := Lib.hid (Bx.new wr #[.int .i64 K, .int .i64 V] 62)
      obtain ⟨x0, x1, x2⟩ := HBI.out.read2
      have HN1 := Lib.hid (nodeIsNumber_any K)
      have HN2 := Lib.hid (nodeIsNumber_any V)
      clear hx
      cases h0 : isNum K
      · rw [h0] at HN1
        go_wp2_with (go_at_call 61; refine (HN1.out _).mono ?_; rintro e w' ⟨rfl, rfl⟩)
        go_ret
        exact ⟨ret_bool (HNO.out (isNum_no (.inl h0))).symm, HX.out.trans HXA.out⟩
      rw [h0] at HN1
      cases h5 : isNum V
      · rw [h5] at HN2
        go_wp2_with (go_at_call 61; (first | (with_reducible refine (HN1.out _).mono ?_) | (with_reducible refine (HN2.out _).mono ?_)); rintro e w' ⟨rfl, rfl⟩)
        go_ret
        exact ⟨ret_bool (HNO.out (isNum_no (.inr h5))).symm, HX.out.trans HXA.out⟩
      rw [h5] at HN2
      have HOK := Lib.hid (isNum_ok (x := (K, V)) h0 h5)
      clear h0 h5
      rcases Nat.eq_zero_or_pos k with h0 | h0
      · subst h0
        simp only [Nat.zero_mul, Nat.add_zero] at hck hcv
        have HS1 := Lib.hid (HS.out HOK.out (fun h => absurd h (by omega)))
        have d0 : decide ((0 : Int) < ((0 : Nat) : Int)) = false := decide_eq_false (by omega)
        clear HS HK HNR HPV
        go_wp2_with (go_at_call 61; (first | (with_reducible refine (HN1.out _).mono ?_) | (with_reducible refine (HN2.out _).mono ?_)); rintro e w' ⟨rfl, rfl⟩)
        go_quiet (fail)
        go_wp2
        go_roundw
        case rel => exact ⟨1, by omega, by go_num, HS1.out, HXA.out.drewN _⟩
        case measure => simp [intOf]; omega
      · obtain ⟨j, rfl⟩ : ∃ j, k = j + 1 := ⟨k - 1, by omega⟩
        have hj := HPV.out h0 (by omega)
        have HNR2 := Lib.hid (HNR.out h0)
        simp only [Nat.add_sub_cancel] at hj HNR2
        have hj9 : j < l.length := by omega
        have HS2 := Lib.hid (show l[j].1 < K → NdK l (j + 1 + 1) from fun h => HS.out HOK.out (fun _ => h))
        clear HS HK HNR HPV
        have hj1 : (wr.alloc (.cells #[.int .i64 K, .int .i64 V] 62)).cell? ⟨bb, off + j * 2, none⟩ = some (.int .i64 l[j].1) := by
          exact (((Ext.refl wr).alloc _).cell (p := ⟨bb, off + j * 2, none⟩) (World.block_lt_of_cell? _ _ hj)).trans hj
        generalize l[j].1 = PK at *
        have hk0 : decide ((0 : Int) < ((j + 1 : Nat) : Int)) = true := decide_eq_true (by omega)
        have e1 : ((j + 1 : Nat) : Int) - 1 = (j : Int) := by omega
        have e2 : (j : Int) < (l.length : Int) := by omega
        rcases Decidable.em (K ≤ PK) with hp | hp
        · have HE := Lib.hid (HNR2.out (by omega))
          have hp' : decide (K ≤ PK) = true := decide_eq_true hp
          clear hp
          go_wp2_with (go_at_call 61; (first | (with_reducible refine (HN1.out _).mono ?_) | (with_reducible refine (HN2.out _).mono ?_)); rintro e w' ⟨rfl, rfl⟩)
          go_quiet (fail)
          go_wp2
          go_ret
          exact ⟨ret_bool HE.out.symm, HX.out.trans (HXA.out.drewN _)⟩
        · have hp' : decide (K ≤ PK) = false := decide_eq_false hp
          have HE := Lib.hid (HS2.out (by omega))
          clear hp
          go_wp2_with (go_at_call 61; (first | (with_reducible refine (HN1.out _).mono ?_) | (with_reducible refine (HN2.out _).mono ?_)); rintro e w' ⟨rfl, rfl⟩)
          go_quiet (fail)
          go_wp2
          go_roundw
          case rel => exact ⟨j + 1 + 1, by omega, by go_num, HE.out, HXA.out.drewN _⟩
          case measure => simp [intOf]; omega
    · obtain rfl : k = l.length := by omega
      have HE := Lib.hid ((ndR_iff l).2 (HK.out.all (by omega)))
      clear hx
      go_wp2
      go_ret
      exact ⟨ret_bool HE.out.symm, HX.out.trans HXR.out⟩
set_option maxHeartbeats 2000000 in
theorem equalI_any (A B : Option Addr) (a b : List It) (n m c c' : Nat) (w : World) (hn : n = a.length) (hm : m = b.length) (hA : Sl w A n c (ivs a)) (hB : Sl w B m c' (ivs b)) :
    Calls Try.prog 69 #[.slice A n c, .slice B m c'] w fun e w' => e = .returned (.bool (sameI a b)) ∧ Ext w w' := by
  subst hn hm
  have ha := hA.len
  unfold maxLen at ha
  unfold sameI
  have HA := Lib.hid hA.cells
  have HB := Lib.hid hB.cells
  clear hA hB
  by_cases hl : a.length = b.length
  · have HL := Lib.hid hl
    have hl1 : ((a.length : Int) != (b.length : Int)) = false := by simp [hl]
    have hl2 : a.length ≤ b.length := by omega
    have hl3 : b.length ≤ a.length := by omega
    clear hl
    go_enter Try.func69, Try.ntmps69
    go_wp2
    go_loopw [13] (fun i wr => ∃ k : Nat, k ≤ a.length ∧ i = .int .i64 k ∧ a.take k = b.take k ∧ Ext w wr) (fun i _ => a.length - (intOf i).toNat)
    case atStart => exact ⟨0, Nat.zero_le _, rfl, rfl, Ext.refl _⟩
    case round =>
      obtain ⟨k, hk, rfl, hal, hX⟩ := hrel
      have HT := Lib.hid hal
      have HX := Lib.hid hX
      clear hal
      by_cases hlt : k < a.length
      · have hlt2 : k < b.length := by omega
        obtain ⟨ba, offa, rfl, _, hca⟩ := (HA.out.ext hX).it hlt
        obtain ⟨bb, offb, rfl, _, hcb⟩ := (HB.out.ext hX).it hlt2
        obtain ⟨hcka, hckas⟩ := hca k hlt
        obtain ⟨hckb, hckbs⟩ := hcb k hlt2
        have hki : (k : Int) < (a.length : Int) := by omega
        have hki2 : (k : Int) < (b.length : Int) := by omega
        have HF := Lib.hid (ne_at (a := a) (b := b) k hlt hlt2)
        have HS := Lib.hid (eq_step (a := a) (b := b) k hlt hlt2 HT.out)
        clear hca hcb HT hX
        generalize hq : a[k] = qa at *
        generalize hq2 : b[k] = qb at *
        clear hq hq2
        obtain ⟨qaa, qas⟩ := qa
        obtain ⟨qba, qbs⟩ := qb
        simp only at hcka hckas hckb hckbs
        have HQ := eq_it qaa qas qba qbs
        rcases Decidable.em ((qaa, qas) = (qba, qbs)) with he | he
        rotate_left
        · have HZ := Lib.hid he
          rw [decide_eq_false he] at HQ
          clear he
          go_wp2_with fail
          go_quiet (fail)
          go_wp2
          go_ret
          exact ⟨ret_bool (by rw [decide_eq_false (HF.out HZ.out)]), HX.out.drewN _⟩
        · have HZ := Lib.hid he
          rw [decide_eq_true he] at HQ
          clear he
          go_wp2_with fail
          go_quiet (fail)
          go_wp2
          go_roundw
          case rel => exact ⟨k + 1, by omega, by go_num, HS.out HZ.out, HX.out.drewN _⟩
          case measure => simp [intOf]; omega
      · obtain rfl : k = a.length := by omega
        have HE := Lib.hid (eq_end HL.out HT.out)
        clear HT hX
        go_wp2
        go_ret
        exact ⟨ret_bool (by rw [decide_eq_true HE.out]), HX.out⟩
  · have HL := Lib.hid (show ¬ a = b from fun e => hl (by rw [e]))
    have hl1 : ((a.length : Int) != (b.length : Int)) = true := by simp; omega
    clear hl
    go_enter Try.func69, Try.ntmps69
    go_wp2
    go_ret
    exact ⟨ret_bool (by rw [decide_eq_false HL.out]), Ext.refl _⟩

set_option maxHeartbeats 2000000 in
theorem nodeSame_any (f g : Bool) (A B : Option Addr) (a b : List It) (n m c c' : Nat) (w : World) (hn : n = a.length) (hm : m = b.length) (_ha : ndR a = true) (_hb : ndR b = true) (hA : Sl w A n c (ivs a)) (hB : Sl w B m c' (ivs b)) :
    Calls Try.prog 60 #[.agg #[.bool f, .slice A n c], .agg #[.bool g, .slice B m c']] w fun e w' => e = .returned (.bool (sameN f a g b)) ∧ Ext w w' := by
  obtain ⟨W, hW⟩ : ∃ W, (w.alloc (.cells #[.bool f, .slice A n c] 41)).alloc (.cells #[.bool g, .slice B m c'] 41) = W := ⟨_, rfl⟩
  obtain ⟨hx, hb0, hb1⟩ := allocs2 hW
  have HX := Lib.hid hx
  have HI := Lib.hid (equalI_any A B a b n m c c' W hn hm (hA.ext hx) (hB.ext hx))
  obtain ⟨p0, p1, p2⟩ := hb0.read2
  obtain ⟨q0, q1, q2⟩ := hb1.read2
  clear hA hB hn hm hx hb0 hb1
  unfold sameN
  cases f <;> cases g
  all_goals
    go_enter Try.func60, Try.ntmps60
    go_wp2_with ((go_at_call 69; refine HI.out.mono ?_; rintro e w1 ⟨rfl, hx⟩; have HX := Lib.hid (HX.out.trans hx); clear hx))
    go_ret
    exact ⟨ret_bool (by simp), HX.out⟩
end Go.Proofs.Ytclpeeemnmhdcaa
