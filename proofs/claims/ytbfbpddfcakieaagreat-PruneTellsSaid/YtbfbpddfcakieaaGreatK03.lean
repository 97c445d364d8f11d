/- Walks of Used, In, Free, Fits and Small of the reference. Walks of leads, places, cell and Right of the reference. Walks of Right and May of the reference. -/
import Derived.Test.YtbfbpddfcakieaaGreatK02
import Derived.Deep.AppendLies
import Derived.Deep.RegionHeld3
import Derived.Deep.DeepCutAuto
import Derived.Deep.DrawnRows
import Derived.RegionTactic
import Derived.StillTailTactics
namespace Go.Proofs.YtbfbpddfcakieaaGreat
open Go.RowKit
attribute [local go_sem ↓] Go.wp_at_zero Go.wp_at_succ

set_option maxRecDepth 100000 in
set_option maxHeartbeats 800000 in
theorem ref05Used_any (R : Option Addr) (l : List HC) (n q : Nat) (keep p : Int) (w : World) (hA : HcSl w R n q l) :
    Calls Tryz.prog 38 #[.agg #[.slice R n q, .int .i64 keep], .int .i64 p] w fun e w' => e = .returned (.bool (usedC l p)) ∧ Ext w w' := by
  have hn := hA.1
  have HX := Lib.hid ((Ext.refl w).alloc (.cells #[.slice R n q, .int .i64 keep] 24))
  have hb := Bx.new w #[.slice R n q, .int .i64 keep] 24
  obtain ⟨b0, b1, b2⟩ := hb.read2
  have HA := Lib.hid (hA.ext HX.out)
  clear hA hb
  rcases Int.lt_or_le p 0 with h0 | h0
  · have d0 : decide (0 ≤ p) = false := decide_eq_false (by omega)
    have HU := Lib.hid (usedC_neg (l := l) h0)
    clear h0 hn
    go_enter Tryz.func38, Tryz.ntmps38
    go_wp2
    go_ret
    exact ⟨ret_bool HU.out.symm, HX.out⟩
  rcases Int.lt_or_le p n with h1 | h1
  · obtain ⟨k, rfl⟩ := Int.eq_ofNat_of_zero_le h0
    have hk : k < l.length := by omega
    obtain ⟨b, off, rfl, hbl, A, c, r0, r1, r2, r3, _⟩ := HA.out.cell hk
    have d0 : decide ((0 : Int) ≤ (k : Int)) = true := decide_eq_true (by omega)
    have d1 : decide ((k : Int) < (n : Int)) = true := decide_eq_true (by omega)
    have d2 : decide (k < n) = true := decide_eq_true (by omega)
    have HU := Lib.hid (usedC_at hk)
    generalize l[k].ref = rf at *
    clear hn r1 r2 r3
    go_enter Tryz.func38, Tryz.ntmps38
    go_wp2
    go_ret
    exact ⟨ret_bool HU.out.symm, HX.out⟩
  · have d0 : decide (0 ≤ p) = true := decide_eq_true h0
    have d1 : decide (p < (n : Int)) = false := decide_eq_false (by omega)
    have HU := Lib.hid (usedC_big (l := l) (p := p) (by omega))
    clear hn
    go_enter Tryz.func38, Tryz.ntmps38
    go_wp2
    go_ret
    exact ⟨ret_bool HU.out.symm, HX.out⟩

set_option maxHeartbeats 800000 in
theorem ref05In_any (A : Option Addr) (l : List Int) (n c : Nat) (x : Int) (w : World) (hn : n = l.length) (hA : Sl w A n c (l.map iv)) :
    Calls Tryz.prog 93 #[.slice A n c, .int .i64 x] w fun e w' => e = .returned (.bool (inL l x)) ∧ w = w' := by
  have hl := hA.len
  unfold maxLen at hl
  have HA := Lib.hid hA.cells
  have HN := Lib.hid hn
  clear hA hn
  go_enter Tryz.func93, Tryz.ntmps93
  go_wp2
  go_loop [5] (fun i => ∃ k : Nat, k ≤ n ∧ i = .int .i64 k ∧ ∀ j (hj : j < l.length), j < k → l[j] ≠ x) (fun i => n - (intOf i).toNat)
  case atStart => exact ⟨0, Nat.zero_le _, rfl, fun j hj h => by omega⟩
  case round =>
    obtain ⟨k, hk, rfl, hne⟩ := hrel
    have HNE := Lib.hid hne
    clear hne
    rcases Nat.lt_or_ge k n with hlt | hlt
    · have hkl : k < l.length := by rw [← HN.out]; exact hlt
      obtain ⟨b, off, rfl, _, hc⟩ := HA.out.num hkl
      have hck := hc k hkl
      have hki : (k : Int) < (n : Int) := by omega
      have HY := Lib.hid (fun h => inL_yes (x := x) hkl h)
      have HK := Lib.hid (fun (h : l[k] ≠ x) => (show ∀ j (hj : j < l.length), j < k + 1 → l[j] ≠ x from fun j hj hjk => by
        rcases Nat.lt_or_ge j k with h' | h'
        · exact HNE.out j hj h'
        · obtain rfl : j = k := by omega
          exact h))
      clear hc HNE
      generalize l[k] = y at *
      rcases Decidable.em (y = x) with he | he
      · have e1 : (y == x) = true := by simpa using he
        have HE := Lib.hid (HY.out he)
        clear he
        go_wp2
        go_ret
        exact ⟨ret_bool HE.out.symm, rfl⟩
      · have e1 : (y == x) = false := by simpa using he
        have HE := Lib.hid (HK.out he)
        clear he
        go_wp2
        go_round
        case rel => exact ⟨k + 1, by omega, by go_num, HE.out⟩
        case measure => simp [intOf]; omega
    · obtain rfl : k = n := by omega
      have HE := Lib.hid (inL_no (l := l) (x := x) (fun j hj => HNE.out j hj (by rw [HN.out]; exact hj)))
      clear hlt
      go_wp2
      go_ret
      exact ⟨ret_bool HE.out.symm, rfl⟩

theorem countP_take1 {α : Type} (l : List α) (p : α → Bool) (k : Nat) (hk : k < l.length) : (l.take (k + 1)).countP p = (l.take k).countP p + (if p l[k] then 1 else 0) := by
  rw [List.take_succ_eq_append_getElem hk, List.countP_append]; simp [List.countP_cons]
set_option maxRecDepth 100000 in
set_option maxHeartbeats 800000 in
theorem ref05Free_any (R : Option Addr) (l : List HC) (n q : Nat) (keep : Int) (w : World) (hA : HcSl w R n q l) :
    Calls Tryz.prog 52 #[.agg #[.slice R n q, .int .i64 keep]] w fun e w' => e = .returned (.int .i64 (l.countP freeC : Nat)) ∧ Ext w w' := by
  have hn := hA.1
  have hml : n ≤ maxLen := by obtain ⟨_, cs, h, _⟩ := hA; exact h.len
  unfold maxLen at hml
  have HX := Lib.hid ((Ext.refl w).alloc (.cells #[.slice R n q, .int .i64 keep] 24))
  have hb := Bx.new w #[.slice R n q, .int .i64 keep] 24
  have HB := Lib.hid hb
  obtain ⟨b0, b1, b2⟩ := hb.read2
  have HA := Lib.hid (hA.ext HX.out)
  have HN := Lib.hid hn
  clear hA hb hn
  go_enter Tryz.func52, Tryz.ntmps52
  go_wp2
  generalize hW : World.alloc w _ = W at *
  clear hW
  go_loop [3, 4] (fun s i => ∃ k m : Nat, k ≤ n ∧ m ≤ k ∧ i = .int .i64 k ∧ s = .int .i64 m ∧ (l.take k).countP freeC = m) (fun _ i => n - (intOf i).toNat)
  case atStart => exact ⟨0, 0, Nat.zero_le _, Nat.le_refl _, rfl, rfl, rfl⟩
  case round =>
    obtain ⟨k, m, hk, hmk, rfl, rfl, hm⟩ := hrel
    have HM := Lib.hid hm
    clear hm
    rcases Nat.lt_or_ge k n with hlt | hlt
    · have hkl : k < l.length := by rw [← HN.out]; exact hlt
      obtain ⟨b, off, rfl, hbl, A, c, r0, r1, r2, r3, _⟩ := HA.out.cell hkl
      have hki : (k : Int) < (n : Int) := by omega
      have HS := Lib.hid (countP_take1 l freeC k hkl)
      rw [HM.out] at HS
      have HF := Lib.hid (show freeC l[k] = (decide (l[k].ref = 0) && !l[k].pin) from rfl)
      clear r2 r3
      generalize hq : l[k] = x at *
      clear hq
      obtain ⟨rf, pn, lf, it⟩ := x
      simp only at r0 r1 HF
      rcases Decidable.em (rf = 0) with h0 | h0
      · have e0 : (rf == 0) = true := by simpa using h0
        rw [decide_eq_true h0] at HF
        clear h0
        cases pn
        · have HS1 := Lib.hid (show (l.take (k + 1)).countP freeC = m + 1 by rw [HS.out, HF.out]; rfl)
          go_wp2
          go_round
          case rel => exact ⟨k + 1, m + 1, by omega, by omega, by go_num, by go_num, HS1.out⟩
          case measure => simp [intOf]; omega
        · have HS1 := Lib.hid (show (l.take (k + 1)).countP freeC = m by rw [HS.out, HF.out]; rfl)
          go_wp2
          go_round
          case rel => exact ⟨k + 1, m, by omega, by omega, by go_num, rfl, HS1.out⟩
          case measure => simp [intOf]; omega
      · have e0 : (rf == 0) = false := by simpa using h0
        rw [decide_eq_false h0] at HF
        clear h0
        have HS1 := Lib.hid (show (l.take (k + 1)).countP freeC = m by rw [HS.out, HF.out]; rfl)
        go_wp2
        go_round
        case rel => exact ⟨k + 1, m, by omega, by omega, by go_num, rfl, HS1.out⟩
        case measure => simp [intOf]; omega
    · obtain rfl : k = n := by omega
      have HE := Lib.hid (show l.countP freeC = m by rw [← HM.out, HN.out, List.take_length])
      clear hlt
      go_wp2
      go_ret
      exact ⟨by rw [HE.out]; rfl, HX.out⟩

set_option maxRecDepth 100000 in
set_option maxHeartbeats 800000 in
theorem ref05Fits_any (R : Option Addr) (l : List HC) (n q : Nat) (keep x : Int) (deep : Bool) (w : World) (hk : 0 ≤ keep ∧ keep ≤ 9223372036854775807) (hA : HcSl w R n q l) :
    Calls Tryz.prog 26 #[.agg #[.slice R n q, .int .i64 keep], .int .i64 x, .bool deep] w fun e w' => e = .returned (.bool (fitsH ⟨l, keep⟩ x deep)) ∧ Ext w w' := by
  have hn := hA.1
  have hml : n ≤ maxLen := by obtain ⟨_, cs, h, _⟩ := hA; exact h.len
  unfold maxLen at hml
  have HX := Lib.hid ((Ext.refl w).alloc (.cells #[.slice R n q, .int .i64 keep] 24))
  have hb := Bx.new w #[.slice R n q, .int .i64 keep] 24
  have HB := Lib.hid hb
  obtain ⟨b0, b1, b2⟩ := hb.read2
  have HF := Lib.hid (fun w' (hx : Ext w w') => ref05Free_any R l n q keep w' (hA.ext hx))
  unfold fitsH freeH
  simp only
  have hcn : l.countP freeC ≤ n := by rw [hn]; exact List.countP_le_length
  generalize l.countP freeC = m at *
  have hwr : IntKind.i64.wrap ((m : Int) - keep) = (m : Int) - keep := by rw [IntKind.wrap_i64]; omega
  clear hA hb hn
  cases deep
  · go_enter Tryz.func26, Tryz.ntmps26
    go_wp2_with fail
    go_region_law
      (first
        | ((go_simp
            go_at_call 52
            refine (HF.out _ ?_).mono ?_
            (first | exact HX.out.drew | exact HX.out)
            rintro e w1 ⟨rfl, hx⟩
            have HX1 := Lib.hid (show Ext w w1 from by first | exact HX.out.drew.trans hx | exact HX.out.trans hx)
            obtain ⟨c0, c1, c2⟩ := (HB.out.ext (show Ext _ w1 from by first | exact (Ext.refl _).drew.trans hx | exact hx)).read2
            clear hx)))
    all_goals
      go_wp2_with fail
      go_ret
      exact ⟨ret_bool (by simp), HX1.out⟩
  · go_enter Tryz.func26, Tryz.ntmps26
    go_wp2_with (go_at_call 52; refine (HF.out _ HX.out).mono ?_; rintro e w1 ⟨rfl, hx⟩; have HX1 := Lib.hid (HX.out.trans hx); clear hx)
    go_ret
    exact ⟨ret_bool (by simp), HX1.out⟩

set_option maxRecDepth 100000 in
set_option maxHeartbeats 800000 in
theorem ref05Small_any (R : Option Addr) (l : List HC) (n q : Nat) (keep most : Int) (w : World) (hA : HcSl w R n q l) :
    Calls Tryz.prog 40 #[.agg #[.slice R n q, .int .i64 keep], .int .i64 most] w fun e w' => e = .returned (.bool (smallH ⟨l, keep⟩ most)) ∧ Ext w w' := by
  have hn := hA.1
  have hml : n ≤ maxLen := by obtain ⟨_, cs, h, _⟩ := hA; exact h.len
  unfold maxLen at hml
  have HX := Lib.hid ((Ext.refl w).alloc (.cells #[.slice R n q, .int .i64 keep] 24))
  have hb := Bx.new w #[.slice R n q, .int .i64 keep] 24
  obtain ⟨b0, b1, b2⟩ := hb.read2
  have HA := Lib.hid (hA.ext HX.out)
  have HN := Lib.hid hn
  have HSM := Lib.hid (show smallH ⟨l, keep⟩ most = (decide ((n : Int) ≤ most) && l.all (fun c => decide (c.it.length ≤ 10) && decide (c.ref ≤ 1000000))) by rw [hn]; rfl)
  clear hA hb hn
  rcases Int.lt_or_le most n with h0 | h0
  · have d0 : decide (most < (n : Int)) = true := decide_eq_true h0
    have HE := Lib.hid (show smallH ⟨l, keep⟩ most = false by rw [HSM.out, decide_eq_false (by omega)]; rfl)
    go_enter Tryz.func40, Tryz.ntmps40
    go_wp2
    go_ret
    exact ⟨ret_bool HE.out.symm, HX.out⟩
  have d0 : decide (most < (n : Int)) = false := decide_eq_false (by omega)
  have HSM1 := Lib.hid (show smallH ⟨l, keep⟩ most = l.all (fun c => decide (c.it.length ≤ 10) && decide (c.ref ≤ 1000000)) by rw [HSM.out, decide_eq_true h0]; rfl)
  clear HSM
  go_enter Tryz.func40, Tryz.ntmps40
  go_wp2
  generalize hW : World.alloc w _ = W at *
  clear hW
  go_loop [5] (fun i => ∃ k : Nat, k ≤ n ∧ i = .int .i64 k ∧ ∀ j (hj : j < l.length), j < k → l[j].it.length ≤ 10 ∧ l[j].ref ≤ 1000000) (fun i => n - (intOf i).toNat)
  case atStart => exact ⟨0, Nat.zero_le _, rfl, fun j hj h => by omega⟩
  case round =>
    obtain ⟨k, hk, rfl, hne⟩ := hrel
    have HNE := Lib.hid hne
    clear hne
    rcases Nat.lt_or_ge k n with hlt | hlt
    · have hkl : k < l.length := by rw [← HN.out]; exact hlt
      obtain ⟨b, off, rfl, hbl, A, c, r0, r1, r2, r3, _⟩ := HA.out.cell hkl
      have hki : (k : Int) < (n : Int) := by omega
      have HF := Lib.hid (fun (h : ¬ (l[k].it.length ≤ 10 ∧ l[k].ref ≤ 1000000)) => (show smallH ⟨l, keep⟩ most = false from by
        rw [HSM1.out, List.all_eq_false]
        refine ⟨l[k], List.getElem_mem hkl, ?_⟩
        simp only [Bool.and_eq_true, decide_eq_true_eq]
        exact h))
      have HK := Lib.hid (fun (h : l[k].it.length ≤ 10 ∧ l[k].ref ≤ 1000000) => (show ∀ j (hj : j < l.length), j < k + 1 → l[j].it.length ≤ 10 ∧ l[j].ref ≤ 1000000 from fun j hj hjk => by
        rcases Nat.lt_or_ge j k with h' | h'
        · exact HNE.out j hj h'
        · obtain rfl : j = k := by omega
          exact h))
      clear HNE r1 r2
      generalize l[k].it.length = m at *
      generalize l[k].ref = rf at *
      rcases Nat.lt_or_ge 10 m with h1 | h1
      · have d1 : decide ((10 : Int) < (m : Int)) = true := decide_eq_true (by omega)
        have d2 : decide (10 < m) = true := decide_eq_true h1
        have HE := Lib.hid (HF.out (by omega))
        clear h1
        go_wp2
        go_ret
        exact ⟨ret_bool HE.out.symm, HX.out⟩
      have d1 : decide ((10 : Int) < (m : Int)) = false := decide_eq_false (by omega)
      have d2 : decide (10 < m) = false := decide_eq_false (by omega)
      rcases Int.lt_or_le 1000000 rf with h3 | h3
      · have d3 : decide (1000000 < rf) = true := decide_eq_true h3
        have HE := Lib.hid (HF.out (by omega))
        clear h1 h3
        go_wp2
        go_ret
        exact ⟨ret_bool HE.out.symm, HX.out⟩
      · have d3 : decide (1000000 < rf) = false := decide_eq_false (by omega)
        have HE := Lib.hid (HK.out ⟨h1, h3⟩)
        clear h1 h3
        go_wp2
        go_round
        case rel => exact ⟨k + 1, by omega, by go_num, HE.out⟩
        case measure => simp [intOf]; omega
    · obtain rfl : k = n := by omega
      have HE := Lib.hid (show smallH ⟨l, keep⟩ most = true from by
        rw [HSM1.out, List.all_eq_true]
        intro x hx
        obtain ⟨j, hj, rfl⟩ := List.mem_iff_getElem.1 hx
        simp only [Bool.and_eq_true, decide_eq_true_eq]
        exact HNE.out j hj (by rw [HN.out]; exact hj))
      clear hlt
      go_wp2
      go_ret
      exact ⟨ret_bool HE.out.symm, HX.out⟩
end Go.Proofs.YtbfbpddfcakieaaGreat
namespace Go.Proofs.YtbfbpddfcakieaaGreat
open Go.RowKit
attribute [local go_sem ↓] Go.wp_at_zero Go.wp_at_succ

theorem all_no {it : List It} {p : It → Bool} {k : Nat} (hk : k < it.length) (h : p it[k] = false) : it.all p = false := by
  rw [List.all_eq_false]; exact ⟨it[k], List.getElem_mem hk, by simp [h]⟩
theorem all_yes {it : List It} {p : It → Bool} (h : ∀ j (hj : j < it.length), p it[j] = true) : it.all p = true := by
  rw [List.all_eq_true]; intro x hx
  obtain ⟨j, hj, rfl⟩ := List.mem_iff_getElem.1 hx
  exact h j hj
set_option maxRecDepth 100000 in
set_option maxHeartbeats 800000 in
theorem ref05leads_any (R : Option Addr) (l : List HC) (n q : Nat) (keep : Int) (leaf : Bool) (A : Option Addr) (it : List It) (m c : Nat) (w : World) (hA : HcSl w R n q l) (hm : m = it.length) (hI : Sl w A m c (ivs it)) :
    Calls Tryz.prog 92 #[.agg #[.slice R n q, .int .i64 keep], .agg #[.bool leaf, .slice A m c]] w fun e w' => e = .returned (.bool (leadsC l leaf it)) ∧ Ext w w' := by
  have hml := hI.len
  unfold maxLen at hml
  obtain ⟨W, hW⟩ : ∃ W, (w.alloc (.cells #[.slice R n q, .int .i64 keep] 24)).alloc (.cells #[.bool leaf, .slice A m c] 51) = W := ⟨_, rfl⟩
  obtain ⟨hx, hb0, hb1⟩ := allocs2 hW
  have HX := Lib.hid hx
  have HB0 := Lib.hid hb0
  have HB1 := Lib.hid hb1
  have HU := Lib.hid (fun p w' (hx : Ext w w') => ref05Used_any R l n q keep p w' (hA.ext hx))
  have HI := Lib.hid (hI.ext hx)
  have HM := Lib.hid hm
  clear hx hA hm hI
  cases leaf
  rotate_left
  · obtain ⟨p0, p1, p2⟩ := hb0.read2
    obtain ⟨b0, b1, b2⟩ := hb1.read2
    clear hb0 hb1
    go_enter Tryz.func92, Tryz.ntmps92
    go_wp2_with fail
    go_loop [5] (fun i => i = .int .i64 0) (fun _ => 0)
    case atStart => rfl
    case round =>
      obtain rfl := hrel
      rcases Nat.eq_zero_or_pos m with h0 | h0
      · subst h0
        go_wp2_with fail
        go_ret
        exact ⟨rfl, HX.out⟩
      · have d0 : decide ((0 : Int) < (m : Int)) = true := decide_eq_true (by omega)
        have d1 : decide (0 < m) = true := decide_eq_true h0
        go_wp2_with fail
        go_ret
        exact ⟨rfl, HX.out⟩
  have HL := Lib.hid (show leadsC l false it = it.all (fun x => usedC l x.2) from rfl)
  go_enter Tryz.func92, Tryz.ntmps92
  clear hb0 hb1
  go_wp2_with fail
  generalize hW2 : World.alloc (World.alloc w _) _ = W2 at *
  clear hW2
  subst hW
  go_loopw [5] (fun i wr => ∃ k : Nat, k ≤ m ∧ i = .int .i64 k ∧ Ext W2 wr ∧ ∀ j (hj : j < it.length), j < k → usedC l it[j].2 = true) (fun i _ => m - (intOf i).toNat)
  case atStart => exact ⟨0, Nat.zero_le _, rfl, Ext.refl _, fun j hj h => by omega⟩
  case round =>
    obtain ⟨k, hk, rfl, hx, hne⟩ := hrel
    have HNE := Lib.hid hne
    have HXR := Lib.hid hx
    obtain ⟨p0, p1, p2⟩ := (HB0.out.ext hx).read2
    obtain ⟨b0, b1, b2⟩ := (HB1.out.ext hx).read2
    clear hne
    rcases Nat.lt_or_ge k m with hlt | hlt
    · have hkl : k < it.length := by rw [← HM.out]; exact hlt
      obtain ⟨b, off, rfl, _, hc⟩ := (HI.out.ext hx).cells.it hkl
      have hck := (hc k hkl).2
      have hki : (k : Int) < (m : Int) := by omega
      have d0 : decide ((k : Int) < (m : Int)) = true := decide_eq_true hki
      have d1 : decide (k < m) = true := decide_eq_true hlt
      have HF := Lib.hid (fun h => all_no (p := fun x => usedC l x.2) hkl h)
      have HK := Lib.hid (fun (h : usedC l it[k].2 = true) => (show ∀ j (hj : j < it.length), j < k + 1 → usedC l it[j].2 = true from fun j hj hjk => by
        rcases Nat.lt_or_ge j k with h' | h'
        · exact HNE.out j hj h'
        · obtain rfl : j = k := by omega
          exact h))
      have HC := Lib.hid (fun w' (hx : Ext wr w') => HU.out it[k].2 w' (HX.out.trans (HXR.out.trans hx)))
      clear hc HNE hx
      generalize it[k].2 = V at *
      obtain ⟨u, hu⟩ : ∃ u, usedC l V = u := ⟨_, rfl⟩
      rw [hu] at HF HK HC
      clear hu
      cases u
      · have HE := Lib.hid (HF.out rfl)
        clear HF HK
        go_wp2_with fail
        go_region_law
          (first
            | ((go_simp
                go_at_call 38
                refine (HC.out _ ?_).mono ?_
                (first | exact (Ext.refl _).drew | exact Ext.refl _)
                rintro e w1 ⟨rfl, hx⟩
                have HX1 := Lib.hid (show Ext wr w1 from by first | exact (Ext.refl _).drew.trans hx | exact hx)
                clear hx)))
        all_goals
          go_wp2_with fail
          go_ret
          exact ⟨ret_bool (by rw [HL.out, HE.out]), HX.out.trans (HXR.out.trans HX1.out)⟩
      · have HE := Lib.hid (HK.out rfl)
        clear HF HK
        go_wp2_with fail
        go_region_law
          (first
            | ((go_simp
                go_at_call 38
                refine (HC.out _ ?_).mono ?_
                (first | exact (Ext.refl _).drew | exact Ext.refl _)
                rintro e w1 ⟨rfl, hx⟩
                have HX1 := Lib.hid (show Ext wr w1 from by first | exact (Ext.refl _).drew.trans hx | exact hx)
                clear hx)))
        all_goals
          go_wp2_with fail
          go_roundw
          case rel => exact ⟨k + 1, by omega, by go_num, HXR.out.trans HX1.out, HE.out⟩
          case measure => simp [intOf]; omega
    · obtain rfl : k = m := by omega
      have HE := Lib.hid (all_yes (p := fun x => usedC l x.2) (fun j hj => HNE.out j hj (by rw [HM.out]; exact hj)))
      have d0 : decide ((k : Int) < (k : Int)) = false := decide_eq_false (by omega)
      clear hlt hx
      go_wp2_with fail
      go_ret
      exact ⟨ret_bool (by rw [HL.out, HE.out]), HX.out.trans HXR.out⟩

set_option maxRecDepth 100000 in
set_option maxHeartbeats 800000 in
theorem ref05places_any (R : Option Addr) (n q : Nat) (keep : Int) (leaf : Bool) (A : Option Addr) (it : List It) (m c : Nat) (w : World) (_hn : n ≤ maxLen) (hm : m = it.length) (hI : Sl w A m c (ivs it)) :
    Calls Tryz.prog 95 #[.agg #[.slice R n q, .int .i64 keep], .agg #[.bool leaf, .slice A m c]] w fun e w' => e = .returned (.bool (placesC n leaf it)) ∧ Ext w w' := by
  have hml := hI.len
  unfold maxLen at hml
  obtain ⟨W, hW⟩ : ∃ W, (w.alloc (.cells #[.slice R n q, .int .i64 keep] 24)).alloc (.cells #[.bool leaf, .slice A m c] 51) = W := ⟨_, rfl⟩
  obtain ⟨hx, hb0, hb1⟩ := allocs2 hW
  have HX := Lib.hid hx
  have HB0 := Lib.hid hb0
  have HB1 := Lib.hid hb1
  have HI := Lib.hid (hI.ext hx)
  have HM := Lib.hid hm
  clear hx hm hI
  cases leaf
  rotate_left
  · obtain ⟨p0, p1, p2⟩ := hb0.read2
    obtain ⟨b0, b1, b2⟩ := hb1.read2
    clear hb0 hb1
    go_enter Tryz.func95, Tryz.ntmps95
    go_wp2_with fail
    go_loop [5] (fun i => i = .int .i64 0) (fun _ => 0)
    case atStart => rfl
    case round =>
      obtain rfl := hrel
      rcases Nat.eq_zero_or_pos m with h0 | h0
      · subst h0
        go_wp2_with fail
        go_ret
        exact ⟨rfl, HX.out⟩
      · have d0 : decide ((0 : Int) < (m : Int)) = true := decide_eq_true (by omega)
        have d1 : decide (0 < m) = true := decide_eq_true h0
        go_wp2_with fail
        go_ret
        exact ⟨rfl, HX.out⟩
  have HL := Lib.hid (show placesC n false it = it.all (fun x => decide (0 ≤ x.2) && decide (x.2 < n)) from rfl)
  go_enter Tryz.func95, Tryz.ntmps95
  clear hb0 hb1
  go_wp2_with fail
  generalize hW2 : World.alloc (World.alloc w _) _ = W2 at *
  clear hW2
  subst hW
  go_loopw [5] (fun i wr => ∃ k : Nat, k ≤ m ∧ i = .int .i64 k ∧ Ext W2 wr ∧ ∀ j (hj : j < it.length), j < k → (decide (0 ≤ it[j].2) && decide (it[j].2 < n)) = true) (fun i _ => m - (intOf i).toNat)
  case atStart => exact ⟨0, Nat.zero_le _, rfl, Ext.refl _, fun j hj h => by omega⟩
  case round =>
    obtain ⟨k, hk, rfl, hx, hne⟩ := hrel
    have HNE := Lib.hid hne
    have HXR := Lib.hid hx
    obtain ⟨p0, p1, p2⟩ := (HB0.out.ext hx).read2
    obtain ⟨b0, b1, b2⟩ := (HB1.out.ext hx).read2
    clear hne
    rcases Nat.lt_or_ge k m with hlt | hlt
    · have hkl : k < it.length := by rw [← HM.out]; exact hlt
      obtain ⟨b, off, rfl, _, hc⟩ := (HI.out.ext hx).cells.it hkl
      have hck := (hc k hkl).2
      have hki : (k : Int) < (m : Int) := by omega
      have d0 : decide ((k : Int) < (m : Int)) = true := decide_eq_true hki
      have d1 : decide (k < m) = true := decide_eq_true hlt
      have HF := Lib.hid (fun h => all_no (p := fun x => decide (0 ≤ x.2) && decide (x.2 < n)) hkl h)
      have HK := Lib.hid (fun (h : (decide (0 ≤ it[k].2) && decide (it[k].2 < n)) = true) => (show ∀ j (hj : j < it.length), j < k + 1 → (decide (0 ≤ it[j].2) && decide (it[j].2 < n)) = true from fun j hj hjk => by
        rcases Nat.lt_or_ge j k with h' | h'
        · exact HNE.out j hj h'
        · obtain rfl : j = k := by omega
          exact h))
      clear hc HNE hx
      generalize it[k].2 = V at *
      rcases Int.lt_or_le V 0 with h0 | h0
      · have d2 : decide (V < 0) = true := decide_eq_true h0
        have HE := Lib.hid (HF.out (by rw [decide_eq_false (by omega)]; rfl))
        clear HF HK h0
        go_wp2_with fail
        go_quiet (fail)
        go_wp2
        go_ret
        exact ⟨ret_bool (by rw [HL.out, HE.out]), HX.out.trans (HXR.out.drewN _)⟩
      have d2 : decide (V < 0) = false := decide_eq_false (by omega)
      rcases Int.lt_or_le V n with h1 | h1
      · have d3 : decide ((n : Int) ≤ V) = false := decide_eq_false (by omega)
        have HE := Lib.hid (HK.out (by rw [decide_eq_true h0, decide_eq_true h1]; rfl))
        clear HF HK h0 h1
        go_wp2_with fail
        go_quiet (fail)
        go_wp2
        go_roundw
        case rel => exact ⟨k + 1, by omega, by go_num, HXR.out.drewN _, HE.out⟩
        case measure => simp [intOf]; omega
      · have d3 : decide ((n : Int) ≤ V) = true := decide_eq_true h1
        have HE := Lib.hid (HF.out (by rw [decide_eq_false (show ¬ V < n by omega)]; simp))
        clear HF HK h0 h1
        go_wp2_with fail
        go_quiet (fail)
        go_wp2
        go_ret
        exact ⟨ret_bool (by rw [HL.out, HE.out]), HX.out.trans (HXR.out.drewN _)⟩
    · obtain rfl : k = m := by omega
      have HE := Lib.hid (all_yes (p := fun x => decide (0 ≤ x.2) && decide (x.2 < n)) (fun j hj => HNE.out j hj (by rw [HM.out]; exact hj)))
      have d0 : decide ((k : Int) < (k : Int)) = false := decide_eq_false (by omega)
      clear hlt hx
      go_wp2_with fail
      go_ret
      exact ⟨ret_bool (by rw [HL.out, HE.out]), HX.out.trans HXR.out⟩

theorem Bx.read4 {w : World} {k : Nat} {a b c d : Value} (h : Bx w k #[a, b, c, d]) : w.cell? ⟨k, 0, none⟩ = some a ∧ w.cell? ⟨k, 1, none⟩ = some b ∧ w.cell? ⟨k, 2, none⟩ = some c ∧ w.cell? ⟨k, 3, none⟩ = some d :=
  ⟨h.at 0 _ rfl, h.at 1 _ rfl, h.at 2 _ rfl, h.at 3 _ rfl⟩
set_option maxRecDepth 100000 in
set_option maxHeartbeats 1600000 in
theorem ref05cell_any (R : Option Addr) (n q : Nat) (keep : Int) (x : HC) (A : Option Addr) (m c : Nat) (w : World) (hn : n ≤ maxLen) (hm : m = x.it.length) (hI : Sl w A m c (ivs x.it)) :
    Calls Tryz.prog 67 #[.agg #[.slice R n q, .int .i64 keep], .agg #[.int .i64 x.ref, .bool x.pin, .bool x.leaf, .slice A m c]] w fun e w' => e = .returned (.bool (cellR n x)) ∧ Ext w w' := by
  obtain ⟨rf, pn, lf, it⟩ := x
  simp only at hm hI ⊢
  obtain ⟨W, hW⟩ : ∃ W, W = (w.alloc (.cells #[.slice R n q, .int .i64 keep] 24)).alloc (.cells #[.int .i64 rf, .bool pn, .bool lf, .slice A m c] 53) := ⟨_, rfl⟩
  obtain ⟨hx, hb0, hb1⟩ := allocs2 hW.symm
  have HX := Lib.hid hx
  have HB0 := Lib.hid hb0
  have HB1 := Lib.hid hb1
  have HR := Lib.hid (fun w' (hx : Ext w w') => ref04Right_any lf A it m c w' hm (hI.ext hx))
  have HP := Lib.hid (fun w' (hx : Ext w w') => ref05places_any R n q keep lf A it m c w' hn hm (hI.ext hx))
  have HCR := Lib.hid (show cellR n ⟨rf, pn, lf, it⟩ = if rf = 0 then !lf && decide (m = 0) else decide (0 < rf) && (decide (rf ≤ 2147483647) && (!pn && (ndR it && placesC n lf it))) by rw [hm]; rfl)
  subst hW
  clear hx hm hI
  obtain ⟨p0, p1, p2⟩ := hb0.read2
  obtain ⟨b0, b1, b2, b3⟩ := hb1.read4
  clear hb0 hb1
  by_cases h0 : rf = 0
  · have e0 : (rf == 0) = true := by simpa using h0
    have HC := Lib.hid (show cellR n ⟨rf, pn, lf, it⟩ = (!lf && decide (m = 0)) by rw [HCR.out, if_pos h0])
    clear h0 HCR
    cases lf
    · rcases Nat.eq_zero_or_pos m with h1 | h1
      · subst h1
        go_enter Tryz.func67, Tryz.ntmps67
        go_wp2_with fail
        go_ret
        exact ⟨ret_bool (by rw [HC.out]; rfl), HX.out⟩
      · have e1 : ((m : Int) == 0) = false := by
          have : ¬ (m : Int) = 0 := by omega
          simpa using this
        have HM := Lib.hid (show decide (m = 0) = false from decide_eq_false (by omega))
        go_enter Tryz.func67, Tryz.ntmps67
        go_wp2_with fail
        go_ret
        exact ⟨ret_bool (by rw [HC.out, HM.out]; rfl), HX.out⟩
    · go_enter Tryz.func67, Tryz.ntmps67
      go_wp2_with fail
      go_ret
      exact ⟨ret_bool (by rw [HC.out]; rfl), HX.out⟩
  have e0 : (rf == 0) = false := by simpa using h0
  have HC := Lib.hid (show cellR n ⟨rf, pn, lf, it⟩ = (decide (0 < rf) && (decide (rf ≤ 2147483647) && (!pn && (ndR it && placesC n lf it)))) by rw [HCR.out, if_neg h0])
  clear HCR h0
  obtain ⟨r1, hr1⟩ : ∃ r, ndR it = r := ⟨_, rfl⟩
  obtain ⟨r2, hr2⟩ : ∃ r, placesC n lf it = r := ⟨_, rfl⟩
  rw [hr1] at HR HC
  rw [hr2] at HP HC
  clear hr1 hr2
  rcases Int.lt_or_le 0 rf with h1 | h1
  rotate_left
  · have d0 : decide (0 < rf) = false := decide_eq_false (by omega)
    clear h1
    rw [d0] at HC
    go_enter Tryz.func67, Tryz.ntmps67
    go_wp2_with (go_at_call 91; refine (HR.out _ HX.out).mono ?_; rintro e w1 ⟨rfl, hx⟩; have HX1 := Lib.hid (HX.out.trans hx); clear p0 p1 p2 b0 b1 b2 b3; obtain ⟨p0, p1, p2⟩ := (HB0.out.ext hx).read2; obtain ⟨b0, b1, b2, b3⟩ := (HB1.out.ext hx).read4; clear hx)
    go_ret
    exact ⟨ret_bool (by rw [HC.out]; rfl), HX1.out⟩
  have d0 : decide (0 < rf) = true := decide_eq_true h1
  rw [d0] at HC
  rcases Int.lt_or_le 2147483647 rf with h2 | h2
  · have d1 : decide (rf ≤ 2147483647) = false := decide_eq_false (by omega)
    clear h1 h2
    rw [d1] at HC
    go_enter Tryz.func67, Tryz.ntmps67
    go_wp2_with (go_at_call 91; refine (HR.out _ HX.out).mono ?_; rintro e w1 ⟨rfl, hx⟩; have HX1 := Lib.hid (HX.out.trans hx); clear p0 p1 p2 b0 b1 b2 b3; obtain ⟨p0, p1, p2⟩ := (HB0.out.ext hx).read2; obtain ⟨b0, b1, b2, b3⟩ := (HB1.out.ext hx).read4; clear hx)
    go_ret
    exact ⟨ret_bool (by rw [HC.out]; rfl), HX1.out⟩
  have d1 : decide (rf ≤ 2147483647) = true := decide_eq_true h2
  rw [d1] at HC
  clear h1 h2
  cases pn
  rotate_left
  · go_enter Tryz.func67, Tryz.ntmps67
    go_wp2_with (go_at_call 91; refine (HR.out _ HX.out).mono ?_; rintro e w1 ⟨rfl, hx⟩; have HX1 := Lib.hid (HX.out.trans hx); clear p0 p1 p2 b0 b1 b2 b3; obtain ⟨p0, p1, p2⟩ := (HB0.out.ext hx).read2; obtain ⟨b0, b1, b2, b3⟩ := (HB1.out.ext hx).read4; clear hx)
    go_ret
    exact ⟨ret_bool (by rw [HC.out]; rfl), HX1.out⟩
  cases r1
  · go_enter Tryz.func67, Tryz.ntmps67
    go_wp2_with (go_at_call 91; refine (HR.out _ HX.out).mono ?_; rintro e w1 ⟨rfl, hx⟩; have HX1 := Lib.hid (HX.out.trans hx); clear p0 p1 p2 b0 b1 b2 b3; obtain ⟨p0, p1, p2⟩ := (HB0.out.ext hx).read2; obtain ⟨b0, b1, b2, b3⟩ := (HB1.out.ext hx).read4; clear hx)
    go_ret
    exact ⟨ret_bool (by rw [HC.out]; rfl), HX1.out⟩
  · go_enter Tryz.func67, Tryz.ntmps67
    go_wp2_with (first
      | (go_at_call 91; refine (HR.out _ HX.out).mono ?_; rintro e w1 ⟨rfl, hx⟩; have HX1 := Lib.hid (HX.out.trans hx); clear p0 p1 p2 b0 b1 b2 b3; obtain ⟨p0, p1, p2⟩ := (HB0.out.ext hx).read2; obtain ⟨b0, b1, b2, b3⟩ := (HB1.out.ext hx).read4; clear hx)
      | (go_at_call 95; refine (HP.out _ HX1.out).mono ?_; rintro e w2 ⟨rfl, hx⟩; have HX2 := Lib.hid (HX1.out.trans hx); clear hx))
    go_ret
    exact ⟨ret_bool (by rw [HC.out]; rfl), HX2.out⟩
end Go.Proofs.YtbfbpddfcakieaaGreat
namespace Go.Proofs.YtbfbpddfcakieaaGreat
open Go.RowKit
attribute [local go_sem ↓] Go.wp_at_zero Go.wp_at_succ

theorem rightH_no {l : List HC} {keep : Int} (h : ¬ ((1 ≤ l.length ∧ l.length ≤ 2000) ∧ (0 ≤ keep ∧ keep ≤ l.length))) : rightH ⟨l, keep⟩ = false := by
  unfold rightH; simp only; rw [decide_eq_false h]; rfl
theorem rightH_bad {l : List HC} {keep : Int} {k : Nat} (hk : k < l.length) (h : cellR l.length l[k] = false) : rightH ⟨l, keep⟩ = false := by
  unfold rightH; simp only
  rw [show l.all (cellR l.length) = false from by rw [List.all_eq_false]; exact ⟨l[k], List.getElem_mem hk, by simp [h]⟩]
  simp
theorem rightH_yes {l : List HC} {keep : Int} (h : (1 ≤ l.length ∧ l.length ≤ 2000) ∧ (0 ≤ keep ∧ keep ≤ l.length)) (h2 : ∀ k (hk : k < l.length), cellR l.length l[k] = true) : rightH ⟨l, keep⟩ = true := by
  unfold rightH; simp only
  rw [decide_eq_true h, show l.all (cellR l.length) = true from by
    rw [List.all_eq_true]; intro x hx
    obtain ⟨j, hj, rfl⟩ := List.mem_iff_getElem.1 hx
    exact h2 j hj]
  rfl
theorem rightH_iff {l : List HC} {keep : Int} (h : rightH ⟨l, keep⟩ = true) : ((1 ≤ l.length ∧ l.length ≤ 2000) ∧ (0 ≤ keep ∧ keep ≤ l.length)) ∧ ∀ k (hk : k < l.length), cellR l.length l[k] = true := by
  unfold rightH at h
  simp only [Bool.and_eq_true, decide_eq_true_eq, List.all_eq_true] at h
  exact ⟨h.1, fun k hk => h.2 _ (List.getElem_mem hk)⟩

set_option maxRecDepth 100000 in
set_option maxHeartbeats 1600000 in
theorem ref05Right_any (R : Option Addr) (l : List HC) (n q : Nat) (keep : Int) (w : World) (hA : HcSl w R n q l) :
    Calls Tryz.prog 41 #[.agg #[.slice R n q, .int .i64 keep]] w fun e w' => e = .returned (.bool (rightH ⟨l, keep⟩)) ∧ Ext w w' := by
  have hn := hA.1
  have hml : n ≤ maxLen := by obtain ⟨_, cs, h, _⟩ := hA; exact h.len
  have HML := Lib.hid hml
  unfold maxLen at hml
  have HX := Lib.hid ((Ext.refl w).alloc (.cells #[.slice R n q, .int .i64 keep] 24))
  have hb := Bx.new w #[.slice R n q, .int .i64 keep] 24
  have HB := Lib.hid hb
  have HA := Lib.hid (hA.ext HX.out)
  have HN := Lib.hid hn
  have HNO := Lib.hid (fun (h : ¬ ((1 ≤ n ∧ n ≤ 2000) ∧ (0 ≤ keep ∧ keep ≤ n))) => rightH_no (l := l) (keep := keep) (by rw [← hn]; exact h))
  obtain ⟨b0, b1, b2⟩ := hb.read2
  clear hA hb hn
  rcases Nat.lt_or_ge n 1 with h0 | h0
  · obtain rfl : n = 0 := by omega
    have HE := Lib.hid (HNO.out (by omega))
    go_enter Tryz.func41, Tryz.ntmps41
    go_wp2_with fail
    go_ret
    exact ⟨ret_bool HE.out.symm, HX.out⟩
  have d0 : decide ((n : Int) < 1) = false := decide_eq_false (by omega)
  have d0' : decide (n < 1) = false := decide_eq_false (by omega)
  have d0'' : decide (n = 0) = false := decide_eq_false (by omega)
  rcases Nat.lt_or_ge 2000 n with h1 | h1
  · have d1 : decide ((2000 : Int) < (n : Int)) = true := decide_eq_true (by omega)
    have d1' : decide (2000 < n) = true := decide_eq_true (by omega)
    have HE := Lib.hid (HNO.out (by omega))
    clear h0 h1
    go_enter Tryz.func41, Tryz.ntmps41
    go_wp2_with fail
    go_ret
    exact ⟨ret_bool HE.out.symm, HX.out⟩
  have d1 : decide ((2000 : Int) < (n : Int)) = false := decide_eq_false (by omega)
  have d1' : decide (2000 < n) = false := decide_eq_false (by omega)
  rcases Int.lt_or_le keep 0 with h2 | h2
  · have d2 : decide (keep < 0) = true := decide_eq_true h2
    have HE := Lib.hid (HNO.out (by omega))
    clear h0 h1 h2
    go_enter Tryz.func41, Tryz.ntmps41
    go_wp2_with fail
    go_ret
    exact ⟨ret_bool HE.out.symm, HX.out⟩
  have d2 : decide (keep < 0) = false := decide_eq_false (by omega)
  rcases Int.lt_or_le n keep with h3 | h3
  · have d3 : decide ((n : Int) < keep) = true := decide_eq_true h3
    have HE := Lib.hid (HNO.out (by omega))
    clear h0 h1 h2 h3
    go_enter Tryz.func41, Tryz.ntmps41
    go_wp2_with fail
    go_ret
    exact ⟨ret_bool HE.out.symm, HX.out⟩
  have d3 : decide ((n : Int) < keep) = false := decide_eq_false (by omega)
  have HOK := Lib.hid (show (1 ≤ n ∧ n ≤ 2000) ∧ (0 ≤ keep ∧ keep ≤ n) from ⟨⟨h0, h1⟩, h2, h3⟩)
  clear h0 h1 h2 h3 HNO
  go_enter Tryz.func41, Tryz.ntmps41
  go_wp2_with fail
  generalize hW : World.alloc w _ = W at *
  clear hW
  go_loopw [3] (fun i wr => ∃ k : Nat, k ≤ n ∧ i = .int .i64 k ∧ Ext W wr ∧ ∀ j (hj : j < l.length), j < k → cellR n l[j] = true) (fun i _ => n - (intOf i).toNat)
  case atStart => exact ⟨0, Nat.zero_le _, rfl, Ext.refl _, fun j hj h => by omega⟩
  case round =>
    obtain ⟨k, hk, rfl, hx, hne⟩ := hrel
    have HNE := Lib.hid hne
    have HXR := Lib.hid hx
    clear hne b0 b1 b2
    obtain ⟨b0, b1, b2⟩ := (HB.out.ext hx).read2
    rcases Nat.lt_or_ge k n with hlt | hlt
    · have hkl : k < l.length := by rw [← HN.out]; exact hlt
      obtain ⟨b, off, rfl, hbl, A, c, r0, r1, r2, r3, hI⟩ := (HA.out.ext hx).cell hkl
      have hki : (k : Int) < (n : Int) := by omega
      have HF := Lib.hid (fun (h : cellR n l[k] = false) => rightH_bad (keep := keep) hkl (by rw [← HN.out]; exact h))
      have HK := Lib.hid (fun (h : cellR n l[k] = true) => (show ∀ j (hj : j < l.length), j < k + 1 → cellR n l[j] = true from fun j hj hjk => by
        rcases Nat.lt_or_ge j k with h' | h'
        · exact HNE.out j hj h'
        · obtain rfl : j = k := by omega
          exact h))
      have HC := Lib.hid (fun w' (hx : Ext wr w') => ref05cell_any (some ⟨b, off, none⟩) n q keep l[k] A l[k].it.length c w' HML.out rfl (hI.ext hx))
      clear HNE hI hx
      obtain ⟨u, hu⟩ : ∃ u, cellR n l[k] = u := ⟨_, rfl⟩
      rw [hu] at HF HK HC
      clear hu
      generalize hq : l[k] = x at *
      clear hq
      obtain ⟨rf, pn, lf, it⟩ := x
      simp only at r0 r1 r2 r3 HC
      generalize it.length = m at *
      cases u
      · have HE := Lib.hid (HF.out rfl)
        clear HF HK
        go_wp2_with fail
        go_region_law
          (first
            | ((go_simp
                go_at_call 67
                refine (HC.out _ ?_).mono ?_
                (first | exact (Ext.refl _).drew | exact Ext.refl _)
                rintro e w1 ⟨rfl, hx⟩
                have HX1 := Lib.hid (show Ext wr w1 from by first | exact (Ext.refl _).drew.trans hx | exact hx)
                clear hx)))
        all_goals
          go_wp2_with fail
          go_ret
          exact ⟨ret_bool HE.out.symm, HX.out.trans (HXR.out.trans HX1.out)⟩
      · have HE := Lib.hid (HK.out rfl)
        clear HF HK
        go_wp2_with fail
        go_region_law
          (first
            | ((go_simp
                go_at_call 67
                refine (HC.out _ ?_).mono ?_
                (first | exact (Ext.refl _).drew | exact Ext.refl _)
                rintro e w1 ⟨rfl, hx⟩
                have HX1 := Lib.hid (show Ext wr w1 from by first | exact (Ext.refl _).drew.trans hx | exact hx)
                clear hx)))
        all_goals
          go_wp2_with fail
          go_roundw
          case rel => exact ⟨k + 1, by omega, by go_num, HXR.out.trans HX1.out, HE.out⟩
          case measure => simp [intOf]; omega
    · obtain rfl : k = n := by omega
      have HE := Lib.hid (rightH_yes (l := l) (keep := keep) (by rw [← HN.out]; exact HOK.out) (fun j hj => by rw [← HN.out]; exact HNE.out j hj (by rw [HN.out]; exact hj)))
      clear hlt hx
      go_wp2_with fail
      go_ret
      exact ⟨ret_bool HE.out.symm, HX.out.trans HXR.out⟩

def mayH (h : Hp) (most : Int) : Bool := smallH h most && rightH h
set_option maxRecDepth 100000 in
set_option maxHeartbeats 800000 in
theorem ref05May_any (R : Option Addr) (l : List HC) (n q : Nat) (keep most : Int) (w : World) (hA : HcSl w R n q l) :
    Calls Tryz.prog 19 #[.agg #[.slice R n q, .int .i64 keep], .int .i64 most] w fun e w' => e = .returned (.bool (mayH ⟨l, keep⟩ most)) ∧ Ext w w' := by
  have HX := Lib.hid ((Ext.refl w).alloc (.cells #[.slice R n q, .int .i64 keep] 24))
  have hb := Bx.new w #[.slice R n q, .int .i64 keep] 24
  have HB := Lib.hid hb
  have HS := Lib.hid (fun w' (hx : Ext w w') => ref05Small_any R l n q keep most w' (hA.ext hx))
  have HR := Lib.hid (fun w' (hx : Ext w w') => ref05Right_any R l n q keep w' (hA.ext hx))
  have HM := Lib.hid (show mayH ⟨l, keep⟩ most = (smallH ⟨l, keep⟩ most && rightH ⟨l, keep⟩) from rfl)
  obtain ⟨b0, b1, b2⟩ := hb.read2
  obtain ⟨r1, hr1⟩ : ∃ r, smallH ⟨l, keep⟩ most = r := ⟨_, rfl⟩
  obtain ⟨r2, hr2⟩ : ∃ r, rightH ⟨l, keep⟩ = r := ⟨_, rfl⟩
  rw [hr1] at HS HM
  rw [hr2] at HR HM
  clear hA hb hr1 hr2
  cases r1
  all_goals
    go_enter Tryz.func19, Tryz.ntmps19
    go_wp2_with (first
      | (go_at_call 40; refine (HS.out _ HX.out).mono ?_; rintro e w1 ⟨rfl, hx⟩; have HX1 := Lib.hid (HX.out.trans hx); clear b0 b1 b2; obtain ⟨b0, b1, b2⟩ := (HB.out.ext hx).read2; clear hx)
      | (go_at_call 41; refine (HR.out _ HX1.out).mono ?_; rintro e w2 ⟨rfl, hx⟩; have HX2 := Lib.hid (HX1.out.trans hx); clear hx))
    go_ret
    first
    | exact ⟨ret_bool (by rw [HM.out]; rfl), HX2.out⟩
    | exact ⟨ret_bool (by rw [HM.out]; rfl), HX1.out⟩
end Go.Proofs.YtbfbpddfcakieaaGreat
