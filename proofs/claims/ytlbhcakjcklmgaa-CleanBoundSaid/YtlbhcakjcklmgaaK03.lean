/- Walks of Used, In, Free, Fits and Small of the reference. Walks of leads, places, cell and Right of the reference. Walks of Right and May of the reference. Walks of set, more and Hold of the reference. Walks of Same, New and Settle of the reference. Walks of New and Settle of the reference. Loosing on plain lists; the walk of Loose of the reference. The walk of Loose of the reference. The walk of Alloc of the reference. The walk of Alloc of the reference, where the node may be laid. Walks of isNumber, Right and Same of package node. -/
import Derived.Test.YtlbhcakjcklmgaaK02
import Derived.Deep.AppendLies
import Derived.Deep.RegionHeld3
import Derived.Deep.DeepCutAuto
import Derived.Deep.DrawnRows
import Derived.RegionTactic
import Derived.StillTailTactics
namespace Go.Proofs.Ytlbhcakjcklmgaa
open Go.RowKit
attribute [local go_sem ↓] Go.wp_at_zero Go.wp_at_succ

set_option maxRecDepth 100000 in
set_option maxHeartbeats 800000 in
theorem ref05Used_any (R : Option Addr) (l : List HC) (n q : Nat) (keep p : Int) (w : World) (hA : HcSl w R n q l) :
    Calls Try.prog 42 #[.agg #[.slice R n q, .int .i64 keep], .int .i64 p] w fun e w' => e = .returned (.bool (usedC l p)) ∧ Ext w w' := by
  have hn := hA.1
  have HX := Lib.hid ((Ext.refl w).alloc (.cells #[.slice R n q, .int .i64 keep] 24))
  have hb := Bx.new w #[.slice R n q, .int .i64 keep] 24
  obtain ⟨b0, b1, b2⟩ := hb.read2
  have HA := Lib.hid (hA.ext HX.out)
  clear hA hb
  rcases Int.lt_or_le p 0 with h0 | h0
  · have d0 : decide (0 ≤ p) = false := decide_eq_false (by omega)
    have HU := Lib.hid (usedC_neg (l := l) h0)
    clear h0 hn
    go_enter Try.func42, Try.ntmps42
    go_wp2
    go_ret
    exact ⟨ret_bool HU.out.symm, HX.out⟩
  rcases Int.lt_or_le p n with h1 | h1
  · obtain ⟨k, rfl⟩ := Int.eq_ofNat_of_zero_le h0
    have hk : k < l.length := by omega
    obtain ⟨b, off, rfl, hbl, A, c, r0, r1, r2, r3, _⟩ := HA.out.cell hk
    have d0 : decide ((0 : Int) ≤ (k : Int)) = true := decide_eq_true (by omega)
    have d1 : decide ((k : Int) < (n : Int)) = true := decide_eq_true (by omega)
    have d2 : decide (k < n) = true := decide_eq_true (by omega)
    have HU := Lib.hid (usedC_at hk)
    generalize l[k].ref = rf at *
    clear hn r1 r2 r3
    go_enter Try.func42, Try.ntmps42
    go_wp2
    go_ret
    exact ⟨ret_bool HU.out.symm, HX.out⟩
  · have d0 : decide (0 ≤ p) = true := decide_eq_true h0
    have d1 : decide (p < (n : Int)) = false := decide_eq_false (by omega)
    have HU := Lib.hid (usedC_big (l := l) (p := p) (by omega))
    clear hn
    go_enter Try.func42, Try.ntmps42
    go_wp2
    go_ret
    exact ⟨ret_bool HU.out.symm, HX.out⟩

theorem countP_take1 {α : Type} (l : List α) (p : α → Bool) (k : Nat) (hk : k < l.length) : (l.take (k + 1)).countP p = (l.take k).countP p + (if p l[k] then 1 else 0) := by
  rw [List.take_succ_eq_append_getElem hk, List.countP_append]; simp [List.countP_cons]
set_option maxRecDepth 100000 in
set_option maxHeartbeats 800000 in
theorem ref05Small_any (R : Option Addr) (l : List HC) (n q : Nat) (keep most : Int) (w : World) (hA : HcSl w R n q l) :
    Calls Try.prog 20 #[.agg #[.slice R n q, .int .i64 keep], .int .i64 most] w fun e w' => e = .returned (.bool (smallH ⟨l, keep⟩ most)) ∧ Ext w w' := by
  have hn := hA.1
  have hml : n ≤ maxLen := by obtain ⟨_, cs, h, _⟩ := hA; exact h.len
  unfold maxLen at hml
  have HX := Lib.hid ((Ext.refl w).alloc (.cells #[.slice R n q, .int .i64 keep] 24))
  have hb := Bx.new w #[.slice R n q, .int .i64 keep] 24
  obtain ⟨b0, b1, b2⟩ := hb.read2
  have HA := Lib.hid (hA.ext HX.out)
  have HN := Lib.hid hn
  have HSM := Lib.hid (show smallH ⟨l, keep⟩ most = (decide ((n : Int) ≤ most) && l.all (fun c => decide (c.it.length ≤ 10) && decide (c.ref ≤ 1000000))) by rw [hn]; rfl)
  clear hA hb hn
  rcases Int.lt_or_le most n with h0 | h0
  · have d0 : decide (most < (n : Int)) = true := decide_eq_true h0
    have HE := Lib.hid (show smallH ⟨l, keep⟩ most = false by rw [HSM.out, decide_eq_false (by omega)]; rfl)
    go_enter Try.func20, Try.ntmps20
    go_wp2
    go_ret
    exact ⟨ret_bool HE.out.symm, HX.out⟩
  have d0 : decide (most < (n : Int)) = false := decide_eq_false (by omega)
  have HSM1 := Lib.hid (show smallH ⟨l, keep⟩ most = l.all (fun c => decide (c.it.length ≤ 10) && decide (c.ref ≤ 1000000)) by rw [HSM.out, decide_eq_true h0]; rfl)
  clear HSM
  go_enter Try.func20, Try.ntmps20
  go_wp2
  generalize hW : World.alloc w _ = W at *
  clear hW
  go_loop [5] (fun i => ∃ k : Nat, k ≤ n ∧ i = .int .i64 k ∧ ∀ j (hj : j < l.length), j < k → l[j].it.length ≤ 10 ∧ l[j].ref ≤ 1000000) (fun i => n - (intOf i).toNat)
  case atStart => exact ⟨0, Nat.zero_le _, rfl, fun j hj h => by omega⟩
  case round =>
    obtain ⟨k, hk, rfl, hne⟩ := hrel
    have HNE := Lib.hid hne
    clear hne
    rcases Nat.lt_or_ge k n with hlt | hlt
    · have hkl : k < l.length := by rw [← HN.out]; exact hlt
      obtain ⟨b, off, rfl, hbl, A, c, r0, r1, r2, r3, _⟩ := HA.out.cell hkl
      have hki : (k : Int) < (n : Int) := by omega
      have HF := Lib.hid (fun (h : ¬ (l[k].it.length ≤ 10 ∧ l[k].ref ≤ 1000000)) => (show smallH ⟨l, keep⟩ most = false from by
        rw [HSM1.out, List.all_eq_false]
        refine ⟨l[k], List.getElem_mem hkl, ?_⟩
        simp only [Bool.and_eq_true, decide_eq_true_eq]
        exact h))
      have HK := Lib.hid (fun (h : l[k].it.length ≤ 10 ∧ l[k].ref ≤ 1000000) => (show ∀ j (hj : j < l.length), j < k + 1 → l[j].it.length ≤ 10 ∧ l[j].ref ≤ 1000000 from fun j hj hjk => by
        rcases Nat.lt_or_ge j k with h' | h'
        · exact HNE.out j hj h'
        · obtain rfl : j = k := by omega
          exact h))
      clear HNE r1 r2
      generalize l[k].it.length = m at *
      generalize l[k].ref = rf at *
      rcases Nat.lt_or_ge 10 m with h1 | h1
      · have d1 : decide ((10 : Int) < (m : Int)) = true := decide_eq_true (by omega)
        have d2 : decide (10 < m) = true := decide_eq_true h1
        have HE := Lib.hid (HF.out (by omega))
        clear h1
        go_wp2
        go_ret
        exact ⟨ret_bool HE.out.symm, HX.out⟩
      have d1 : decide ((10 : Int) < (m : Int)) = false := decide_eq_false (by omega)
      have d2 : decide (10 < m) = false := decide_eq_false (by omega)
      rcases Int.lt_or_le 1000000 rf with h3 | h3
      · have d3 : decide (1000000 < rf) = true := decide_eq_true h3
        have HE := Lib.hid (HF.out (by omega))
        clear h1 h3
        go_wp2
        go_ret
        exact ⟨ret_bool HE.out.symm, HX.out⟩
      · have d3 : decide (1000000 < rf) = false := decide_eq_false (by omega)
        have HE := Lib.hid (HK.out ⟨h1, h3⟩)
        clear h1 h3
        go_wp2
        go_round
        case rel => exact ⟨k + 1, by omega, by go_num, HE.out⟩
        case measure => simp [intOf]; omega
    · obtain rfl : k = n := by omega
      have HE := Lib.hid (show smallH ⟨l, keep⟩ most = true from by
        rw [HSM1.out, List.all_eq_true]
        intro x hx
        obtain ⟨j, hj, rfl⟩ := List.mem_iff_getElem.1 hx
        simp only [Bool.and_eq_true, decide_eq_true_eq]
        exact HNE.out j hj (by rw [HN.out]; exact hj))
      clear hlt
      go_wp2
      go_ret
      exact ⟨ret_bool HE.out.symm, HX.out⟩
end Go.Proofs.Ytlbhcakjcklmgaa
namespace Go.Proofs.Ytlbhcakjcklmgaa
open Go.RowKit
attribute [local go_sem ↓] Go.wp_at_zero Go.wp_at_succ

theorem all_no {it : List It} {p : It → Bool} {k : Nat} (hk : k < it.length) (h : p it[k] = false) : it.all p = false := by
  rw [List.all_eq_false]; exact ⟨it[k], List.getElem_mem hk, by simp [h]⟩
theorem all_yes {it : List It} {p : It → Bool} (h : ∀ j (hj : j < it.length), p it[j] = true) : it.all p = true := by
  rw [List.all_eq_true]; intro x hx
  obtain ⟨j, hj, rfl⟩ := List.mem_iff_getElem.1 hx
  exact h j hj
set_option maxRecDepth 100000 in
set_option maxHeartbeats 800000 in
theorem ref05places_any (R : Option Addr) (n q : Nat) (keep : Int) (leaf : Bool) (A : Option Addr) (it : List It) (m c : Nat) (w : World) (_hn : n ≤ maxLen) (hm : m = it.length) (hI : Sl w A m c (ivs it)) :
    Calls Try.prog 51 #[.agg #[.slice R n q, .int .i64 keep], .agg #[.bool leaf, .slice A m c]] w fun e w' => e = .returned (.bool (placesC n leaf it)) ∧ Ext w w' := by
  have hml := hI.len
  unfold maxLen at hml
  obtain ⟨W, hW⟩ : ∃ W, (w.alloc (.cells #[.slice R n q, .int .i64 keep] 24)).alloc (.cells #[.bool leaf, .slice A m c] 36) = W := ⟨_, rfl⟩
  obtain ⟨hx, hb0, hb1⟩ := allocs2 hW
  have HX := Lib.hid hx
  have HB0 := Lib.hid hb0
  have HB1 := Lib.hid hb1
  have HI := Lib.hid (hI.ext hx)
  have HM := Lib.hid hm
  clear hx hm hI
  cases leaf
  rotate_left
  · obtain ⟨p0, p1, p2⟩ := hb0.read2
    obtain ⟨b0, b1, b2⟩ := hb1.read2
    clear hb0 hb1
    go_enter Try.func51, Try.ntmps51
    go_wp2_with fail
    go_loop [5] (fun i => i = .int .i64 0) (fun _ => 0)
    case atStart => rfl
    case round =>
      obtain rfl := hrel
      rcases Nat.eq_zero_or_pos m with h0 | h0
      · subst h0
        go_wp2_with fail
        go_ret
        exact ⟨rfl, HX.out⟩
      · have d0 : decide ((0 : Int) < (m : Int)) = true := decide_eq_true (by omega)
        have d1 : decide (0 < m) = true := decide_eq_true h0
        go_wp2_with fail
        go_ret
        exact ⟨rfl, HX.out⟩
  have HL := Lib.hid (show placesC n false it = it.all (fun x => decide (0 ≤ x.2) && decide (x.2 < n)) from rfl)
  go_enter Try.func51, Try.ntmps51
  clear hb0 hb1
  go_wp2_with fail
  generalize hW2 : World.alloc (World.alloc w _) _ = W2 at *
  clear hW2
  subst hW
  go_loopw [5] (fun i wr => ∃ k : Nat, k ≤ m ∧ i = .int .i64 k ∧ Ext W2 wr ∧ ∀ j (hj : j < it.length), j < k → (decide (0 ≤ it[j].2) && decide (it[j].2 < n)) = true) (fun i _ => m - (intOf i).toNat)
  case atStart => exact ⟨0, Nat.zero_le _, rfl, Ext.refl _, fun j hj h => by omega⟩
  case round =>
    obtain ⟨k, hk, rfl, hx, hne⟩ := hrel
    have HNE := Lib.hid hne
    have HXR := Lib.hid hx
    obtain ⟨p0, p1, p2⟩ := (HB0.out.ext hx).read2
    obtain ⟨b0, b1, b2⟩ := (HB1.out.ext hx).read2
    clear hne
    rcases Nat.lt_or_ge k m with hlt | hlt
    · have hkl : k < it.length := by rw [← HM.out]; exact hlt
      obtain ⟨b, off, rfl, _, hc⟩ := (HI.out.ext hx).cells.it hkl
      have hck := (hc k hkl).2
      have hki : (k : Int) < (m : Int) := by omega
      have d0 : decide ((k : Int) < (m : Int)) = true := decide_eq_true hki
      have d1 : decide (k < m) = true := decide_eq_true hlt
      have HF := Lib.hid (fun h => all_no (p := fun x => decide (0 ≤ x.2) && decide (x.2 < n)) hkl h)
      have HK := Lib.hid (fun (h : (decide (0 ≤ it[k].2) && decide (it[k].2 < n)) = true) => (show ∀ j (hj : j < it.length), j < k + 1 → (decide (0 ≤ it[j].2) && decide (it[j].2 < n)) = true from fun j hj hjk => by
        rcases Nat.lt_or_ge j k with h' | h'
        · exact HNE.out j hj h'
        · obtain rfl : j = k := by omega
          exact h))
      clear hc HNE hx
      generalize it[k].2 = V at *
      rcases Int.lt_or_le V 0 with h0 | h0
      · have d2 : decide (V < 0) = true := decide_eq_true h0
        have HE := Lib.hid (HF.out (by rw [decide_eq_false (by omega)]; rfl))
        clear HF HK h0
        go_wp2_with fail
        go_quiet (fail)
        go_wp2
        go_ret
        exact ⟨ret_bool (by rw [HL.out, HE.out]), HX.out.trans (HXR.out.drewN _)⟩
      have d2 : decide (V < 0) = false := decide_eq_false (by omega)
      rcases Int.lt_or_le V n with h1 | h1
      · have d3 : decide ((n : Int) ≤ V) = false := decide_eq_false (by omega)
        have HE := Lib.hid (HK.out (by rw [decide_eq_true h0, decide_eq_true h1]; rfl))
        clear HF HK h0 h1
        go_wp2_with fail
        go_quiet (fail)
        go_wp2
        go_roundw
        case rel => exact ⟨k + 1, by omega, by go_num, HXR.out.drewN _, HE.out⟩
        case measure => simp [intOf]; omega
      · have d3 : decide ((n : Int) ≤ V) = true := decide_eq_true h1
        have HE := Lib.hid (HF.out (by rw [decide_eq_false (show ¬ V < n by omega)]; simp))
        clear HF HK h0 h1
        go_wp2_with fail
        go_quiet (fail)
        go_wp2
        go_ret
        exact ⟨ret_bool (by rw [HL.out, HE.out]), HX.out.trans (HXR.out.drewN _)⟩
    · obtain rfl : k = m := by omega
      have HE := Lib.hid (all_yes (p := fun x => decide (0 ≤ x.2) && decide (x.2 < n)) (fun j hj => HNE.out j hj (by rw [HM.out]; exact hj)))
      have d0 : decide ((k : Int) < (k : Int)) = false := decide_eq_false (by omega)
      clear hlt hx
      go_wp2_with fail
      go_ret
      exact ⟨ret_bool (by rw [HL.out, HE.out]), HX.out.trans HXR.out⟩

theorem Bx.read4 {w : World} {k : Nat} {a b c d : Value} (h : Bx w k #[a, b, c, d]) : w.cell? ⟨k, 0, none⟩ = some a ∧ w.cell? ⟨k, 1, none⟩ = some b ∧ w.cell? ⟨k, 2, none⟩ = some c ∧ w.cell? ⟨k, 3, none⟩ = some d :=
  ⟨h.at 0 _ rfl, h.at 1 _ rfl, h.at 2 _ rfl, h.at 3 _ rfl⟩
set_option maxRecDepth 100000 in
set_option maxHeartbeats 1600000 in
theorem ref05cell_any (R : Option Addr) (n q : Nat) (keep : Int) (x : HC) (A : Option Addr) (m c : Nat) (w : World) (hn : n ≤ maxLen) (hm : m = x.it.length) (hI : Sl w A m c (ivs x.it)) :
    Calls Try.prog 40 #[.agg #[.slice R n q, .int .i64 keep], .agg #[.int .i64 x.ref, .bool x.pin, .bool x.leaf, .slice A m c]] w fun e w' => e = .returned (.bool (cellR n x)) ∧ Ext w w' := by
  obtain ⟨rf, pn, lf, it⟩ := x
  simp only at hm hI ⊢
  obtain ⟨W, hW⟩ : ∃ W, W = (w.alloc (.cells #[.slice R n q, .int .i64 keep] 24)).alloc (.cells #[.int .i64 rf, .bool pn, .bool lf, .slice A m c] 38) := ⟨_, rfl⟩
  obtain ⟨hx, hb0, hb1⟩ := allocs2 hW.symm
  have HX := Lib.hid hx
  have HB0 := Lib.hid hb0
  have HB1 := Lib.hid hb1
  have HR := Lib.hid (fun w' (hx : Ext w w') => ref04Right_any lf A it m c w' hm (hI.ext hx))
  have HP := Lib.hid (fun w' (hx : Ext w w') => ref05places_any R n q keep lf A it m c w' hn hm (hI.ext hx))
  have HCR := Lib.hid (show cellR n ⟨rf, pn, lf, it⟩ = if rf = 0 then !lf && decide (m = 0) else decide (0 < rf) && (decide (rf ≤ 2147483647) && (!pn && (ndR it && placesC n lf it))) by rw [hm]; rfl)
  subst hW
  clear hx hm hI
  obtain ⟨p0, p1, p2⟩ := hb0.read2
  obtain ⟨b0, b1, b2, b3⟩ := hb1.read4
  clear hb0 hb1
  by_cases h0 : rf = 0
  · have e0 : (rf == 0) = true := by simpa using h0
    have HC := Lib.hid (show cellR n ⟨rf, pn, lf, it⟩ = (!lf && decide (m = 0)) by rw [HCR.out, if_pos h0])
    clear h0 HCR
    cases lf
    · rcases Nat.eq_zero_or_pos m with h1 | h1
      · subst h1
        go_enter Try.func40, Try.ntmps40
        go_wp2_with fail
        go_ret
        exact ⟨ret_bool (by rw [HC.out]; rfl), HX.out⟩
      · have e1 : ((m : Int) == 0) = false := by
          have : ¬ (m : Int) = 0 := by omega
          simpa using this
        have HM := Lib.hid (show decide (m = 0) = false from decide_eq_false (by omega))
        go_enter Try.func40, Try.ntmps40
        go_wp2_with fail
        go_ret
        exact ⟨ret_bool (by rw [HC.out, HM.out]; rfl), HX.out⟩
    · go_enter Try.func40, Try.ntmps40
      go_wp2_with fail
      go_ret
      exact ⟨ret_bool (by rw [HC.out]; rfl), HX.out⟩
  have e0 : (rf == 0) = false := by simpa using h0
  have HC := Lib.hid (show cellR n ⟨rf, pn, lf, it⟩ = (decide (0 < rf) && (decide (rf ≤ 2147483647) && (!pn && (ndR it && placesC n lf it)))) by rw [HCR.out, if_neg h0])
  clear HCR h0
  obtain ⟨r1, hr1⟩ : ∃ r, ndR it = r := ⟨_, rfl⟩
  obtain ⟨r2, hr2⟩ : ∃ r, placesC n lf it = r := ⟨_, rfl⟩
  rw [hr1] at HR HC
  rw [hr2] at HP HC
  clear hr1 hr2
  rcases Int.lt_or_le 0 rf with h1 | h1
  rotate_left
  · have d0 : decide (0 < rf) = false := decide_eq_false (by omega)
    clear h1
    rw [d0] at HC
    go_enter Try.func40, Try.ntmps40
    go_wp2_with (go_at_call 50; refine (HR.out _ HX.out).mono ?_; rintro e w1 ⟨rfl, hx⟩; have HX1 := Lib.hid (HX.out.trans hx); clear p0 p1 p2 b0 b1 b2 b3; obtain ⟨p0, p1, p2⟩ := (HB0.out.ext hx).read2; obtain ⟨b0, b1, b2, b3⟩ := (HB1.out.ext hx).read4; clear hx)
    go_ret
    exact ⟨ret_bool (by rw [HC.out]; rfl), HX1.out⟩
  have d0 : decide (0 < rf) = true := decide_eq_true h1
  rw [d0] at HC
  rcases Int.lt_or_le 2147483647 rf with h2 | h2
  · have d1 : decide (rf ≤ 2147483647) = false := decide_eq_false (by omega)
    clear h1 h2
    rw [d1] at HC
    go_enter Try.func40, Try.ntmps40
    go_wp2_with (go_at_call 50; refine (HR.out _ HX.out).mono ?_; rintro e w1 ⟨rfl, hx⟩; have HX1 := Lib.hid (HX.out.trans hx); clear p0 p1 p2 b0 b1 b2 b3; obtain ⟨p0, p1, p2⟩ := (HB0.out.ext hx).read2; obtain ⟨b0, b1, b2, b3⟩ := (HB1.out.ext hx).read4; clear hx)
    go_ret
    exact ⟨ret_bool (by rw [HC.out]; rfl), HX1.out⟩
  have d1 : decide (rf ≤ 2147483647) = true := decide_eq_true h2
  rw [d1] at HC
  clear h1 h2
  cases pn
  rotate_left
  · go_enter Try.func40, Try.ntmps40
    go_wp2_with (go_at_call 50; refine (HR.out _ HX.out).mono ?_; rintro e w1 ⟨rfl, hx⟩; have HX1 := Lib.hid (HX.out.trans hx); clear p0 p1 p2 b0 b1 b2 b3; obtain ⟨p0, p1, p2⟩ := (HB0.out.ext hx).read2; obtain ⟨b0, b1, b2, b3⟩ := (HB1.out.ext hx).read4; clear hx)
    go_ret
    exact ⟨ret_bool (by rw [HC.out]; rfl), HX1.out⟩
  cases r1
  · go_enter Try.func40, Try.ntmps40
    go_wp2_with (go_at_call 50; refine (HR.out _ HX.out).mono ?_; rintro e w1 ⟨rfl, hx⟩; have HX1 := Lib.hid (HX.out.trans hx); clear p0 p1 p2 b0 b1 b2 b3; obtain ⟨p0, p1, p2⟩ := (HB0.out.ext hx).read2; obtain ⟨b0, b1, b2, b3⟩ := (HB1.out.ext hx).read4; clear hx)
    go_ret
    exact ⟨ret_bool (by rw [HC.out]; rfl), HX1.out⟩
  · go_enter Try.func40, Try.ntmps40
    go_wp2_with (first
      | (go_at_call 50; refine (HR.out _ HX.out).mono ?_; rintro e w1 ⟨rfl, hx⟩; have HX1 := Lib.hid (HX.out.trans hx); clear p0 p1 p2 b0 b1 b2 b3; obtain ⟨p0, p1, p2⟩ := (HB0.out.ext hx).read2; obtain ⟨b0, b1, b2, b3⟩ := (HB1.out.ext hx).read4; clear hx)
      | (go_at_call 51; refine (HP.out _ HX1.out).mono ?_; rintro e w2 ⟨rfl, hx⟩; have HX2 := Lib.hid (HX1.out.trans hx); clear hx))
    go_ret
    exact ⟨ret_bool (by rw [HC.out]; rfl), HX2.out⟩
end Go.Proofs.Ytlbhcakjcklmgaa
namespace Go.Proofs.Ytlbhcakjcklmgaa
open Go.RowKit
attribute [local go_sem ↓] Go.wp_at_zero Go.wp_at_succ

theorem rightH_no {l : List HC} {keep : Int} (h : ¬ ((1 ≤ l.length ∧ l.length ≤ 2000) ∧ (0 ≤ keep ∧ keep ≤ l.length))) : rightH ⟨l, keep⟩ = false := by
  unfold rightH; simp only; rw [decide_eq_false h]; rfl
theorem rightH_bad {l : List HC} {keep : Int} {k : Nat} (hk : k < l.length) (h : cellR l.length l[k] = false) : rightH ⟨l, keep⟩ = false := by
  unfold rightH; simp only
  rw [show l.all (cellR l.length) = false from by rw [List.all_eq_false]; exact ⟨l[k], List.getElem_mem hk, by simp [h]⟩]
  simp
theorem rightH_yes {l : List HC} {keep : Int} (h : (1 ≤ l.length ∧ l.length ≤ 2000) ∧ (0 ≤ keep ∧ keep ≤ l.length)) (h2 : ∀ k (hk : k < l.length), cellR l.length l[k] = true) : rightH ⟨l, keep⟩ = true := by
  unfold rightH; simp only
  rw [decide_eq_true h, show l.all (cellR l.length) = true from by
    rw [List.all_eq_true]; intro x hx
    obtain ⟨j, hj, rfl⟩ := List.mem_iff_getElem.1 hx
    exact h2 j hj]
  rfl
theorem rightH_iff {l : List HC} {keep : Int} (h : rightH ⟨l, keep⟩ = true) : ((1 ≤ l.length ∧ l.length ≤ 2000) ∧ (0 ≤ keep ∧ keep ≤ l.length)) ∧ ∀ k (hk : k < l.length), cellR l.length l[k] = true := by
  unfold rightH at h
  simp only [Bool.and_eq_true, decide_eq_true_eq, List.all_eq_true] at h
  exact ⟨h.1, fun k hk => h.2 _ (List.getElem_mem hk)⟩

set_option maxRecDepth 100000 in
set_option maxHeartbeats 1600000 in
theorem ref05Right_any (R : Option Addr) (l : List HC) (n q : Nat) (keep : Int) (w : World) (hA : HcSl w R n q l) :
    Calls Try.prog 28 #[.agg #[.slice R n q, .int .i64 keep]] w fun e w' => e = .returned (.bool (rightH ⟨l, keep⟩)) ∧ Ext w w' := by
  have hn := hA.1
  have hml : n ≤ maxLen := by obtain ⟨_, cs, h, _⟩ := hA; exact h.len
  have HML := Lib.hid hml
  unfold maxLen at hml
  have HX := Lib.hid ((Ext.refl w).alloc (.cells #[.slice R n q, .int .i64 keep] 24))
  have hb := Bx.new w #[.slice R n q, .int .i64 keep] 24
  have HB := Lib.hid hb
  have HA := Lib.hid (hA.ext HX.out)
  have HN := Lib.hid hn
  have HNO := Lib.hid (fun (h : ¬ ((1 ≤ n ∧ n ≤ 2000) ∧ (0 ≤ keep ∧ keep ≤ n))) => rightH_no (l := l) (keep := keep) (by rw [← hn]; exact h))
  obtain ⟨b0, b1, b2⟩ := hb.read2
  clear hA hb hn
  rcases Nat.lt_or_ge n 1 with h0 | h0
  · obtain rfl : n = 0 := by omega
    have HE := Lib.hid (HNO.out (by omega))
    go_enter Try.func28, Try.ntmps28
    go_wp2_with fail
    go_ret
    exact ⟨ret_bool HE.out.symm, HX.out⟩
  have d0 : decide ((n : Int) < 1) = false := decide_eq_false (by omega)
  have d0' : decide (n < 1) = false := decide_eq_false (by omega)
  have d0'' : decide (n = 0) = false := decide_eq_false (by omega)
  rcases Nat.lt_or_ge 2000 n with h1 | h1
  · have d1 : decide ((2000 : Int) < (n : Int)) = true := decide_eq_true (by omega)
    have d1' : decide (2000 < n) = true := decide_eq_true (by omega)
    have HE := Lib.hid (HNO.out (by omega))
    clear h0 h1
    go_enter Try.func28, Try.ntmps28
    go_wp2_with fail
    go_ret
    exact ⟨ret_bool HE.out.symm, HX.out⟩
  have d1 : decide ((2000 : Int) < (n : Int)) = false := decide_eq_false (by omega)
  have d1' : decide (2000 < n) = false := decide_eq_false (by omega)
  rcases Int.lt_or_le keep 0 with h2 | h2
  · have d2 : decide (keep < 0) = true := decide_eq_true h2
    have HE := Lib.hid (HNO.out (by omega))
    clear h0 h1 h2
    go_enter Try.func28, Try.ntmps28
    go_wp2_with fail
    go_ret
    exact ⟨ret_bool HE.out.symm, HX.out⟩
  have d2 : decide (keep < 0) = false := decide_eq_false (by omega)
  rcases Int.lt_or_le n keep with h3 | h3
  · have d3 : decide ((n : Int) < keep) = true := decide_eq_true h3
    have HE := Lib.hid (HNO.out (by omega))
    clear h0 h1 h2 h3
    go_enter Try.func28, Try.ntmps28
    go_wp2_with fail
    go_ret
    exact ⟨ret_bool HE.out.symm, HX.out⟩
  have d3 : decide ((n : Int) < keep) = false := decide_eq_false (by omega)
  have HOK := Lib.hid (show (1 ≤ n ∧ n ≤ 2000) ∧ (0 ≤ keep ∧ keep ≤ n) from ⟨⟨h0, h1⟩, h2, h3⟩)
  clear h0 h1 h2 h3 HNO
  go_enter Try.func28, Try.ntmps28
  go_wp2_with fail
  generalize hW : World.alloc w _ = W at *
  clear hW
  go_loopw [3] (fun i wr => ∃ k : Nat, k ≤ n ∧ i = .int .i64 k ∧ Ext W wr ∧ ∀ j (hj : j < l.length), j < k → cellR n l[j] = true) (fun i _ => n - (intOf i).toNat)
  case atStart => exact ⟨0, Nat.zero_le _, rfl, Ext.refl _, fun j hj h => by omega⟩
  case round =>
    obtain ⟨k, hk, rfl, hx, hne⟩ := hrel
    have HNE := Lib.hid hne
    have HXR := Lib.hid hx
    clear hne b0 b1 b2
    obtain ⟨b0, b1, b2⟩ := (HB.out.ext hx).read2
    rcases Nat.lt_or_ge k n with hlt | hlt
    · have hkl : k < l.length := by rw [← HN.out]; exact hlt
      obtain ⟨b, off, rfl, hbl, A, c, r0, r1, r2, r3, hI⟩ := (HA.out.ext hx).cell hkl
      have hki : (k : Int) < (n : Int) := by omega
      have HF := Lib.hid (fun (h : cellR n l[k] = false) => rightH_bad (keep := keep) hkl (by rw [← HN.out]; exact h))
      have HK := Lib.hid (fun (h : cellR n l[k] = true) => (show ∀ j (hj : j < l.length), j < k + 1 → cellR n l[j] = true from fun j hj hjk => by
        rcases Nat.lt_or_ge j k with h' | h'
        · exact HNE.out j hj h'
        · obtain rfl : j = k := by omega
          exact h))
      have HC := Lib.hid (fun w' (hx : Ext wr w') => ref05cell_any (some ⟨b, off, none⟩) n q keep l[k] A l[k].it.length c w' HML.out rfl (hI.ext hx))
      clear HNE hI hx
      obtain ⟨u, hu⟩ : ∃ u, cellR n l[k] = u := ⟨_, rfl⟩
      rw [hu] at HF HK HC
      clear hu
      generalize hq : l[k] = x at *
      clear hq
      obtain ⟨rf, pn, lf, it⟩ := x
      simp only at r0 r1 r2 r3 HC
      generalize it.length = m at *
      cases u
      · have HE := Lib.hid (HF.out rfl)
        clear HF HK
        go_wp2_with fail
        go_region_law
          (first
            | ((go_simp
                go_at_call 40
                refine (HC.out _ ?_).mono ?_
                (first | exact (Ext.refl _).drew | exact Ext.refl _)
                rintro e w1 ⟨rfl, hx⟩
                have HX1 := Lib.hid (show Ext wr w1 from by first | exact (Ext.refl _).drew.trans hx | exact hx)
                clear hx)))
        all_goals
          go_wp2_with fail
          go_ret
          exact ⟨ret_bool HE.out.symm, HX.out.trans (HXR.out.trans HX1.out)⟩
      · have HE := Lib.hid (HK.out rfl)
        clear HF HK
        go_wp2_with fail
        go_region_law
          (first
            | ((go_simp
                go_at_call 40
                refine (HC.out _ ?_).mono ?_
                (first | exact (Ext.refl _).drew | exact Ext.refl _)
                rintro e w1 ⟨rfl, hx⟩
                have HX1 := Lib.hid (show Ext wr w1 from by first | exact (Ext.refl _).drew.trans hx | exact hx)
                clear hx)))
        all_goals
          go_wp2_with fail
          go_roundw
          case rel => exact ⟨k + 1, by omega, by go_num, HXR.out.trans HX1.out, HE.out⟩
          case measure => simp [intOf]; omega
    · obtain rfl : k = n := by omega
      have HE := Lib.hid (rightH_yes (l := l) (keep := keep) (by rw [← HN.out]; exact HOK.out) (fun j hj => by rw [← HN.out]; exact HNE.out j hj (by rw [HN.out]; exact hj)))
      clear hlt hx
      go_wp2_with fail
      go_ret
      exact ⟨ret_bool HE.out.symm, HX.out.trans HXR.out⟩

def mayH (h : Hp) (most : Int) : Bool := smallH h most && rightH h
end Go.Proofs.Ytlbhcakjcklmgaa
namespace Go.Proofs.Ytlbhcakjcklmgaa
open Go.RowKit
attribute [local go_sem ↓] Go.wp_at_zero Go.wp_at_succ

theorem infoHc : (Try.prog.info? 38).map (fun i => (i.zero, i.size, i.bytes)) = some (some (.agg #[.int .i64 0, .bool false, .bool false, .slice none 0 0]), 4, 48) := by kernel_rfl
/-- append of cells onto a row of the call's own. -/
theorem app_hcs (w : World) {ops : Array Oper} {rest : List Oper} {o : Oper} {a : Act} {Q : Exit → Act → World → Prop} (hgd : o.guard = none) (s x : Operand)
    (ho : o.op = .call { callee := .builtin .append, args := #[s, x], argTypes := #[22, 22] })
    (B : Nat) (v : Value) (n : Nat) (xs : List Value) (hs : a.eval s = v) (hown : w.ownsRow B 38 4 v n xs)
    (A : Option Addr) (m c : Nat) (ys : List Value) (hx : a.eval x = .slice A m c) (hl : ys.length = m * 4) (hS : Sl w A m c ys) (h1 : ∀ u ∈ ys, u.oneCell' = true)
    (hsz : n + m ≤ 100000) (hB : B ≤ w.heap.size)
    (h : ∀ A' c' w', w'.ownsRow B 38 4 (.slice A' (n + m) c') (n + m) (xs ++ ys) → w.grownBy w' v.ownBlock → wpList Try.prog ops Q rest (a.put o.dst (.slice A' (n + m) c')) w') : wpList Try.prog ops Q (o :: rest) a w :=
  wpList_app_sl w hgd s x 22 ho B 38 (.agg #[.int .i64 0, .bool false, .bool false, .slice none 0 0]) 4 48 Try.underlying22 infoHc rfl (by omega) v n xs hs hown A m c ys hx hl hS h1 (by unfold maxLen; omega) (by omega) hB h

theorem own_hc_read {w : World} {B e g n cap : Nat} {cs : List Value} {l : List HC} (h : w.ownsRow B e 4 (.slice (some ⟨g, 0, none⟩) n cap) n cs) (hn : n = l.length) {w0 : World} (ha : HcAt w0 cs l) {k : Nat} (hk : k < n) :
    ∃ a b c d, w.cell? ⟨g, k * 4, none⟩ = some a ∧ w.cell? ⟨g, k * 4 + 1, none⟩ = some b ∧ w.cell? ⟨g, k * 4 + 2, none⟩ = some c ∧ w.cell? ⟨g, k * 4 + 3, none⟩ = some d := by
  obtain ⟨A, c, e1, e2, e3, e4, _⟩ := ha.2 k (by omega)
  have hl := h.1
  exact ⟨_, _, _, _, (h.cellAt (k * 4) (by omega)).trans e1, (h.cellAt (k * 4 + 1) (by omega)).trans e2, (h.cellAt (k * 4 + 2) (by omega)).trans e3, (h.cellAt (k * 4 + 3) (by omega)).trans e4⟩
theorem holdH_at {l : List HC} {keep : Int} {k : Nat} (hk : k < l.length) (h : usedC l (k : Int) = true) : holdH ⟨l, keep⟩ (k : Int) = ⟨l.set k l[k].more, keep⟩ ∧ holdE ⟨l, keep⟩ (k : Int) = 0 := by
  unfold holdH holdE moreH setH usedH
  simp only [h, if_true, Int.toNat_natCast, List.getD_eq_getElem?_getD, List.getElem?_eq_getElem hk, Option.getD_some]
  first | exact ⟨rfl, rfl⟩ | exact ⟨rfl, trivial⟩ | trivial
theorem holdH_no {l : List HC} {keep p : Int} (h : usedC l p = false) : holdH ⟨l, keep⟩ p = ⟨l, keep⟩ ∧ holdE ⟨l, keep⟩ p = 4 := by
  unfold holdH holdE usedH
  simp only [h]
  first | exact ⟨rfl, rfl⟩ | trivial
theorem hold_len (h : Hp) (p : Int) : (holdH h p).c.length = h.c.length ∧ (holdH h p).keep = h.keep := by
  unfold holdH moreH setH; split <;> simp
end Go.Proofs.Ytlbhcakjcklmgaa
namespace Go.Proofs.Ytlbhcakjcklmgaa
open Go.RowKit
attribute [local go_sem ↓] Go.wp_at_zero Go.wp_at_succ

def sameH (a b : Hp) : Bool := decide (a = b)
theorem sameN_iff {f g : Bool} {a b : List It} : sameN f a g b = true ↔ f = g ∧ a = b := by unfold sameN sameI; simp
theorem hc_same {x y : HC} (h1 : sameN x.leaf x.it y.leaf y.it = true) (h2 : x.ref = y.ref) (h3 : x.pin = y.pin) : x = y := by
  obtain ⟨e1, e2⟩ := sameN_iff.1 h1
  cases x; cases y; simp_all
theorem hc_node {x y : HC} (h1 : sameN x.leaf x.it y.leaf y.it = false) : x ≠ y := fun e => by
  subst e; unfold sameN sameI at h1; simp at h1
end Go.Proofs.Ytlbhcakjcklmgaa
namespace Go.Proofs.Ytlbhcakjcklmgaa
open Go.RowKit
attribute [local go_sem ↓] Go.wp_at_zero Go.wp_at_succ

def newOk (n keep : Int) : Prop := (1 ≤ n ∧ n ≤ 2000) ∧ 0 ≤ keep ∧ keep ≤ n
instance (n keep : Int) : Decidable (newOk n keep) := by unfold newOk; infer_instance
def newH (n keep : Int) : Hp := if newOk n keep then ⟨List.replicate n.toNat HC.none, keep⟩ else ⟨[], 0⟩
def newHE (n keep : Int) : Int := if newOk n keep then 0 else 1
theorem hc_zeros (w : World) (n : Nat) : HcAt w (madeCells (Value.agg #[.int .i64 0, .bool false, .bool false, .slice none 0 0]).cells (n * 4)).toList (List.replicate n HC.none) := by
  have hz : (Value.agg #[.int .i64 0, .bool false, .bool false, .slice none 0 0]).cells = #[.int .i64 0, .bool false, .bool false, .slice none 0 0] := by simp [Value.cells]
  rw [hz]
  refine ⟨by simp [size_madeCells], fun i hi => ?_⟩
  simp only [List.length_replicate] at hi
  have hg : ∀ j, j < n * 4 → (madeCells #[.int .i64 0, .bool false, .bool false, .slice none 0 0] (n * 4)).toList[j]? = some ((#[.int .i64 0, .bool false, .bool false, .slice none 0 0] : Array Value)[j % 4]!) := fun j hj => by
    simp [madeCells, hj]
  refine ⟨none, 0, ?_, ?_, ?_, ?_, ?_⟩
  · rw [hg _ (by omega), show i * 4 % 4 = 0 by omega]; simp [HC.none]
  · rw [hg _ (by omega), show (i * 4 + 1) % 4 = 1 by omega]; simp [HC.none]
  · rw [hg _ (by omega), show (i * 4 + 2) % 4 = 2 by omega]; simp [HC.none]
  · rw [hg _ (by omega), show (i * 4 + 3) % 4 = 3 by omega]; simp [HC.none]
  · simp only [List.getElem_replicate]
    exact Sl.nil _
def stC (c : HC) : HC := ⟨c.ref, false, c.leaf, c.it⟩
def stK (l : List HC) (k : Nat) : List HC := (l.take k).map stC ++ l.drop k
theorem stK_len (l : List HC) (k : Nat) : (stK l k).length = l.length := by unfold stK; simp; omega
theorem stK_at {l : List HC} {k : Nat} (hk : k < l.length) : (stK l k)[k]'(by rw [stK_len]; exact hk) = l[k] := by
  unfold stK
  rw [List.getElem_append_right (by rw [List.length_map, List.length_take]; omega)]
  simp [Nat.min_eq_left (Nat.le_of_lt hk)]
theorem stK_succ {l : List HC} {k : Nat} (hk : k < l.length) : stK l (k + 1) = (stK l k).set k (stC l[k]) := by
  unfold stK
  have h : (List.map stC (l.take k)).length = k := by rw [List.length_map, List.length_take]; omega
  rw [List.take_succ_eq_append_getElem hk, List.map_append, List.set_append, if_neg (by omega), h, Nat.sub_self, List.append_assoc]
  rw [show l.drop k = l[k] :: l.drop (k + 1) from List.drop_eq_getElem_cons hk]
  rfl
theorem stK_zero (l : List HC) : stK l 0 = l := by unfold stK; simp
theorem stK_all (l : List HC) : stK l l.length = l.map stC := by unfold stK; simp
theorem stK_same {l : List HC} {k : Nat} (hk : k < l.length) (h : l[k].pin = false) : stK l (k + 1) = stK l k := by
  rw [stK_succ hk]
  have e : stC l[k] = (stK l k)[k]'(by rw [stK_len]; exact hk) := by rw [stK_at hk]; unfold stC; rw [← h]
  rw [e, List.set_getElem_self]
end Go.Proofs.Ytlbhcakjcklmgaa
namespace Go.Proofs.Ytlbhcakjcklmgaa
open Go.RowKit
attribute [local go_sem ↓] Go.wp_at_zero Go.wp_at_succ

theorem looseL_no {l : List HC} {p : Int} (f : Nat) (h : usedC l p = false) : looseL f l p = l := by
  cases f with
  | zero => rfl
  | succ f => unfold looseL; rw [h]; rfl
theorem looseL_at {l : List HC} {k : Nat} (f : Nat) (hk : k < l.length) (h : usedC l (k : Int) = true) :
    looseL (f + 1) l (k : Int) = if 1 < l[k].ref then l.set k ⟨l[k].ref - 1, false, l[k].leaf, l[k].it⟩ else if l[k].leaf then l.set k ⟨0, true, false, []⟩ else l[k].it.foldl (fun g x => looseL f g x.2) (l.set k ⟨0, true, false, []⟩) := by
  rw [looseL]
  simp only [h, if_true, Int.toNat_natCast, List.getD_eq_getElem?_getD, List.getElem?_eq_getElem hk, Option.getD_some]
theorem foldl_inv {α β : Type} {P : β → Prop} {g : β → α → β} (hg : ∀ b a, P b → P (g b a)) : ∀ (l : List α) (b : β), P b → P (l.foldl g b)
  | [], _, h => h
  | x :: l, b, h => foldl_inv hg l (g b x) (hg b x h)
theorem loose_len : ∀ (f : Nat) (l : List HC) (p : Int), (looseL f l p).length = l.length
  | 0, _, _ => rfl
  | f + 1, l, p => by
    cases h : usedC l p
    · rw [looseL_no _ h]
    · obtain ⟨k, hk, rfl, _⟩ := usedC_iff h
      rw [looseL_at f hk h]
      split
      · simp
      · split
        · simp
        · exact foldl_inv (P := fun g : List HC => g.length = l.length) (g := fun g (x : It) => looseL f g x.2) (fun b a hb => (loose_len f b a.2).trans hb) _ _ (List.length_set ..)
def Bd (l : List HC) : Prop := ∀ k (hk : k < l.length), l[k].ref ≤ 9000000000000000000
theorem Bd.set {l : List HC} (h : Bd l) (k : Nat) (x : HC) (hx : x.ref ≤ 9000000000000000000) : Bd (l.set k x) := fun j hj => by
  rw [List.length_set] at hj
  rw [List.getElem_set]
  split
  · exact hx
  · exact h j hj
theorem loose_bd : ∀ (f : Nat) (l : List HC) (p : Int), Bd l → Bd (looseL f l p)
  | 0, _, _, h => h
  | f + 1, l, p, hb => by
    cases h : usedC l p
    · rw [looseL_no _ h]; exact hb
    · obtain ⟨k, hk, rfl, _⟩ := usedC_iff h
      rw [looseL_at f hk h]
      split
      · exact hb.set _ _ (by have := hb k hk; simp only; omega)
      · split
        · exact hb.set _ _ (by simp only; omega)
        · exact foldl_inv (P := Bd) (g := fun g (x : It) => looseL f g x.2) (fun b a hb => loose_bd f b a.2 hb) _ _ (hb.set _ _ (by simp only; omega))
theorem usedN_set {l : List HC} {k : Nat} (hk : k < l.length) (x : HC) (hx : ¬ 0 < x.ref) (h : 0 < l[k].ref) : usedN (l.set k x) + 1 = usedN l := by
  unfold usedN
  have e : l = l.take k ++ l[k] :: l.drop (k + 1) := by
    conv => lhs; rw [← List.take_append_drop k l]
    rw [← List.drop_eq_getElem_cons hk]
  have e2 : l.set k x = l.take k ++ x :: l.drop (k + 1) := by rw [List.set_eq_take_append_cons_drop, if_pos hk]
  rw [e2]
  conv => rhs; rw [e]
  rw [List.countP_append, List.countP_append, List.countP_cons, List.countP_cons, decide_eq_false hx, decide_eq_true h]
  simp
  omega
theorem usedN_keep {l : List HC} {k : Nat} (hk : k < l.length) (x : HC) (h : 0 < l[k].ref) : usedN (l.set k x) ≤ usedN l := by
  unfold usedN
  have e : l = l.take k ++ l[k] :: l.drop (k + 1) := by
    conv => lhs; rw [← List.take_append_drop k l]
    rw [← List.drop_eq_getElem_cons hk]
  have e2 : l.set k x = l.take k ++ x :: l.drop (k + 1) := by rw [List.set_eq_take_append_cons_drop, if_pos hk]
  rw [e2]
  conv => rhs; rw [e]
  rw [List.countP_append, List.countP_append, List.countP_cons, List.countP_cons, decide_eq_true h]
  split <;> simp
theorem loose_used : ∀ (f : Nat) (l : List HC) (p : Int), usedN (looseL f l p) ≤ usedN l
  | 0, _, _ => Nat.le_refl _
  | f + 1, l, p => by
    cases h : usedC l p
    · rw [looseL_no _ h]; exact Nat.le_refl _
    · obtain ⟨k, hk, rfl, hp⟩ := usedC_iff h
      rw [looseL_at f hk h]
      split
      · exact usedN_keep hk _ hp
      · split
        · exact usedN_keep hk _ hp
        · exact foldl_inv (P := fun g => usedN g ≤ usedN l) (g := fun g (x : It) => looseL f g x.2) (fun b a hb => Nat.le_trans (loose_used f b a.2) hb) _ _ (usedN_keep hk _ hp)
theorem foldl_take {β : Type} (g : β → It → β) (b : β) {it : List It} {k : Nat} (hk : k < it.length) : (it.take (k + 1)).foldl g b = g ((it.take k).foldl g b) it[k] := by
  rw [List.take_succ_eq_append_getElem hk, List.foldl_append]; rfl
end Go.Proofs.Ytlbhcakjcklmgaa
namespace Go.Proofs.Ytlbhcakjcklmgaa
open Go.RowKit
attribute [local go_sem ↓] Go.wp_at_zero Go.wp_at_succ

end Go.Proofs.Ytlbhcakjcklmgaa
namespace Go.Proofs.Ytlbhcakjcklmgaa
open Go.RowKit
attribute [local go_sem ↓] Go.wp_at_zero Go.wp_at_succ

/-- Refs of the same cells, up to so many more. -/
def Up (l g : List HC) (j : Nat) : Prop := g.length = l.length ∧ ∀ k (hk : k < l.length) (hg : k < g.length), l[k].ref ≤ g[k].ref ∧ g[k].ref ≤ l[k].ref + j
theorem Up.refl (l : List HC) : Up l l 0 := ⟨rfl, fun k hk hg => by omega⟩
theorem Up.keep {l g : List HC} {j : Nat} (h : Up l g j) : Up l g (j + 1) := ⟨h.1, fun k hk hg => by have := h.2 k hk hg; omega⟩
theorem Up.more {l g : List HC} {j k : Nat} (h : Up l g j) (hk : k < g.length) : Up l (g.set k g[k].more) (j + 1) := by
  refine ⟨by rw [List.length_set]; exact h.1, fun i hi hg => ?_⟩
  rw [List.length_set] at hg
  have h1 := h.2 i hi hg
  rw [List.getElem_set]
  split
  · rename_i e; subst e; unfold HC.more; simp only; omega
  · omega
theorem first_at {l : List HC} {k : Nat} (hk : k < l.length) (h : ∀ j (hj : j < l.length), j < k → stopC l[j] = false) (h1 : stopC l[k] = true) : firstF l = k := by
  unfold firstF
  rw [List.findIdx_eq hk]
  exact ⟨h1, fun j hj => h j (by omega) hj⟩
theorem first_no {l : List HC} (h : ∀ j (hj : j < l.length), stopC l[j] = false) : firstF l = l.length := by
  unfold firstF
  rw [List.findIdx_eq_length]
  intro x hx
  obtain ⟨j, hj, rfl⟩ := List.mem_iff_getElem.1 hx
  exact h j hj
theorem alloc_bad {l : List HC} {leaf : Bool} {it : List It} {held : List Int} (h : (ndR it && leadsC l leaf it) = false) : allocE l leaf it = 1 ∧ allocP l leaf it = 0 ∧ allocL l leaf it held = l := by
  have e : allocE l leaf it = 1 := by unfold allocE; rw [h]; rfl
  exact ⟨e, by unfold allocP; rw [e]; rfl, by unfold allocL; rw [e]; rfl⟩
theorem alloc_full {l : List HC} {leaf : Bool} {it : List It} {held : List Int} (h : (ndR it && leadsC l leaf it) = true) (h2 : firstF l = l.length) : allocE l leaf it = 3 ∧ allocP l leaf it = 0 ∧ allocL l leaf it held = l := by
  have e : allocE l leaf it = 3 := by unfold allocE; rw [h, if_pos rfl, if_neg (by omega)]
  exact ⟨e, by unfold allocP; rw [e]; rfl, by unfold allocL; rw [e]; rfl⟩
theorem alloc_ok {l : List HC} {leaf : Bool} {it : List It} {held : List Int} {k : Nat} (h : (ndR it && leadsC l leaf it) = true) (hk : k < l.length) (h2 : firstF l = k) : allocE l leaf it = 0 ∧ allocP l leaf it = k ∧ allocL l leaf it held = (if leaf then l else moreL held l it).set k ⟨1, false, leaf, it⟩ := by
  have e : allocE l leaf it = 0 := by unfold allocE; rw [h, if_pos rfl, if_pos (by omega)]
  exact ⟨e, by unfold allocP; rw [e, h2]; rfl, by unfold allocL; rw [e, h2]; rfl⟩
theorem leads_used {l : List HC} {it : List It} (h : leadsC l false it = true) {j : Nat} (hj : j < it.length) : usedC l it[j].2 = true := by
  unfold leadsC at h
  simp only [Bool.false_or, List.all_eq_true] at h
  exact h _ (List.getElem_mem hj)
def moreS (held : List Int) (g : List HC) (x : It) : List HC := if inL held x.2 then g else g.set x.2.toNat (g.getD x.2.toNat HC.none).more
theorem moreL_eq (held : List Int) (l : List HC) (it : List It) : moreL held l it = it.foldl (moreS held) l := rfl

end Go.Proofs.Ytlbhcakjcklmgaa
namespace Go.Proofs.Ytlbhcakjcklmgaa
open Go.RowKit
attribute [local go_sem ↓] Go.wp_at_zero Go.wp_at_succ

end Go.Proofs.Ytlbhcakjcklmgaa
namespace Go.Proofs.Ytlbhcakjcklmgaa
open Go.RowKit

def isNum (x : Int) : Bool := decide (0 ≤ x) && decide (x ≤ 2147483647)
theorem isNum_iff (x : Int) : isNum x = true ↔ 0 ≤ x ∧ x ≤ 2147483647 := by unfold isNum; simp
theorem isNum_ok {x : It} (h1 : isNum x.1 = true) (h2 : isNum x.2 = true) : okIt x := ⟨(isNum_iff _).1 h1, (isNum_iff _).1 h2⟩
theorem isNum_no {x : It} (h : isNum x.1 = false ∨ isNum x.2 = false) : ¬ okIt x := fun e => by
  have h1 := (isNum_iff _).2 e.1
  have h2 := (isNum_iff _).2 e.2
  rw [h1, h2] at h
  simp at h
end Go.Proofs.Ytlbhcakjcklmgaa
