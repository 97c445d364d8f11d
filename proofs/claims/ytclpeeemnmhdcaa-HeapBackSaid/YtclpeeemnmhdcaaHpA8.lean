/- Walks of Free, Fits and Same of package heap, and of slices.EqualFunc and IndexFunc over cells. -/
import Derived.Test.YtclpeeemnmhdcaaHpA3
namespace Go.Proofs.Ytclpeeemnmhdcaa
open Go.RowKit
attribute [local go_sem ↓] Go.wp_at_zero Go.wp_at_succ

theorem hc_eta (x : HC) : (⟨x.ref, x.pin, x.leaf, x.it⟩ : HC) = x := rfl
set_option maxRecDepth 100000 in
set_option maxHeartbeats 1600000 in
theorem heapFree_all (R : Option Addr) (l : List HC) (n q : Nat) (keep : Int) (w : World) (hA : HcSl w R n q l) :
    Calls Try.prog 17 #[.agg #[.slice R n q, .int .i64 keep]] w fun e w' => e = .returned (.int .i64 (l.countP freeC : Nat)) ∧ Ext w w' := by
  have hn := hA.1
  have hml : n ≤ maxLen := by obtain ⟨_, cs, h, _⟩ := hA; exact h.len
  unfold maxLen at hml
  have HX := Lib.hid ((Ext.refl w).alloc (.cells #[.slice R n q, .int .i64 keep] 24))
  have hb := Bx.new w #[.slice R n q, .int .i64 keep] 24
  have HB := Lib.hid hb
  obtain ⟨b0, b1, b2⟩ := hb.read2
  have HA := Lib.hid (hA.ext HX.out)
  have HN := Lib.hid hn
  clear hA hb hn
  go_enter Try.func17, Try.ntmps17
  go_wp2_with fail
  generalize hW : World.alloc w _ = W at *
  clear hW
  go_loopw [3, 9] (fun s i wr => ∃ k m : Nat, k ≤ n ∧ m ≤ k ∧ i = .int .i64 k ∧ s = .int .i64 m ∧ (l.take k).countP freeC = m ∧ Ext W wr) (fun _ i _ => n - (intOf i).toNat)
  case atStart => exact ⟨0, 0, Nat.zero_le _, Nat.le_refl _, rfl, rfl, rfl, Ext.refl _⟩
  case round =>
    obtain ⟨k, m, hk, hmk, rfl, rfl, hm, hx⟩ := hrel
    have HM := Lib.hid hm
    have HXR := Lib.hid hx
    clear hm
    rcases Nat.lt_or_ge k n with hlt | hlt
    · have hkl : k < l.length := by rw [← HN.out]; exact hlt
      obtain ⟨b, off, rfl, hbl, A, c, r0, r1, r2, r3, _⟩ := (HA.out.ext hx).cell hkl
      have hki : (k : Int) < (n : Int) := by omega
      have HS := Lib.hid (countP_take1 l freeC k hkl)
      rw [HM.out] at HS
      have HC := Lib.hid (fun w' => hpIsFree_any l[k].ref l[k].pin l[k].leaf A l[k].it.length c l[k].it w')
      rw [hc_eta] at HC
      obtain ⟨u, hu⟩ : ∃ u, freeC l[k] = u := ⟨_, rfl⟩
      rw [hu] at HC HS
      clear hu hx
      generalize l[k] = x at *
      obtain ⟨rf, pn, lf, it⟩ := x
      simp only at r0 r1 r2 r3 HC
      generalize it.length = mm at *
      have HXA := Lib.hid (HXR.out.alloc (.cells #[.int .i64 rf, .bool pn, .bool lf, .slice A mm c] 54))
      cases u
      · have HS1 := Lib.hid (show (l.take (k + 1)).countP freeC = m by rw [HS.out]; rfl)
        clear HS
        go_wp2_with (go_at_call 39; refine (HC.out _).mono ?_; rintro e w1 ⟨rfl, hx⟩; have HX1 := Lib.hid (HXA.out.trans hx); clear hx)
        go_roundw
        case rel => exact ⟨k + 1, m, by omega, by omega, by go_num, rfl, HS1.out, HX1.out⟩
        case measure => simp [intOf]; omega
      · have HS1 := Lib.hid (show (l.take (k + 1)).countP freeC = m + 1 by rw [HS.out]; rfl)
        clear HS
        go_wp2_with (go_at_call 39; refine (HC.out _).mono ?_; rintro e w1 ⟨rfl, hx⟩; have HX1 := Lib.hid (HXA.out.trans hx); clear hx)
        go_roundw
        case rel => exact ⟨k + 1, m + 1, by omega, by omega, by go_num, by go_num, HS1.out, HX1.out⟩
        case measure => simp [intOf]; omega
    · obtain rfl : k = n := by omega
      have HE := Lib.hid (show l.countP freeC = m by rw [← HM.out, HN.out, List.take_length])
      clear hlt hx
      go_wp2_with fail
      go_ret
      exact ⟨by rw [HE.out]; rfl, HX.out.trans HXR.out⟩
theorem heapFree_any (R : Option Addr) (l : List HC) (n q : Nat) (keep : Int) (w : World) (_hM : mayH ⟨l, keep⟩ 60 = true) (hA : HcSl w R n q l) :
    Calls Try.prog 17 #[.agg #[.slice R n q, .int .i64 keep]] w fun e w' => e = .returned (.int .i64 (l.countP freeC : Nat)) ∧ Ext w w' := heapFree_all R l n q keep w hA
set_option maxRecDepth 100000 in
set_option maxHeartbeats 800000 in
theorem heapFits_any (R : Option Addr) (l : List HC) (n q : Nat) (keep : Int) (w : World) (x : Int) (deep : Bool) (hM : mayH ⟨l, keep⟩ 60 = true) (hA : HcSl w R n q l) :
    Calls Try.prog 19 #[.agg #[.slice R n q, .int .i64 keep], .int .i64 x, .bool deep] w fun e w' => e = .returned (.bool (fitsH ⟨l, keep⟩ x deep)) ∧ Ext w w' := by
  have hn := hA.1
  have hkp : 0 ≤ keep ∧ keep ≤ 2000 := by
    unfold mayH at hM
    simp only [Bool.and_eq_true] at hM
    have := (rightH_iff hM.2).1
    omega
  have hml : n ≤ maxLen := by obtain ⟨_, cs, h, _⟩ := hA; exact h.len
  unfold maxLen at hml
  have HX := Lib.hid ((Ext.refl w).alloc (.cells #[.slice R n q, .int .i64 keep] 24))
  have hb := Bx.new w #[.slice R n q, .int .i64 keep] 24
  have HB := Lib.hid hb
  obtain ⟨b0, b1, b2⟩ := hb.read2
  have HF := Lib.hid (fun w' (hx : Ext w w') => heapFree_all R l n q keep w' (hA.ext hx))
  unfold fitsH freeH
  simp only
  have hcn : l.countP freeC ≤ n := by rw [hn]; exact List.countP_le_length
  generalize l.countP freeC = m at *
  have hwr : IntKind.i64.wrap ((m : Int) - keep) = (m : Int) - keep := by rw [IntKind.wrap_i64]; omega
  clear hA hb hn hM
  cases deep
  · go_enter Try.func19, Try.ntmps19
    go_wp2_with fail
    go_region_law
      (first
        | ((go_simp
            go_at_call 17
            refine (HF.out _ ?_).mono ?_
            (first | exact HX.out.drew | exact HX.out)
            rintro e w1 ⟨rfl, hx⟩
            have HX1 := Lib.hid (show Ext w w1 from by first | exact HX.out.drew.trans hx | exact HX.out.trans hx)
            obtain ⟨c0, c1, c2⟩ := (HB.out.ext (show Ext _ w1 from by first | exact (Ext.refl _).drew.trans hx | exact hx)).read2
            clear hx)))
    all_goals
      go_wp2_with fail
      go_ret
      exact ⟨ret_bool (by simp), HX1.out⟩
  · go_enter Try.func19, Try.ntmps19
    go_wp2_with (go_at_call 17; refine (HF.out _ HX.out).mono ?_; rintro e w1 ⟨rfl, hx⟩; have HX1 := Lib.hid (HX.out.trans hx); clear hx)
    go_ret
    exact ⟨ret_bool (by simp), HX1.out⟩
/-- Same of nodes, right or not. -/
theorem nodeSame_all (f g : Bool) (A B : Option Addr) (a b : List It) (n m c c' : Nat) (w : World) (hn : n = a.length) (hm : m = b.length) (hA : Sl w A n c (ivs a)) (hB : Sl w B m c' (ivs b)) :
    Calls Try.prog 60 #[.agg #[.bool f, .slice A n c], .agg #[.bool g, .slice B m c']] w fun e w' => e = .returned (.bool (sameN f a g b)) ∧ Ext w w' := by
  obtain ⟨W, hW⟩ : ∃ W, (w.alloc (.cells #[.bool f, .slice A n c] 41)).alloc (.cells #[.bool g, .slice B m c'] 41) = W := ⟨_, rfl⟩
  obtain ⟨hx, hb0, hb1⟩ := allocs2 hW
  have HX := Lib.hid hx
  have HI := Lib.hid (equalI_any A B a b n m c c' W hn hm (hA.ext hx) (hB.ext hx))
  obtain ⟨p0, p1, p2⟩ := hb0.read2
  obtain ⟨q0, q1, q2⟩ := hb1.read2
  clear hA hB hn hm hx hb0 hb1
  unfold sameN
  cases f <;> cases g
  all_goals
    go_enter Try.func60, Try.ntmps60
    go_wp2_with ((go_at_call 69; refine HI.out.mono ?_; rintro e w1 ⟨rfl, hx⟩; have HX := Lib.hid (HX.out.trans hx); clear hx))
    go_ret
    exact ⟨ret_bool (by simp), HX.out⟩
theorem hc_eq (r s : Int) (p t f g : Bool) (a b : List It) : decide ((⟨r, p, f, a⟩ : HC) = ⟨s, t, g, b⟩) = (decide (r = s) && (decide (p = t) && sameN f a g b)) := by
  unfold sameN sameI
  rw [Bool.eq_iff_iff]
  simp
set_option maxRecDepth 100000 in
set_option maxHeartbeats 1600000 in
theorem hpSameCell_any (r s : Int) (p t f g : Bool) (a b : List It) (A B : Option Addr) (n m c c' : Nat) (w : World) (hn : n = a.length) (hm : m = b.length) (hA : Sl w A n c (ivs a)) (hB : Sl w B m c' (ivs b)) :
    Calls Try.prog 38 #[.agg #[.int .i64 r, .bool p, .bool f, .slice A n c], .agg #[.int .i64 s, .bool t, .bool g, .slice B m c']] w fun e w' => e = .returned (.bool (decide ((⟨r, p, f, a⟩ : HC) = ⟨s, t, g, b⟩))) ∧ Ext w w' := by
  obtain ⟨W, hW⟩ : ∃ W, (w.alloc (.cells #[.int .i64 r, .bool p, .bool f, .slice A n c] 54)).alloc (.cells #[.int .i64 s, .bool t, .bool g, .slice B m c'] 54) = W := ⟨_, rfl⟩
  obtain ⟨hx, hb0, hb1⟩ := allocs2 hW
  have HX := Lib.hid hx
  have HI := Lib.hid (nodeSame_all f g A B a b n m c c' W hn hm (hA.ext hx) (hB.ext hx))
  obtain ⟨p0, p1, p2, p3⟩ := hb0.read4
  obtain ⟨q0, q1, q2, q3⟩ := hb1.read4
  have p4 := hb0.lt
  have q4 := hb1.lt
  have HE := Lib.hid (hc_eq r s p t f g a b)
  generalize sameN f a g b = z at *
  rw [HE.out]
  clear hA hB hn hm hx hb0 hb1 HE
  by_cases h : r = s
  · subst h
    have e0 : (r == r) = true := by simp
    subst hW
    cases p <;> cases t
    · go_enter Try.func38, Try.ntmps38
      go_wp2_with (go_at_call 60; refine stop_here ?_)
      refine stop_on ?_
      generalize hW : World.alloc (World.alloc w _) _ = W at *
      clear hW
      refine HI.out.mono ?_
      rintro e w1 ⟨rfl, hx⟩
      have HX1 := Lib.hid (HX.out.trans hx)
      clear hx
      go_wp2_with fail
      go_ret
      exact ⟨ret_bool (by simp), HX1.out⟩
    · go_enter Try.func38, Try.ntmps38
      go_wp2_with fail
      go_ret
      exact ⟨ret_bool (by simp), HX.out⟩
    · go_enter Try.func38, Try.ntmps38
      go_wp2_with fail
      go_ret
      exact ⟨ret_bool (by simp), HX.out⟩
    · go_enter Try.func38, Try.ntmps38
      go_wp2_with (go_at_call 60; refine stop_here ?_)
      refine stop_on ?_
      generalize hW : World.alloc (World.alloc w _) _ = W at *
      clear hW
      refine HI.out.mono ?_
      rintro e w1 ⟨rfl, hx⟩
      have HX1 := Lib.hid (HX.out.trans hx)
      clear hx
      go_wp2_with fail
      go_ret
      exact ⟨ret_bool (by simp), HX1.out⟩
  · have e0 : (r == s) = false := by simpa using h
    rw [decide_eq_false h]
    subst hW
    go_enter Try.func38, Try.ntmps38
    go_wp2_with fail
    go_ret
    exact ⟨ret_bool (by simp), HX.out⟩
set_option maxRecDepth 100000 in
set_option maxHeartbeats 1600000 in
theorem hpEqual_any (R S : Option Addr) (a b : List HC) (n m q q' : Nat) (w : World) (hA : HcSl w R n q a) (hB : HcSl w S m q' b) :
    Calls Try.prog 37 #[.slice R n q, .slice S m q', .func (.func 38) #[] #[]] w fun e w' => e = .returned (.bool (decide (a = b))) ∧ Ext w w' := by
  have hn := hA.1
  have hm := hB.1
  have hml : n ≤ maxLen := by obtain ⟨_, cs, h, _⟩ := hA; exact h.len
  unfold maxLen at hml
  have HA := Lib.hid hA
  have HB := Lib.hid hB
  have HNA := Lib.hid hn
  have HNB := Lib.hid hm
  clear hA hB hn hm
  by_cases hl : n = m
  rotate_left
  · have HE := Lib.hid (show decide (a = b) = false from decide_eq_false (fun e => hl (by rw [HNA.out, HNB.out, e])))
    have e2 : ((n : Int) != (m : Int)) = true := bne_iff_ne.2 (by omega)
    clear hl
    go_enter Try.func37, Try.ntmps37
    go_wp2_with fail
    go_ret
    exact ⟨ret_bool HE.out.symm, Ext.refl _⟩
  subst hl
  have HLL := Lib.hid (show a.length = b.length by rw [← HNA.out, ← HNB.out])
  go_enter Try.func37, Try.ntmps37
  go_wp2_with fail
  go_loopw [17] (fun i wr => ∃ k : Nat, k ≤ n ∧ i = .int .i64 k ∧ Ext w wr ∧ a.take k = b.take k) (fun i _ => n - (intOf i).toNat)
  case atStart => exact ⟨0, Nat.zero_le _, rfl, Ext.refl _, rfl⟩
  case round =>
    obtain ⟨k, hk, rfl, hx, ht⟩ := hrel
    have HT := Lib.hid ht
    have HXR := Lib.hid hx
    clear ht
    rcases Nat.lt_or_ge k n with hlt | hlt
    · have hka : k < a.length := by rw [← HNA.out]; exact hlt
      have hkb : k < b.length := by rw [← HNB.out]; exact hlt
      obtain ⟨ba, oa, rfl, hba, Aa, ca, r0, r1, r2, r3, hI⟩ := (HA.out.ext hx).cell hka
      obtain ⟨bb, ob, rfl, hbb, Ab, cb, s0, s1, s2, s3, hJ⟩ := (HB.out.ext hx).cell hkb
      have hki : (k : Int) < (n : Int) := by omega
      have HF := Lib.hid (ne_at (a := a) (b := b) k hka hkb)
      have HS := Lib.hid (eq_step (a := a) (b := b) k hka hkb HT.out)
      have HCX := Lib.hid (fun w' (hx : Ext wr w') => hpSameCell_any a[k].ref b[k].ref a[k].pin b[k].pin a[k].leaf b[k].leaf a[k].it b[k].it Aa Ab a[k].it.length b[k].it.length ca cb w' rfl rfl (hI.ext hx) (hJ.ext hx))
      rw [show (⟨a[k].ref, a[k].pin, a[k].leaf, a[k].it⟩ : HC) = a[k] from rfl, show (⟨b[k].ref, b[k].pin, b[k].leaf, b[k].it⟩ : HC) = b[k] from rfl] at HCX
      clear hI hJ hx
      generalize a[k] = x at *
      generalize b[k] = y at *
      obtain ⟨u, hu⟩ : ∃ u, decide (x = y) = u := ⟨_, rfl⟩
      rw [hu] at HCX
      have HU := Lib.hid hu
      clear hu
      obtain ⟨rf, pn, lf, it⟩ := x
      obtain ⟨rf2, pn2, lf2, it2⟩ := y
      simp only at r0 r1 r2 r3 s0 s1 s2 s3 HCX
      generalize it.length = m1 at *
      generalize it2.length = m2 at *
      obtain ⟨W, hW⟩ : ∃ W, (wr.alloc (.cells #[.int .i64 rf, .bool pn, .bool lf, .slice Aa m1 ca] 54)).alloc (.cells #[.int .i64 rf2, .bool pn2, .bool lf2, .slice Ab m2 cb] 54) = W := ⟨_, rfl⟩
      have HXW := Lib.hid (allocs2 hW).1
      have HC := Lib.hid (HCX.out W HXW.out)
      have s4 : bb < (wr.alloc (.cells #[.int .i64 rf, .bool pn, .bool lf, .slice Aa m1 ca] 54)).heap.size := by simp; omega
      clear HCX
      cases u
      · have HE := Lib.hid (show decide (a = b) = false from decide_eq_false (HF.out (of_decide_eq_false HU.out)))
        subst hW
        clear HF HS HU
        go_wp2_with (go_at_call 38; refine HC.out.mono ?_; rintro e w1 ⟨rfl, hx⟩; have HX1 := Lib.hid (HXR.out.trans (HXW.out.trans hx)); clear hx)
        go_ret
        exact ⟨ret_bool HE.out.symm, HX1.out⟩
      · have HE := Lib.hid (HS.out (of_decide_eq_true HU.out))
        subst hW
        clear HF HS HU
        go_wp2_with (go_at_call 38; refine HC.out.mono ?_; rintro e w1 ⟨rfl, hx⟩; have HX1 := Lib.hid (HXR.out.trans (HXW.out.trans hx)); clear hx)
        go_roundw
        case rel => exact ⟨k + 1, by omega, by go_num, HX1.out, HE.out⟩
        case measure => simp [intOf]; omega
    · obtain rfl : k = n := by omega
      have HE := Lib.hid (show decide (a = b) = true from decide_eq_true (by
        have h := HT.out
        rwa [HNA.out, List.take_length, HLL.out, List.take_length] at h))
      clear hlt hx
      go_wp2_with fail
      go_ret
      exact ⟨ret_bool HE.out.symm, HXR.out⟩
set_option maxRecDepth 100000 in
set_option maxHeartbeats 1600000 in
theorem heapSame_all (R : Option Addr) (l : List HC) (n q : Nat) (keep : Int) (w : World) (S : Option Addr) (b : List HC) (m q' : Nat) (kb : Int) (hA : HcSl w R n q l) (hB : HcSl w S m q' b) :
    Calls Try.prog 16 #[.agg #[.slice R n q, .int .i64 keep], .agg #[.slice S m q', .int .i64 kb]] w fun e w' => e = .returned (.bool (sameH ⟨l, keep⟩ ⟨b, kb⟩)) ∧ Ext w w' := by
  obtain ⟨W, hW⟩ : ∃ W, (w.alloc (.cells #[.slice R n q, .int .i64 keep] 24)).alloc (.cells #[.slice S m q', .int .i64 kb] 24) = W := ⟨_, rfl⟩
  obtain ⟨hx, hb0, hb1⟩ := allocs2 hW
  have HX := Lib.hid hx
  have HE := Lib.hid (hpEqual_any R S l b n m q q' W (hA.ext hx) (hB.ext hx))
  obtain ⟨p0, p1, p2⟩ := hb0.read2
  obtain ⟨q0, q1, q2⟩ := hb1.read2
  clear hx hb0 hb1 hA hB
  by_cases hk : keep = kb
  · subst hk
    have e0 : (keep == keep) = true := by simp
    have HS := Lib.hid (show sameH ⟨l, keep⟩ ⟨b, keep⟩ = decide (l = b) from by unfold sameH; rw [Bool.eq_iff_iff]; simp)
    generalize decide (l = b) = z at *
    subst hW
    go_enter Try.func16, Try.ntmps16
    go_wp2_with (go_at_call 37; refine HE.out.mono ?_; rintro e w1 ⟨rfl, hx⟩; have HX1 := Lib.hid (HX.out.trans hx); clear hx)
    go_ret
    exact ⟨ret_bool HS.out.symm, HX1.out⟩
  · have HS := Lib.hid (show sameH ⟨l, keep⟩ ⟨b, kb⟩ = false from decide_eq_false (fun e => hk (congrArg Hp.keep e)))
    have e0 : (keep == kb) = false := by simpa using hk
    clear hk
    subst hW
    go_enter Try.func16, Try.ntmps16
    go_wp2_with fail
    go_ret
    exact ⟨ret_bool HS.out.symm, HX.out⟩
theorem heapSame_any (R : Option Addr) (l : List HC) (n q : Nat) (keep : Int) (w : World) (S : Option Addr) (b : List HC) (m q' : Nat) (kb : Int) (_hM : mayH ⟨l, keep⟩ 60 = true) (_hM2 : mayH ⟨b, kb⟩ 60 = true) (hA : HcSl w R n q l) (hB : HcSl w S m q' b) :
    Calls Try.prog 16 #[.agg #[.slice R n q, .int .i64 keep], .agg #[.slice S m q', .int .i64 kb]] w fun e w' => e = .returned (.bool (sameH ⟨l, keep⟩ ⟨b, kb⟩)) ∧ Ext w w' := heapSame_all R l n q keep w S b m q' kb hA hB
set_option maxRecDepth 100000 in
set_option maxHeartbeats 1600000 in
theorem hpFirst_any (R : Option Addr) (l : List HC) (n q : Nat) (w : World) (hA : HcSl w R n q l) :
    Calls Try.prog 43 #[.slice R n q, .func (.func 39) #[] #[]] w fun e w' => e = .returned (.int .i64 (idxBy freeC l)) ∧ Ext w w' := by
  have hn := hA.1
  have hml : n ≤ maxLen := by obtain ⟨_, cs, h, _⟩ := hA; exact h.len
  unfold maxLen at hml
  have HA := Lib.hid hA
  have HN := Lib.hid hn
  clear hA hn
  go_enter Try.func43, Try.ntmps43
  go_wp2_with fail
  go_loopw [8] (fun i wr => ∃ k : Nat, k ≤ n ∧ i = .int .i64 k ∧ (∀ j (hj : j < l.length), j < k → freeC l[j] = false) ∧ Ext w wr) (fun i _ => n - (intOf i).toNat)
  case atStart => exact ⟨0, Nat.zero_le _, rfl, fun _ _ h => by omega, Ext.refl _⟩
  case round =>
    obtain ⟨k, hk, rfl, hb, hx⟩ := hrel
    have HB := Lib.hid hb
    have HXR := Lib.hid hx
    clear hb
    rcases Nat.lt_or_ge k n with hlt | hlt
    · have hkl : k < l.length := by rw [← HN.out]; exact hlt
      obtain ⟨b, off, rfl, hbl, A, c, r0, r1, r2, r3, _⟩ := (HA.out.ext hx).cell hkl
      have hki : (k : Int) < (n : Int) := by omega
      have HH := Lib.hid (fun h => idx_hit (f := freeC) hkl h HB.out)
      have HNN := Lib.hid (fun (h : freeC l[k] = false) => (show ∀ j (hj : j < l.length), j < k + 1 → freeC l[j] = false from fun j hj hjk => by
        rcases Nat.lt_or_ge j k with h' | h'
        · exact HB.out j hj h'
        · obtain rfl : j = k := by omega
          exact h))
      have HC := Lib.hid (fun w' => hpIsFree_any l[k].ref l[k].pin l[k].leaf A l[k].it.length c l[k].it w')
      rw [hc_eta] at HC
      obtain ⟨u, hu⟩ : ∃ u, freeC l[k] = u := ⟨_, rfl⟩
      rw [hu] at HC HH HNN
      clear hu hx HB
      generalize l[k] = x at *
      obtain ⟨rf, pn, lf, it⟩ := x
      simp only at r0 r1 r2 r3 HC
      generalize it.length = mm at *
      cases u
      · have HE := Lib.hid (HNN.out rfl)
        clear HH HNN
        go_wp2_with (go_at_call 39; refine (HC.out _).mono ?_; rintro e w1 ⟨rfl, hx⟩; have HX1 := Lib.hid (HXR.out.trans hx); clear hx)
        go_roundw
        case rel => exact ⟨k + 1, by omega, by go_num, HE.out, HX1.out⟩
        case measure => simp [intOf]; omega
      · have HE := Lib.hid (HH.out rfl)
        clear HH HNN
        go_wp2_with (go_at_call 39; refine (HC.out _).mono ?_; rintro e w1 ⟨rfl, hx⟩; have HX1 := Lib.hid (HXR.out.trans hx); clear hx)
        go_ret
        exact ⟨ret_int HE.out.symm, HX1.out⟩
    · obtain rfl : k = n := by omega
      have HE := Lib.hid (idx_none (f := freeC) (fun j hj => HB.out j hj (by rw [HN.out]; exact hj)))
      clear hlt hx
      go_wp2_with fail
      go_ret
      exact ⟨ret_int HE.out.symm, HXR.out⟩
end Go.Proofs.Ytclpeeemnmhdcaa
