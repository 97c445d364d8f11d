/- Walks of Free, Fits and Same of package heap, and of slices.EqualFunc and IndexFunc over cells. Walks of Hold, Loose and Settle of package heap. -/
import Derived.Test.YtkoomcbiddanfaaGreatK07
import Derived.Test.YtkoomcbiddanfaaGreatK08
namespace Go.Proofs.YtkoomcbiddanfaaGreat
open Go.RowKit
attribute [local go_sem ↓] Go.wp_at_zero Go.wp_at_succ

theorem hc_eta (x : HC) : (⟨x.ref, x.pin, x.leaf, x.it⟩ : HC) = x := rfl
set_option maxRecDepth 100000 in
set_option maxHeartbeats 1600000 in
theorem heapFree_all (R : Option Addr) (l : List HC) (n q : Nat) (keep : Int) (w : World) (hA : HcSl w R n q l) :
    Calls Tryz.prog 42 #[.agg #[.slice R n q, .int .i64 keep]] w fun e w' => e = .returned (.int .i64 (l.countP freeC : Nat)) ∧ Ext w w' := by
  have hn := hA.1
  have hml : n ≤ maxLen := by obtain ⟨_, cs, h, _⟩ := hA; exact h.len
  unfold maxLen at hml
  have HX := Lib.hid ((Ext.refl w).alloc (.cells #[.slice R n q, .int .i64 keep] 24))
  have hb := Bx.new w #[.slice R n q, .int .i64 keep] 24
  have HB := Lib.hid hb
  obtain ⟨b0, b1, b2⟩ := hb.read2
  have HA := Lib.hid (hA.ext HX.out)
  have HN := Lib.hid hn
  clear hA hb hn
  go_enter Tryz.func42, Tryz.ntmps42
  go_wp2_with fail
  generalize hW : World.alloc w _ = W at *
  clear hW
  go_loopw [3, 9] (fun s i wr => ∃ k m : Nat, k ≤ n ∧ m ≤ k ∧ i = .int .i64 k ∧ s = .int .i64 m ∧ (l.take k).countP freeC = m ∧ Ext W wr) (fun _ i _ => n - (intOf i).toNat)
  case atStart => exact ⟨0, 0, Nat.zero_le _, Nat.le_refl _, rfl, rfl, rfl, Ext.refl _⟩
  case round =>
    obtain ⟨k, m, hk, hmk, rfl, rfl, hm, hx⟩ := hrel
    have HM := Lib.hid hm
    have HXR := Lib.hid hx
    clear hm
    rcases Nat.lt_or_ge k n with hlt | hlt
    · have hkl : k < l.length := by rw [← HN.out]; exact hlt
      obtain ⟨b, off, rfl, hbl, A, c, r0, r1, r2, r3, _⟩ := (HA.out.ext hx).cell hkl
      have hki : (k : Int) < (n : Int) := by omega
      have HS := Lib.hid (countP_take1 l freeC k hkl)
      rw [HM.out] at HS
      have HC := Lib.hid (fun w' => hpIsFree_any l[k].ref l[k].pin l[k].leaf A l[k].it.length c l[k].it w')
      rw [hc_eta] at HC
      obtain ⟨u, hu⟩ : ∃ u, freeC l[k] = u := ⟨_, rfl⟩
      rw [hu] at HC HS
      clear hu hx
      generalize l[k] = x at *
      obtain ⟨rf, pn, lf, it⟩ := x
      simp only at r0 r1 r2 r3 HC
      generalize it.length = mm at *
      have HXA := Lib.hid (HXR.out.alloc (.cells #[.int .i64 rf, .bool pn, .bool lf, .slice A mm c] 50))
      cases u
      · have HS1 := Lib.hid (show (l.take (k + 1)).countP freeC = m by rw [HS.out]; rfl)
        clear HS
        go_wp2_with (go_at_call 67; refine (HC.out _).mono ?_; rintro e w1 ⟨rfl, hx⟩; have HX1 := Lib.hid (HXA.out.trans hx); clear hx)
        go_roundw
        case rel => exact ⟨k + 1, m, by omega, by omega, by go_num, rfl, HS1.out, HX1.out⟩
        case measure => simp [intOf]; omega
      · have HS1 := Lib.hid (show (l.take (k + 1)).countP freeC = m + 1 by rw [HS.out]; rfl)
        clear HS
        go_wp2_with (go_at_call 67; refine (HC.out _).mono ?_; rintro e w1 ⟨rfl, hx⟩; have HX1 := Lib.hid (HXA.out.trans hx); clear hx)
        go_roundw
        case rel => exact ⟨k + 1, m + 1, by omega, by omega, by go_num, by go_num, HS1.out, HX1.out⟩
        case measure => simp [intOf]; omega
    · obtain rfl : k = n := by omega
      have HE := Lib.hid (show l.countP freeC = m by rw [← HM.out, HN.out, List.take_length])
      clear hlt hx
      go_wp2_with fail
      go_ret
      exact ⟨by rw [HE.out]; rfl, HX.out.trans HXR.out⟩
theorem heapFree_any (R : Option Addr) (l : List HC) (n q : Nat) (keep : Int) (w : World) (_hM : mayH ⟨l, keep⟩ 60 = true) (hA : HcSl w R n q l) :
    Calls Tryz.prog 42 #[.agg #[.slice R n q, .int .i64 keep]] w fun e w' => e = .returned (.int .i64 (l.countP freeC : Nat)) ∧ Ext w w' := heapFree_all R l n q keep w hA
set_option maxRecDepth 100000 in
set_option maxHeartbeats 800000 in
theorem heapFits_any (R : Option Addr) (l : List HC) (n q : Nat) (keep : Int) (w : World) (x : Int) (deep : Bool) (hM : mayH ⟨l, keep⟩ 60 = true) (hA : HcSl w R n q l) :
    Calls Tryz.prog 21 #[.agg #[.slice R n q, .int .i64 keep], .int .i64 x, .bool deep] w fun e w' => e = .returned (.bool (fitsH ⟨l, keep⟩ x deep)) ∧ Ext w w' := by
  have hn := hA.1
  have hkp : 0 ≤ keep ∧ keep ≤ 2000 := by
    unfold mayH at hM
    simp only [Bool.and_eq_true] at hM
    have := (rightH_iff hM.2).1
    omega
  have hml : n ≤ maxLen := by obtain ⟨_, cs, h, _⟩ := hA; exact h.len
  unfold maxLen at hml
  have HX := Lib.hid ((Ext.refl w).alloc (.cells #[.slice R n q, .int .i64 keep] 24))
  have hb := Bx.new w #[.slice R n q, .int .i64 keep] 24
  have HB := Lib.hid hb
  obtain ⟨b0, b1, b2⟩ := hb.read2
  have HF := Lib.hid (fun w' (hx : Ext w w') => heapFree_all R l n q keep w' (hA.ext hx))
  unfold fitsH freeH
  simp only
  have hcn : l.countP freeC ≤ n := by rw [hn]; exact List.countP_le_length
  generalize l.countP freeC = m at *
  have hwr : IntKind.i64.wrap ((m : Int) - keep) = (m : Int) - keep := by rw [IntKind.wrap_i64]; omega
  clear hA hb hn hM
  cases deep
  · go_enter Tryz.func21, Tryz.ntmps21
    go_wp2_with fail
    go_region_law
      (first
        | ((go_simp
            go_at_call 42
            refine (HF.out _ ?_).mono ?_
            (first | exact HX.out.drew | exact HX.out)
            rintro e w1 ⟨rfl, hx⟩
            have HX1 := Lib.hid (show Ext w w1 from by first | exact HX.out.drew.trans hx | exact HX.out.trans hx)
            obtain ⟨c0, c1, c2⟩ := (HB.out.ext (show Ext _ w1 from by first | exact (Ext.refl _).drew.trans hx | exact hx)).read2
            clear hx)))
    all_goals
      go_wp2_with fail
      go_ret
      exact ⟨ret_bool (by simp), HX1.out⟩
  · go_enter Tryz.func21, Tryz.ntmps21
    go_wp2_with (go_at_call 42; refine (HF.out _ HX.out).mono ?_; rintro e w1 ⟨rfl, hx⟩; have HX1 := Lib.hid (HX.out.trans hx); clear hx)
    go_ret
    exact ⟨ret_bool (by simp), HX1.out⟩
theorem hc_eq (r s : Int) (p t f g : Bool) (a b : List It) : decide ((⟨r, p, f, a⟩ : HC) = ⟨s, t, g, b⟩) = (decide (r = s) && (decide (p = t) && sameN f a g b)) := by
  unfold sameN sameI
  rw [Bool.eq_iff_iff]
  simp
set_option maxRecDepth 100000 in
set_option maxHeartbeats 1600000 in
theorem hpFirst_any (R : Option Addr) (l : List HC) (n q : Nat) (w : World) (hA : HcSl w R n q l) :
    Calls Tryz.prog 93 #[.slice R n q, .func (.func 67) #[] #[]] w fun e w' => e = .returned (.int .i64 (idxBy freeC l)) ∧ Ext w w' := by
  have hn := hA.1
  have hml : n ≤ maxLen := by obtain ⟨_, cs, h, _⟩ := hA; exact h.len
  unfold maxLen at hml
  have HA := Lib.hid hA
  have HN := Lib.hid hn
  clear hA hn
  go_enter Tryz.func93, Tryz.ntmps93
  go_wp2_with fail
  go_loopw [8] (fun i wr => ∃ k : Nat, k ≤ n ∧ i = .int .i64 k ∧ (∀ j (hj : j < l.length), j < k → freeC l[j] = false) ∧ Ext w wr) (fun i _ => n - (intOf i).toNat)
  case atStart => exact ⟨0, Nat.zero_le _, rfl, fun _ _ h => by omega, Ext.refl _⟩
  case round =>
    obtain ⟨k, hk, rfl, hb, hx⟩ := hrel
    have HB := Lib.hid hb
    have HXR := Lib.hid hx
    clear hb
    rcases Nat.lt_or_ge k n with hlt | hlt
    · have hkl : k < l.length := by rw [← HN.out]; exact hlt
      obtain ⟨b, off, rfl, hbl, A, c, r0, r1, r2, r3, _⟩ := (HA.out.ext hx).cell hkl
      have hki : (k : Int) < (n : Int) := by omega
      have HH := Lib.hid (fun h => idx_hit (f := freeC) hkl h HB.out)
      have HNN := Lib.hid (fun (h : freeC l[k] = false) => (show ∀ j (hj : j < l.length), j < k + 1 → freeC l[j] = false from fun j hj hjk => by
        rcases Nat.lt_or_ge j k with h' | h'
        · exact HB.out j hj h'
        · obtain rfl : j = k := by omega
          exact h))
      have HC := Lib.hid (fun w' => hpIsFree_any l[k].ref l[k].pin l[k].leaf A l[k].it.length c l[k].it w')
      rw [hc_eta] at HC
      obtain ⟨u, hu⟩ : ∃ u, freeC l[k] = u := ⟨_, rfl⟩
      rw [hu] at HC HH HNN
      clear hu hx HB
      generalize l[k] = x at *
      obtain ⟨rf, pn, lf, it⟩ := x
      simp only at r0 r1 r2 r3 HC
      generalize it.length = mm at *
      cases u
      · have HE := Lib.hid (HNN.out rfl)
        clear HH HNN
        go_wp2_with (go_at_call 67; refine (HC.out _).mono ?_; rintro e w1 ⟨rfl, hx⟩; have HX1 := Lib.hid (HXR.out.trans hx); clear hx)
        go_roundw
        case rel => exact ⟨k + 1, by omega, by go_num, HE.out, HX1.out⟩
        case measure => simp [intOf]; omega
      · have HE := Lib.hid (HH.out rfl)
        clear HH HNN
        go_wp2_with (go_at_call 67; refine (HC.out _).mono ?_; rintro e w1 ⟨rfl, hx⟩; have HX1 := Lib.hid (HXR.out.trans hx); clear hx)
        go_ret
        exact ⟨ret_int HE.out.symm, HX1.out⟩
    · obtain rfl : k = n := by omega
      have HE := Lib.hid (idx_none (f := freeC) (fun j hj => HB.out j hj (by rw [HN.out]; exact hj)))
      clear hlt hx
      go_wp2_with fail
      go_ret
      exact ⟨ret_int HE.out.symm, HXR.out⟩
end Go.Proofs.YtkoomcbiddanfaaGreat
namespace Go.Proofs.YtkoomcbiddanfaaGreat
open Go.RowKit
attribute [local go_sem ↓] Go.wp_at_zero Go.wp_at_succ

theorem Own.hsl {v w : World} {g n : Nat} {l : List HC} (h : Own v w g n l) (hn : n = l.length) : HcSl w (some ⟨g, 0, none⟩) n n l := by
  have h1 := h.sl
  rwa [← hn] at h1
theorem Own.ex {v w : World} {g cap : Nat} {l : List HC} (h : Own v w g cap l) : Ext v w := by obtain ⟨_, _, _, h⟩ := h; exact h
set_option maxRecDepth 100000 in
set_option maxHeartbeats 1600000 in
theorem hpLooseNo_any (R : Option Addr) (l : List HC) (n q : Nat) (keep : Int) (w : World) (p : Int) (hu : usedC l p = false) (hA : HcSl w R n q l) :
    Calls Tryz.prog 48 #[.agg #[.slice R n q, .int .i64 keep], .int .i64 p] w fun e w' => e = .returned (.tuple #[.agg #[.slice R n q, .int .i64 keep], .int .i64 4]) ∧ Ext w w' := by
  obtain ⟨W, hW⟩ : ∃ W, (w.alloc (.cells #[.slice R n q, .int .i64 keep] 24)).alloc (.cells #[.slice none 0 0, .int .i64 0] 24) = W := ⟨_, rfl⟩
  obtain ⟨hx0, hb0, hb1⟩ := allocs2 hW
  have HX := Lib.hid hx0
  have HB1 := Lib.hid hb1
  have HU := Lib.hid (hpUsedNoLoose_any R l n q keep p W hu (hA.ext hx0))
  obtain ⟨p0, p1, p2⟩ := hb0.read2
  clear hx0 hb0 hb1 hA hu
  subst hW
  go_enter Tryz.func48, Tryz.ntmps48
  go_wp2_with (go_at_call 74; refine stop_here ?_)
  refine stop_on ?_
  generalize hW : World.alloc (World.alloc w _) _ = W at *
  clear hW
  refine HU.out.mono ?_
  rintro e w4 ⟨rfl, hx⟩
  have HX4 := Lib.hid (HX.out.trans hx)
  have hb4 := HB1.out.ext hx
  have HB4 := Lib.hid hb4
  obtain ⟨t0, t1, t2⟩ := hb4.read2
  obtain ⟨y0, y1⟩ := hb4.free2
  clear hx hb4 p0 p1 p2
  go_wp2_with fail
  refine ret2_cell (k := w.heap.size + 1) (x := .slice R n q) (y := .int .i64 keep) (v := .tuple #[.agg #[.slice R n q, .int .i64 keep], .int .i64 4]) ?hb4 (fun r0 r1 => by simp [results, Tryz.results48, go_sem, r0, r1]) rfl ?hx4
  case hb4 => exact HB4.out.set2 _ _
  case hx4 => exact ⟨rfl, HX4.out.store2 (by omega) _ _⟩
set_option maxRecDepth 100000 in
set_option maxHeartbeats 1600000 in
theorem hpLooseYes_any (R : Option Addr) (l : List HC) (n q : Nat) (keep : Int) (w : World) (p : Int) (l' : List HC) (hb : n ≤ 90000) (hu : usedC l p = true) (hA : HcSl w R n q l)
    (hD : ∀ (g : Nat) (wr : World), Own w wr g n l → Calls Tryz.prog 75 #[.slice (some ⟨g, 0, none⟩) n n, .int .i64 p] wr fun e w' => e = .returned (.tuple #[]) ∧ Own w w' g n l' ∧ wr.grownBy w' (some g)) :
    Calls Tryz.prog 48 #[.agg #[.slice R n q, .int .i64 keep], .int .i64 p] w fun e w' => ∃ g, e = .returned (.tuple #[.agg #[.slice (some ⟨g, 0, none⟩) n n, .int .i64 keep], .int .i64 0]) ∧ Own w w' g n l' := by
  obtain ⟨W, hW⟩ : ∃ W, (w.alloc (.cells #[.slice R n q, .int .i64 keep] 24)).alloc (.cells #[.slice none 0 0, .int .i64 0] 24) = W := ⟨_, rfl⟩
  obtain ⟨hx0, hb0, hb1⟩ := allocs2 hW
  have hsz : W.heap.size = w.heap.size + 1 + 1 := by rw [← hW]; simp
  have HX := Lib.hid hx0
  have HB1 := Lib.hid hb1
  have HSZ := Lib.hid hsz
  have HU := Lib.hid (hpUsedYesLoose_any w R l n q keep p l' W hx0 hb hu hA hD)
  obtain ⟨p0, p1, p2⟩ := hb0.read2
  clear hx0 hb0 hb1 hA hu hD hsz
  subst hW
  go_enter Tryz.func48, Tryz.ntmps48
  go_wp2_with (go_at_call 74; refine stop_here ?_)
  refine stop_on ?_
  generalize hW : World.alloc (World.alloc w _) _ = W at *
  clear hW
  refine HU.out.mono ?_
  rintro e w4 ⟨g, rfl, hg, ho, hx⟩
  have hsz := HSZ.out
  have hb4 := HB1.out.ext hx
  have HB4 := Lib.hid hb4
  have HO := Lib.hid ((ho.other (p := ⟨w.heap.size + 1, 0, none⟩) (by simp; omega) (by simp) (.slice (some ⟨g, 0, none⟩) n n)).other (p := ⟨w.heap.size + 1, 1, none⟩) (by simp; omega) (by simp) (.int .i64 keep))
  obtain ⟨t0, t1, t2⟩ := hb4.read2
  obtain ⟨y0, y1⟩ := hb4.free2
  clear hx hb4 p0 p1 p2 ho hg hsz
  go_wp2_with fail
  refine ret2_cell (k := w.heap.size + 1) (x := .slice (some ⟨g, 0, none⟩) n n) (y := .int .i64 keep) (v := .tuple #[.agg #[.slice (some ⟨g, 0, none⟩) n n, .int .i64 keep], .int .i64 0]) ?hb4 (fun r0 r1 => by simp [results, Tryz.results48, go_sem, r0, r1]) rfl ?hx4
  case hb4 => exact HB4.out.set2 _ _
  case hx4 => exact ⟨g, rfl, HO.out⟩
theorem heapLoose_any (R : Option Addr) (l : List HC) (n q : Nat) (keep : Int) (w : World) (p : Int) (hM : rightH ⟨l, keep⟩ = true) (_hbd : Bd l) (hA : HcSl w R n q l) :
    Calls Tryz.prog 48 #[.agg #[.slice R n q, .int .i64 keep], .int .i64 p] w fun e w' => ∃ S d cs, e = .returned (.tuple #[.agg #[.slice S n d, .int .i64 keep], .int .i64 (looseE ⟨l, keep⟩ p)]) ∧ (looseE ⟨l, keep⟩ p = 0 → w'.ownsRow w.heap.size 50 4 (.slice S n d) n cs) ∧ Sl w' S n d cs ∧ HcAt w' cs (looseL (l.length + 1) l p) ∧ Ext w w' := by
  have hn := hA.1
  have hn2 := (rightH_iff hM).1.1.2
  have hul : usedN l ≤ l.length := List.countP_le_length
  cases hu : usedC l p
  · have e2 : looseE ⟨l, keep⟩ p = 4 := by unfold looseE usedH; simp only [hu]; rfl
    rw [e2, looseL_no _ hu]
    refine (hpLooseNo_any R l n q keep w p hu hA).mono ?_
    rintro e w' ⟨rfl, hx⟩
    obtain ⟨_, cs, hs, ha⟩ := hA
    exact ⟨R, q, cs, rfl, (fun h => by simp at h), hs.ext hx, ha.ext hx, hx⟩
  · obtain ⟨k, hk, rfl, hp⟩ := usedC_iff hu
    have e2 : looseE ⟨l, keep⟩ (k : Int) = 0 := by unfold looseE usedH; simp only [hu]; rfl
    rw [e2]
    refine (hpLooseYes_any R l n q keep w k (looseL (l.length + 1) l (k : Int)) (by omega) hu hA (fun g wr ho => hpLoose_at (usedN l) (l.length + 1) w wr g n l n k (Nat.le_refl _) (by omega) hn (by omega) (right_okL hM) hu ho)).mono ?_
    rintro e w' ⟨g, rfl, ho⟩
    obtain ⟨cs, h1, h2, h3⟩ := ho
    rw [loose_len, ← hn] at h1
    exact ⟨_, _, cs, rfl, fun _ => h1, own_sl h1, h2.ext h3, h3⟩

def settS (g : List HC) (p : Int) : List HC := g.set p.toNat (stC (g.getD p.toNat HC.none))
theorem wait_mem {l : List HC} {n j : Nat} (hj : j < (waitK l n).length) : ∃ k, k < n ∧ (waitK l n)[j] = (k : Int) := by
  have h := List.getElem_mem hj
  unfold waitK at h
  obtain ⟨k, hk, e⟩ := List.mem_map.1 h
  have h2 := (List.mem_filter.1 hk).1
  exact ⟨k, List.mem_range.1 h2, e.symm⟩
theorem wait_fold (l : List HC) : ∀ k, k ≤ l.length → (waitK l k).foldl settS l = stK l k
  | 0, _ => by rw [stK_zero]; rfl
  | k + 1, h => by
    rw [waitK_succ (by omega), List.foldl_append, wait_fold l k (by omega)]
    cases hp : l[k].pin
    · rw [stK_same (by omega) hp]; rfl
    · simp only [if_true, List.foldl_cons, List.foldl_nil]
      unfold settS
      rw [Int.toNat_natCast, List.getD_eq_getElem?_getD, List.getElem?_eq_getElem (by rw [stK_len]; omega), Option.getD_some, stK_at (by omega), stK_succ (by omega)]
theorem sett_len (ps : List Int) (l : List HC) : (ps.foldl settS l).length = l.length :=
  foldl_inv (P := fun g : List HC => g.length = l.length) (g := settS) (fun b a hb => by unfold settS; rw [List.length_set]; exact hb) _ _ rfl
end Go.Proofs.YtkoomcbiddanfaaGreat
