/- The walks of areRoots, areIds and isTold of package book. The walk of isTold of package book. -/
import Derived.Test.YtjbfopnkeclfgaaGreatK27
import Derived.Test.YtjbfopnkeclfgaaGreatK26
import Derived.Test.YtjbfopnkeclfgaaGreatK28
namespace Go.Proofs.YtjbfopnkeclfgaaGreat
set_option maxRecDepth 20000
open Go.RowKit
attribute [local go_sem ↓] Go.wp_at_zero Go.wp_at_succ

theorem bk_num {w : World} {A : Option Addr} {l : List Int} (h : Cells w A (l.map iv)) {k : Nat} (hk : k < l.length) :
    ∃ b off, A = some ⟨b, off, none⟩ ∧ b < w.heap.size ∧ ∀ j (hj : j < l.length), w.cell? ⟨b, off + j, none⟩ = some (.int .i64 l[j]) := by
  obtain ⟨b, off, rfl, hlt, hc⟩ := h (by intro e; rw [List.map_eq_nil_iff] at e; subst e; simp at hk)
  exact ⟨b, off, rfl, hlt, fun j hj => hc j _ (by simp [iv, hj])⟩
set_option maxRecDepth 100000 in
set_option maxHeartbeats 1600000 in
theorem bkIdxRoot_any (f : Int → Bool) (kb : Nat) (S : Option Addr) (l : List Int) (t d : Nat) (w : World) (ht : t = l.length) (hS : Sl w S t d (l.map iv))
    (hF : ∀ p, Calls Tryz.prog 154 #[.int .i64 p, .pointer (some ⟨kb, 0, none⟩)] w fun e w' => e = .returned (.bool (f p)) ∧ w = w') :
    Calls Tryz.prog 126 #[.slice S t d, .func (.func 154) #[] #[.pointer (some ⟨kb, 0, none⟩)]] w fun e w' => e = .returned (.int .i64 (idxBy f l)) ∧ w = w' := by
  have hl := hS.len
  unfold maxLen at hl
  have HT := Lib.hid ht
  have HS := Lib.hid hS.cells
  have HF := Lib.hid hF
  clear ht hS hF
  go_enter Tryz.func126, Tryz.ntmps126
  go_wp2_with fail
  go_loopw [8] (fun i wr => ∃ k : Nat, k ≤ t ∧ i = .int .i64 k ∧ (∀ j (hj : j < l.length), j < k → f l[j] = false) ∧ w = wr) (fun i _ => t - (intOf i).toNat)
  case atStart => exact ⟨0, Nat.zero_le _, rfl, fun _ _ h => by omega, rfl⟩
  case round =>
    obtain ⟨k, hk, rfl, hb, rfl⟩ := hrel
    have HB := Lib.hid hb
    clear hb
    rcases Nat.lt_or_ge k t with hlt | hlt
    · have hkl : k < l.length := by rw [← HT.out]; exact hlt
      obtain ⟨b, off, rfl, hbl, hc⟩ := bk_num HS.out hkl
      have hck := hc k hkl
      have hki : (k : Int) < (t : Int) := by omega
      have HH := Lib.hid (fun h => idx_hit (f := f) hkl h HB.out)
      have HN := Lib.hid (fun (h : f l[k] = false) => (show ∀ j (hj : j < l.length), j < k + 1 → f l[j] = false from fun j hj hjk => by
        rcases Nat.lt_or_ge j k with h' | h'
        · exact HB.out j hj h'
        · obtain rfl : j = k := by omega
          exact h))
      have HC := Lib.hid (HF.out l[k])
      clear hc HB
      generalize l[k] = y at *
      generalize f y = fy at *
      cases fy
      · have HE := Lib.hid (HN.out rfl)
        clear HH HN
        go_wp2_with (go_at_call 154; refine HC.out.mono ?_; rintro e w1 ⟨rfl, rfl⟩)
        go_roundw
        case rel => exact ⟨k + 1, by omega, by go_num, HE.out, by first | rfl | trivial⟩
        case measure => simp [intOf]; omega
      · have HE := Lib.hid (HH.out rfl)
        clear HH HN
        go_wp2_with (go_at_call 154; refine HC.out.mono ?_; rintro e w1 ⟨rfl, rfl⟩)
        go_ret
        exact ⟨ret_int HE.out.symm, rfl⟩
    · obtain rfl : k = t := by omega
      have HE := Lib.hid (idx_none (f := f) (fun j hj => HB.out j hj (by rw [HT.out]; exact hj)))
      clear hlt
      go_wp2_with fail
      go_ret
      exact ⟨ret_int HE.out.symm, rfl⟩
set_option maxHeartbeats 800000 in
theorem bkHasRoot_any (f : Int → Bool) (kb : Nat) (S : Option Addr) (l : List Int) (t d : Nat) (w : World) (ht : t = l.length) (hS : Sl w S t d (l.map iv))
    (hF : ∀ p, Calls Tryz.prog 154 #[.int .i64 p, .pointer (some ⟨kb, 0, none⟩)] w fun e w' => e = .returned (.bool (f p)) ∧ w = w') :
    Calls Tryz.prog 81 #[.slice S t d, .func (.func 154) #[] #[.pointer (some ⟨kb, 0, none⟩)]] w fun e w' => e = .returned (.bool (l.any f)) ∧ w = w' := by
  have HI := Lib.hid (bkIdxRoot_any f kb S l t d w ht hS hF)
  rw [← idx_any f l]
  generalize idxBy f l = z at *
  clear ht hS hF
  go_enter Tryz.func81, Tryz.ntmps81
  go_wp2_with (go_at_call 126; refine HI.out.mono ?_; rintro e w1 ⟨rfl, rfl⟩)
  go_ret
  exact ⟨by first | rfl | simp, rfl⟩
set_option maxHeartbeats 800000 in
theorem bkRoots_any (c : List HC) (R S : Option Addr) (l : List Int) (n q t d : Nat) (w : World) (hA : HcSl w R n q c) (hn : n ≤ 1000000) (ht : t = l.length) (hS : Sl w S t d (l.map iv)) :
    Calls Tryz.prog 142 #[.slice S t d, .slice R n q] w fun e w' => e = .returned (.bool (!l.any (rootBad c))) ∧ Ext w w' := by
  obtain ⟨W, hW⟩ : ∃ W, w.alloc (.cells #[.slice R n q] 28) = W := ⟨_, rfl⟩
  have HX := Lib.hid (show Ext w W from hW ▸ Ext.alloc (Ext.refl _) _)
  have hb : W.cell? ⟨w.heap.size, 0, none⟩ = some (.slice R n q) := by subst hW; exact Cells.at_ (sl_lit w 28 1 [.slice R n q] (by unfold maxLen; omega)).cells _ rfl 0 _ rfl
  have HC := Lib.hid (bkHasRoot_any (rootBad c) w.heap.size S l t d W ht (hS.ext HX.out) (fun p => bkRootF_any c p R n q w.heap.size W (hA.ext HX.out) hn hb))
  generalize l.any (rootBad c) = r at *
  clear hS ht hA hb
  subst hW
  go_enter Tryz.func142, Tryz.ntmps142
  go_wp2_with (go_at_call 81; refine HC.out.mono ?_; rintro e w1 ⟨rfl, rfl⟩)
  go_ret
  exact ⟨rfl, HX.out⟩
/-- Do volumes' numbers rise, from one on, all below next? -/
def idsR (next : Int) : List It → Int → Bool
  | [], _ => true
  | v :: vs, least => fromP least v.1 (next - 1) && idsR next vs (v.1 + 1)
def idsP (vs : List It) (next : Int) : Bool := idsR next vs 1 && decide (vs.length ≤ 20)
set_option maxRecDepth 100000 in
set_option maxHeartbeats 1600000 in
theorem bkIds_any (V : Option Addr) (vs : List It) (m cv : Nat) (next : Int) (w : World) (hm : m = vs.length) (hm2 : m ≤ 1000) (h1 : 1 ≤ next) (h2 : next ≤ 4294967296) (hV : Sl w V m cv (ivs vs)) :
    Calls Tryz.prog 141 #[.slice V m cv, .int .i64 next] w fun e w' => e = .returned (.bool (idsP vs next)) ∧ Ext w w' := by
  have HV := Lib.hid hV
  have HM := Lib.hid hm
  have HF := Lib.hid (fun a b w' => bkFrom_any a b (next - 1) w')
  have hwr : IntKind.i64.wrap (next - 1) = next - 1 := by simp only [IntKind.wrap_i64]; omega
  obtain ⟨res, hres⟩ : ∃ r, idsP vs next = r := ⟨_, rfl⟩
  have HP := Lib.hid (show (idsR next vs 1 && decide (m ≤ 20)) = res from by rw [← hres, hm]; rfl)
  rw [hres]
  clear hV hm hres
  go_enter Tryz.func141, Tryz.ntmps141
  go_wp2_with fail
  go_loopw [5, 10] (fun z i wr => ∃ (k : Nat) (x : Int), k ≤ m ∧ i = .int .i64 k ∧ z = .int .i64 x ∧ 1 ≤ x ∧ x ≤ 4294967296 ∧ idsR next vs 1 = idsR next (vs.drop k) x ∧ Ext w wr) (fun _ i _ => m - (intOf i).toNat)
  case atStart => exact ⟨0, 1, Nat.zero_le _, rfl, rfl, by omega, by omega, rfl, Ext.refl _⟩
  case round =>
    obtain ⟨k, x, hk, rfl, rfl, hx1, hx2, hid, hx⟩ := hrel
    have HX := Lib.hid hx
    have HID := Lib.hid hid
    clear hx hid
    rcases Nat.lt_or_ge k m with hlt | hge
    · have hkl : k < vs.length := by rw [← HM.out]; exact hlt
      obtain ⟨b, off, rfl, _, hc⟩ := (HV.out.ext HX.out).cells.it hkl
      obtain ⟨a0, a1⟩ := hc k hkl
      have hki : (k : Int) < (m : Int) := by omega
      have HD := Lib.hid (show vs.drop k = vs[k] :: vs.drop (k + 1) from (List.getElem_cons_drop ..).symm)
      clear hc
      generalize vs[k] = y at *
      obtain ⟨y1, y2⟩ := y
      simp only at a0 a1
      have HB := Lib.hid (Bx.new wr #[.int .i64 y1, .int .i64 y2] 103)
      have HXA := Lib.hid (HX.out.alloc (.cells #[.int .i64 y1, .int .i64 y2] 103))
      have HG := Lib.hid (HF.out x y1)
      have HS := Lib.hid (show idsR next vs 1 = (fromP x y1 (next - 1) && idsR next (vs.drop (k + 1)) (y1 + 1)) from by rw [HID.out, HD.out]; rfl)
      obtain ⟨g0, g1, g2⟩ := HB.out.read2
      cases hf : fromP x y1 (next - 1) with
      | false =>
        rw [hf] at HG HS
        have HE := Lib.hid (show res = false from by rw [← HP.out, HS.out]; rfl)
        clear hf HS HID HD
        go_wp2_with (go_at_call 139; with_reducible refine (HG.out _).mono ?_; rintro e w' ⟨rfl, rfl⟩)
        go_ret
        exact ⟨by rw [HE.out]; rfl, HXA.out⟩
      | true =>
        rw [hf] at HG HS
        have hle : x ≤ y1 ∧ y1 ≤ next - 1 := by
          unfold fromP at hf
          simpa only [Bool.and_eq_true, decide_eq_true_eq] using hf
        have hw2 : IntKind.i64.wrap (y1 + 1) = y1 + 1 := by simp only [IntKind.wrap_i64]; omega
        clear hf HID HD
        go_wp2_with (go_at_call 139; with_reducible refine (HG.out _).mono ?_; rintro e w' ⟨rfl, rfl⟩)
        go_roundw
        case rel => exact ⟨k + 1, y1 + 1, by omega, by go_num, rfl, by omega, by omega, by rw [HS.out]; rfl, HXA.out⟩
        case measure => simp [intOf]; omega
    · obtain rfl : m = k := by omega
      have HE := Lib.hid (show res = decide (m ≤ 20) from by
        rw [← HP.out, HID.out, HM.out, List.drop_length]; rfl)
      clear hge HID
      go_wp2
      go_ret
      exact ⟨by rw [HE.out]; first | rfl | (congr 1; congr 1; simp; omega), HX.out⟩
end Go.Proofs.YtjbfopnkeclfgaaGreat
namespace Go.Proofs.YtjbfopnkeclfgaaGreat
set_option maxRecDepth 20000
open Go.RowKit
attribute [local go_sem ↓] Go.wp_at_zero Go.wp_at_succ

/-- P13.1: is it such as a book tells, but for its nodes? -/
def toldP (c : List HC) (keep : Int) (vs : List It) (ts : List (Nat × Nat)) (next gen : Int) : Bool :=
  fromP 1 next 2147483647 && fromP 0 gen 2147483647 && fromP 1 c.length 2000 && fromP 0 keep c.length && (!c.any refBad && idsP vs next && !(vs.map (·.2)).any (rootBad c) && rightP ts c.length)
set_option maxRecDepth 100000 in
set_option maxHeartbeats 3200000 in
theorem bkTold_any (c : List HC) (keep : Int) (vs : List It) (ts : List (Nat × Nat)) (next gen : Int) (R V L : Option Addr) (n q m cv t cl : Nat) (w : World) (hn : n ≤ 100000) (hrf : c.any refBad = false) (hm : m = vs.length) (hm2 : m ≤ 1000) (ht : t = ts.length) (hts : ∀ x ∈ ts, x.1 < 65536 ∧ x.2 < 65536) (hA : HcSl w R n q c) (hV : Sl w V m cv (ivs vs)) (hL : Sl w L t cl ((ts.map tkB2).map cxv)) :
    Calls Tryz.prog 118 #[.agg #[.slice R n q, .int .i64 keep, .slice V m cv, .slice L t cl, .int .i64 next, .int .i64 gen]] w fun e w' => e = .returned (.bool (toldP c keep vs ts next gen)) ∧ Ext w w' := by
  have hb := Bx.new w #[.slice R n q, .int .i64 keep, .slice V m cv, .slice L t cl, .int .i64 next, .int .i64 gen] 34
  have hx := (Ext.refl w).alloc (.cells #[.slice R n q, .int .i64 keep, .slice V m cv, .slice L t cl, .int .i64 next, .int .i64 gen] 34)
  have F1 := Lib.hid (fun w' => bkFrom_any 1 next 2147483647 w')
  have F2 := Lib.hid (fun w' => bkFrom_any 0 gen 2147483647 w')
  have F3 := Lib.hid (fun w' => bkFrom_any 1 n 2000 w')
  have F4 := Lib.hid (fun w' => bkFrom_any 0 keep n w')
  have G1 := Lib.hid (fun w' (hy : Ext w w') => bkRefs_any R c n q w' (hA.ext hy) (by omega))
  have G2 := Lib.hid (fun w' (hy : Ext w w') (h1 : 1 ≤ next) (h2 : next ≤ 4294967296) => bkIds_any V vs m cv next w' hm hm2 h1 h2 (hV.ext hy))
  have G3 := Lib.hid (fun w' (hy : Ext w w') => stateRoots_any R V L vs n q m cv t cl keep next gen w' hm hm2 (hV.ext hy))
  have G4 := Lib.hid (fun S d w' (hy : Ext w w') (hS : Sl w' S m d ((vs.map (·.2)).map iv)) => bkRoots_any c R S (vs.map (·.2)) n q m d w' (hA.ext hy) (by omega) (by rw [List.length_map]; exact hm) hS)
  have G5 := Lib.hid (fun w' (hy : Ext w w') => tdRight_any L ts t cl n w' ht hts (hL.ext hy))
  have HU : toldP c keep vs ts next gen = (fromP 1 next 2147483647 && fromP 0 gen 2147483647 && fromP 1 n 2000 && fromP 0 keep n && (!c.any refBad && idsP vs next && !(vs.map (·.2)).any (rootBad c) && rightP ts n)) := by unfold toldP; rw [← hA.1]
  rw [HU, hrf]
  rw [hrf, Bool.not_false] at G1
  clear hrf
  have HB := Lib.hid hb
  have HX := Lib.hid hx
  obtain ⟨s0, s1, s2, s3, s4, s5⟩ := st_at6 hb
  clear HU hb hx hA hV hL hm hm2 ht hts hn
  have hnx : fromP 1 next 2147483647 = true → 1 ≤ next ∧ next ≤ 4294967296 := fun h => by
    unfold fromP at h
    simp only [Bool.and_eq_true, decide_eq_true_eq] at h
    omega
  have HNX := Lib.hid hnx
  clear hnx
  generalize fromP 1 next 2147483647 = b1 at *
  generalize fromP 0 gen 2147483647 = b2 at *
  generalize fromP 1 n 2000 = b3 at *
  generalize fromP 0 keep n = b4 at *
  cases b1
  · go_enter Tryz.func118, Tryz.ntmps118
    go_wp2_with (go_at_call 139; (first | (with_reducible refine (F1.out _).mono ?_) | (with_reducible refine (F2.out _).mono ?_) | (with_reducible refine (F3.out _).mono ?_) | (with_reducible refine (F4.out _).mono ?_)); rintro e w' ⟨rfl, rfl⟩)
    go_ret
    exact ⟨rfl, HX.out⟩
  cases b2
  · go_enter Tryz.func118, Tryz.ntmps118
    go_wp2_with (go_at_call 139; (first | (with_reducible refine (F1.out _).mono ?_) | (with_reducible refine (F2.out _).mono ?_) | (with_reducible refine (F3.out _).mono ?_) | (with_reducible refine (F4.out _).mono ?_)); rintro e w' ⟨rfl, rfl⟩)
    go_ret
    exact ⟨rfl, HX.out⟩
  cases b3
  · go_enter Tryz.func118, Tryz.ntmps118
    go_wp2_with (go_at_call 139; (first | (with_reducible refine (F1.out _).mono ?_) | (with_reducible refine (F2.out _).mono ?_) | (with_reducible refine (F3.out _).mono ?_) | (with_reducible refine (F4.out _).mono ?_)); rintro e w' ⟨rfl, rfl⟩)
    go_ret
    exact ⟨rfl, HX.out⟩
  cases b4
  · go_enter Tryz.func118, Tryz.ntmps118
    go_wp2_with (go_at_call 139; (first | (with_reducible refine (F1.out _).mono ?_) | (with_reducible refine (F2.out _).mono ?_) | (with_reducible refine (F3.out _).mono ?_) | (with_reducible refine (F4.out _).mono ?_)); rintro e w' ⟨rfl, rfl⟩)
    go_ret
    exact ⟨rfl, HX.out⟩
  obtain ⟨hn1, hn2⟩ := HNX.out rfl
  have HG2 := Lib.hid (fun w' hy => G2.out w' hy hn1 hn2)
  have HK := Lib.hid (fun w' (hy : Ext (w.alloc (.cells #[.slice R n q, .int .i64 keep, .slice V m cv, .slice L t cl, .int .i64 next, .int .i64 gen] 34)) w') => st_at6 (HB.out.ext hy))
  generalize idsP vs next = r2 at *
  generalize (!(vs.map (·.2)).any (rootBad c)) = r3 at *
  generalize rightP ts n = r4 at *
  clear HNX hn1 hn2 G2
  generalize hW : w.alloc _ = W0 at HB HX s0 s1 s2 s3 s4 s5 HK
  cases r2
  · go_enter Tryz.func118, Tryz.ntmps118
    go_wp2_with (go_at_call 139; (first | (with_reducible refine (F1.out _).mono ?_) | (with_reducible refine (F2.out _).mono ?_) | (with_reducible refine (F3.out _).mono ?_) | (with_reducible refine (F4.out _).mono ?_)); rintro e w' ⟨rfl, rfl⟩)
    refine wp_region_held_drew (S := (fun w' => w'.cell? ⟨w.heap.size, 0, none⟩ = some (.slice R n q) ∧ w'.cell? ⟨w.heap.size, 1, none⟩ = some (.int .i64 keep) ∧ w'.cell? ⟨w.heap.size, 2, none⟩ = some (.slice V m cv) ∧ w'.cell? ⟨w.heap.size, 3, none⟩ = some (.slice L t cl) ∧ w'.cell? ⟨w.heap.size, 4, none⟩ = some (.int .i64 next) ∧ w'.cell? ⟨w.heap.size, 5, none⟩ = some (.int .i64 gen))) (by kernel_rfl) (HK.out _ (Ext.refl W0).drew) (fun hHeld => ?_)
    refine take_yes (i := 0) (v := ?_) (some 31) rfl rfl (by kernel_rfl) (by kernel_rfl) (by kernel_rfl) (fun _ _ _ h => h) (by rfl) (by assumption) ?_ ?_
    rotate_left 1
    · intro w hSw; (try dsimp only at hSw); go_simp; try (with_reducible rfl)
    (try simp only [Act.put, List.setIfInBounds_toArray, List.set_cons_zero, List.set_cons_succ])
    refine take_yes (i := 1) (v := ?_) (some 32) rfl rfl (by kernel_rfl) (by kernel_rfl) (by kernel_rfl) (fun _ _ _ h => h) (by rfl) (by assumption) ?_ ?_
    rotate_left 1
    · intro w hSw; (try dsimp only at hSw); go_simp; try (with_reducible rfl)
    (try simp only [Act.put, List.setIfInBounds_toArray, List.set_cons_zero, List.set_cons_succ])
    refine take_yes (i := 2) (v := ?_) (some 33) rfl rfl (by kernel_rfl) (by kernel_rfl) (by kernel_rfl) (fun _ _ _ h => h) (by rfl) (by assumption) ?_ ?_
    rotate_left 1
    · intro w hSw; (try dsimp only at hSw); go_simp; try (with_reducible rfl)
    (try simp only [Act.put, List.setIfInBounds_toArray, List.set_cons_zero, List.set_cons_succ])
    refine take_run (i := 3) rfl (by kernel_rfl) (by rfl) (fun K hK => ?_)
    simp only [List.getElem_toArray, List.getElem_cons_succ, List.getElem_cons_zero]
    go_simp
    go_at_call 140
    refine (G1.out _ HX.out.drew).mono ?_
    rintro e w1 ⟨rfl, hx⟩
    have X1 := Lib.hid ((Ext.refl W0).drew.trans hx)
    clear hx
    refine hK.out _ _ (HK.out _ X1.out) (fun hHeld => ?_)
    clear hK K
    (try simp only [Act.put, List.setIfInBounds_toArray, List.set_cons_zero, List.set_cons_succ])
    refine take_yes (i := 4) (v := ?_) (some 35) rfl rfl (by kernel_rfl) (by kernel_rfl) (by kernel_rfl) (fun _ _ _ h => h) (by rfl) (by assumption) ?_ ?_
    rotate_left 1
    · intro w hSw; (try dsimp only at hSw); go_simp; try (with_reducible rfl)
    (try simp only [Act.put, List.setIfInBounds_toArray, List.set_cons_zero, List.set_cons_succ])
    refine take_yes (i := 5) (v := ?_) (some 36) rfl rfl (by kernel_rfl) (by kernel_rfl) (by kernel_rfl) (fun _ _ _ h => h) (by rfl) (by assumption) ?_ ?_
    rotate_left 1
    · intro w hSw; (try dsimp only at hSw); go_simp; try (with_reducible rfl)
    (try simp only [Act.put, List.setIfInBounds_toArray, List.set_cons_zero, List.set_cons_succ])
    refine take_yes (i := 6) (v := ?_) (some 37) rfl rfl (by kernel_rfl) (by kernel_rfl) (by kernel_rfl) (fun _ _ _ h => h) (by rfl) (by assumption) ?_ ?_
    rotate_left 1
    · intro w hSw; (try dsimp only at hSw); go_simp; try (with_reducible rfl)
    (try simp only [Act.put, List.setIfInBounds_toArray, List.set_cons_zero, List.set_cons_succ])
    refine take_yes (i := 7) (v := ?_) (some 38) rfl rfl (by kernel_rfl) (by kernel_rfl) (by kernel_rfl) (fun _ _ _ h => h) (by rfl) (by assumption) ?_ ?_
    rotate_left 1
    · intro w hSw; (try dsimp only at hSw); go_simp; try (with_reducible rfl)
    (try simp only [Act.put, List.setIfInBounds_toArray, List.set_cons_zero, List.set_cons_succ])
    refine take_yes (i := 8) (v := ?_) (some 39) rfl rfl (by kernel_rfl) (by kernel_rfl) (by kernel_rfl) (fun _ _ _ h => h) (by rfl) (by assumption) ?_ ?_
    rotate_left 1
    · intro w hSw; (try dsimp only at hSw); go_simp; try (with_reducible rfl)
    (try simp only [Act.put, List.setIfInBounds_toArray, List.set_cons_zero, List.set_cons_succ])
    refine take_run (i := 9) rfl (by kernel_rfl) (by rfl) (fun K hK => ?_)
    simp only [List.getElem_toArray, List.getElem_cons_succ, List.getElem_cons_zero]
    go_simp
    go_at_call 141
    refine (HG2.out _ (HX.out.trans X1.out)).mono ?_
    rintro e w2 ⟨rfl, hx⟩
    have X2 := Lib.hid (X1.out.trans hx)
    clear hx
    refine hK.out _ _ (HK.out _ X2.out) (fun hHeld => ?_)
    clear hK K
    (try simp only [Act.put, List.setIfInBounds_toArray, List.set_cons_zero, List.set_cons_succ])
    refine take_yes (i := 10) (v := ?_) (some 41) rfl rfl (by kernel_rfl) (by kernel_rfl) (by kernel_rfl) (fun _ _ _ h => h) (by rfl) (by assumption) ?_ ?_
    rotate_left 1
    · intro w hSw; (try dsimp only at hSw); go_simp; try (with_reducible rfl)
    (try simp only [Act.put, List.setIfInBounds_toArray, List.set_cons_zero, List.set_cons_succ])
    refine take_yes (i := 11) (v := ?_) (some 42) rfl rfl (by kernel_rfl) (by kernel_rfl) (by kernel_rfl) (fun _ _ _ h => h) (by rfl) (by assumption) ?_ ?_
    rotate_left 1
    · intro w hSw; (try dsimp only at hSw); go_simp; try (with_reducible rfl)
    (try simp only [Act.put, List.setIfInBounds_toArray, List.set_cons_zero, List.set_cons_succ])
    refine take_no (i := 12) (some 43) rfl rfl (by kernel_rfl) (by kernel_rfl) (by kernel_rfl) (fun _ _ _ h => h) (by rfl) (by assumption) ?_
    (try simp only [Act.put, List.setIfInBounds_toArray, List.set_cons_zero, List.set_cons_succ])
    refine take_no (i := 13) (some 44) rfl rfl (by kernel_rfl) (by kernel_rfl) (by kernel_rfl) (fun _ _ _ h => h) (by rfl) (by assumption) ?_
    (try simp only [Act.put, List.setIfInBounds_toArray, List.set_cons_zero, List.set_cons_succ])
    refine take_no (i := 14) (some 45) rfl rfl (by kernel_rfl) (by kernel_rfl) (by kernel_rfl) (fun _ _ _ h => h) (by rfl) (by assumption) ?_
    (try simp only [Act.put, List.setIfInBounds_toArray, List.set_cons_zero, List.set_cons_succ])
    refine take_no (i := 15) (some 46) rfl rfl (by kernel_rfl) (by kernel_rfl) (by kernel_rfl) (fun _ _ _ h => h) (by rfl) (by assumption) ?_
    (try simp only [Act.put, List.setIfInBounds_toArray, List.set_cons_zero, List.set_cons_succ])
    refine take_no (i := 16) (some 47) rfl rfl (by kernel_rfl) (by kernel_rfl) (by kernel_rfl) (fun _ _ _ h => h) (by rfl) (by assumption) ?_
    (try simp only [Act.put, List.setIfInBounds_toArray, List.set_cons_zero, List.set_cons_succ])
    refine take_no (i := 17) (some 48) rfl rfl (by kernel_rfl) (by kernel_rfl) (by kernel_rfl) (fun _ _ _ h => h) (by rfl) (by assumption) ?_
    (try simp only [Act.put, List.setIfInBounds_toArray, List.set_cons_zero, List.set_cons_succ])
    refine take_yes (i := 18) (v := ?_) (some 49) rfl rfl (by kernel_rfl) (by kernel_rfl) (by kernel_rfl) (fun _ _ _ h => h) (by rfl) (by assumption) ?_ ?_
    rotate_left 1
    · intro w hSw; (try dsimp only at hSw); go_simp; try (with_reducible rfl)
    (try simp only [Act.put, List.setIfInBounds_toArray, List.set_cons_zero, List.set_cons_succ])
    refine take_yes (i := 19) (v := ?_) (some 50) rfl rfl (by kernel_rfl) (by kernel_rfl) (by kernel_rfl) (fun _ _ _ h => h) (by rfl) (by assumption) ?_ ?_
    rotate_left 1
    · intro w hSw; (try dsimp only at hSw); go_simp; try (with_reducible rfl)
    (try simp only [Act.put, List.setIfInBounds_toArray, List.set_cons_zero, List.set_cons_succ])
    refine take_no (i := 20) (some 51) rfl rfl (by kernel_rfl) (by kernel_rfl) (by kernel_rfl) (fun _ _ _ h => h) (by rfl) (by assumption) ?_
    (try simp only [Act.put, List.setIfInBounds_toArray, List.set_cons_zero, List.set_cons_succ])
    refine take_no (i := 21) (some 52) rfl rfl (by kernel_rfl) (by kernel_rfl) (by kernel_rfl) (fun _ _ _ h => h) (by rfl) (by assumption) ?_
    (try simp only [Act.put, List.setIfInBounds_toArray, List.set_cons_zero, List.set_cons_succ])
    refine take_no (i := 22) (some 53) rfl rfl (by kernel_rfl) (by kernel_rfl) (by kernel_rfl) (fun _ _ _ h => h) (by rfl) (by assumption) ?_
    (try simp only [Act.put, List.setIfInBounds_toArray, List.set_cons_zero, List.set_cons_succ])
    refine take_no (i := 23) (some 54) rfl rfl (by kernel_rfl) (by kernel_rfl) (by kernel_rfl) (fun _ _ _ h => h) (by rfl) (by assumption) ?_
    (try simp only [Act.put, List.setIfInBounds_toArray, List.set_cons_zero, List.set_cons_succ])
    refine take_yes (i := 24) (v := ?_) (some 55) rfl rfl (by kernel_rfl) (by kernel_rfl) (by kernel_rfl) (fun _ _ _ h => h) (by rfl) (by assumption) ?_ ?_
    rotate_left 1
    · intro w hSw; (try dsimp only at hSw); go_simp; try (with_reducible rfl)
    (try simp only [Act.put, List.setIfInBounds_toArray, List.set_cons_zero, List.set_cons_succ])
    refine take_yes (i := 25) (v := ?_) (some 2) rfl rfl (by kernel_rfl) (by kernel_rfl) (by kernel_rfl) (fun _ _ _ h => h) (by rfl) (by assumption) ?_ ?_
    rotate_left 1
    · intro w hSw; (try dsimp only at hSw); go_simp; try (with_reducible rfl)
    (try simp only [Act.put, List.setIfInBounds_toArray, List.set_cons_zero, List.set_cons_succ])
    refine wpAnyH_done (by kernel_rfl) ?_ _
    go_wp2
    go_ret
    exact ⟨rfl, HX.out.trans X2.out⟩
  cases r3
  · go_enter Tryz.func118, Tryz.ntmps118
    go_wp2_with (go_at_call 139; (first | (with_reducible refine (F1.out _).mono ?_) | (with_reducible refine (F2.out _).mono ?_) | (with_reducible refine (F3.out _).mono ?_) | (with_reducible refine (F4.out _).mono ?_)); rintro e w' ⟨rfl, rfl⟩)
    refine wp_region_held_drew (S := (fun w' => w'.cell? ⟨w.heap.size, 0, none⟩ = some (.slice R n q) ∧ w'.cell? ⟨w.heap.size, 1, none⟩ = some (.int .i64 keep) ∧ w'.cell? ⟨w.heap.size, 2, none⟩ = some (.slice V m cv) ∧ w'.cell? ⟨w.heap.size, 3, none⟩ = some (.slice L t cl) ∧ w'.cell? ⟨w.heap.size, 4, none⟩ = some (.int .i64 next) ∧ w'.cell? ⟨w.heap.size, 5, none⟩ = some (.int .i64 gen))) (by kernel_rfl) (HK.out _ (Ext.refl W0).drew) (fun hHeld => ?_)
    refine take_yes (i := 0) (v := ?_) (some 31) rfl rfl (by kernel_rfl) (by kernel_rfl) (by kernel_rfl) (fun _ _ _ h => h) (by rfl) (by assumption) ?_ ?_
    rotate_left 1
    · intro w hSw; (try dsimp only at hSw); go_simp; try (with_reducible rfl)
    (try simp only [Act.put, List.setIfInBounds_toArray, List.set_cons_zero, List.set_cons_succ])
    refine take_yes (i := 1) (v := ?_) (some 32) rfl rfl (by kernel_rfl) (by kernel_rfl) (by kernel_rfl) (fun _ _ _ h => h) (by rfl) (by assumption) ?_ ?_
    rotate_left 1
    · intro w hSw; (try dsimp only at hSw); go_simp; try (with_reducible rfl)
    (try simp only [Act.put, List.setIfInBounds_toArray, List.set_cons_zero, List.set_cons_succ])
    refine take_yes (i := 2) (v := ?_) (some 33) rfl rfl (by kernel_rfl) (by kernel_rfl) (by kernel_rfl) (fun _ _ _ h => h) (by rfl) (by assumption) ?_ ?_
    rotate_left 1
    · intro w hSw; (try dsimp only at hSw); go_simp; try (with_reducible rfl)
    (try simp only [Act.put, List.setIfInBounds_toArray, List.set_cons_zero, List.set_cons_succ])
    refine take_run (i := 3) rfl (by kernel_rfl) (by rfl) (fun K hK => ?_)
    simp only [List.getElem_toArray, List.getElem_cons_succ, List.getElem_cons_zero]
    go_simp
    go_at_call 140
    refine (G1.out _ HX.out.drew).mono ?_
    rintro e w1 ⟨rfl, hx⟩
    have X1 := Lib.hid ((Ext.refl W0).drew.trans hx)
    clear hx
    refine hK.out _ _ (HK.out _ X1.out) (fun hHeld => ?_)
    clear hK K
    (try simp only [Act.put, List.setIfInBounds_toArray, List.set_cons_zero, List.set_cons_succ])
    refine take_yes (i := 4) (v := ?_) (some 35) rfl rfl (by kernel_rfl) (by kernel_rfl) (by kernel_rfl) (fun _ _ _ h => h) (by rfl) (by assumption) ?_ ?_
    rotate_left 1
    · intro w hSw; (try dsimp only at hSw); go_simp; try (with_reducible rfl)
    (try simp only [Act.put, List.setIfInBounds_toArray, List.set_cons_zero, List.set_cons_succ])
    refine take_yes (i := 5) (v := ?_) (some 36) rfl rfl (by kernel_rfl) (by kernel_rfl) (by kernel_rfl) (fun _ _ _ h => h) (by rfl) (by assumption) ?_ ?_
    rotate_left 1
    · intro w hSw; (try dsimp only at hSw); go_simp; try (with_reducible rfl)
    (try simp only [Act.put, List.setIfInBounds_toArray, List.set_cons_zero, List.set_cons_succ])
    refine take_yes (i := 6) (v := ?_) (some 37) rfl rfl (by kernel_rfl) (by kernel_rfl) (by kernel_rfl) (fun _ _ _ h => h) (by rfl) (by assumption) ?_ ?_
    rotate_left 1
    · intro w hSw; (try dsimp only at hSw); go_simp; try (with_reducible rfl)
    (try simp only [Act.put, List.setIfInBounds_toArray, List.set_cons_zero, List.set_cons_succ])
    refine take_yes (i := 7) (v := ?_) (some 38) rfl rfl (by kernel_rfl) (by kernel_rfl) (by kernel_rfl) (fun _ _ _ h => h) (by rfl) (by assumption) ?_ ?_
    rotate_left 1
    · intro w hSw; (try dsimp only at hSw); go_simp; try (with_reducible rfl)
    (try simp only [Act.put, List.setIfInBounds_toArray, List.set_cons_zero, List.set_cons_succ])
    refine take_yes (i := 8) (v := ?_) (some 39) rfl rfl (by kernel_rfl) (by kernel_rfl) (by kernel_rfl) (fun _ _ _ h => h) (by rfl) (by assumption) ?_ ?_
    rotate_left 1
    · intro w hSw; (try dsimp only at hSw); go_simp; try (with_reducible rfl)
    (try simp only [Act.put, List.setIfInBounds_toArray, List.set_cons_zero, List.set_cons_succ])
    refine take_run (i := 9) rfl (by kernel_rfl) (by rfl) (fun K hK => ?_)
    simp only [List.getElem_toArray, List.getElem_cons_succ, List.getElem_cons_zero]
    go_simp
    go_at_call 141
    refine (HG2.out _ (HX.out.trans X1.out)).mono ?_
    rintro e w2 ⟨rfl, hx⟩
    have X2 := Lib.hid (X1.out.trans hx)
    clear hx
    refine hK.out _ _ (HK.out _ X2.out) (fun hHeld => ?_)
    clear hK K
    (try simp only [Act.put, List.setIfInBounds_toArray, List.set_cons_zero, List.set_cons_succ])
    refine take_yes (i := 10) (v := ?_) (some 41) rfl rfl (by kernel_rfl) (by kernel_rfl) (by kernel_rfl) (fun _ _ _ h => h) (by rfl) (by assumption) ?_ ?_
    rotate_left 1
    · intro w hSw; (try dsimp only at hSw); go_simp; try (with_reducible rfl)
    (try simp only [Act.put, List.setIfInBounds_toArray, List.set_cons_zero, List.set_cons_succ])
    refine take_yes (i := 11) (v := ?_) (some 42) rfl rfl (by kernel_rfl) (by kernel_rfl) (by kernel_rfl) (fun _ _ _ h => h) (by rfl) (by assumption) ?_ ?_
    rotate_left 1
    · intro w hSw; (try dsimp only at hSw); go_simp; try (with_reducible rfl)
    (try simp only [Act.put, List.setIfInBounds_toArray, List.set_cons_zero, List.set_cons_succ])
    refine take_yes (i := 12) (v := ?_) (some 43) rfl rfl (by kernel_rfl) (by kernel_rfl) (by kernel_rfl) (fun _ _ _ h => h) (by rfl) (by assumption) ?_ ?_
    rotate_left 1
    · intro w hSw; (try dsimp only at hSw); go_simp; try (with_reducible rfl)
    (try simp only [Act.put, List.setIfInBounds_toArray, List.set_cons_zero, List.set_cons_succ])
    refine take_yes (i := 14) (v := ?_) (some 45) rfl rfl (by kernel_rfl) (by kernel_rfl) (by kernel_rfl) (fun _ _ _ h => h) (by rfl) (by assumption) ?_ ?_
    rotate_left 1
    · intro w hSw; (try dsimp only at hSw); go_simp; try (with_reducible rfl)
    (try simp only [Act.put, List.setIfInBounds_toArray, List.set_cons_zero, List.set_cons_succ])
    refine take_yes (i := 15) (v := ?_) (some 46) rfl rfl (by kernel_rfl) (by kernel_rfl) (by kernel_rfl) (fun _ _ _ h => h) (by rfl) (by assumption) ?_ ?_
    rotate_left 1
    · intro w hSw; (try dsimp only at hSw); go_simp; try (with_reducible rfl)
    (try simp only [Act.put, List.setIfInBounds_toArray, List.set_cons_zero, List.set_cons_succ])
    refine take_yes (i := 16) (v := ?_) (some 47) rfl rfl (by kernel_rfl) (by kernel_rfl) (by kernel_rfl) (fun _ _ _ h => h) (by rfl) (by assumption) ?_ ?_
    rotate_left 1
    · intro w hSw; (try dsimp only at hSw); go_simp; try (with_reducible rfl)
    (try simp only [Act.put, List.setIfInBounds_toArray, List.set_cons_zero, List.set_cons_succ])
    refine take_run (i := 13) rfl (by kernel_rfl) (by rfl) (fun K hK => ?_)
    simp only [List.getElem_toArray, List.getElem_cons_succ, List.getElem_cons_zero]
    go_simp
    go_at_call 31
    refine (G3.out _ (HX.out.trans X2.out)).mono ?_
    rintro e w3 ⟨S3, d3, rfl, hs3, hx⟩
    have X3 := Lib.hid (X2.out.trans hx)
    have HS3 := Lib.hid hs3
    clear hx hs3
    refine hK.out _ _ (HK.out _ X3.out) (fun hHeld => ?_)
    clear hK K
    (try simp only [Act.put, List.setIfInBounds_toArray, List.set_cons_zero, List.set_cons_succ])
    refine take_run (i := 17) rfl (by kernel_rfl) (by rfl) (fun K hK => ?_)
    simp only [List.getElem_toArray, List.getElem_cons_succ, List.getElem_cons_zero]
    go_simp
    go_at_call 142
    refine (G4.out _ _ _ (HX.out.trans X3.out) HS3.out).mono ?_
    rintro e w4 ⟨rfl, hx⟩
    have X4 := Lib.hid (X3.out.trans hx)
    clear hx
    refine hK.out _ _ (HK.out _ X4.out) (fun hHeld => ?_)
    clear hK K
    (try simp only [Act.put, List.setIfInBounds_toArray, List.set_cons_zero, List.set_cons_succ])
    refine take_yes (i := 18) (v := ?_) (some 49) rfl rfl (by kernel_rfl) (by kernel_rfl) (by kernel_rfl) (fun _ _ _ h => h) (by rfl) (by assumption) ?_ ?_
    rotate_left 1
    · intro w hSw; (try dsimp only at hSw); go_simp; try (with_reducible rfl)
    (try simp only [Act.put, List.setIfInBounds_toArray, List.set_cons_zero, List.set_cons_succ])
    refine take_yes (i := 19) (v := ?_) (some 50) rfl rfl (by kernel_rfl) (by kernel_rfl) (by kernel_rfl) (fun _ _ _ h => h) (by rfl) (by assumption) ?_ ?_
    rotate_left 1
    · intro w hSw; (try dsimp only at hSw); go_simp; try (with_reducible rfl)
    (try simp only [Act.put, List.setIfInBounds_toArray, List.set_cons_zero, List.set_cons_succ])
    refine take_no (i := 20) (some 51) rfl rfl (by kernel_rfl) (by kernel_rfl) (by kernel_rfl) (fun _ _ _ h => h) (by rfl) (by assumption) ?_
    (try simp only [Act.put, List.setIfInBounds_toArray, List.set_cons_zero, List.set_cons_succ])
    refine take_no (i := 21) (some 52) rfl rfl (by kernel_rfl) (by kernel_rfl) (by kernel_rfl) (fun _ _ _ h => h) (by rfl) (by assumption) ?_
    (try simp only [Act.put, List.setIfInBounds_toArray, List.set_cons_zero, List.set_cons_succ])
    refine take_no (i := 22) (some 53) rfl rfl (by kernel_rfl) (by kernel_rfl) (by kernel_rfl) (fun _ _ _ h => h) (by rfl) (by assumption) ?_
    (try simp only [Act.put, List.setIfInBounds_toArray, List.set_cons_zero, List.set_cons_succ])
    refine take_no (i := 23) (some 54) rfl rfl (by kernel_rfl) (by kernel_rfl) (by kernel_rfl) (fun _ _ _ h => h) (by rfl) (by assumption) ?_
    (try simp only [Act.put, List.setIfInBounds_toArray, List.set_cons_zero, List.set_cons_succ])
    refine take_yes (i := 24) (v := ?_) (some 55) rfl rfl (by kernel_rfl) (by kernel_rfl) (by kernel_rfl) (fun _ _ _ h => h) (by rfl) (by assumption) ?_ ?_
    rotate_left 1
    · intro w hSw; (try dsimp only at hSw); go_simp; try (with_reducible rfl)
    (try simp only [Act.put, List.setIfInBounds_toArray, List.set_cons_zero, List.set_cons_succ])
    refine take_yes (i := 25) (v := ?_) (some 2) rfl rfl (by kernel_rfl) (by kernel_rfl) (by kernel_rfl) (fun _ _ _ h => h) (by rfl) (by assumption) ?_ ?_
    rotate_left 1
    · intro w hSw; (try dsimp only at hSw); go_simp; try (with_reducible rfl)
    (try simp only [Act.put, List.setIfInBounds_toArray, List.set_cons_zero, List.set_cons_succ])
    refine wpAnyH_done (by kernel_rfl) ?_ _
    go_wp2
    go_ret
    exact ⟨rfl, HX.out.trans X4.out⟩
  · go_enter Tryz.func118, Tryz.ntmps118
    go_wp2_with (go_at_call 139; (first | (with_reducible refine (F1.out _).mono ?_) | (with_reducible refine (F2.out _).mono ?_) | (with_reducible refine (F3.out _).mono ?_) | (with_reducible refine (F4.out _).mono ?_)); rintro e w' ⟨rfl, rfl⟩)
    refine wp_region_held_drew (S := (fun w' => w'.cell? ⟨w.heap.size, 0, none⟩ = some (.slice R n q) ∧ w'.cell? ⟨w.heap.size, 1, none⟩ = some (.int .i64 keep) ∧ w'.cell? ⟨w.heap.size, 2, none⟩ = some (.slice V m cv) ∧ w'.cell? ⟨w.heap.size, 3, none⟩ = some (.slice L t cl) ∧ w'.cell? ⟨w.heap.size, 4, none⟩ = some (.int .i64 next) ∧ w'.cell? ⟨w.heap.size, 5, none⟩ = some (.int .i64 gen))) (by kernel_rfl) (HK.out _ (Ext.refl W0).drew) (fun hHeld => ?_)
    refine take_yes (i := 0) (v := ?_) (some 31) rfl rfl (by kernel_rfl) (by kernel_rfl) (by kernel_rfl) (fun _ _ _ h => h) (by rfl) (by assumption) ?_ ?_
    rotate_left 1
    · intro w hSw; (try dsimp only at hSw); go_simp; try (with_reducible rfl)
    (try simp only [Act.put, List.setIfInBounds_toArray, List.set_cons_zero, List.set_cons_succ])
    refine take_yes (i := 1) (v := ?_) (some 32) rfl rfl (by kernel_rfl) (by kernel_rfl) (by kernel_rfl) (fun _ _ _ h => h) (by rfl) (by assumption) ?_ ?_
    rotate_left 1
    · intro w hSw; (try dsimp only at hSw); go_simp; try (with_reducible rfl)
    (try simp only [Act.put, List.setIfInBounds_toArray, List.set_cons_zero, List.set_cons_succ])
    refine take_yes (i := 2) (v := ?_) (some 33) rfl rfl (by kernel_rfl) (by kernel_rfl) (by kernel_rfl) (fun _ _ _ h => h) (by rfl) (by assumption) ?_ ?_
    rotate_left 1
    · intro w hSw; (try dsimp only at hSw); go_simp; try (with_reducible rfl)
    (try simp only [Act.put, List.setIfInBounds_toArray, List.set_cons_zero, List.set_cons_succ])
    refine take_run (i := 3) rfl (by kernel_rfl) (by rfl) (fun K hK => ?_)
    simp only [List.getElem_toArray, List.getElem_cons_succ, List.getElem_cons_zero]
    go_simp
    go_at_call 140
    refine (G1.out _ HX.out.drew).mono ?_
    rintro e w1 ⟨rfl, hx⟩
    have X1 := Lib.hid ((Ext.refl W0).drew.trans hx)
    clear hx
    refine hK.out _ _ (HK.out _ X1.out) (fun hHeld => ?_)
    clear hK K
    (try simp only [Act.put, List.setIfInBounds_toArray, List.set_cons_zero, List.set_cons_succ])
    refine take_yes (i := 4) (v := ?_) (some 35) rfl rfl (by kernel_rfl) (by kernel_rfl) (by kernel_rfl) (fun _ _ _ h => h) (by rfl) (by assumption) ?_ ?_
    rotate_left 1
    · intro w hSw; (try dsimp only at hSw); go_simp; try (with_reducible rfl)
    (try simp only [Act.put, List.setIfInBounds_toArray, List.set_cons_zero, List.set_cons_succ])
    refine take_yes (i := 5) (v := ?_) (some 36) rfl rfl (by kernel_rfl) (by kernel_rfl) (by kernel_rfl) (fun _ _ _ h => h) (by rfl) (by assumption) ?_ ?_
    rotate_left 1
    · intro w hSw; (try dsimp only at hSw); go_simp; try (with_reducible rfl)
    (try simp only [Act.put, List.setIfInBounds_toArray, List.set_cons_zero, List.set_cons_succ])
    refine take_yes (i := 6) (v := ?_) (some 37) rfl rfl (by kernel_rfl) (by kernel_rfl) (by kernel_rfl) (fun _ _ _ h => h) (by rfl) (by assumption) ?_ ?_
    rotate_left 1
    · intro w hSw; (try dsimp only at hSw); go_simp; try (with_reducible rfl)
    (try simp only [Act.put, List.setIfInBounds_toArray, List.set_cons_zero, List.set_cons_succ])
    refine take_yes (i := 7) (v := ?_) (some 38) rfl rfl (by kernel_rfl) (by kernel_rfl) (by kernel_rfl) (fun _ _ _ h => h) (by rfl) (by assumption) ?_ ?_
    rotate_left 1
    · intro w hSw; (try dsimp only at hSw); go_simp; try (with_reducible rfl)
    (try simp only [Act.put, List.setIfInBounds_toArray, List.set_cons_zero, List.set_cons_succ])
    refine take_yes (i := 8) (v := ?_) (some 39) rfl rfl (by kernel_rfl) (by kernel_rfl) (by kernel_rfl) (fun _ _ _ h => h) (by rfl) (by assumption) ?_ ?_
    rotate_left 1
    · intro w hSw; (try dsimp only at hSw); go_simp; try (with_reducible rfl)
    (try simp only [Act.put, List.setIfInBounds_toArray, List.set_cons_zero, List.set_cons_succ])
    refine take_run (i := 9) rfl (by kernel_rfl) (by rfl) (fun K hK => ?_)
    simp only [List.getElem_toArray, List.getElem_cons_succ, List.getElem_cons_zero]
    go_simp
    go_at_call 141
    refine (HG2.out _ (HX.out.trans X1.out)).mono ?_
    rintro e w2 ⟨rfl, hx⟩
    have X2 := Lib.hid (X1.out.trans hx)
    clear hx
    refine hK.out _ _ (HK.out _ X2.out) (fun hHeld => ?_)
    clear hK K
    (try simp only [Act.put, List.setIfInBounds_toArray, List.set_cons_zero, List.set_cons_succ])
    refine take_yes (i := 10) (v := ?_) (some 41) rfl rfl (by kernel_rfl) (by kernel_rfl) (by kernel_rfl) (fun _ _ _ h => h) (by rfl) (by assumption) ?_ ?_
    rotate_left 1
    · intro w hSw; (try dsimp only at hSw); go_simp; try (with_reducible rfl)
    (try simp only [Act.put, List.setIfInBounds_toArray, List.set_cons_zero, List.set_cons_succ])
    refine take_yes (i := 11) (v := ?_) (some 42) rfl rfl (by kernel_rfl) (by kernel_rfl) (by kernel_rfl) (fun _ _ _ h => h) (by rfl) (by assumption) ?_ ?_
    rotate_left 1
    · intro w hSw; (try dsimp only at hSw); go_simp; try (with_reducible rfl)
    (try simp only [Act.put, List.setIfInBounds_toArray, List.set_cons_zero, List.set_cons_succ])
    refine take_yes (i := 12) (v := ?_) (some 43) rfl rfl (by kernel_rfl) (by kernel_rfl) (by kernel_rfl) (fun _ _ _ h => h) (by rfl) (by assumption) ?_ ?_
    rotate_left 1
    · intro w hSw; (try dsimp only at hSw); go_simp; try (with_reducible rfl)
    (try simp only [Act.put, List.setIfInBounds_toArray, List.set_cons_zero, List.set_cons_succ])
    refine take_yes (i := 14) (v := ?_) (some 45) rfl rfl (by kernel_rfl) (by kernel_rfl) (by kernel_rfl) (fun _ _ _ h => h) (by rfl) (by assumption) ?_ ?_
    rotate_left 1
    · intro w hSw; (try dsimp only at hSw); go_simp; try (with_reducible rfl)
    (try simp only [Act.put, List.setIfInBounds_toArray, List.set_cons_zero, List.set_cons_succ])
    refine take_yes (i := 15) (v := ?_) (some 46) rfl rfl (by kernel_rfl) (by kernel_rfl) (by kernel_rfl) (fun _ _ _ h => h) (by rfl) (by assumption) ?_ ?_
    rotate_left 1
    · intro w hSw; (try dsimp only at hSw); go_simp; try (with_reducible rfl)
    (try simp only [Act.put, List.setIfInBounds_toArray, List.set_cons_zero, List.set_cons_succ])
    refine take_yes (i := 16) (v := ?_) (some 47) rfl rfl (by kernel_rfl) (by kernel_rfl) (by kernel_rfl) (fun _ _ _ h => h) (by rfl) (by assumption) ?_ ?_
    rotate_left 1
    · intro w hSw; (try dsimp only at hSw); go_simp; try (with_reducible rfl)
    (try simp only [Act.put, List.setIfInBounds_toArray, List.set_cons_zero, List.set_cons_succ])
    refine take_run (i := 13) rfl (by kernel_rfl) (by rfl) (fun K hK => ?_)
    simp only [List.getElem_toArray, List.getElem_cons_succ, List.getElem_cons_zero]
    go_simp
    go_at_call 31
    refine (G3.out _ (HX.out.trans X2.out)).mono ?_
    rintro e w3 ⟨S3, d3, rfl, hs3, hx⟩
    have X3 := Lib.hid (X2.out.trans hx)
    have HS3 := Lib.hid hs3
    clear hx hs3
    refine hK.out _ _ (HK.out _ X3.out) (fun hHeld => ?_)
    clear hK K
    (try simp only [Act.put, List.setIfInBounds_toArray, List.set_cons_zero, List.set_cons_succ])
    refine take_run (i := 17) rfl (by kernel_rfl) (by rfl) (fun K hK => ?_)
    simp only [List.getElem_toArray, List.getElem_cons_succ, List.getElem_cons_zero]
    go_simp
    go_at_call 142
    refine (G4.out _ _ _ (HX.out.trans X3.out) HS3.out).mono ?_
    rintro e w4 ⟨rfl, hx⟩
    have X4 := Lib.hid (X3.out.trans hx)
    clear hx
    refine hK.out _ _ (HK.out _ X4.out) (fun hHeld => ?_)
    clear hK K
    (try simp only [Act.put, List.setIfInBounds_toArray, List.set_cons_zero, List.set_cons_succ])
    refine take_yes (i := 18) (v := ?_) (some 49) rfl rfl (by kernel_rfl) (by kernel_rfl) (by kernel_rfl) (fun _ _ _ h => h) (by rfl) (by assumption) ?_ ?_
    rotate_left 1
    · intro w hSw; (try dsimp only at hSw); go_simp; try (with_reducible rfl)
    (try simp only [Act.put, List.setIfInBounds_toArray, List.set_cons_zero, List.set_cons_succ])
    refine take_yes (i := 19) (v := ?_) (some 50) rfl rfl (by kernel_rfl) (by kernel_rfl) (by kernel_rfl) (fun _ _ _ h => h) (by rfl) (by assumption) ?_ ?_
    rotate_left 1
    · intro w hSw; (try dsimp only at hSw); go_simp; try (with_reducible rfl)
    (try simp only [Act.put, List.setIfInBounds_toArray, List.set_cons_zero, List.set_cons_succ])
    refine take_yes (i := 20) (v := ?_) (some 51) rfl rfl (by kernel_rfl) (by kernel_rfl) (by kernel_rfl) (fun _ _ _ h => h) (by rfl) (by assumption) ?_ ?_
    rotate_left 1
    · intro w hSw; (try dsimp only at hSw); go_simp; try (with_reducible rfl)
    (try simp only [Act.put, List.setIfInBounds_toArray, List.set_cons_zero, List.set_cons_succ])
    refine take_yes (i := 21) (v := ?_) (some 52) rfl rfl (by kernel_rfl) (by kernel_rfl) (by kernel_rfl) (fun _ _ _ h => h) (by rfl) (by assumption) ?_ ?_
    rotate_left 1
    · intro w hSw; (try dsimp only at hSw); go_simp; try (with_reducible rfl)
    (try simp only [Act.put, List.setIfInBounds_toArray, List.set_cons_zero, List.set_cons_succ])
    refine take_yes (i := 22) (v := ?_) (some 53) rfl rfl (by kernel_rfl) (by kernel_rfl) (by kernel_rfl) (fun _ _ _ h => h) (by rfl) (by assumption) ?_ ?_
    rotate_left 1
    · intro w hSw; (try dsimp only at hSw); go_simp; try (with_reducible rfl)
    (try simp only [Act.put, List.setIfInBounds_toArray, List.set_cons_zero, List.set_cons_succ])
    refine take_run (i := 23) rfl (by kernel_rfl) (by rfl) (fun K hK => ?_)
    simp only [List.getElem_toArray, List.getElem_cons_succ, List.getElem_cons_zero]
    go_simp
    go_at_call 26
    refine (G5.out _ (HX.out.trans X4.out)).mono ?_
    rintro e w5 ⟨rfl, hx⟩
    have X5 := Lib.hid (X4.out.trans hx)
    clear hx
    refine hK.out _ _ (HK.out _ X5.out) (fun hHeld => ?_)
    clear hK K
    (try simp only [Act.put, List.setIfInBounds_toArray, List.set_cons_zero, List.set_cons_succ])
    refine take_yes (i := 24) (v := ?_) (some 55) rfl rfl (by kernel_rfl) (by kernel_rfl) (by kernel_rfl) (fun _ _ _ h => h) (by rfl) (by assumption) ?_ ?_
    rotate_left 1
    · intro w hSw; (try dsimp only at hSw); go_simp; try (with_reducible rfl)
    (try simp only [Act.put, List.setIfInBounds_toArray, List.set_cons_zero, List.set_cons_succ])
    refine take_yes (i := 25) (v := ?_) (some 2) rfl rfl (by kernel_rfl) (by kernel_rfl) (by kernel_rfl) (fun _ _ _ h => h) (by rfl) (by assumption) ?_ ?_
    rotate_left 1
    · intro w hSw; (try dsimp only at hSw); go_simp; try (with_reducible rfl)
    (try simp only [Act.put, List.setIfInBounds_toArray, List.set_cons_zero, List.set_cons_succ])
    refine wpAnyH_done (by kernel_rfl) ?_ _
    go_wp2
    go_ret
    exact ⟨rfl, HX.out.trans X5.out⟩
end Go.Proofs.YtjbfopnkeclfgaaGreat
