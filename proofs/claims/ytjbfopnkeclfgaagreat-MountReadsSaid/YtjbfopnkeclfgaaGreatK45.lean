/- Searches of package mount, as it landed: among a node's items, and among tasks. isTask and areTasks of package mount, as they landed. -/
import Derived.Test.YtjbfopnkeclfgaaGreatK41
import Derived.Test.YtjbfopnkeclfgaaGreatK24
namespace Go.Proofs.YtjbfopnkeclfgaaGreat
set_option maxRecDepth 20000
open Go.RowKit
attribute [local go_sem ↓] Go.wp_at_zero Go.wp_at_succ

set_option maxRecDepth 100000 in
set_option maxHeartbeats 1600000 in
theorem mtItIdx_any (f : It → Bool) (kb : Nat) (S : Option Addr) (l : List (It)) (t d : Nat) (w : World) (ht : t = l.length) (hS : Sl w S t d (ivs l))
    (hF : ∀ y w', y ∈ l → Ext w w' → Calls Tryz.prog 95 #[.agg #[.int .i64 y.1, .int .i64 y.2], .pointer (some ⟨kb, 0, none⟩)] w' fun e w2 => e = .returned (.bool (f y)) ∧ Ext w' w2) :
    Calls Tryz.prog 128 #[.slice S t d, .func (.func 95) #[] #[.pointer (some ⟨kb, 0, none⟩)]] w fun e w' => e = .returned (.int .i64 (idxBy f l)) ∧ Ext w w' := by
  have hl := hS.len
  unfold maxLen at hl
  have HT := Lib.hid ht
  have HS := Lib.hid hS
  have HF := Lib.hid hF
  clear ht hS hF
  go_enter Tryz.func128, Tryz.ntmps128
  go_wp2_with fail
  go_loopw [8] (fun i wr => ∃ k : Nat, k ≤ t ∧ i = .int .i64 k ∧ (∀ j (hj : j < l.length), j < k → f l[j] = false) ∧ Ext w wr) (fun i _ => t - (intOf i).toNat)
  case atStart => exact ⟨0, Nat.zero_le _, rfl, fun _ _ h => by omega, Ext.refl _⟩
  case round =>
    obtain ⟨k, hk, rfl, hb, hx⟩ := hrel
    have HB := Lib.hid hb
    have HX := Lib.hid hx
    clear hb
    rcases Nat.lt_or_ge k t with hlt | hlt
    · have hkl : k < l.length := by rw [← HT.out]; exact hlt
      obtain ⟨b, off, rfl, hbl, hc⟩ := (HS.out.ext hx).cells.it hkl
      have hck := hc k hkl
      have hki : (k : Int) < (t : Int) := by omega
      have HH := Lib.hid (fun h => idx_hit (f := f) hkl h HB.out)
      have HN := Lib.hid (fun (h : f l[k] = false) => (show ∀ j (hj : j < l.length), j < k + 1 → f l[j] = false from fun j hj hjk => by
        rcases Nat.lt_or_ge j k with h' | h'
        · exact HB.out j hj h'
        · obtain rfl : j = k := by omega
          exact h))
      have HC := Lib.hid (HF.out l[k] wr (List.getElem_mem hkl) hx)
      clear hc HB hx
      generalize l[k] = y at *
      obtain ⟨y1, y2⟩ := y
      simp only at hck HC HH HN
      obtain ⟨a0, a1⟩ := hck
      generalize hfy : f (y1, y2) = fy at *
      clear hfy
      cases fy
      · have HE := Lib.hid (HN.out rfl)
        clear HH HN
        go_wp2_with (go_at_call 95; refine HC.out.mono ?_; rintro e w1 ⟨rfl, hx⟩; have X1 := Lib.hid (HX.out.trans hx); clear hx)
        go_roundw
        case rel => exact ⟨k + 1, by omega, by go_num, HE.out, X1.out⟩
        case measure => simp [intOf]; omega
      · have HE := Lib.hid (HH.out rfl)
        clear HH HN
        go_wp2_with (go_at_call 95; refine HC.out.mono ?_; rintro e w1 ⟨rfl, hx⟩; have X1 := Lib.hid (HX.out.trans hx); clear hx)
        go_ret
        exact ⟨ret_int HE.out.symm, X1.out⟩
    · obtain rfl : k = t := by omega
      have HE := Lib.hid (idx_none (f := f) (fun j hj => HB.out j hj (by rw [HT.out]; exact hj)))
      clear hlt
      go_wp2_with fail
      go_ret
      exact ⟨ret_int HE.out.symm, HX.out⟩
set_option maxHeartbeats 800000 in
theorem mtItHas_any (f : It → Bool) (kb : Nat) (S : Option Addr) (l : List (It)) (t d : Nat) (w : World) (ht : t = l.length) (hS : Sl w S t d (ivs l))
    (hF : ∀ y w', y ∈ l → Ext w w' → Calls Tryz.prog 95 #[.agg #[.int .i64 y.1, .int .i64 y.2], .pointer (some ⟨kb, 0, none⟩)] w' fun e w2 => e = .returned (.bool (f y)) ∧ Ext w' w2) :
    Calls Tryz.prog 94 #[.slice S t d, .func (.func 95) #[] #[.pointer (some ⟨kb, 0, none⟩)]] w fun e w' => e = .returned (.bool (l.any f)) ∧ Ext w w' := by
  have HI := Lib.hid (mtItIdx_any f kb S l t d w ht hS hF)
  rw [← idx_any f l]
  generalize idxBy f l = z at *
  clear ht hS hF
  go_enter Tryz.func94, Tryz.ntmps94
  go_wp2_with (go_at_call 128; refine HI.out.mono ?_; rintro e w1 ⟨rfl, hx⟩; have X1 := Lib.hid hx; clear hx)
  go_ret
  exact ⟨by first | rfl | simp, X1.out⟩
set_option maxRecDepth 100000 in
set_option maxHeartbeats 1600000 in
theorem mtTkIdx_any (f : Tk → Bool) (kb : Nat) (S : Option Addr) (l : List (Tk)) (t d : Nat) (w : World) (ht : t = l.length) (hS : Sl w S t d (l.map cxv))
    (hF : ∀ y w', y ∈ l → Ext w w' → Calls Tryz.prog 57 #[cxv y, .pointer (some ⟨kb, 0, none⟩)] w' fun e w2 => e = .returned (.bool (f y)) ∧ Ext w' w2) :
    Calls Tryz.prog 85 #[.slice S t d, .func (.func 57) #[] #[.pointer (some ⟨kb, 0, none⟩)]] w fun e w' => e = .returned (.int .i64 (idxBy f l)) ∧ Ext w w' := by
  have hl := hS.len
  unfold maxLen at hl
  have HT := Lib.hid ht
  have HS := Lib.hid hS
  have HF := Lib.hid hF
  clear ht hS hF
  go_enter Tryz.func85, Tryz.ntmps85
  go_wp2_with fail
  go_loopw [8] (fun i wr => ∃ k : Nat, k ≤ t ∧ i = .int .i64 k ∧ (∀ j (hj : j < l.length), j < k → f l[j] = false) ∧ Ext w wr) (fun i _ => t - (intOf i).toNat)
  case atStart => exact ⟨0, Nat.zero_le _, rfl, fun _ _ h => by omega, Ext.refl _⟩
  case round =>
    obtain ⟨k, hk, rfl, hb, hx⟩ := hrel
    have HB := Lib.hid hb
    have HX := Lib.hid hx
    clear hb
    rcases Nat.lt_or_ge k t with hlt | hlt
    · have hkl : k < l.length := by rw [← HT.out]; exact hlt
      obtain ⟨b, off, rfl, hbl, hc⟩ := (HS.out.ext hx).cells.tk hkl
      have hck := hc k hkl
      have hki : (k : Int) < (t : Int) := by omega
      have HH := Lib.hid (fun h => idx_hit (f := f) hkl h HB.out)
      have HN := Lib.hid (fun (h : f l[k] = false) => (show ∀ j (hj : j < l.length), j < k + 1 → f l[j] = false from fun j hj hjk => by
        rcases Nat.lt_or_ge j k with h' | h'
        · exact HB.out j hj h'
        · obtain rfl : j = k := by omega
          exact h))
      have HC := Lib.hid (HF.out l[k] wr (List.getElem_mem hkl) hx)
      clear hc HB hx
      generalize l[k] = y at *
      generalize hfy : f y = fy at *
      clear hfy
      cases fy
      · have HE := Lib.hid (HN.out rfl)
        clear HH HN
        go_wp2_with (go_at_call 57; refine HC.out.mono ?_; rintro e w1 ⟨rfl, hx⟩; have X1 := Lib.hid (HX.out.trans hx); clear hx)
        go_roundw
        case rel => exact ⟨k + 1, by omega, by go_num, HE.out, X1.out⟩
        case measure => simp [intOf]; omega
      · have HE := Lib.hid (HH.out rfl)
        clear HH HN
        go_wp2_with (go_at_call 57; refine HC.out.mono ?_; rintro e w1 ⟨rfl, hx⟩; have X1 := Lib.hid (HX.out.trans hx); clear hx)
        go_ret
        exact ⟨ret_int HE.out.symm, X1.out⟩
    · obtain rfl : k = t := by omega
      have HE := Lib.hid (idx_none (f := f) (fun j hj => HB.out j hj (by rw [HT.out]; exact hj)))
      clear hlt
      go_wp2_with fail
      go_ret
      exact ⟨ret_int HE.out.symm, HX.out⟩
set_option maxHeartbeats 800000 in
theorem mtTkHas_any (f : Tk → Bool) (kb : Nat) (S : Option Addr) (l : List (Tk)) (t d : Nat) (w : World) (ht : t = l.length) (hS : Sl w S t d (l.map cxv))
    (hF : ∀ y w', y ∈ l → Ext w w' → Calls Tryz.prog 57 #[cxv y, .pointer (some ⟨kb, 0, none⟩)] w' fun e w2 => e = .returned (.bool (f y)) ∧ Ext w' w2) :
    Calls Tryz.prog 53 #[.slice S t d, .func (.func 57) #[] #[.pointer (some ⟨kb, 0, none⟩)]] w fun e w' => e = .returned (.bool (l.any f)) ∧ Ext w w' := by
  have HI := Lib.hid (mtTkIdx_any f kb S l t d w ht hS hF)
  rw [← idx_any f l]
  generalize idxBy f l = z at *
  clear ht hS hF
  go_enter Tryz.func53, Tryz.ntmps53
  go_wp2_with (go_at_call 85; refine HI.out.mono ?_; rintro e w1 ⟨rfl, hx⟩; have X1 := Lib.hid hx; clear hx)
  go_ret
  exact ⟨by first | rfl | simp, X1.out⟩
end Go.Proofs.YtjbfopnkeclfgaaGreat
namespace Go.Proofs.YtjbfopnkeclfgaaGreat
set_option maxRecDepth 20000
open Go.RowKit
attribute [local go_sem ↓] Go.wp_at_zero Go.wp_at_succ

/-- May a task be? f: which trees are right. -/
def taskF (f : Int → Bool) (c : List HC) (l : List Tk) (t : Nat × Nat) : Bool :=
  if t.2 = 0 then f (t.1 : Nat) else !(c.getD t.1 HC.none).leaf && ((c.getD t.1 HC.none).ref == 1) && ((c.getD t.1 HC.none).it.drop (min (givenP l (t.1 : Nat)).toNat (c.getD t.1 HC.none).it.length)).all (fun y => f y.2)
theorem all_not_any {α : Type} (f : α → Bool) : ∀ l : List α, (!l.any (fun y => !f y)) = l.all f
  | [] => rfl
  | y :: l => by
    rw [List.any_cons, List.all_cons, ← all_not_any f l]
    cases f y <;> simp
theorem sl_nil_map {w w' : World} {A : Option Addr} {n c : Nat} {xs : List Value} (h : Sl w A n c xs) (k : Nat) (g : Addr → Addr) : Sl w' (Option.map g A) 0 (c - k) [] :=
  ⟨fun e => by cases A with | none => have := h.1 rfl; omega | some a => simp at e, Nat.zero_le _, Nat.le_trans (Nat.sub_le _ _) h.2.2.1, Cells.nil _ _⟩
theorem sl_nil_same (w' : World) (A : Option Addr) : Sl w' A 0 0 [] := ⟨fun _ => rfl, Nat.le_refl _, Nat.zero_le _, Cells.nil _ _⟩
set_option maxHeartbeats 800000 in
theorem mtItem_any (R V L : Option Addr) (c : List HC) (keep next gen : Int) (m t q cv cl kb : Nat) (y : It) (w : World) (f : Int → Bool) (hb : Bx w kb #[.slice R c.length q, .int .i64 keep, .slice V m cv, .slice L t cl, .int .i64 next, .int .i64 gen]) (hf0 : ∀ p w', Ext w w' → Calls Tryz.prog 56 #[.agg #[.slice R c.length q, .int .i64 keep], .int .i64 p] w' fun e w2 => e = .returned (.bool (f p)) ∧ Ext w' w2) :
    Calls Tryz.prog 95 #[.agg #[.int .i64 y.1, .int .i64 y.2], .pointer (some ⟨kb, 0, none⟩)] w fun e w' => e = .returned (.bool (!f y.2)) ∧ Ext w w' := by
  obtain ⟨y1, y2⟩ := y
  obtain ⟨W, hW⟩ : ∃ W, w.alloc (.cells #[.int .i64 y1, .int .i64 y2] 146) = W := ⟨_, rfl⟩
  obtain ⟨hx, hb1⟩ := allocs1 hW
  have HX := Lib.hid hx
  have HT := Lib.hid (hf0 y2 W hx)
  obtain ⟨p0, p1, z2⟩ := hb1.read2
  obtain ⟨c0, c1, c2, c3, c4, c5⟩ := st_at6 (hb.ext hx)
  clear hb hf0 hx hb1
  simp only
  go_enter Tryz.func95, Tryz.ntmps95
  go_wp2_with (go_at_call 56; (first | rw [hW] | skip); refine HT.out.mono ?_; rintro e w2 ⟨rfl, hx2⟩; have X2 := Lib.hid (HX.out.trans hx2); clear hx2)
  go_ret
  exact ⟨by cases f y2 <;> rfl, X2.out⟩
set_option maxRecDepth 100000 in
set_option maxHeartbeats 1600000 in
theorem mtTask_any (R V L : Option Addr) (c : List HC) (keep next gen : Int) (ts : List Tk) (m t q cv cl p d : Nat) (w : World) (f : Int → Bool) (hf0 : ∀ p w', Ext w w' → Calls Tryz.prog 56 #[.agg #[.slice R c.length q, .int .i64 keep], .int .i64 p] w' fun e w2 => e = .returned (.bool (f p)) ∧ Ext w' w2)
    (hp : p < c.length) (hp2 : p < 2600) (hd : d < 2600) (ht : t = ts.length) (hw : WhT ts) (hA : HcSl w R c.length q c) (hL : Sl w L t cl (ts.map cxv)) :
    Calls Tryz.prog 58 #[.agg #[.slice R c.length q, .int .i64 keep, .slice V m cv, .slice L t cl, .int .i64 next, .int .i64 gen], cxv (tkB2 (p, d))] w fun e w' => e = .returned (.bool (taskF f c ts (p, d))) ∧ Ext w w' := by
  subst ht
  have HPL := Lib.hid (fun w' => todoPlace_any (tkB2 (p, d)) p w' hp2 (isWh_fN p))
  have HDN := Lib.hid (fun w' => todoDone_any (tkB2 (p, d)) d w' hd (isWh_fN d))
  unfold cxv
  generalize (tkB2 (p, d)).1 = ta at *
  generalize (tkB2 (p, d)).2 = tb at *
  obtain ⟨W, hW⟩ : ∃ W, w.alloc (.cells #[.slice R c.length q, .int .i64 keep, .slice V m cv, .slice L ts.length cl, .int .i64 next, .int .i64 gen] 34) = W := ⟨_, rfl⟩
  obtain ⟨hx, hb1⟩ := allocs1 hW
  have HX := Lib.hid hx
  have HB1 := Lib.hid hb1
  have HW := Lib.hid hW
  obtain ⟨c0, c1, c2, c3, c4, c5⟩ := st_at6 hb1
  by_cases hd0 : d = 0
  · have HE := Lib.hid (show taskF f c ts (p, d) = f (p : Nat) from by unfold taskF; rw [if_pos hd0])
    have HT := Lib.hid (hf0 (p : Nat) W hx)
    subst hd0
    clear hf0 hA hL hx hb1 hw hW
    go_enter Tryz.func58, Tryz.ntmps58
    go_wp2_with (first
      | (go_at_call 91; refine (HPL.out _).mono ?_; rintro e w2 ⟨rfl, rfl⟩)
      | (go_at_call 92; refine (HDN.out _).mono ?_; rintro e w2 ⟨rfl, rfl⟩)
      | (go_at_call 56; (first | rw [HW.out] | skip); refine HT.out.mono ?_; rintro e w2 ⟨rfl, hx2⟩; have X2 := Lib.hid (HX.out.trans hx2); clear hx2))
    go_ret
    exact ⟨by rw [HE.out]; rfl, X2.out⟩
  have e0 : ((d : Int) == 0) = false := by rw [beq_eq_false_iff_ne]; omega
  have HE := Lib.hid (show taskF f c ts (p, d) = (!(c[p]).leaf && ((c[p]).ref == 1) && ((c[p]).it.drop (min (givenP ts (p : Nat)).toNat (c[p]).it.length)).all (fun y => f y.2)) from by
    unfold taskF
    rw [if_neg hd0]
    simp only
    rw [List.getD_eq_getElem?_getD, List.getElem?_eq_getElem hp]
    rfl)
  obtain ⟨b, off, rfl, hbl, A, ci, r0, r1, r2, r3, hI⟩ := (hA.ext hx).cell hp
  have hpi : (p : Int) < (c.length : Int) := by omega
  have HGV := Lib.hid (fun w' (hx : Ext w w') => (auGiven_any L ts ts.length cl (p : Nat) w' rfl hw (hL.ext hx)).mono (fun e w'' h => (show e = .returned (.int .i64 (givenP ts (p : Nat))) ∧ w'' = w' from ⟨h.1, h.2.symm⟩)))
  have HCL := Lib.hid (fun T k e' (l : List It) w' (hk : k = l.length) (hxx : Ext W w') (hs : Sl w' T k e' (ivs l)) => mtItHas_any (fun y => !f y.2) w.heap.size T l k e' w' hk hs (fun y w2 _ hx2 => mtItem_any (some ⟨b, off, none⟩) V L c keep next gen m ts.length q cv cl w.heap.size y w2 f (hb1.ext (hxx.trans hx2)) (fun p w3 hx3 => hf0 p w3 (hx.trans (hxx.trans (hx2.trans hx3))))))
  generalize c[p] = x at *
  obtain ⟨xr, xp, xl, it⟩ := x
  simp only at r0 r1 r2 r3 hI HE
  obtain ⟨mi, hmi⟩ : ∃ k, it.length = k := ⟨_, rfl⟩
  rw [hmi] at r3 hI HE
  have HMI := Lib.hid hmi
  have hmd := hI.2.1
  have hdm := hI.2.2.1
  unfold maxLen at hdm
  obtain ⟨gn, hg⟩ := Int.eq_ofNat_of_zero_le (given_pos (p : Nat) ts)
  rw [hg] at HGV HE
  rw [Int.toNat_natCast] at HE
  have HI := Lib.hid hI
  have hyb := Bx.new W #[.int .i64 0, .bool false, .bool false, .slice none 0 0] 61
  obtain ⟨y0, y1, y2, y3⟩ : _ ∧ _ ∧ _ ∧ _ := ⟨hyb.at 0 _ rfl, hyb.at 1 _ rfl, hyb.at 2 _ rfl, hyb.at 3 _ rfl⟩
  have z0 := hyb.free 0
  have z1 := hyb.free 1
  have z2 := hyb.free 2
  have z3 := hyb.free 3
  have zl := hyb.lt
  obtain ⟨W3, hW3⟩ : ∃ W3, W.alloc (.cells #[.int .i64 xr, .bool xp, .bool xl, .slice A mi ci] 61) = W3 := ⟨_, rfl⟩
  obtain ⟨hx3, hb3⟩ := allocs1 hW3
  have HX3 := Lib.hid hx3
  have HB3 := Lib.hid hb3
  have q0 := hb3.at 0 _ rfl
  have q1 := hb3.at 1 _ rfl
  have q2 := hb3.at 2 _ rfl
  have q3 := hb3.at 3 _ rfl
  have HW3 := Lib.hid hW3
  generalize c.length = n at *
  clear hf0 hA hL hx hb1 hw hyb hx3 hb3 hI hmi hg
  by_cases hr : xr = 1
  rotate_left
  · have e1 : (xr != 1) = true := by rw [bne_iff_ne]; exact hr
    have HE2 := Lib.hid (show taskF f c ts (p, d) = false from by rw [HE.out, show (xr == 1) = false from by rw [beq_eq_false_iff_ne]; exact hr, Bool.and_false, Bool.false_and])
    clear hr HE
    go_enter Tryz.func58, Tryz.ntmps58
    go_wp2_with (first
      | (go_at_call 91; refine (HPL.out _).mono ?_; rintro e w2 ⟨rfl, rfl⟩)
      | (go_at_call 92; refine (HDN.out _).mono ?_; rintro e w2 ⟨rfl, rfl⟩; (first | rw [HW.out] | skip)))
    go_ret
    exact ⟨by rw [HE2.out]; rfl, by first | exact HX.out.trans HX3.out | (rw [hW3]; exact HX.out.trans HX3.out)⟩
  have e1 : (xr != 1) = false := by rw [hr]; rfl
  have HR1 := Lib.hid hr
  cases xl
  rotate_left
  · have HE2 := Lib.hid (show taskF f c ts (p, d) = false from by rw [HE.out]; rfl)
    clear hr HE
    go_enter Tryz.func58, Tryz.ntmps58
    go_wp2_with (first
      | (go_at_call 91; refine (HPL.out _).mono ?_; rintro e w2 ⟨rfl, rfl⟩)
      | (go_at_call 92; refine (HDN.out _).mono ?_; rintro e w2 ⟨rfl, rfl⟩; (first | rw [HW.out] | skip)))
    go_ret
    exact ⟨by rw [HE2.out]; rfl, by first | exact HX.out.trans HX3.out | (rw [hW3]; exact HX.out.trans HX3.out)⟩
  obtain ⟨lo, hlo⟩ : ∃ x, min gn mi = x := ⟨_, rfl⟩
  have hlo2 : lo ≤ mi := by omega
  have HE2 := Lib.hid (show taskF f c ts (p, d) = (it.drop lo).all (fun y => f y.2) from by rw [HE.out, hlo, show (xr == 1) = true from by rw [hr]; rfl]; rfl)
  have HSI := Lib.hid (fun W (hW : Sl W A mi ci (ivs it)) => hW.items HMI.out.symm lo mi hlo2 (Nat.le_refl _))
  have HTE := Lib.hid (show ((it.drop lo).take (mi - lo)) = it.drop lo from by rw [← HMI.out, ← List.length_drop, List.take_length])
  have HTL := Lib.hid (show mi - lo = (it.drop lo).length from by rw [← HMI.out, List.length_drop])
  have hml : (mi : Int) - (lo : Int) = ((mi - lo : Nat) : Int) := by omega
  obtain ⟨s0, s1, s2, s3, s4, s5⟩ := st_at6 (HB1.out.ext HX3.out)
  clear hr HE
  rcases Nat.lt_or_ge gn mi with hlt | hge
  · obtain rfl : gn = lo := by omega
    have d1 : decide ((gn : Int) < (mi : Int)) = true := decide_eq_true (by omega)
    have d2 : decide ((mi : Int) < (gn : Int)) = false := decide_eq_false (by omega)
    have d3 : decide (gn < mi) = true := decide_eq_true hlt
    have d4 : decide (mi < gn) = false := decide_eq_false (by omega)
    clear hlo
    go_enter Tryz.func58, Tryz.ntmps58
    go_wp2_with (first
      | (go_at_call 91; refine (HPL.out _).mono ?_; rintro e w2 ⟨rfl, rfl⟩)
      | (go_at_call 92; refine (HDN.out _).mono ?_; rintro e w2 ⟨rfl, rfl⟩; (first | rw [HW.out] | skip)))
    go_quiet ((go_at_call 93; exact Calls.quiet_of_same (HGV.out _ (by first | exact (HX.out.trans HX3.out).drewN _ | exact (HX.out.trans HX3.out).drew | exact HX.out.trans HX3.out))))
    go_wp2_with (go_at_call 94; refine stop_here ?_)
    refine stop_on ?_
    have h1 := HSI.out _ (HI.out.ext (HX3.out.drewN nq))
    rw [HTE.out, if_neg (by omega)] at h1
    refine (HCL.out _ _ _ (it.drop gn) _ HTL.out (HX3.out.drewN nq) h1).mono ?_
    rintro e w9 ⟨rfl, hx9⟩
    have X9 := Lib.hid (HX.out.trans ((HX3.out.drewN nq).trans hx9))
    clear hx9 h1
    go_wp2
    go_ret
    exact ⟨ret_bool (by rw [HE2.out]; exact all_not_any _ _), X9.out⟩
  · obtain rfl : mi = lo := by omega
    have d1 : decide ((gn : Int) < (mi : Int)) = false := decide_eq_false (by omega)
    have d3 : decide (gn < mi) = false := decide_eq_false (by omega)
    clear hlo
    go_enter Tryz.func58, Tryz.ntmps58
    go_wp2_with (first
      | (go_at_call 91; refine (HPL.out _).mono ?_; rintro e w2 ⟨rfl, rfl⟩)
      | (go_at_call 92; refine (HDN.out _).mono ?_; rintro e w2 ⟨rfl, rfl⟩; (first | rw [HW.out] | skip)))
    go_quiet ((go_at_call 93; exact Calls.quiet_of_same (HGV.out _ (by first | exact (HX.out.trans HX3.out).drewN _ | exact (HX.out.trans HX3.out).drew | exact HX.out.trans HX3.out))))
    go_wp2_with (go_at_call 94; refine stop_here ?_)
    all_goals
      refine stop_on ?_
      refine (HCL.out _ _ _ [] _ rfl (HX3.out.drewN nq) (by first | exact sl_nil_same _ _ | exact sl_nil_map HI.out _ _)).mono ?_
      rintro e w9 ⟨rfl, hx9⟩
      have X9 := Lib.hid (HX.out.trans ((HX3.out.drewN nq).trans hx9))
      clear hx9
      go_wp2
      go_ret
      exact ⟨ret_bool (by rw [HE2.out, ← HMI.out, List.drop_length]; rfl), X9.out⟩
end Go.Proofs.YtjbfopnkeclfgaaGreat
