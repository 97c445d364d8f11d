/- Walks of the four kinds of step of package clean. -/
import Derived.Test.YtlbhcakjcklmgaaK23
namespace Go.Proofs.Ytlbhcakjcklmgaa
open Go.RowKit
attribute [local go_sem ↓] Go.wp_at_zero Go.wp_at_succ

theorem grown_of {w w' : World} (h : Ext w w') {row : Option Nat} : w.grownBy w' row := ⟨h.os, h.tape, h.output, h.size, fun k hk _ => h.block k hk⟩
set_option maxRecDepth 100000 in
set_option maxHeartbeats 3200000 in
theorem cleanStep_L (v w : World) (g : Nat) (R : Option Addr) (n q : Nat) (keep : Int) (Y : Option Addr) (m cY : Nat) (c : List HC) (p k : Nat) (r : List Ts) (hr : rightH ⟨c, keep⟩ = true) (hp : p < c.length) (hk5 : k ≤ 5) (hm2 : m ≤ 30000) (hL : k = 0 ∧ (c[p].ref ≠ 1 ∨ c[p].leaf = true)) (h : CR v w g R n q keep Y m cY c (((p : Int), k) :: r)) :
    Calls Try.prog 25 #[.pointer (some ⟨g, 0, none⟩)] w fun e w' => e = .returned (.tuple #[]) ∧ ∃ R' q' Y' m' cY', CR v w' g R' n q' keep Y' m' cY' (looseL (c.length + 1) c (p : Int)) r := by
  have hn2 := (rightH_iff hr).1.1.2
  have hn := h.hc.1.1
  have hm : m = r.length + 1 := h.len
  obtain ⟨y, rfl, hy⟩ := own_some h.own (by omega)
  have hcell : w.cell? ⟨y, r.length, none⟩ = some (.complex .f64 (fN p) (fN k)) := by
    rw [h.own.cellAt r.length (by omega), tkR_cons, List.map_append, List.getElem?_append_right (by rw [List.length_map, tkR_len]; exact Nat.le_refl _), List.length_map, tkR_len, Nat.sub_self]
    rfl
  have HP := Lib.hid h.pop
  obtain ⟨a0, a1, a2, b0, b1, b2⟩ := h.read
  have hw : IntKind.i64.wrap ((m : Int) - 1) = (r.length : Int) := by rw [IntKind.wrap_i64]; omega
  have hrl : (r.length : Int) < (m : Int) := by omega
  have hrl2 : r.length < m := by omega
  have hcap := (own_sl h.own).2.1
  have hcm : cY ≤ maxLen := (own_sl h.own).2.2.1
  unfold maxLen at hcm
  have hrc : (r.length : Int) ≤ (cY : Int) := by omega
  have hrc2 : r.length ≤ cY := by omega
  have HGE := Lib.hid h.ge
  have HY := Lib.hid hy
  have HM := Lib.hid hm
  have HN := Lib.hid hn
  have HRT := Lib.hid hr
  have HKI := Lib.hid (fun w' (hA : HcSl w' R n q c) => cleanKind_any R c n q p k keep w' hp (by omega) hk5 hA)
  rw [show kindV c[p] p k = .iface 72 (.int .i64 p) from if_pos hL] at HKI
  obtain ⟨W1, hW1⟩ : ∃ W1, w.setCell ⟨g, 2, none⟩ (.slice (some ⟨y, 0, none⟩) r.length cY) = W1 := ⟨_, rfl⟩
  rw [hW1] at HP
  obtain ⟨c0, c1, c2, d0, d1, d2⟩ := HP.out.read
  have t0 := fun w => isLL (.int .i64 p) w
  clear hL
  clear h hr hm hy hn
  generalize hL : r.length = rl at *
  have HL := Lib.hid hL
  clear hL
  go_enter Try.func25, Try.ntmps25
  go_wp2_with (go_at_call 36; refine stop_here ?_)
  refine stop_on ?_
  clear hW1 a0 a1 a2 b0 b1 b2 hcell
  refine (HKI.out W1 (HP.out.hc.sl HP.out.ex)).mono ?_
  rintro e w2 ⟨rfl, hx2⟩
  have HP2 := Lib.hid (HP.out.ext hx2)
  clear hx2 c0 c1 c2 d0 d1 d2
  obtain ⟨c0, c1, c2, d0, d1, d2⟩ := HP2.out.read
  go_wp2_with (go_at_call 37; refine stop_here ?_)
  refine stop_on ?_
  refine (heapLoose_r v R c n q keep w2 p HP2.out.ex HRT.out HP2.out.hc).mono ?_
  rintro e w3 ⟨S, d, z, rfl, hS, hx3⟩
  have HP3 := Lib.hid ((HP2.out.ext hx3).heap hS)
  have HB3 := Lib.hid (HP2.out.ext hx3)
  clear hS hx3 c0 c1 c2 d0 d1 d2
  obtain ⟨c0, c1, c2, d0, d1, d2⟩ := HB3.out.read
  go_wp2_with fail
  go_end0
  exact ⟨rfl, _, _, _, _, _, HP3.out⟩
set_option maxRecDepth 100000 in
set_option maxHeartbeats 3200000 in
theorem cleanStep_E (v w : World) (g : Nat) (R : Option Addr) (n q : Nat) (keep : Int) (Y : Option Addr) (m cY : Nat) (c : List HC) (p k : Nat) (r : List Ts) (hr : rightH ⟨c, keep⟩ = true) (hp : p < c.length) (hk5 : k ≤ 5) (hm2 : m ≤ 30000) (hL : k ≠ 0 ∧ ¬ k ≤ c[p].it.length) (h : CR v w g R n q keep Y m cY c (((p : Int), k) :: r)) :
    Calls Try.prog 25 #[.pointer (some ⟨g, 0, none⟩)] w fun e w' => e = .returned (.tuple #[]) ∧ ∃ R' q' Y' m' cY', CR v w' g R' n q' keep Y' m' cY' (c.set p ⟨0, true, false, []⟩) r := by
  have hn2 := (rightH_iff hr).1.1.2
  have hn := h.hc.1.1
  have hm : m = r.length + 1 := h.len
  obtain ⟨y, rfl, hy⟩ := own_some h.own (by omega)
  have hcell : w.cell? ⟨y, r.length, none⟩ = some (.complex .f64 (fN p) (fN k)) := by
    rw [h.own.cellAt r.length (by omega), tkR_cons, List.map_append, List.getElem?_append_right (by rw [List.length_map, tkR_len]; exact Nat.le_refl _), List.length_map, tkR_len, Nat.sub_self]
    rfl
  have HP := Lib.hid h.pop
  obtain ⟨a0, a1, a2, b0, b1, b2⟩ := h.read
  have hw : IntKind.i64.wrap ((m : Int) - 1) = (r.length : Int) := by rw [IntKind.wrap_i64]; omega
  have hrl : (r.length : Int) < (m : Int) := by omega
  have hrl2 : r.length < m := by omega
  have hcap := (own_sl h.own).2.1
  have hcm : cY ≤ maxLen := (own_sl h.own).2.2.1
  unfold maxLen at hcm
  have hrc : (r.length : Int) ≤ (cY : Int) := by omega
  have hrc2 : r.length ≤ cY := by omega
  have HGE := Lib.hid h.ge
  have HY := Lib.hid hy
  have HM := Lib.hid hm
  have HN := Lib.hid hn
  have HRT := Lib.hid hr
  have HKI := Lib.hid (fun w' (hA : HcSl w' R n q c) => cleanKind_any R c n q p k keep w' hp (by omega) hk5 hA)
  rw [show kindV c[p] p k = .iface 79 (.int .i64 p) from by unfold kindV; rw [if_neg (fun h => hL.1 h.1), if_neg hL.1, if_neg hL.2]] at HKI
  obtain ⟨W1, hW1⟩ : ∃ W1, w.setCell ⟨g, 2, none⟩ (.slice (some ⟨y, 0, none⟩) r.length cY) = W1 := ⟨_, rfl⟩
  rw [hW1] at HP
  obtain ⟨c0, c1, c2, d0, d1, d2⟩ := HP.out.read
  have t0 := fun w => isEL (.int .i64 p) w
  have t1 := fun w => isEB (.int .i64 p) w
  have t2 := fun w => isET (.int .i64 p) w
  have t3 := fun w => isEE (.int .i64 p) w
  clear hL
  clear h hr hm hy hn
  generalize hL : r.length = rl at *
  have HL := Lib.hid hL
  clear hL
  go_enter Try.func25, Try.ntmps25
  go_wp2_with (go_at_call 36; refine stop_here ?_)
  refine stop_on ?_
  clear hW1 a0 a1 a2 b0 b1 b2 hcell
  refine (HKI.out W1 (HP.out.hc.sl HP.out.ex)).mono ?_
  rintro e w2 ⟨rfl, hx2⟩
  have HP2 := Lib.hid (HP.out.ext hx2)
  clear hx2 c0 c1 c2 d0 d1 d2
  obtain ⟨c0, c1, c2, d0, d1, d2⟩ := HP2.out.read
  go_wp2_with (go_at_call 39; refine stop_here ?_)
  refine stop_on ?_
  refine (cleanWithout_any v R c n q p keep w2 HP2.out.ex hp (by have := HN.out; omega) HP2.out.hc).mono ?_
  rintro e w3 ⟨S, d, rfl, hS, hx3⟩
  have HP3 := Lib.hid ((HP2.out.ext hx3).heap hS)
  have HB3 := Lib.hid (HP2.out.ext hx3)
  clear hS hx3 c0 c1 c2 d0 d1 d2
  obtain ⟨c0, c1, c2, d0, d1, d2⟩ := HB3.out.read
  go_wp2_with fail
  go_end0
  exact ⟨rfl, _, _, _, _, _, HP3.out⟩
set_option maxRecDepth 100000 in
set_option maxHeartbeats 3200000 in
theorem cleanStep_B (v w : World) (g : Nat) (R : Option Addr) (n q : Nat) (keep : Int) (Y : Option Addr) (m cY : Nat) (c : List HC) (p k : Nat) (r : List Ts) (hr : rightH ⟨c, keep⟩ = true) (hp : p < c.length) (hk5 : k ≤ 5) (hm2 : m ≤ 30000) (hL : k = 0 ∧ ¬ (c[p].ref ≠ 1 ∨ c[p].leaf = true)) (h : CR v w g R n q keep Y m cY c (((p : Int), k) :: r)) :
    Calls Try.prog 25 #[.pointer (some ⟨g, 0, none⟩)] w fun e w' => e = .returned (.tuple #[]) ∧ ∃ R' q' Y' m' cY', CR v w' g R' n q' keep Y' m' cY' c (((p : Int), 1) :: r) := by
  have hn2 := (rightH_iff hr).1.1.2
  have hn := h.hc.1.1
  have hm : m = r.length + 1 := h.len
  obtain ⟨y, rfl, hy⟩ := own_some h.own (by omega)
  have hcell : w.cell? ⟨y, r.length, none⟩ = some (.complex .f64 (fN p) (fN k)) := by
    rw [h.own.cellAt r.length (by omega), tkR_cons, List.map_append, List.getElem?_append_right (by rw [List.length_map, tkR_len]; exact Nat.le_refl _), List.length_map, tkR_len, Nat.sub_self]
    rfl
  have HP := Lib.hid h.pop
  obtain ⟨a0, a1, a2, b0, b1, b2⟩ := h.read
  have hw : IntKind.i64.wrap ((m : Int) - 1) = (r.length : Int) := by rw [IntKind.wrap_i64]; omega
  have hrl : (r.length : Int) < (m : Int) := by omega
  have hrl2 : r.length < m := by omega
  have hcap := (own_sl h.own).2.1
  have hcm : cY ≤ maxLen := (own_sl h.own).2.2.1
  unfold maxLen at hcm
  have hrc : (r.length : Int) ≤ (cY : Int) := by omega
  have hrc2 : r.length ≤ cY := by omega
  have HGE := Lib.hid h.ge
  have HY := Lib.hid hy
  have HM := Lib.hid hm
  have HN := Lib.hid hn
  have HRT := Lib.hid hr
  have HKI := Lib.hid (fun w' (hA : HcSl w' R n q c) => cleanKind_any R c n q p k keep w' hp (by omega) hk5 hA)
  rw [show kindV c[p] p k = .iface 76 (.agg #[]) from by unfold kindV; rw [if_neg (fun h => hL.2 h.2), if_pos hL.1]] at HKI
  obtain ⟨W1, hW1⟩ : ∃ W1, w.setCell ⟨g, 2, none⟩ (.slice (some ⟨y, 0, none⟩) r.length cY) = W1 := ⟨_, rfl⟩
  rw [hW1] at HP
  obtain ⟨c0, c1, c2, d0, d1, d2⟩ := HP.out.read
  have t0 := fun w => isBL (.agg #[]) w
  have t1 := fun w => isBB (.agg #[]) w
  obtain ⟨rfl, -⟩ := hL
  clear h hr hm hy hn
  generalize hL : r.length = rl at *
  have HL := Lib.hid hL
  clear hL
  go_enter Try.func25, Try.ntmps25
  go_wp2_with (go_at_call 36; refine stop_here ?_)
  refine stop_on ?_
  clear hW1 a0 a1 a2 b0 b1 b2 hcell
  refine (HKI.out W1 (HP.out.hc.sl HP.out.ex)).mono ?_
  rintro e w2 ⟨rfl, hx2⟩
  have HP2 := Lib.hid (HP.out.ext hx2)
  clear hx2 c0 c1 c2 d0 d1 d2
  obtain ⟨c0, c1, c2, d0, d1, d2⟩ := HP2.out.read
  have HO := Lib.hid (fun w' => todoOn_is p 0 w' (by omega) (by omega))
  go_wp2_with fail
  have HP3 := Lib.hid (HP2.out.ext ((Ext.refl w2).alloc (.cells #[] 76)))
  generalize hW3 : World.alloc w2 (.cells #[] 76) = w3 at *
  clear hW3 c0 c1 c2 d0 d1 d2
  obtain ⟨c0, c1, c2, d0, d1, d2⟩ := HP3.out.read
  have HZ := Lib.hid (show v.heap.size ≤ w3.heap.size from HP3.out.ex.size)
  have HT := Lib.hid (show tkR (((p : Int), 1) :: r) = tkR r ++ [ofT p 1] from tkR_cons p 1 r)
  have q0 := ((HP3.out.ext ((Ext.refl w3).alloc (.cells #[.complex .f64 (fN p) (fN 1)] 48))).read).2.2.1
  go_region_law
    (first
      | ((go_simp
          go_at_call 38
          refine (HO.out _).mono ?_
          rintro e w4 ⟨rfl, rfl⟩))
      | ((refine step_app_tk ?_ ?_ ?_ ?_ v.heap.size ?_ rl (tkR r) ?_ ?_ (some ⟨w3.heap.size, 0, none⟩) 1 1 [ofT p 1] ?_ ?_ ?_ ?_ ?_ ?_
          rfl
          rotate_left 2
          rfl
          rotate_left 1
          rfl
          (first | exact own_ext HP3.out.own (((Ext.refl w3).alloc _).drew) | exact own_ext HP3.out.own (((Ext.refl w3).drew).alloc _))
          rfl
          rfl
          (first | exact sl_lit' rfl _ 1 [cxv (ofT p 1)] (by unfold maxLen; omega) | exact (sl_lit' rfl _ 1 [cxv (ofT p 1)] (by unfold maxLen; omega)).ext (Ext.refl _).drew)
          omega
          (first | (have := HZ.out; simp; omega))
          intro A5 c5 w5 hown hg
          have HO5 := Lib.hid hown
          have HG5 := Lib.hid (show w3.grownBy w5 (some y) from by
            first
            | exact grown_trans (grown_of (((Ext.refl w3).alloc _).drew)) hg
            | exact grown_trans (grown_of (((Ext.refl w3).drew).alloc _)) hg
           )
          have HBX := Lib.hid ((HP3.out.box.grown HG5.out (fun e => HP3.out.apart (Option.some.inj e))).bx)
          have z0 := HBX.out.at 2 _ rfl
          have z1 := HBX.out.free 2
          clear hown hg))
      | fail)
  all_goals
    go_wp2_with fail
    go_end0
    exact ⟨rfl, _, _, _, _, _, HP3.out.app (t' := ((p : Int), 1) :: r) (by have := HL.out; simp; omega) (by rw [HT.out]; exact HO5.out) HG5.out (by omega)⟩
set_option maxRecDepth 100000 in
set_option maxHeartbeats 3200000 in
theorem cleanStep_T (v w : World) (g : Nat) (R : Option Addr) (n q : Nat) (keep : Int) (Y : Option Addr) (m cY : Nat) (c : List HC) (p k : Nat) (r : List Ts) (hr : rightH ⟨c, keep⟩ = true) (hp : p < c.length) (hk5 : k ≤ 5) (hm2 : m ≤ 30000) (j : Nat) (hj : (c[p].it.getD (k - 1) (0, 0)).2 = (j : Int)) (hL : k ≠ 0 ∧ k ≤ c[p].it.length) (h : CR v w g R n q keep Y m cY c (((p : Int), k) :: r)) :
    Calls Try.prog 25 #[.pointer (some ⟨g, 0, none⟩)] w fun e w' => e = .returned (.tuple #[]) ∧ ∃ R' q' Y' m' cY', CR v w' g R' n q' keep Y' m' cY' c (((j : Int), 0) :: ((p : Int), k + 1) :: r) := by
  have hn2 := (rightH_iff hr).1.1.2
  have hn := h.hc.1.1
  have hm : m = r.length + 1 := h.len
  obtain ⟨y, rfl, hy⟩ := own_some h.own (by omega)
  have hcell : w.cell? ⟨y, r.length, none⟩ = some (.complex .f64 (fN p) (fN k)) := by
    rw [h.own.cellAt r.length (by omega), tkR_cons, List.map_append, List.getElem?_append_right (by rw [List.length_map, tkR_len]; exact Nat.le_refl _), List.length_map, tkR_len, Nat.sub_self]
    rfl
  have HP := Lib.hid h.pop
  obtain ⟨a0, a1, a2, b0, b1, b2⟩ := h.read
  have hw : IntKind.i64.wrap ((m : Int) - 1) = (r.length : Int) := by rw [IntKind.wrap_i64]; omega
  have hrl : (r.length : Int) < (m : Int) := by omega
  have hrl2 : r.length < m := by omega
  have hcap := (own_sl h.own).2.1
  have hcm : cY ≤ maxLen := (own_sl h.own).2.2.1
  unfold maxLen at hcm
  have hrc : (r.length : Int) ≤ (cY : Int) := by omega
  have hrc2 : r.length ≤ cY := by omega
  have HGE := Lib.hid h.ge
  have HY := Lib.hid hy
  have HM := Lib.hid hm
  have HN := Lib.hid hn
  have HRT := Lib.hid hr
  have HKI := Lib.hid (fun w' (hA : HcSl w' R n q c) => cleanKind_any R c n q p k keep w' hp (by omega) hk5 hA)
  rw [show kindV c[p] p k = .iface 78 (.int .i64 j) from by unfold kindV; rw [if_neg (fun h => hL.1 h.1), if_neg hL.1, if_pos hL.2, hj]] at HKI
  obtain ⟨W1, hW1⟩ : ∃ W1, w.setCell ⟨g, 2, none⟩ (.slice (some ⟨y, 0, none⟩) r.length cY) = W1 := ⟨_, rfl⟩
  rw [hW1] at HP
  obtain ⟨c0, c1, c2, d0, d1, d2⟩ := HP.out.read
  have t0 := fun w => isTL (.int .i64 j) w
  have t1 := fun w => isTB (.int .i64 j) w
  have t2 := fun w => isTT (.int .i64 j) w
  clear hL hj
  clear h hr hm hy hn
  generalize hL : r.length = rl at *
  have HL := Lib.hid hL
  clear hL
  go_enter Try.func25, Try.ntmps25
  go_wp2_with (go_at_call 36; refine stop_here ?_)
  refine stop_on ?_
  clear hW1 a0 a1 a2 b0 b1 b2 hcell
  refine (HKI.out W1 (HP.out.hc.sl HP.out.ex)).mono ?_
  rintro e w2 ⟨rfl, hx2⟩
  have HP2 := Lib.hid (HP.out.ext hx2)
  clear hx2 c0 c1 c2 d0 d1 d2
  obtain ⟨c0, c1, c2, d0, d1, d2⟩ := HP2.out.read
  have HO := Lib.hid (fun w' => todoOn_is p k w' (by omega) (by omega))
  have HOF := Lib.hid (fun w' => todoOf_any j 0 w')
  go_wp2_with fail
  have HP3 := Lib.hid (HP2.out)
  clear c0 c1 c2 d0 d1 d2
  obtain ⟨c0, c1, c2, d0, d1, d2⟩ := HP3.out.read
  have HZ := Lib.hid (show v.heap.size ≤ w2.heap.size from HP3.out.ex.size)
  have HT := Lib.hid (show tkR (((j : Int), 0) :: ((p : Int), k + 1) :: r) = tkR r ++ [ofT p (k + 1), ofT j 0] from by rw [tkR_cons, tkR_cons, List.append_assoc]; rfl)
  have q0 := ((HP3.out.ext ((Ext.refl w2).alloc (.cells #[.complex .f64 (fN p) (fN (k + 1)), .complex .f64 (fN j) (fN 0)] 48))).read).2.2.1
  go_region_law
    (first
      | ((go_simp
          go_at_call 38
          refine (HO.out _).mono ?_
          rintro e w4 ⟨rfl, rfl⟩))
      | ((go_simp
          go_at_call 17
          refine (HOF.out _).mono ?_
          rintro e w4 ⟨rfl, rfl⟩))
      | ((refine step_app_tk ?_ ?_ ?_ ?_ v.heap.size ?_ rl (tkR r) ?_ ?_ (some ⟨w2.heap.size, 0, none⟩) 2 2 [ofT p (k + 1), ofT j 0] ?_ ?_ ?_ ?_ ?_ ?_
          rfl
          rotate_left 2
          rfl
          rotate_left 1
          rfl
          (first | exact own_ext HP3.out.own (((Ext.refl w2).alloc _).drew) | exact own_ext HP3.out.own (((Ext.refl w2).drew).alloc _))
          rfl
          rfl
          (first | exact sl_lit' rfl _ 2 [cxv (ofT p (k + 1)), cxv (ofT j 0)] (by unfold maxLen; omega) | exact (sl_lit' rfl _ 2 [cxv (ofT p (k + 1)), cxv (ofT j 0)] (by unfold maxLen; omega)).ext (Ext.refl _).drew)
          omega
          (first | (have := HZ.out; simp; omega))
          intro A5 c5 w5 hown hg
          have HO5 := Lib.hid hown
          have HG5 := Lib.hid (show w2.grownBy w5 (some y) from by
            first
            | exact grown_trans (grown_of (((Ext.refl w2).alloc _).drew)) hg
            | exact grown_trans (grown_of (((Ext.refl w2).drew).alloc _)) hg
           )
          have HBX := Lib.hid ((HP3.out.box.grown HG5.out (fun e => HP3.out.apart (Option.some.inj e))).bx)
          have z0 := HBX.out.at 2 _ rfl
          have z1 := HBX.out.free 2
          clear hown hg))
      | fail)
  all_goals
    go_wp2_with fail
    go_end0
    exact ⟨rfl, _, _, _, _, _, HP3.out.app (t' := ((j : Int), 0) :: ((p : Int), k + 1) :: r) (by have := HL.out; simp; omega) (by rw [HT.out]; exact HO5.out) HG5.out (by omega)⟩
end Go.Proofs.Ytlbhcakjcklmgaa
