/- Walks of package todo's Print, takenOne, taken and Parse, at the example. -/
import Derived.Test.YticppegploniaaaTdB
namespace Go.Proofs.Yticppegploniaaa
open Go.RowKit
attribute [local go_sem ↓] Go.wp_at_zero Go.wp_at_succ

/-- A task's bytes, and a row's. -/
def tkB (t : Tk) : List UInt8 := putL (plN t.1) 2 ++ putL (plN t.2) 1
def printT (l : List Tk) : List UInt8 := putL l.length 2 ++ l.flatMap tkB
theorem tkB_len (t : Tk) : (tkB t).length = 3 := by unfold tkB; simp [putL_length]
theorem tkBs_len (l : List Tk) : (l.flatMap tkB).length = 3 * l.length := by
  induction l with
  | nil => rfl
  | cons a l ih => simp only [List.flatMap_cons, List.length_append, tkB_len, ih, List.length_cons]; omega
theorem printT_len (l : List Tk) : (printT l).length = 2 + 3 * l.length := by unfold printT; rw [List.length_append, putL_length, tkBs_len]
/-- A task whose parts are whole numbers that have bytes. -/
def wkT (t : Tk) : Prop := ∃ p k : Nat, p < 2600 ∧ k < 256 ∧ isWh t.1 p ∧ isWh t.2 k
theorem putS_2 {n : Nat} (h : n < 65536) : putS n 2 = putL n 2 := putS_some (m := 2) (by omega) (by omega) (by omega)
theorem putS_1 {n : Nat} (h : n < 256) : putS n 1 = putL n 1 := putS_some (m := 1) (by omega) (by omega) (by omega)
theorem app_u8 (w : World) {ops : Array Oper} {rest : List Oper} {o : Oper} {a : Act} {Q : Exit → Act → World → Prop} (hgd : o.guard = none) (s x : Operand)
    (ho : o.op = .call { callee := .builtin .append, args := #[s, x], argTypes := #[32, 32] })
    (B : Nat) (v : Value) (n : Nat) (l : List UInt8) (hs : a.eval s = v) (hown : w.ownsRow B 5 1 v n (l.map bv))
    (A : Option Addr) (m c : Nat) (k : List UInt8) (hx : a.eval x = .slice A m c) (hl : k.length = m) (hS : Sl w A m c (k.map bv))
    (hsz : n + m ≤ 1000000) (hB : B ≤ w.heap.size)
    (h : ∀ A' c' w', w'.ownsRow B 5 1 (.slice A' (n + m) c') (n + m) ((l ++ k).map bv) → w.grownBy w' v.ownBlock → wpList Try.prog ops Q rest (a.put o.dst (.slice A' (n + m) c')) w') : wpList Try.prog ops Q (o :: rest) a w := by
  refine wpList_app_sl w hgd s x 32 ho B 5 (.int .u8 0) 1 1 Try.underlying32 info5 rfl (by omega) v n (l.map bv) hs hown A m c (k.map bv) hx (by simp [hl]) hS (fun u hu => by obtain ⟨_, _, rfl⟩ := List.mem_map.1 hu; rfl) (by unfold maxLen; omega) (by omega) hB ?_
  intro A' c' w' h1 h2
  rw [← List.map_append] at h1
  exact h A' c' w' h1 h2
set_option maxRecDepth 100000 in
set_option maxHeartbeats 1600000 in
theorem todoPrint_c (A : Option Addr) (l : List Tk) (m c : Nat) (w : World) (hall : ∀ k (hk : k < l.length), wkT l[k]) (hm : m = l.length) (hb : m ≤ 60000) (hA : Sl w A m c (l.map cxv)) (hR : Calls Try.prog 12 #[.slice A m c, .int .i64 2000] w fun e w' => e = .returned (.bool true) ∧ Ext w w') :
    Calls Try.prog 10 #[.slice A m c] w fun e w' => ∃ S n d, e = .returned (.slice S n d) ∧ n = (printT l).length ∧ Sl w' S n d ((printT l).map bv) ∧ Ext w w' := by
  have HA := Lib.hid hA
  have HM := Lib.hid hm
  have HALL := Lib.hid hall
  have HR := Lib.hid hR
  clear hR
  have HP0 := Lib.hid (fun w => show Calls Try.prog 14 #[.int .i64 m, .int .i64 2] w fun e w' => ∃ v, e = .returned v ∧ w'.ownsRow w.heap.size 5 1 v 2 ((putL m 2).map bv) ∧ Below w.heap.size w w' from by
    have h := numPut_own m 2 w (by omega) (by omega)
    rw [putS_2 (by omega), putL_length] at h
    exact h)
  clear hA hm hall
  go_enter Try.func10, Try.ntmps10
  go_wp2_with (first | (go_at_call 12; refine HR.out.mono ?_; rintro e w0 ⟨rfl, hx0⟩; have HX00 := Lib.hid hx0; clear hx0) | (go_at_call 14; refine stop_here ?_))
  refine stop_on ?_
  have HA0 := Lib.hid (HA.out.ext HX00.out)
  refine (HP0.out w0).mono ?_
  rintro e w1 ⟨v, rfl, ho, hx⟩
  obtain ⟨S0, d0, rfl⟩ := own_shape ho
  have HO0 := Lib.hid ho
  have HX0 := Lib.hid (show Ext w0 w1 from hx)
  clear ho hx
  go_wp2_with fail
  go_loopw [3, 14] (fun s i wr => ∃ k : Nat, k ≤ m ∧ i = .int .i64 k ∧ ∃ S d, s = .slice S (2 + 3 * k) d ∧ wr.ownsRow w0.heap.size 5 1 (.slice S (2 + 3 * k) d) (2 + 3 * k) ((putL m 2 ++ (l.take k).flatMap tkB).map bv) ∧ Ext w0 wr) (fun _ i _ => m - (intOf i).toNat)
  case atStart => exact ⟨0, Nat.zero_le _, rfl, S0, d0, rfl, by simpa using HO0.out, HX0.out⟩
  case round =>
    obtain ⟨k, hk, rfl, S, d, rfl, ho, hx⟩ := hrel
    have HO := Lib.hid ho
    have HX := Lib.hid hx
    rcases Nat.lt_or_ge k m with hlt | hlt
    · have hkl : k < l.length := by rw [← HM.out]; exact hlt
      obtain ⟨b, off, rfl, _, hc⟩ := (HA0.out.ext hx).cells.tk hkl
      have hck := hc k hkl
      have hki : (k : Int) < (m : Int) := by omega
      obtain ⟨p, s, hp, hs, h1, h2⟩ := HALL.out k hkl
      have HT := Lib.hid (show (l.take (k + 1)).flatMap tkB = ((l.take k).flatMap tkB ++ putL p 2) ++ putL s 1 from by
        rw [List.take_succ_eq_append_getElem hkl, List.flatMap_append]
        simp only [List.flatMap_cons, List.flatMap_nil, List.append_nil]
        unfold tkB
        rw [plN_is hp h1, plN_is (by omega) h2, List.append_assoc])
      have HPL := Lib.hid (fun w' => todoPlace_any l[k] p w' hp h1)
      have HDN := Lib.hid (fun w' => todoDone_any l[k] s w' (by omega) h2)
      have HP2 := Lib.hid (fun w' => show Calls Try.prog 14 #[.int .i64 p, .int .i64 2] w' fun e w2 => ∃ v, e = .returned v ∧ w2.ownsRow w'.heap.size 5 1 v 2 ((putL p 2).map bv) ∧ Below w'.heap.size w' w2 from by
        have h := numPut_own p 2 w' (by omega) (by omega)
        rw [putS_2 (by omega), putL_length] at h
        exact h)
      have HP1 := Lib.hid (fun w' => show Calls Try.prog 14 #[.int .i64 s, .int .i64 1] w' fun e w2 => ∃ v, e = .returned v ∧ w2.ownsRow w'.heap.size 5 1 v 1 ((putL s 1).map bv) ∧ Below w'.heap.size w' w2 from by
        have h := numPut_own s 1 w' (by omega) (by omega)
        rw [putS_1 hs, putL_length] at h
        exact h)
      have HRD := Lib.hid (fun w' (hx : Ext w0 w') => (show w'.cell? ⟨b, off + k, none⟩ = some (.complex .f64 l[k].1 l[k].2) from by
        obtain ⟨b', off', e', _, hc'⟩ := (HA0.out.ext hx).cells.tk hkl
        cases e'
        exact hc' k hkl))
      clear hc ho hx h1 h2 HALL
      generalize l[k] = t at *
      obtain ⟨x, y⟩ := t
      simp only at hck HPL HDN HRD
      go_wp2_with (first | (go_at_call 8; refine (HPL.out _).mono ?_; rintro e w2 ⟨rfl, rfl⟩) | (go_at_call 14; refine stop_here ?_))
      refine stop_on ?_
      refine (HP2.out _).mono ?_
      rintro e w2 ⟨v, rfl, ho2, hx2⟩
      obtain ⟨S2, d2, rfl⟩ := own_shape ho2
      have HS2 := Lib.hid (own_sl ho2)
      have HX2 := Lib.hid (show Ext wr w2 from hx2)
      clear ho2 hx2 hck
      go_wp2_with (at_builtin; refine stop_here ?_)
      refine stop_on ?_
      refine app_u8 _ rfl _ _ rfl w0.heap.size _ (2 + 3 * k) _ rfl (own_ext HO.out HX2.out) S2 2 d2 (putL p 2) rfl (putL_length _ _) HS2.out (by omega) (by have h1 := HX.out.size; have h2 := HX2.out.size; omega) ?_
      intro S3 d3 w3 ho3 hg3
      have HX3 := Lib.hid (Ext.app (HX.out.trans HX2.out) (own_ext HO.out HX2.out) (Nat.le_refl _) hg3)
      have HO3 := Lib.hid ho3
      have hck := HRD.out w3 HX3.out
      clear ho3 hg3
      go_wp2_with (first | (go_at_call 9; refine (HDN.out _).mono ?_; rintro e w4 ⟨rfl, rfl⟩) | (go_at_call 14; refine stop_here ?_))
      refine stop_on ?_
      refine (HP1.out _).mono ?_
      rintro e w4 ⟨v, rfl, ho4, hx4⟩
      obtain ⟨S4, d4, rfl⟩ := own_shape ho4
      have HS4 := Lib.hid (own_sl ho4)
      have HX4 := Lib.hid (show Ext w3 w4 from hx4)
      clear ho4 hx4 hck
      go_wp2_with (at_builtin; refine stop_here ?_)
      refine stop_on ?_
      refine app_u8 _ rfl _ _ rfl w0.heap.size _ (2 + 3 * k + 2) _ rfl (own_ext HO3.out HX4.out) S4 1 d4 (putL s 1) rfl (putL_length _ _) HS4.out (by omega) (by have h1 := HX3.out.size; have h2 := HX4.out.size; omega) ?_
      intro S5 d5 w5 ho5 hg5
      have HX5 := Lib.hid (Ext.app (HX3.out.trans HX4.out) (own_ext HO3.out HX4.out) (Nat.le_refl _) hg5)
      rw [show 2 + 3 * k + 2 + 1 = 2 + 3 * (k + 1) by omega] at ho5
      have HO5 := Lib.hid ho5
      clear ho5 hg5
      go_wp2_with fail
      go_roundw
      case rel => exact ⟨k + 1, by omega, by go_num, S5, d5, by rw [show 2 + 3 * k + 2 + 1 = 2 + 3 * (k + 1) by omega], by rw [HT.out]; simpa [List.append_assoc] using HO5.out, HX5.out⟩
      case measure => simp [intOf]; omega
    · obtain rfl : m = k := by omega
      have HN := Lib.hid (show 2 + 3 * m = (printT l).length by rw [printT_len, HM.out])
      have hE : putL m 2 ++ (l.take m).flatMap tkB = printT l := by unfold printT; rw [HM.out, List.take_length]
      rw [hE] at HO
      clear ho hx hlt hE
      go_wp2_with fail
      go_ret
      exact ⟨_, _, _, rfl, HN.out, own_sl HO.out, HX00.out.trans HX.out⟩
theorem takeV_yes {l : List UInt8} {a w z : Int} {n : Nat} (h : takeS l a w = some n) : takeV l a w z = .tuple #[.int .i64 n, .int .i64 (a + w), .int .i64 0] := by unfold takeV; rw [h]
set_option maxHeartbeats 800000 in
theorem takenOne_c (A : Option Addr) (l : List UInt8) (t c p k : Nat) (a : Int) (w : World) (ht : t = l.length) (hS : Sl w A t c (l.map bv)) (ha : 0 ≤ a) (ha2 : a ≤ 1000) (h1 : takeS l a 2 = some p) (h2 : takeS l (a + 2) 1 = some k) :
    Calls Try.prog 21 #[.slice A t c, .int .i64 a] w fun e w' => e = .returned (.tuple #[.complex .f64 (fN p) (fN k), .int .i64 (a + 3), .int .i64 0]) ∧ w = w' := by
  have H1 := Lib.hid (numTake_any A l c a 2 w (by rw [← ht]; exact hS.len) hS.cells (by omega) (by omega))
  have H2 := Lib.hid (numTake_any A l c (a + 2) 1 w (by rw [← ht]; exact hS.len) hS.cells (by omega) (by omega))
  rw [← ht, takeV_yes h1] at H1
  rw [← ht, takeV_yes h2, show a + 2 + 1 = a + 3 by omega] at H2
  clear ht hS h1 h2
  go_enter Try.func21, Try.ntmps21
  go_wp2_with (first | (go_at_call 20; (first | (with_reducible refine (H1.out).mono ?_) | (with_reducible refine (H2.out).mono ?_)); rintro e w2 ⟨rfl, rfl⟩) | (go_at_call 5; refine (todoOf_any p k _).mono ?_; rintro e w2 ⟨rfl, rfl⟩))
  go_ret3
  exact ⟨rfl, rfl⟩
theorem infoC : (Try.prog.info? 24).map (fun i => (i.zero, i.size, i.bytes)) = some (some (.complex .f64 0 0), 1, 16) := by kernel_rfl
theorem app_tk (w : World) {ops : Array Oper} {rest : List Oper} {o : Oper} {a : Act} {Q : Exit → Act → World → Prop} (hgd : o.guard = none) (s x : Operand)
    (ho : o.op = .call { callee := .builtin .append, args := #[s, x], argTypes := #[28, 28] })
    (B : Nat) (v : Value) (n : Nat) (l : List Tk) (hs : a.eval s = v) (hown : w.ownsRow B 24 1 v n (l.map cxv))
    (A : Option Addr) (m c : Nat) (k : List Tk) (hx : a.eval x = .slice A m c) (hl : k.length = m) (hS : Sl w A m c (k.map cxv))
    (hsz : n + m ≤ 1000000) (hB : B ≤ w.heap.size)
    (h : ∀ A' c' w', w'.ownsRow B 24 1 (.slice A' (n + m) c') (n + m) ((l ++ k).map cxv) → w.grownBy w' v.ownBlock → wpList Try.prog ops Q rest (a.put o.dst (.slice A' (n + m) c')) w') : wpList Try.prog ops Q (o :: rest) a w := by
  refine wpList_app_sl w hgd s x 28 ho B 24 (.complex .f64 0 0) 1 16 Try.underlying28 infoC rfl (by omega) v n (l.map cxv) hs hown A m c (k.map cxv) hx (by simp [hl]) hS (cxv_one k) (by unfold maxLen; omega) (by omega) hB ?_
  intro A' c' w' h1 h2
  rw [← List.map_append] at h1
  exact h A' c' w' h1 h2
theorem sl_lit' {w : World} {z : Nat} (hz : z = w.heap.size) (e n : Nat) (xs : List Value) (hn : n ≤ maxLen) : Sl (w.alloc (.cells xs.toArray e)) (some ⟨z, 0, none⟩) n n xs := by subst hz; exact sl_lit w e n xs hn
/-- The parts of the tasks that stand in these bytes, one by one. -/
def partsT (l : List UInt8) (ps : List (Nat × Nat)) : Prop := takeS l 0 2 = some ps.length ∧ ∀ k (hk : k < ps.length), takeS l (2 + 3 * (k : Int)) 2 = some ps[k].1 ∧ takeS l (2 + 3 * (k : Int) + 2) 1 = some ps[k].2
def tasksT (ps : List (Nat × Nat)) : List Tk := ps.map (fun x => ofT x.1 x.2)
set_option maxRecDepth 100000 in
set_option maxHeartbeats 3200000 in
theorem taken_c (A : Option Addr) (l : List UInt8) (ps : List (Nat × Nat)) (t c m : Nat) (w : World) (hm : m = ps.length) (hm2 : m ≤ 100) (ht : t = l.length) (hS : Sl w A t c (l.map bv)) (h : partsT l ps) :
    Calls Try.prog 15 #[.slice A t c, .int .i64 0] w fun e w' => ∃ S d, e = .returned (.tuple #[.slice S m d, .int .i64 (2 + 3 * (m : Int)), .int .i64 0]) ∧ Sl w' S m d ((tasksT ps).map cxv) ∧ Ext w w' := by
  have H0 := Lib.hid (numTake_any A l c 0 2 w (by rw [← ht]; exact hS.len) hS.cells (by omega) (by omega))
  rw [← ht, takeV_yes h.1, show (0 : Int) + 2 = 2 by omega, ← hm] at H0
  have H1 := Lib.hid (fun k (hk : k < ps.length) w' (hx : Ext w w') => takenOne_c A l t c ps[k].1 ps[k].2 (2 + 3 * (k : Int)) w' ht (hS.ext hx) (by omega) (by omega) (h.2 k hk).1 (h.2 k hk).2)
  have HM := Lib.hid hm
  clear ht hS h hm
  go_enter Try.func15, Try.ntmps15
  go_wp2_with (go_at_call 20; refine H0.out.mono ?_; rintro e w1 ⟨rfl, rfl⟩)
  go_loopw [1, 8, 9, 10, 22] (fun a e s z i wr => ∃ k : Nat, k ≤ m ∧ i = .int .i64 k ∧ a = .int .i64 (2 + 3 * (k : Int)) ∧ ∃ S d, s = .slice S k d ∧ wr.ownsRow w.heap.size 24 1 (.slice S k d) k (((tasksT ps).take k).map cxv) ∧ Ext w wr) (fun _ _ _ _ i _ => m - (intOf i).toNat)
  case atStart => exact ⟨0, Nat.zero_le _, rfl, rfl, none, 0, rfl, ⟨rfl, .inl ⟨rfl, rfl⟩⟩, Ext.refl _⟩
  case round =>
    obtain ⟨k, hk, rfl, rfl, S, d, rfl, ho, hx⟩ := hrel
    have HO := Lib.hid ho
    have HX := Lib.hid hx
    clear ho hx
    rcases Nat.lt_or_ge k m with hlt | hlt
    · have hkl : k < ps.length := by rw [← HM.out]; exact hlt
      have hki : (k : Int) < (m : Int) := by omega
      have HC := Lib.hid (H1.out k hkl wr HX.out)
      have HT := Lib.hid (show (tasksT ps).take (k + 1) = (tasksT ps).take k ++ [ofT ps[k].1 ps[k].2] from by
        rw [List.take_succ_eq_append_getElem (by unfold tasksT; simpa using hkl)]; unfold tasksT; simp)
      generalize ps[k] = x at *
      obtain ⟨p, s⟩ := x
      simp only at HC HT
      go_wp2_with (first | (go_at_call 21; refine HC.out.mono ?_; rintro e w2 ⟨rfl, rfl⟩) | (at_builtin; refine stop_here ?_))
      refine stop_on ?_
      have HXA := Lib.hid (show Ext wr (wr.alloc (Obj.cells #[.complex FloatKind.f64 (fN p) (fN s)] 24)) from Ext.alloc (Ext.refl _) _)
      refine app_tk _ rfl _ _ rfl w.heap.size _ k _ rfl (own_ext HO.out HXA.out) _ 1 1 [ofT p s] rfl rfl (sl_lit' rfl 24 1 [cxv (ofT p s)] (by unfold maxLen; omega)) (by omega) (by have h1 := HX.out.size; have h2 := HXA.out.size; omega) ?_
      intro S3 d3 w3 ho3 hg3
      rw [← HT.out] at ho3
      have HX3 := Lib.hid (Ext.app (HX.out.trans HXA.out) (own_ext HO.out HXA.out) (Nat.le_refl _) hg3)
      have HO3 := Lib.hid ho3
      clear ho3 hg3
      go_wp2_with fail
      go_roundw
      case rel => exact ⟨k + 1, by omega, by go_num, by go_num, S3, d3, rfl, HO3.out, HX3.out⟩
      case measure => simp [intOf]; omega
    · obtain rfl : m = k := by omega
      have hE : (tasksT ps).take m = tasksT ps := by rw [List.take_of_length_le]; unfold tasksT; rw [List.length_map, HM.out]; exact Nat.le_refl _
      rw [hE] at HO
      clear hlt hE
      go_wp2_with fail
      go_ret3
      exact ⟨_, _, rfl, own_sl HO.out, HX.out⟩
set_option maxHeartbeats 800000 in
theorem todoParse_c (A : Option Addr) (l : List UInt8) (ps : List (Nat × Nat)) (t c m : Nat) (n : Int) (w : World) (hm : m = ps.length) (hm2 : m ≤ 100) (ht : t = l.length) (hS : Sl w A t c (l.map bv)) (h : partsT l ps)
    (hR : ∀ S d w', Sl w' S m d ((tasksT ps).map cxv) → Calls Try.prog 12 #[.slice S m d, .int .i64 n] w' fun e w2 => e = .returned (.bool true) ∧ Ext w' w2) :
    Calls Try.prog 11 #[.slice A t c, .int .i64 0, .int .i64 n] w fun e w' => ∃ S d, e = .returned (.tuple #[.slice S m d, .int .i64 (2 + 3 * (m : Int)), .int .i64 0]) ∧ Sl w' S m d ((tasksT ps).map cxv) ∧ Ext w w' := by
  have H0 := Lib.hid (taken_c A l ps t c m w hm hm2 ht hS h)
  have HR := Lib.hid hR
  clear hm ht hS h hR
  go_enter Try.func11, Try.ntmps11
  go_wp2_with (first | (go_at_call 15; refine H0.out.mono ?_; rintro e w1 ⟨S, d, rfl, hs, hx⟩; have HS := Lib.hid hs; have HX := Lib.hid hx; clear hs hx) | (go_at_call 12; refine (HR.out _ _ _ HS.out).mono ?_; rintro e w2 ⟨rfl, hx⟩; have HX2 := Lib.hid hx; clear hx))
  go_ret3
  exact ⟨_, _, rfl, HS.out.ext HX2.out, HX.out.trans HX2.out⟩
end Go.Proofs.Yticppegploniaaa
