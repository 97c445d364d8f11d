/- Walks of Ints of layer 7, and of Within and Join of the reference of layer 17. -/
import Derived.Test.YtpdeagndandnjaaDoorNmD
namespace Go.Proofs.YtpdeagndandnjaaDoor
set_option maxRecDepth 20000
open Go.RowKit

def zv (x : Int) : Value := .int .i64 x
theorem zv_one (l : List Int) : ∀ u ∈ l.map zv, u.oneCell' = true := by
  intro u hu
  obtain ⟨_, _, rfl⟩ := List.mem_map.1 hu
  rfl
theorem nv_zv (l : List Nat) : l.map nv = (l.map (fun (n : Nat) => (n : Int))).map zv := by rw [List.map_map]; rfl
theorem Cells.zum {w : World} {A : Option Addr} {l : List Int} (h : Cells w A (l.map zv)) {k : Nat} (hk : k < l.length) :
    ∃ b off, A = some ⟨b, off, none⟩ ∧ b < w.heap.size ∧ ∀ j (hj : j < l.length), w.cell? ⟨b, off + j, none⟩ = some (.int .i64 l[j]) := by
  obtain ⟨b, off, rfl, hlt, hc⟩ := h (by intro e; rw [List.map_eq_nil_iff] at e; subst e; simp at hk)
  exact ⟨b, off, rfl, hlt, fun j hj => hc j _ (by simp [hj, zv])⟩
theorem neJ_at {a b : List Int} (k : Nat) (hk : k < a.length) (hk2 : k < b.length) (h : a[k] ≠ b[k]) : a ≠ b := fun e => by subst e; exact h rfl
theorem eqJ_step {a b : List Int} (k : Nat) (hk : k < a.length) (hk2 : k < b.length) (h : a.take k = b.take k) (h2 : a[k] = b[k]) : a.take (k + 1) = b.take (k + 1) := by
  rw [List.take_succ_eq_append_getElem hk, List.take_succ_eq_append_getElem hk2, h, h2]
def sameJ (a b : List Int) : Bool := decide (a = b)
set_option maxHeartbeats 1600000 in
theorem rowInts_any (A B : Option Addr) (a b : List Int) (n m c d : Nat) (w : World) (hn : n = a.length) (hm : m = b.length) (hA : Sl w A n c (a.map zv)) (hB : Sl w B m d (b.map zv)) :
    Calls Tryd.prog 18 #[.slice A n c, .slice B m d] w fun e w' => e = .returned (.bool (sameJ a b)) ∧ ∃ q, w' = w.drewN q := by
  have hl := hA.len
  unfold maxLen at hl
  have HA := Lib.hid hA.cells
  have HB := Lib.hid hB.cells
  have HNA := Lib.hid hn
  have HNB := Lib.hid hm
  clear hA hB hn hm
  by_cases hnm : n = m
  rotate_left
  · have e2 : ((n : Int) != (m : Int)) = true := bne_iff_ne.2 (by omega)
    have HE := Lib.hid (show sameJ a b = false from decide_eq_false (by
      intro h
      apply hnm
      rw [HNA.out, HNB.out, h]))
    clear hnm
    go_enter Tryd.func18, Tryd.ntmps18
    go_wp2
    go_ret
    exact ⟨ret_bool HE.out.symm, 0, rfl⟩
  subst hnm
  have e2 : ((n : Int) != (n : Int)) = false := by simp
  go_enter Tryd.func18, Tryd.ntmps18
  go_wp2
  go_loopw [5] (fun i wr => ∃ k q : Nat, k ≤ n ∧ i = .int .i64 k ∧ wr = w.drewN q ∧ a.take k = b.take k) (fun i _ => n - (intOf i).toNat)
  case atStart => exact ⟨0, 0, Nat.zero_le _, rfl, rfl, by simp⟩
  case round =>
    obtain ⟨k, q, hk, rfl, rfl, hb⟩ := hrel
    have HBB := Lib.hid hb
    clear hb
    rcases Nat.lt_or_ge k n with hlt | hlt
    · have hka : k < a.length := by rw [← HNA.out]; exact hlt
      have hkb : k < b.length := by rw [← HNB.out]; exact hlt
      obtain ⟨ba, oa, rfl, _, hca⟩ := HA.out.zum hka
      obtain ⟨bb, ob, rfl, _, hcb⟩ := HB.out.zum hkb
      have hcka := hca k hka
      have hckb := hcb k hkb
      have hki : (k : Int) < (n : Int) := by omega
      have HY := Lib.hid (fun (h : a[k] ≠ b[k]) => (show sameJ a b = false from decide_eq_false (neJ_at k hka hkb h)))
      have HN := Lib.hid (fun (h : a[k] = b[k]) => eqJ_step k hka hkb HBB.out h)
      clear hca hcb HBB
      generalize a[k] = x at *
      generalize b[k] = y at *
      by_cases he : x = y
      · have HE := Lib.hid (HN.out he)
        subst he
        have d0 : (x != x) = false := by simp
        clear HY HN
        go_wp2
        go_quiet (fail)
        go_wp2
        go_roundw
        case rel => exact ⟨k + 1, q + nq, by omega, by go_num, rfl, HE.out⟩
        case measure => simp [intOf]; omega
      · have HE := Lib.hid (HY.out he)
        have d0 : (x != y) = true := bne_iff_ne.2 he
        clear HY HN he
        go_wp2
        go_quiet (fail)
        go_wp2
        go_ret
        exact ⟨ret_bool HE.out.symm, q + nq, by rw [World.drewN_drewN]⟩
    · obtain rfl : n = k := by omega
      have HE := Lib.hid (show sameJ a b = true from decide_eq_true (by have h := HBB.out; rwa [HNA.out, List.take_length, ← HNA.out, HNB.out, List.take_length] at h))
      clear hlt
      go_wp2
      go_ret
      exact ⟨ret_bool HE.out.symm, q, rfl⟩

/-- P17.3: is a row the beginning of another one? -/
def withinB (a b : List Int) : Bool := decide (b.take a.length = a) && decide (a.length ≤ b.length)
theorem within_iff {a b : List Int} : withinB a b = true ↔ ∃ c, b = a ++ c := by
  unfold withinB
  rw [Bool.and_eq_true, decide_eq_true_eq, decide_eq_true_eq]
  constructor
  · rintro ⟨h1, h2⟩
    exact ⟨b.drop a.length, by conv => lhs; rw [← List.take_append_drop a.length b, h1]⟩
  · rintro ⟨c, rfl⟩
    simp
set_option maxHeartbeats 1600000 in
theorem ref17Within_any (A B : Option Addr) (a b : List Int) (n m c d : Nat) (w : World) (hn : n = a.length) (hm : m = b.length) (hA : Sl w A n c (a.map zv)) (hB : Sl w B m d (b.map zv)) :
    Calls Tryd.prog 20 #[.slice A n c, .slice B m d] w fun e w' => e = .returned (.bool (withinB a b)) ∧ ∃ q, w' = w.drewN q := by
  have hl := hA.len
  unfold maxLen at hl
  have HA := Lib.hid hA.cells
  have HB := Lib.hid hB.cells
  have HNA := Lib.hid hn
  have HNB := Lib.hid hm
  clear hA hB hn hm
  by_cases hnm : m < n
  · have e2 : decide ((m : Int) < (n : Int)) = true := decide_eq_true (by omega)
    have e3 : decide (m < n) = true := decide_eq_true hnm
    have HE := Lib.hid (show withinB a b = false from by unfold withinB; rw [decide_eq_false (show ¬ a.length ≤ b.length by rw [← HNA.out, ← HNB.out]; omega), Bool.and_false])
    clear hnm
    go_enter Tryd.func20, Tryd.ntmps20
    go_wp2
    go_ret
    exact ⟨ret_bool HE.out.symm, 0, rfl⟩
  have e2 : decide ((m : Int) < (n : Int)) = false := decide_eq_false (by omega)
  have e3 : decide (m < n) = false := decide_eq_false hnm
  go_enter Tryd.func20, Tryd.ntmps20
  go_wp2
  go_loopw [5] (fun i wr => ∃ k q : Nat, k ≤ n ∧ i = .int .i64 k ∧ wr = w.drewN q ∧ a.take k = b.take k) (fun i _ => n - (intOf i).toNat)
  case atStart => exact ⟨0, 0, Nat.zero_le _, rfl, rfl, by simp⟩
  case round =>
    obtain ⟨k, q, hk, rfl, rfl, hb⟩ := hrel
    have HBB := Lib.hid hb
    clear hb
    rcases Nat.lt_or_ge k n with hlt | hlt
    · have hka : k < a.length := by rw [← HNA.out]; exact hlt
      have hkb : k < b.length := by rw [← HNB.out]; omega
      obtain ⟨ba, oa, rfl, _, hca⟩ := HA.out.zum hka
      obtain ⟨bb, ob, rfl, _, hcb⟩ := HB.out.zum hkb
      have hcka := hca k hka
      have hckb := hcb k hkb
      have hki : (k : Int) < (n : Int) := by omega
      have hkm : (k : Int) < (m : Int) := by omega
      have HY := Lib.hid (fun (h : a[k] ≠ b[k]) => (show withinB a b = false from by
        cases hw : withinB a b with
        | false => rfl
        | true =>
          obtain ⟨c, rfl⟩ := within_iff.1 hw
          exact absurd (List.getElem_append_left hka).symm h))
      have HN := Lib.hid (fun (h : a[k] = b[k]) => eqJ_step k hka hkb HBB.out h)
      clear hca hcb HBB
      generalize a[k] = x at *
      generalize b[k] = y at *
      by_cases he : x = y
      · have HE := Lib.hid (HN.out he)
        subst he
        have d0 : (x != x) = false := by simp
        clear HY HN
        go_wp2
        go_quiet (fail)
        go_wp2
        go_roundw
        case rel => exact ⟨k + 1, q + nq, by omega, by go_num, rfl, HE.out⟩
        case measure => simp [intOf]; omega
      · have HE := Lib.hid (HY.out he)
        have d0 : (x != y) = true := bne_iff_ne.2 he
        clear HY HN he
        go_wp2
        go_quiet (fail)
        go_wp2
        go_ret
        exact ⟨ret_bool HE.out.symm, q + nq, by rw [World.drewN_drewN]⟩
    · obtain rfl : n = k := by omega
      have HE := Lib.hid (show withinB a b = true from by
        have h : b.take a.length = a := by have h := HBB.out; rw [HNA.out, List.take_length] at h; exact h.symm
        have h2 : a.length ≤ b.length := by rw [← HNA.out, ← HNB.out]; omega
        unfold withinB
        rw [decide_eq_true h, decide_eq_true h2]
        rfl)
      go_wp2
      go_ret
      exact ⟨ret_bool HE.out.symm, q, rfl⟩
theorem join_bad {l : List Int} (h : joinOk l = false) : joinL l = [] ∧ joinE l = 1 := by unfold joinL joinE; rw [h]; exact ⟨rfl, rfl⟩
theorem join_good {l : List Int} (h : joinOk l = true) : joinL l = (if l = [] then [47] else slashed (l.map textL)) ∧ joinE l = 0 := by unfold joinL joinE; rw [h]; exact ⟨rfl, rfl⟩
theorem textL_len (n : Int) : (textL n).length ≤ 4 := by
  unfold textL
  split
  · rw [List.length_map]; exact digs_len 4 _
  · simp
theorem slashed_len : ∀ (l : List Int), (slashed (l.map textL)).length ≤ 5 * l.length
  | [] => by simp [slashed]
  | x :: l => by
    have h1 := textL_len x
    have h2 := slashed_len l
    rw [List.map_cons, show slashed (textL x :: l.map textL) = 47 :: (textL x ++ slashed (l.map textL)) from by simp [slashed]]
    simp
    omega
theorem join_no {l : List Int} {k : Nat} (hk : k < l.length) (h : textOk l[k] = false ∨ 20 ≤ k) : joinOk l = false := by
  cases hj : joinOk l with
  | false => rfl
  | true =>
    unfold joinOk at hj
    rw [Bool.and_eq_true, decide_eq_true_eq, List.all_eq_true] at hj
    rcases h with h | h
    · rw [hj.2 _ (List.getElem_mem hk)] at h; cases h
    · omega
set_option maxRecDepth 100000 in
set_option maxHeartbeats 1600000 in
theorem ref17Join_any (A : Option Addr) (l : List Int) (n c : Nat) (w : World) (hn : n = l.length) (hb : n ≤ 1000000) (hA : Sl w A n c (l.map zv)) :
    Calls Tryd.prog 17 #[.slice A n c] w fun e w' => ∃ t : ByteArray, e = .returned (.tuple #[.string t, .int .i64 (joinE l : Nat)]) ∧ tx t = joinL l ∧ Ext w w' := by
  have HA := Lib.hid hA.cells
  have HN := Lib.hid hn
  clear hA hn
  rcases Nat.eq_zero_or_pos n with h0 | h0
  · subst h0
    obtain rfl : l = [] := List.eq_nil_of_length_eq_zero HN.out.symm
    clear HN HA
    go_enter Tryd.func17, Tryd.ntmps17
    go_wp2_with fail
    go_ret2
    exact ⟨_, rfl, rfl, Ext.refl w⟩
  have e0 : ((n : Int) == 0) = false := by rw [beq_eq_false_iff_ne]; omega
  have e1 : (n == 0) = false := by rw [beq_eq_false_iff_ne]; omega
  go_enter Tryd.func17, Tryd.ntmps17
  go_wp2_with fail
  go_loopw [4, 5] (fun s i wr => ∃ k : Nat, ∃ t : ByteArray, k ≤ n ∧ k ≤ 20 ∧ i = .int .i64 k ∧ s = .string t ∧ tx t = slashed ((l.take k).map textL) ∧ (l.take k).all textOk = true ∧ Ext w wr) (fun _ i _ => n - (intOf i).toNat)
  case atStart => exact ⟨0, _, Nat.zero_le _, Nat.zero_le _, rfl, rfl, rfl, rfl, Ext.refl w⟩
  case round =>
    obtain ⟨k, t, hk, hk20, rfl, rfl, ht, hok, hx⟩ := hrel
    have HT := Lib.hid ht
    have HOK := Lib.hid hok
    have HX := Lib.hid hx
    clear ht hok
    have hts : t.size ≤ 100 := by
      have h := slashed_len (l.take k)
      rw [← HT.out, tx_len, List.length_take] at h
      omega
    rcases Nat.lt_or_ge k n with hlt | hlt
    · have hkl : k < l.length := by rw [← HN.out]; exact hlt
      obtain ⟨b, off, rfl, hbl, hc⟩ := (HA.out.ext hx).zum hkl
      have hck := hc k hkl
      have hki : (k : Int) < (n : Int) := by omega
      have HTK := Lib.hid (List.take_succ_eq_append_getElem hkl)
      have HNO := Lib.hid (fun (h : textOk l[k] = false ∨ 20 ≤ k) => join_bad (join_no hkl h))
      have HTX := Lib.hid (ref17Text_any l[k] wr)
      have htl := textL_len l[k]
      clear hc hx
      generalize l[k] = x at *
      cases hg : textOk x
      · have HE := Lib.hid (HNO.out (.inl hg))
        have he : textE x = 1 := (text_bad hg).2
        rw [he] at HTX
        clear hg he
        go_wp2_with (go_at_call 13; refine HTX.out.mono ?_; rintro e w2 ⟨t2, rfl, ht2, hx2⟩; have HX2 := Lib.hid (HX.out.trans hx2); clear ht2 hx2)
        go_ret2
        exact ⟨_, by rw [HE.out.2]; rfl, HE.out.1.symm, HX2.out⟩
      · have he : textE x = 0 := (text_good hg).2
        rw [he] at HTX
        rcases Nat.lt_or_ge k 20 with h20 | h20
        · have m1 : decide ((20 : Int) ≤ (k : Int)) = false := decide_eq_false (by omega)
          have m2 : decide (20 ≤ k) = false := decide_eq_false (by omega)
          have HAL := Lib.hid (show (l.take (k + 1)).all textOk = true from by rw [HTK.out, List.all_append, HOK.out]; simp [hg])
          clear hg he
          go_wp2_with (go_at_call 13; refine HTX.out.mono ?_; rintro e w2 ⟨t2, rfl, ht2, hx2⟩; have HT2 := Lib.hid ht2; have HX2 := Lib.hid (HX.out.trans hx2); have hs2 : t2.size ≤ 4 := (by rw [← tx_len, ht2]; exact htl); clear ht2 hx2)
          have HTN := Lib.hid (show tx (t ++ ⟨#[47]⟩ ++ t2) = slashed ((l.take (k + 1)).map textL) from by
            rw [tx_append, tx_append, HT.out, HTK.out, List.map_append, slashed_app, HT2.out]
            simp [slashed, tx])
          go_roundw
          case rel => exact ⟨k + 1, _, by omega, by omega, by go_num, rfl, HTN.out, HAL.out, HX2.out⟩
          case measure => simp [intOf]; omega
        · have HE := Lib.hid (HNO.out (.inr h20))
          have m1 : decide ((20 : Int) ≤ (k : Int)) = true := decide_eq_true (by omega)
          have m2 : decide (20 ≤ k) = true := decide_eq_true h20
          clear hg he
          go_wp2_with (go_at_call 13; refine HTX.out.mono ?_; rintro e w2 ⟨t2, rfl, ht2, hx2⟩; have HX2 := Lib.hid (HX.out.trans hx2); clear ht2 hx2)
          go_ret2
          exact ⟨_, by rw [HE.out.2]; rfl, HE.out.1.symm, HX2.out⟩
    · obtain rfl : k = n := by omega
      have HE := Lib.hid (join_good (show joinOk l = true from by
        have h := HOK.out
        rw [HN.out, List.take_length] at h
        unfold joinOk
        rw [h, decide_eq_true (by rw [← HN.out]; exact hk20)]
        rfl))
      have HT2 := Lib.hid (show tx t = joinL l from by
        rw [HE.out.1, if_neg (by intro e; subst e; have := HN.out; simp at this; omega), HT.out, HN.out, List.take_length])
      go_wp2_with fail
      go_ret2
      exact ⟨t, by rw [HE.out.2]; rfl, HT2.out, HX.out⟩
end Go.Proofs.YtpdeagndandnjaaDoor
