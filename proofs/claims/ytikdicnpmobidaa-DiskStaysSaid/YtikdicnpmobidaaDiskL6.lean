/- The walk of DiskStays. -/
import Derived.Test.YtikdicnpmobidaaDiskL4
import Derived.Test.YtikdicnpmobidaaDiskW10
namespace Go.Proofs.Ytikdicnpmobidaa
open Go.RowKit
attribute [local go_sem ↓] Go.wp_at_zero Go.wp_at_succ

/-- Is what stands in a block what it was, or what one of the writes to it says? -/
def isS (x c : ByteArray) (l : List Wr) (i : Nat) : Bool := (c.toList == x.toList) || l.any (fun w => (w.1 == (i : Int)) && (w.2.toList == c.toList))
theorem isS_nil (x c : ByteArray) (i : Nat) : isS x c [] i = (c.toList == x.toList) := by simp [isS]
theorem isS_snoc (x c : ByteArray) (l : List Wr) (w : Wr) (i : Nat) : isS x c (l ++ [w]) i = (isS x c l i || ((w.1 == (i : Int)) && (w.2.toList == c.toList))) := by
  simp [isS, Bool.or_assoc]
theorem isS_take (x c : ByteArray) (l : List Wr) (i q : Nat) (h : q < l.length) : isS x c (l.take (q + 1)) i = (isS x c (l.take q) i || ((l[q].1 == (i : Int)) && (l[q].2.toList == c.toList))) := by
  rw [List.take_succ_eq_append_getElem h, isS_snoc]
theorem write1_get {b : List ByteArray} {w : Wr} {i : Nat} (h : i < b.length) (h' : i < (write1 b w).length) : (write1 b w)[i] = if w.1 = (i : Int) then w.2 else b[i] := by
  unfold write1 at h' ⊢
  by_cases hh : hasS b.length w.1 = true
  · simp only [hh, if_true] at h' ⊢
    have h2 := hh
    unfold hasS at h2
    simp only [Bool.and_eq_true, decide_eq_true_eq] at h2
    rw [List.getElem_set]
    by_cases e : w.1 = (i : Int)
    · rw [if_pos (by omega), if_pos e]
    · rw [if_neg (by omega), if_neg e]
  · simp only [hh, if_false, Bool.false_eq_true] at h' ⊢
    exact (if_neg (fun e => hh (by rw [e]; exact hasS_nat h))).symm
theorem writeL_get : ∀ (m : List Wr) (b : List ByteArray) (i : Nat) (h : i < b.length) (h' : i < (writeL b m).length), (writeL b m)[i] = lastW m (i : Int) b[i]
  | [], b, i, h, h' => rfl
  | w :: m, b, i, h, h' => by
    have h1 : i < (write1 b w).length := by rw [write1_length]; exact h
    have := writeL_get m (write1 b w) i h1 h'
    rw [write1_get h h1] at this
    exact this
theorem lastW_is : ∀ (m : List Wr) (i : Int) (s : ByteArray), lastW m i s = s ∨ ∃ w ∈ m, w.1 = i ∧ w.2 = lastW m i s
  | [], i, s => .inl rfl
  | w :: m, i, s => by
    show lastW m i (if w.1 = i then w.2 else s) = s ∨ _
    rcases lastW_is m i (if w.1 = i then w.2 else s) with h | ⟨v, hv, h1, h2⟩
    · by_cases e : w.1 = i
      · rw [if_pos e] at h
        exact .inr ⟨w, by simp, e, by show w.2 = lastW m i (if w.1 = i then w.2 else s); rw [if_pos e, h]⟩
      · rw [if_neg e] at h ⊢
        exact .inl h
    · exact .inr ⟨v, by simp [hv], h1, h2⟩
theorem kept_mem : ∀ (l : List Wr) (ks : List Bool) (w : Wr), w ∈ kept l ks → w ∈ l
  | x :: l, true :: ks, w, h => by
    simp only [kept, List.mem_cons] at h ⊢
    rcases h with h | h
    · exact .inl h
    · exact .inr (kept_mem l ks w h)
  | x :: l, false :: ks, w, h => by simp only [kept, List.mem_cons] at h ⊢; exact .inr (kept_mem l ks w h)
  | [], _, w, h => by simp [kept] at h
  | x :: l, [], w, h => by simp [kept] at h
theorem kept_all_takes {n : Nat} {l : List Wr} (h : l.all (takesS n) = true) (ks : List Bool) : (kept l ks).all (takesS n) = true := by
  rw [List.all_eq_true] at h ⊢
  exact fun w hw => h w (kept_mem l ks w hw)
theorem isS_crash {b : List ByteArray} {l : List Wr} {ks : List Bool} {i : Nat} (h : i < b.length) (h' : i < (writeL b (kept l ks)).length) : isS b[i] (writeL b (kept l ks))[i] l i = true := by
  rw [writeL_get _ b i h h']
  unfold isS
  rcases lastW_is (kept l ks) (i : Int) b[i] with e | ⟨w, hw, h1, h2⟩
  · rw [e]; simp
  · rw [← h2]
    simp only [Bool.or_eq_true, List.any_eq_true]
    exact .inr ⟨w, kept_mem l ks w hw, by simp [h1]⟩
theorem kept_none (ks : List Bool) : kept [] ks = [] := by cases ks <;> rfl
theorem Sl.strs {w : World} {A : Option Addr} {n c : Nat} {l : List ByteArray} (h : Sl w A n c (l.map sv)) (hl : 0 < l.length) :
    ∃ b off, A = some ⟨b, off, none⟩ ∧ ∀ w', Ext w w' → ∀ k (hk : k < l.length), w'.cell? ⟨b, off + k, none⟩ = some (.string l[k]) := by
  obtain ⟨b, off, rfl, _, _⟩ := h.cells.str hl
  refine ⟨b, off, rfl, fun w' hx k hk => ?_⟩
  obtain ⟨b', off', e, _, hc⟩ := (h.ext hx).cells.str hk
  cases e
  exact hc k hk
theorem drewN_ext {a b : World} (h : Ext a b) (n : Nat) : Ext a (b.drewN n) := h.drewN n

set_option maxRecDepth 100000 in
set_option maxHeartbeats 8000000 in
theorem stays_any (D0 E0 K : Option Addr) (b : List ByteArray) (l : List Wr) (ks : List Bool) (c c' ck : Nat) (w : World)
    (hA : Sl w D0 b.length c (b.map sv)) (hA' : Sl w E0 l.length c' (wvs l)) (hK : Sl w K ks.length ck (ks.map Value.bool)) :
    Calls Try.prog 5 #[.agg #[.slice D0 b.length c, .slice E0 l.length c'], .slice K ks.length ck] w fun e w' => e = .returned (.bool true) ∧ Ext w w' := by
  have A_1 := Lib.hid (hA)
  have B_2 := Lib.hid (hA')
  have K_3 := Lib.hid (hK)
  have X_4 := Lib.hid (Ext.refl w)
  clear hA hA' hK
  go_enter Try.func5, Try.ntmps5
  go_wp2_with (go_at_call 9; refine stop_here ?_)
  refine stop_on ?_
  generalize hW : (World.alloc w _) = W5
  obtain ⟨hx, hb0⟩ := allocs1 hW
  clear hW
  have A_6 := Lib.hid (A_1.out.ext hx)
  have B_6 := Lib.hid (B_2.out.ext hx)
  have K_6 := Lib.hid (K_3.out.ext hx)
  have X_6 := Lib.hid (X_4.out.ext hx)
  clear A_1 B_2 K_3 X_4
  have d_7 := Lib.hid hb0
  clear hx hb0
  refine (shown_any _).mono ?_
  rintro e w8 ⟨rfl, hx⟩
  have A_9 := Lib.hid (A_6.out.ext hx)
  have B_9 := Lib.hid (B_6.out.ext hx)
  have K_9 := Lib.hid (K_6.out.ext hx)
  have X_9 := Lib.hid (X_6.out.ext hx)
  have d_9 := Lib.hid (d_7.out.ext hx)
  clear A_6 B_6 K_6 X_6 d_7
  clear hx
  have qd0 : w8.cell? ⟨w.heap.size, 0, none⟩ = some (.slice D0 b.length c) := d_9.out.at 0 _ rfl
  have qd1 : w8.cell? ⟨w.heap.size, 1, none⟩ = some (.slice E0 l.length c') := d_9.out.at 1 _ rfl
  have zd := d_9.out.lt
  have hza := A_9.out.len
  have hzb := B_9.out.len
  have hzk := K_9.out.len
  unfold maxLen at hzk
  cases hs : smallS b l 60
  · have Hs := Lib.hid hs
    clear hs
    go_wp2_with (go_at_call 10; refine stop_here ?_)
    refine stop_on ?_
    clear qd0 qd1 zd
    have hc := small_any D0 E0 b l c c' 60 _ hza hzb A_9.out.cells B_9.out.cells
    rw [Hs.out] at hc
    refine hc.mono ?_
    clear hc
    rintro e w10 ⟨rfl, hx⟩
    have A_11 := Lib.hid (A_9.out.ext hx)
    have B_11 := Lib.hid (B_9.out.ext hx)
    have K_11 := Lib.hid (K_9.out.ext hx)
    have X_11 := Lib.hid (X_9.out.ext hx)
    have d_11 := Lib.hid (d_9.out.ext hx)
    clear A_9 B_9 K_9 X_9 d_9
    clear hx
    have qd0 : w10.cell? ⟨w.heap.size, 0, none⟩ = some (.slice D0 b.length c) := d_11.out.at 0 _ rfl
    have qd1 : w10.cell? ⟨w.heap.size, 1, none⟩ = some (.slice E0 l.length c') := d_11.out.at 1 _ rfl
    have zd := d_11.out.lt
    go_wp2
    go_ret
    exact ⟨rfl, X_11.out⟩
  have ⟨lb, ll⟩ := small_len' hs
  have Hs := Lib.hid hs
  clear hs
  go_wp2_with (go_at_call 10; refine stop_here ?_)
  refine stop_on ?_
  clear qd0 qd1 zd
  have hc := small_any D0 E0 b l c c' 60 _ hza hzb A_9.out.cells B_9.out.cells
  rw [Hs.out] at hc
  refine hc.mono ?_
  clear hc
  rintro e w12 ⟨rfl, hx⟩
  have A_13 := Lib.hid (A_9.out.ext hx)
  have B_13 := Lib.hid (B_9.out.ext hx)
  have K_13 := Lib.hid (K_9.out.ext hx)
  have X_13 := Lib.hid (X_9.out.ext hx)
  have d_13 := Lib.hid (d_9.out.ext hx)
  clear A_9 B_9 K_9 X_9 d_9
  clear hx
  have qd0 : w12.cell? ⟨w.heap.size, 0, none⟩ = some (.slice D0 b.length c) := d_13.out.at 0 _ rfl
  have qd1 : w12.cell? ⟨w.heap.size, 1, none⟩ = some (.slice E0 l.length c') := d_13.out.at 1 _ rfl
  have zd := d_13.out.lt
  cases hr : rightS b l
  · have Hr := Lib.hid hr
    clear hr
    go_wp2_with (go_at_call 13; refine stop_here ?_)
    refine stop_on ?_
    clear qd0 qd1 zd
    have hc := rightR_any D0 E0 b l c c' _ hza hzb A_13.out.cells B_13.out.cells
    rw [Hr.out] at hc
    refine hc.mono ?_
    clear hc
    rintro e w14 ⟨rfl, hx⟩
    have A_15 := Lib.hid (A_13.out.ext hx)
    have B_15 := Lib.hid (B_13.out.ext hx)
    have K_15 := Lib.hid (K_13.out.ext hx)
    have X_15 := Lib.hid (X_13.out.ext hx)
    have d_15 := Lib.hid (d_13.out.ext hx)
    clear A_13 B_13 K_13 X_13 d_13
    clear hx
    have qd0 : w14.cell? ⟨w.heap.size, 0, none⟩ = some (.slice D0 b.length c) := d_15.out.at 0 _ rfl
    have qd1 : w14.cell? ⟨w.heap.size, 1, none⟩ = some (.slice E0 l.length c') := d_15.out.at 1 _ rfl
    have zd := d_15.out.lt
    go_wp2
    go_ret
    exact ⟨rfl, X_15.out⟩
  have ⟨lb1, hin⟩ := right_facts hr
  obtain ⟨fb, hfb⟩ : ∃ fb, writeL b l = fb := ⟨_, rfl⟩
  obtain ⟨cb, hcb⟩ : ∃ cb, writeL b (kept l ks) = cb := ⟨_, rfl⟩
  have hn : b.length = fb.length := by rw [← hfb, writeL_length]
  have hcn : b.length = cb.length := by rw [← hcb, writeL_length]
  have lf1 : 0 < fb.length := by omega
  have lc1 : 0 < cb.length := by omega
  have Hrf := Lib.hid (show rightS fb [] = true from by rw [← hfb]; exact rightS_write hr)
  have Hrc := Lib.hid (show rightS cb [] = true from by rw [← hcb]; exact rightS_write' hr (kept_all_takes hin ks))
  have Hfi := Lib.hid (show ∀ i (h : i < b.length) (h' : i < fb.length), readS b l (i : Int) = fb[i] from by
    intro i h h'
    subst hfb
    rw [writeL_get l b i h h']
    unfold readS
    rw [if_pos (hasS_nat h)]
    simp [h])
  have Hci := Lib.hid (show ∀ i (h : i < b.length) (h' : i < cb.length), isS b[i] cb[i] l i = true from by
    intro i h h'
    subst hcb
    exact isS_crash h h')
  have Hall := Lib.hid (show writeL b (kept l (List.replicate l.length true)) = fb from by rw [kept_all]; exact hfb)
  have Hff := Lib.hid (show writeL fb (kept [] ks) = fb from by rw [kept_none]; rfl)
  have Hr := Lib.hid hr
  have HIN := Lib.hid hin
  have Hfb := Lib.hid hfb
  have Hcb := Lib.hid hcb
  have Hn := Lib.hid hn
  have Hcn := Lib.hid hcn
  clear hr hin hfb hcb hn hcn
  go_wp2_with (go_at_call 13; refine stop_here ?_)
  refine stop_on ?_
  clear qd0 qd1 zd
  have hc := rightR_any D0 E0 b l c c' _ hza hzb A_13.out.cells B_13.out.cells
  rw [Hr.out] at hc
  refine hc.mono ?_
  clear hc
  rintro e w16 ⟨rfl, hx⟩
  have A_17 := Lib.hid (A_13.out.ext hx)
  have B_17 := Lib.hid (B_13.out.ext hx)
  have K_17 := Lib.hid (K_13.out.ext hx)
  have X_17 := Lib.hid (X_13.out.ext hx)
  have d_17 := Lib.hid (d_13.out.ext hx)
  clear A_13 B_13 K_13 X_13 d_13
  clear hx
  have qd0 : w16.cell? ⟨w.heap.size, 0, none⟩ = some (.slice D0 b.length c) := d_17.out.at 0 _ rfl
  have qd1 : w16.cell? ⟨w.heap.size, 1, none⟩ = some (.slice E0 l.length c') := d_17.out.at 1 _ rfl
  have zd := d_17.out.lt
  by_cases hkl : 100 < ks.length
  · go_wp2
    go_ret
    exact ⟨rfl, X_17.out⟩
  obtain ⟨bA, oA, rfl, hF⟩ := A_17.out.strs (by omega)
  have HAc := Lib.hid hF
  clear hF
  have YA_18 := Lib.hid (Ext.refl w16)
  go_wp2_with (go_at_call 26; refine stop_here ?_)
  refine stop_on ?_
  clear qd0 qd1 zd
  refine (crashD_n _ E0 K b l ks b.length l.length ks.length c c' ck cb _ rfl rfl rfl (by omega) (by omega) (by omega) Hcb.out A_17.out B_17.out K_17.out).mono ?_
  rintro e w19 ⟨v, rfl, ⟨R, kr, T, kt, rfl, h1, h2⟩, hx⟩
  have A_20 := Lib.hid (A_17.out.ext hx)
  have B_20 := Lib.hid (B_17.out.ext hx)
  have K_20 := Lib.hid (K_17.out.ext hx)
  have X_20 := Lib.hid (X_17.out.ext hx)
  have d_20 := Lib.hid (d_17.out.ext hx)
  have YA_20 := Lib.hid (YA_18.out.ext hx)
  clear A_17 B_17 K_17 X_17 d_17 YA_18
  have R_21 := Lib.hid h1
  have T_22 := Lib.hid h2
  clear hx h1 h2
  have qd0 : w19.cell? ⟨w.heap.size, 0, none⟩ = some (.slice (some ⟨bA, oA, none⟩) b.length c) := d_20.out.at 0 _ rfl
  have qd1 : w19.cell? ⟨w.heap.size, 1, none⟩ = some (.slice E0 l.length c') := d_20.out.at 1 _ rfl
  have zd := d_20.out.lt
  obtain ⟨bR, oR, rfl, hF⟩ := R_21.out.strs lc1
  have HRc := Lib.hid hF
  clear hF
  have YR_23 := Lib.hid (Ext.refl w19)
  go_wp2_with (go_at_call 24; refine stop_here ?_)
  refine stop_on ?_
  clear qd0 qd1 zd
  generalize hW : (World.alloc w19 _) = W24
  obtain ⟨hx, hb0⟩ := allocs1 hW
  clear hW
  have A_25 := Lib.hid (A_20.out.ext hx)
  have B_25 := Lib.hid (B_20.out.ext hx)
  have K_25 := Lib.hid (K_20.out.ext hx)
  have X_25 := Lib.hid (X_20.out.ext hx)
  have d_25 := Lib.hid (d_20.out.ext hx)
  have YA_25 := Lib.hid (YA_20.out.ext hx)
  have R_25 := Lib.hid (R_21.out.ext hx)
  have T_25 := Lib.hid (T_22.out.ext hx)
  have YR_25 := Lib.hid (YR_23.out.ext hx)
  clear A_20 B_20 K_20 X_20 d_20 YA_20 R_21 T_22 YR_23
  have c_26 := Lib.hid hb0
  clear hx hb0
  refine (flushD_n _ E0 b l b.length l.length c c' fb _ rfl rfl (by omega) (by omega) Hfb.out A_25.out B_25.out).mono ?_
  rintro e w27 ⟨v, rfl, ⟨F, kf, Z, kz, rfl, h1, h2⟩, hx⟩
  have A_28 := Lib.hid (A_25.out.ext hx)
  have B_28 := Lib.hid (B_25.out.ext hx)
  have K_28 := Lib.hid (K_25.out.ext hx)
  have X_28 := Lib.hid (X_25.out.ext hx)
  have d_28 := Lib.hid (d_25.out.ext hx)
  have YA_28 := Lib.hid (YA_25.out.ext hx)
  have R_28 := Lib.hid (R_25.out.ext hx)
  have T_28 := Lib.hid (T_25.out.ext hx)
  have YR_28 := Lib.hid (YR_25.out.ext hx)
  have c_28 := Lib.hid (c_26.out.ext hx)
  clear A_25 B_25 K_25 X_25 d_25 YA_25 R_25 T_25 YR_25 c_26
  have F_29 := Lib.hid h1
  have Z_30 := Lib.hid h2
  clear hx h1 h2
  have qd0 : w27.cell? ⟨w.heap.size, 0, none⟩ = some (.slice (some ⟨bA, oA, none⟩) b.length c) := d_28.out.at 0 _ rfl
  have qd1 : w27.cell? ⟨w.heap.size, 1, none⟩ = some (.slice E0 l.length c') := d_28.out.at 1 _ rfl
  have zd := d_28.out.lt
  have qc0 : w27.cell? ⟨w19.heap.size, 0, none⟩ = some (.slice (some ⟨bR, oR, none⟩) b.length kr) := c_28.out.at 0 _ rfl
  have qc1 : w27.cell? ⟨w19.heap.size, 1, none⟩ = some (.slice T 0 kt) := c_28.out.at 1 _ rfl
  have zc := c_28.out.lt
  obtain ⟨bF, oF, rfl, hF⟩ := F_29.out.strs lf1
  have HFc := Lib.hid hF
  clear hF
  have YF_31 := Lib.hid (Ext.refl w27)
  go_wp2_with (go_at_call 13; refine stop_here ?_)
  refine stop_on ?_
  clear qd0 qd1 zd qc0 qc1 zc
  generalize hW : (World.alloc w27 _) = W32
  obtain ⟨hx, hb0⟩ := allocs1 hW
  clear hW
  have A_33 := Lib.hid (A_28.out.ext hx)
  have B_33 := Lib.hid (B_28.out.ext hx)
  have K_33 := Lib.hid (K_28.out.ext hx)
  have X_33 := Lib.hid (X_28.out.ext hx)
  have d_33 := Lib.hid (d_28.out.ext hx)
  have YA_33 := Lib.hid (YA_28.out.ext hx)
  have R_33 := Lib.hid (R_28.out.ext hx)
  have T_33 := Lib.hid (T_28.out.ext hx)
  have YR_33 := Lib.hid (YR_28.out.ext hx)
  have c_33 := Lib.hid (c_28.out.ext hx)
  have F_33 := Lib.hid (F_29.out.ext hx)
  have Z_33 := Lib.hid (Z_30.out.ext hx)
  have YF_33 := Lib.hid (YF_31.out.ext hx)
  clear A_28 B_28 K_28 X_28 d_28 YA_28 R_28 T_28 YR_28 c_28 F_29 Z_30 YF_31
  have f_34 := Lib.hid hb0
  clear hx hb0
  refine (right_n _ T cb [] b.length 0 kr kt _ Hcn.out rfl (by omega) (by omega) Hrc.out R_33.out T_33.out).mono ?_
  rintro e w35 ⟨rfl, hx⟩
  have A_36 := Lib.hid (A_33.out.ext hx)
  have B_36 := Lib.hid (B_33.out.ext hx)
  have K_36 := Lib.hid (K_33.out.ext hx)
  have X_36 := Lib.hid (X_33.out.ext hx)
  have d_36 := Lib.hid (d_33.out.ext hx)
  have YA_36 := Lib.hid (YA_33.out.ext hx)
  have R_36 := Lib.hid (R_33.out.ext hx)
  have T_36 := Lib.hid (T_33.out.ext hx)
  have YR_36 := Lib.hid (YR_33.out.ext hx)
  have c_36 := Lib.hid (c_33.out.ext hx)
  have F_36 := Lib.hid (F_33.out.ext hx)
  have Z_36 := Lib.hid (Z_33.out.ext hx)
  have YF_36 := Lib.hid (YF_33.out.ext hx)
  have f_36 := Lib.hid (f_34.out.ext hx)
  clear A_33 B_33 K_33 X_33 d_33 YA_33 R_33 T_33 YR_33 c_33 F_33 Z_33 YF_33 f_34
  clear hx
  have qd0 : w35.cell? ⟨w.heap.size, 0, none⟩ = some (.slice (some ⟨bA, oA, none⟩) b.length c) := d_36.out.at 0 _ rfl
  have qd1 : w35.cell? ⟨w.heap.size, 1, none⟩ = some (.slice E0 l.length c') := d_36.out.at 1 _ rfl
  have zd := d_36.out.lt
  have qc0 : w35.cell? ⟨w19.heap.size, 0, none⟩ = some (.slice (some ⟨bR, oR, none⟩) b.length kr) := c_36.out.at 0 _ rfl
  have qc1 : w35.cell? ⟨w19.heap.size, 1, none⟩ = some (.slice T 0 kt) := c_36.out.at 1 _ rfl
  have zc := c_36.out.lt
  have qf0 : w35.cell? ⟨w27.heap.size, 0, none⟩ = some (.slice (some ⟨bF, oF, none⟩) b.length kf) := f_36.out.at 0 _ rfl
  have qf1 : w35.cell? ⟨w27.heap.size, 1, none⟩ = some (.slice Z 0 kz) := f_36.out.at 1 _ rfl
  have zf := f_36.out.lt
  go_wp2_with (go_at_call 13; refine stop_here ?_)
  refine stop_on ?_
  clear qd0 qd1 zd qc0 qc1 zc qf0 qf1 zf
  refine (right_n _ Z fb [] b.length 0 kf kz _ Hn.out rfl (by omega) (by omega) Hrf.out F_36.out Z_36.out).mono ?_
  rintro e w37 ⟨rfl, hx⟩
  have A_38 := Lib.hid (A_36.out.ext hx)
  have B_38 := Lib.hid (B_36.out.ext hx)
  have K_38 := Lib.hid (K_36.out.ext hx)
  have X_38 := Lib.hid (X_36.out.ext hx)
  have d_38 := Lib.hid (d_36.out.ext hx)
  have YA_38 := Lib.hid (YA_36.out.ext hx)
  have R_38 := Lib.hid (R_36.out.ext hx)
  have T_38 := Lib.hid (T_36.out.ext hx)
  have YR_38 := Lib.hid (YR_36.out.ext hx)
  have c_38 := Lib.hid (c_36.out.ext hx)
  have F_38 := Lib.hid (F_36.out.ext hx)
  have Z_38 := Lib.hid (Z_36.out.ext hx)
  have YF_38 := Lib.hid (YF_36.out.ext hx)
  have f_38 := Lib.hid (f_36.out.ext hx)
  clear A_36 B_36 K_36 X_36 d_36 YA_36 R_36 T_36 YR_36 c_36 F_36 Z_36 YF_36 f_36
  clear hx
  have qd0 : w37.cell? ⟨w.heap.size, 0, none⟩ = some (.slice (some ⟨bA, oA, none⟩) b.length c) := d_38.out.at 0 _ rfl
  have qd1 : w37.cell? ⟨w.heap.size, 1, none⟩ = some (.slice E0 l.length c') := d_38.out.at 1 _ rfl
  have zd := d_38.out.lt
  have qc0 : w37.cell? ⟨w19.heap.size, 0, none⟩ = some (.slice (some ⟨bR, oR, none⟩) b.length kr) := c_38.out.at 0 _ rfl
  have qc1 : w37.cell? ⟨w19.heap.size, 1, none⟩ = some (.slice T 0 kt) := c_38.out.at 1 _ rfl
  have zc := c_38.out.lt
  have qf0 : w37.cell? ⟨w27.heap.size, 0, none⟩ = some (.slice (some ⟨bF, oF, none⟩) b.length kf) := f_38.out.at 0 _ rfl
  have qf1 : w37.cell? ⟨w27.heap.size, 1, none⟩ = some (.slice Z 0 kz) := f_38.out.at 1 _ rfl
  have zf := f_38.out.lt
  go_wp2_with fail
  clear qd0 qd1 zd qc0 qc1 zc qf0 qf1 zf
  have hown := own_empty w37 4 1
  generalize hW : World.alloc w37 (.cells #[] 4) = Wl at hown ⊢
  have hx : Ext w37 Wl := by rw [← hW]; exact (Ext.refl _).alloc _
  clear hW
  have HO0 := Lib.hid hown
  have HX0 := Lib.hid hx
  clear hx hown
  go_loopw [8, 9] (fun v i wx => ∃ (k cap : Nat) (B : Option Addr), k ≤ l.length ∧ i = .int .i64 (k : Int) ∧ v = .slice B k cap ∧ wx.ownsRow w37.heap.size 4 1 (.slice B k cap) k ((List.replicate k true).map Value.bool) ∧ Ext w37 wx) (fun _ i _ => l.length - (intOf i).toNat)
  case atStart => exact ⟨0, 0, _, Nat.zero_le _, rfl, rfl, HO0.out, HX0.out⟩
  case round =>
    obtain ⟨k, cap, B, hk, rfl, rfl, ho, hx⟩ := hrel
    have L_39 := Lib.hid (Ext.refl w37)
    have A_40 := Lib.hid (A_38.out.ext hx)
    have B_40 := Lib.hid (B_38.out.ext hx)
    have K_40 := Lib.hid (K_38.out.ext hx)
    have X_40 := Lib.hid (X_38.out.ext hx)
    have d_40 := Lib.hid (d_38.out.ext hx)
    have YA_40 := Lib.hid (YA_38.out.ext hx)
    have R_40 := Lib.hid (R_38.out.ext hx)
    have T_40 := Lib.hid (T_38.out.ext hx)
    have YR_40 := Lib.hid (YR_38.out.ext hx)
    have c_40 := Lib.hid (c_38.out.ext hx)
    have F_40 := Lib.hid (F_38.out.ext hx)
    have Z_40 := Lib.hid (Z_38.out.ext hx)
    have YF_40 := Lib.hid (YF_38.out.ext hx)
    have f_40 := Lib.hid (f_38.out.ext hx)
    have L_40 := Lib.hid (L_39.out.ext hx)
    clear A_38 B_38 K_38 X_38 d_38 YA_38 R_38 T_38 YR_38 c_38 F_38 Z_38 YF_38 f_38 L_39
    have hsz2 := hx.size
    have HO := Lib.hid ho
    clear hx ho
    have qd0 : wr.cell? ⟨w.heap.size, 0, none⟩ = some (.slice (some ⟨bA, oA, none⟩) b.length c) := d_40.out.at 0 _ rfl
    have qd1 : wr.cell? ⟨w.heap.size, 1, none⟩ = some (.slice E0 l.length c') := d_40.out.at 1 _ rfl
    have zd := d_40.out.lt
    have qc0 : wr.cell? ⟨w19.heap.size, 0, none⟩ = some (.slice (some ⟨bR, oR, none⟩) b.length kr) := c_40.out.at 0 _ rfl
    have qc1 : wr.cell? ⟨w19.heap.size, 1, none⟩ = some (.slice T 0 kt) := c_40.out.at 1 _ rfl
    have zc := c_40.out.lt
    have qf0 : wr.cell? ⟨w27.heap.size, 0, none⟩ = some (.slice (some ⟨bF, oF, none⟩) b.length kf) := f_40.out.at 0 _ rfl
    have qf1 : wr.cell? ⟨w27.heap.size, 1, none⟩ = some (.slice Z 0 kz) := f_40.out.at 1 _ rfl
    have zf := f_40.out.lt
    by_cases hlt : k < l.length
    · go_wp2_with (at_builtin; refine stop_here ?_)
      refine stop_on ?_
      refine wpList_app_sl _ rfl _ _ 44 rfl w37.heap.size 4 _ 1 1 Try.underlying44 infoT rfl (by omega) _ k _ rfl (HO.out.alloc _) (some ⟨wr.heap.size, 0, none⟩) 1 1 [.bool true] rfl rfl (sl_lit wr _ 1 [.bool true] (by unfold maxLen; omega)) (by intro u hu; simp at hu; subst hu; rfl) (by unfold maxLen; omega) (by omega) (by simp; omega) ?_
      intro B2 c2 w2 hown hg
      rw [bools_snoc] at hown
      have HX2 := Lib.hid (show Ext w37 w2 from Below.grown (L_40.out.alloc _) hg (by simp; omega) (fun q hq => ((HO.out.alloc (.cells #[.bool true] 4)).lt q hq).1))
      have HO2 := Lib.hid hown
      clear hown hg
      go_wp2
      go_roundw
      case rel => exact ⟨k + 1, c2, B2, by omega, by go_num, rfl, HO2.out, HX2.out⟩
      case measure => simp [intOf]; omega
    obtain rfl : k = l.length := by omega
    have AL_41 := Lib.hid (own_sl HO.out)
    clear HO
    obtain ⟨wL, rfl⟩ : ∃ wL, wL = wr := ⟨_, rfl⟩
    go_wp2_with fail
    go_loopw [10] (fun i wx => ∃ k : Nat, k ≤ b.length ∧ i = .int .i64 (k : Int) ∧ Ext wL wx) (fun i _ => b.length - (intOf i).toNat)
    case atStart => exact ⟨0, Nat.zero_le _, rfl, Ext.refl _⟩
    case round =>
      obtain ⟨k, hk2, rfl, hx⟩ := hrel
      clear qd0 qd1 zd qc0 qc1 zc qf0 qf1 zf
      have L_42 := Lib.hid (Ext.refl wL)
      have A_43 := Lib.hid (A_40.out.ext hx)
      have B_43 := Lib.hid (B_40.out.ext hx)
      have K_43 := Lib.hid (K_40.out.ext hx)
      have X_43 := Lib.hid (X_40.out.ext hx)
      have d_43 := Lib.hid (d_40.out.ext hx)
      have YA_43 := Lib.hid (YA_40.out.ext hx)
      have R_43 := Lib.hid (R_40.out.ext hx)
      have T_43 := Lib.hid (T_40.out.ext hx)
      have YR_43 := Lib.hid (YR_40.out.ext hx)
      have c_43 := Lib.hid (c_40.out.ext hx)
      have F_43 := Lib.hid (F_40.out.ext hx)
      have Z_43 := Lib.hid (Z_40.out.ext hx)
      have YF_43 := Lib.hid (YF_40.out.ext hx)
      have f_43 := Lib.hid (f_40.out.ext hx)
      have L_43 := Lib.hid (L_42.out.ext hx)
      have AL_43 := Lib.hid (AL_41.out.ext hx)
      clear hx
      obtain ⟨wM, rfl⟩ : ∃ wM, wM = wr := ⟨_, rfl⟩
      have qd0 : wM.cell? ⟨w.heap.size, 0, none⟩ = some (.slice (some ⟨bA, oA, none⟩) b.length c) := d_43.out.at 0 _ rfl
      have qd1 : wM.cell? ⟨w.heap.size, 1, none⟩ = some (.slice E0 l.length c') := d_43.out.at 1 _ rfl
      have zd := d_43.out.lt
      have qc0 : wM.cell? ⟨w19.heap.size, 0, none⟩ = some (.slice (some ⟨bR, oR, none⟩) b.length kr) := c_43.out.at 0 _ rfl
      have qc1 : wM.cell? ⟨w19.heap.size, 1, none⟩ = some (.slice T 0 kt) := c_43.out.at 1 _ rfl
      have zc := c_43.out.lt
      have qf0 : wM.cell? ⟨w27.heap.size, 0, none⟩ = some (.slice (some ⟨bF, oF, none⟩) b.length kf) := f_43.out.at 0 _ rfl
      have qf1 : wM.cell? ⟨w27.heap.size, 1, none⟩ = some (.slice Z 0 kz) := f_43.out.at 1 _ rfl
      have zf := f_43.out.lt
      by_cases hlt : k < b.length
      · have hk0 : (0 : Int) ≤ (k : Int) := by omega
        have hk1 : (k : Int) ≤ (b.length : Int) - 1 := by omega
        have hkc : k < cb.length := by have := Hcn.out; omega
        have hkf : k < fb.length := by have := Hn.out; omega
        have qA : wM.cell? ⟨bA, oA + k, none⟩ = some (.string b[k]) := HAc.out _ YA_43.out k hlt
        have qR : wM.cell? ⟨bR, oR + k, none⟩ = some (.string cb[k]) := HRc.out _ YR_43.out k hkc
        have Hck := Lib.hid (Hci.out k hlt hkc)
        have Hfk := Lib.hid (show readS b l (k : Int) = fb[k] from Hfi.out k hlt hkf)
        have HFk := Lib.hid (show ∀ w', Ext wM w' → w'.cell? ⟨bF, oF + k, none⟩ = some (.string fb[k]) from fun w' hx => HFc.out w' (YF_43.out.trans hx) k hkf)
        have HRk := Lib.hid (show ∀ w', Ext wM w' → w'.cell? ⟨bR, oR + k, none⟩ = some (.string cb[k]) from fun w' hx => HRc.out w' (YR_43.out.trans hx) k hkc)
        generalize b[k] = xb at *
        generalize cb[k] = xc at *
        generalize fb[k] = xf at *
        have M_44 := Lib.hid (Ext.refl wM)
        go_wp2_with fail
        go_quiet (fail)
        go_wp2_with fail
        clear qA qR
        generalize hW : World.drewN wM nq = wN
        have hx : Ext wM wN := by rw [← hW]; exact (Ext.refl _).drewN _
        clear hW
        clear qd0 qd1 zd qc0 qc1 zc qf0 qf1 zf
        have A_45 := Lib.hid (A_43.out.ext hx)
        have B_45 := Lib.hid (B_43.out.ext hx)
        have K_45 := Lib.hid (K_43.out.ext hx)
        have X_45 := Lib.hid (X_43.out.ext hx)
        have d_45 := Lib.hid (d_43.out.ext hx)
        have YA_45 := Lib.hid (YA_43.out.ext hx)
        have R_45 := Lib.hid (R_43.out.ext hx)
        have T_45 := Lib.hid (T_43.out.ext hx)
        have YR_45 := Lib.hid (YR_43.out.ext hx)
        have c_45 := Lib.hid (c_43.out.ext hx)
        have F_45 := Lib.hid (F_43.out.ext hx)
        have Z_45 := Lib.hid (Z_43.out.ext hx)
        have YF_45 := Lib.hid (YF_43.out.ext hx)
        have f_45 := Lib.hid (f_43.out.ext hx)
        have L_45 := Lib.hid (L_43.out.ext hx)
        have AL_45 := Lib.hid (AL_43.out.ext hx)
        have M_45 := Lib.hid (M_44.out.ext hx)
        clear A_43 B_43 K_43 X_43 d_43 YA_43 R_43 T_43 YR_43 c_43 F_43 Z_43 YF_43 f_43 L_43 AL_43 M_44
        clear hx
        have qd0 : wN.cell? ⟨w.heap.size, 0, none⟩ = some (.slice (some ⟨bA, oA, none⟩) b.length c) := d_45.out.at 0 _ rfl
        have qd1 : wN.cell? ⟨w.heap.size, 1, none⟩ = some (.slice E0 l.length c') := d_45.out.at 1 _ rfl
        have zd := d_45.out.lt
        have qc0 : wN.cell? ⟨w19.heap.size, 0, none⟩ = some (.slice (some ⟨bR, oR, none⟩) b.length kr) := c_45.out.at 0 _ rfl
        have qc1 : wN.cell? ⟨w19.heap.size, 1, none⟩ = some (.slice T 0 kt) := c_45.out.at 1 _ rfl
        have zc := c_45.out.lt
        have qf0 : wN.cell? ⟨w27.heap.size, 0, none⟩ = some (.slice (some ⟨bF, oF, none⟩) b.length kf) := f_45.out.at 0 _ rfl
        have qf1 : wN.cell? ⟨w27.heap.size, 1, none⟩ = some (.slice Z 0 kz) := f_45.out.at 1 _ rfl
        have zf := f_45.out.lt
        go_loopw [11, 12] (fun u q wx => ∃ j : Nat, j ≤ l.length ∧ q = .int .i64 (j : Int) ∧ u = .bool (isS xb xc (l.take j) k) ∧ Ext wN wx) (fun _ q _ => l.length - (intOf q).toNat)
        case atStart => exact ⟨0, Nat.zero_le _, rfl, by rw [List.take_zero, isS_nil], Ext.refl _⟩
        case round =>
          obtain ⟨j, hj, rfl, rfl, hx⟩ := hrel
          clear qd0 qd1 zd qc0 qc1 zc qf0 qf1 zf
          have L3_46 := Lib.hid (Ext.refl wN)
          have A_47 := Lib.hid (A_45.out.ext hx)
          have B_47 := Lib.hid (B_45.out.ext hx)
          have K_47 := Lib.hid (K_45.out.ext hx)
          have X_47 := Lib.hid (X_45.out.ext hx)
          have d_47 := Lib.hid (d_45.out.ext hx)
          have YA_47 := Lib.hid (YA_45.out.ext hx)
          have R_47 := Lib.hid (R_45.out.ext hx)
          have T_47 := Lib.hid (T_45.out.ext hx)
          have YR_47 := Lib.hid (YR_45.out.ext hx)
          have c_47 := Lib.hid (c_45.out.ext hx)
          have F_47 := Lib.hid (F_45.out.ext hx)
          have Z_47 := Lib.hid (Z_45.out.ext hx)
          have YF_47 := Lib.hid (YF_45.out.ext hx)
          have f_47 := Lib.hid (f_45.out.ext hx)
          have L_47 := Lib.hid (L_45.out.ext hx)
          have AL_47 := Lib.hid (AL_45.out.ext hx)
          have M_47 := Lib.hid (M_45.out.ext hx)
          have L3_47 := Lib.hid (L3_46.out.ext hx)
          clear hx
          obtain ⟨wO, rfl⟩ : ∃ wO, wO = wr := ⟨_, rfl⟩
          have qd0 : wO.cell? ⟨w.heap.size, 0, none⟩ = some (.slice (some ⟨bA, oA, none⟩) b.length c) := d_47.out.at 0 _ rfl
          have qd1 : wO.cell? ⟨w.heap.size, 1, none⟩ = some (.slice E0 l.length c') := d_47.out.at 1 _ rfl
          have zd := d_47.out.lt
          have qc0 : wO.cell? ⟨w19.heap.size, 0, none⟩ = some (.slice (some ⟨bR, oR, none⟩) b.length kr) := c_47.out.at 0 _ rfl
          have qc1 : wO.cell? ⟨w19.heap.size, 1, none⟩ = some (.slice T 0 kt) := c_47.out.at 1 _ rfl
          have zc := c_47.out.lt
          have qf0 : wO.cell? ⟨w27.heap.size, 0, none⟩ = some (.slice (some ⟨bF, oF, none⟩) b.length kf) := f_47.out.at 0 _ rfl
          have qf1 : wO.cell? ⟨w27.heap.size, 1, none⟩ = some (.slice Z 0 kz) := f_47.out.at 1 _ rfl
          have zf := f_47.out.lt
          by_cases hlt3 : j < l.length
          · obtain ⟨bw, ow, eE, _, hcw⟩ := B_47.out.cells.wr hlt3
            obtain ⟨qw0, qw1⟩ := hcw j hlt3
            have HS := Lib.hid (isS_take xb xc l k j hlt3)
            clear hcw
            have hj0 : (0 : Int) ≤ (j : Int) := by omega
            have hj1 : (j : Int) ≤ (l.length : Int) - 1 := by omega
            have qR : wO.cell? ⟨bR, oR + k, none⟩ = some (.string xc) := HRk.out _ M_47.out
            generalize l[j] = x at *
            obtain ⟨xa, xs⟩ := x
            dsimp only at *
            cases hv : isS xb xc (l.take j) k
            · cases hq : (xa == (k : Int))
              · have HV := Lib.hid hv
                have HQ := Lib.hid hq
                go_wp2_with fail
                go_quiet (fail)
                go_wp2
                exact ⟨⟨j + 1, by omega, by go_num, by rw [HS.out, HV.out, HQ.out]; rfl, L3_47.out.drewN _⟩, by simp [intOf]; omega⟩
              cases hz : (xs.toList == xc.toList)
              · have HV := Lib.hid hv
                have HQ := Lib.hid hq
                have HZ := Lib.hid hz
                go_wp2_with fail
                go_quiet (fail)
                go_wp2
                exact ⟨⟨j + 1, by omega, by go_num, by rw [HS.out, HV.out, HQ.out, HZ.out]; rfl, L3_47.out.drewN _⟩, by simp [intOf]; omega⟩
              · have HV := Lib.hid hv
                have HQ := Lib.hid hq
                have HZ := Lib.hid hz
                go_wp2_with fail
                go_quiet (fail)
                go_wp2
                exact ⟨⟨j + 1, by omega, by go_num, by rw [HS.out, HV.out, HQ.out, HZ.out]; rfl, L3_47.out.drewN _⟩, by simp [intOf]; omega⟩
            · have HV := Lib.hid hv
              go_wp2_with fail
              go_quiet (fail)
              go_wp2
              exact ⟨⟨j + 1, by omega, by go_num, by rw [HS.out, HV.out]; rfl, L3_47.out.drewN _⟩, by simp [intOf]; omega⟩
          obtain rfl : j = l.length := by omega
          have hv : isS xb xc (l.take l.length) k = true := by rw [List.take_length]; exact Hck.out
          have hv1 : isS xb xc l k = true := Hck.out
          go_wp2_with (go_at_call 16; refine stop_here ?_)
          refine stop_on ?_
          clear qd0 qd1 zd qc0 qc1 zc qf0 qf1 zf
          refine (readD_n _ E0 b l b.length l.length c c' (k : Int) xf _ rfl rfl (by omega) (by omega) (hasS_nat hlt) Hfk.out A_47.out B_47.out).mono ?_
          rintro e w48 ⟨rfl, hx⟩
          have A_49 := Lib.hid (A_47.out.ext hx)
          have B_49 := Lib.hid (B_47.out.ext hx)
          have K_49 := Lib.hid (K_47.out.ext hx)
          have X_49 := Lib.hid (X_47.out.ext hx)
          have d_49 := Lib.hid (d_47.out.ext hx)
          have YA_49 := Lib.hid (YA_47.out.ext hx)
          have R_49 := Lib.hid (R_47.out.ext hx)
          have T_49 := Lib.hid (T_47.out.ext hx)
          have YR_49 := Lib.hid (YR_47.out.ext hx)
          have c_49 := Lib.hid (c_47.out.ext hx)
          have F_49 := Lib.hid (F_47.out.ext hx)
          have Z_49 := Lib.hid (Z_47.out.ext hx)
          have YF_49 := Lib.hid (YF_47.out.ext hx)
          have f_49 := Lib.hid (f_47.out.ext hx)
          have L_49 := Lib.hid (L_47.out.ext hx)
          have AL_49 := Lib.hid (AL_47.out.ext hx)
          have M_49 := Lib.hid (M_47.out.ext hx)
          have L3_49 := Lib.hid (L3_47.out.ext hx)
          clear A_47 B_47 K_47 X_47 d_47 YA_47 R_47 T_47 YR_47 c_47 F_47 Z_47 YF_47 f_47 L_47 AL_47 M_47 L3_47
          clear hx
          have qd0 : w48.cell? ⟨w.heap.size, 0, none⟩ = some (.slice (some ⟨bA, oA, none⟩) b.length c) := d_49.out.at 0 _ rfl
          have qd1 : w48.cell? ⟨w.heap.size, 1, none⟩ = some (.slice E0 l.length c') := d_49.out.at 1 _ rfl
          have zd := d_49.out.lt
          have qc0 : w48.cell? ⟨w19.heap.size, 0, none⟩ = some (.slice (some ⟨bR, oR, none⟩) b.length kr) := c_49.out.at 0 _ rfl
          have qc1 : w48.cell? ⟨w19.heap.size, 1, none⟩ = some (.slice T 0 kt) := c_49.out.at 1 _ rfl
          have zc := c_49.out.lt
          have qf0 : w48.cell? ⟨w27.heap.size, 0, none⟩ = some (.slice (some ⟨bF, oF, none⟩) b.length kf) := f_49.out.at 0 _ rfl
          have qf1 : w48.cell? ⟨w27.heap.size, 1, none⟩ = some (.slice Z 0 kz) := f_49.out.at 1 _ rfl
          have zf := f_49.out.lt
          have qF : w48.cell? ⟨bF, oF + k, none⟩ = some (.string xf) := HFk.out _ M_49.out
          go_wp2
          exact ⟨⟨k + 1, by omega, by go_num, L_49.out⟩, by simp [intOf]; omega⟩
      go_wp2_with fail
      have HK50 := Lib.hid (fun w' (hx : Ext wM w') => (show w'.cell? ⟨w.heap.size, 0, none⟩ = some (.slice (some ⟨bA, oA, none⟩) b.length c) ∧ w'.cell? ⟨w.heap.size, 1, none⟩ = some (.slice E0 l.length c') ∧ w'.cell? ⟨w27.heap.size, 0, none⟩ = some (.slice (some ⟨bF, oF, none⟩) b.length kf) ∧ w'.cell? ⟨w27.heap.size, 1, none⟩ = some (.slice Z 0 kz) from ⟨(d_43.out.ext hx).at 0 _ rfl, (d_43.out.ext hx).at 1 _ rfl, (f_43.out.ext hx).at 0 _ rfl, (f_43.out.ext hx).at 1 _ rfl⟩))
      have G50_0 := Lib.hid (fun w' (hx : Ext wM w') => crashD_n _ E0 _ b l (List.replicate l.length true) b.length l.length l.length c c' cap fb w' rfl rfl (by simp) (by omega) (by omega) (by omega) Hall.out (A_43.out.ext hx) (B_43.out.ext hx) (AL_43.out.ext hx))
      have G50_2 := Lib.hid (fun w' (hx : Ext wM w') => flushD_n _ Z fb [] b.length 0 kf kz fb w' Hn.out rfl (by omega) (by omega) rfl (F_43.out.ext hx) (Z_43.out.ext hx))
      have G50_4 := Lib.hid (fun w' (hx : Ext wM w') => crashD_n _ Z K fb [] ks b.length 0 ks.length kf kz ck fb w' Hn.out rfl rfl (by omega) (by omega) (by omega) Hff.out (F_43.out.ext hx) (Z_43.out.ext hx) (K_43.out.ext hx))
      clear qd0 qd1 zd qc0 qc1 zc qf0 qf1 zf
      have qd0 : wM.cell? ⟨w.heap.size, 0, none⟩ = some (.slice (some ⟨bA, oA, none⟩) b.length c) := d_43.out.at 0 _ rfl
      have qd1 : wM.cell? ⟨w.heap.size, 1, none⟩ = some (.slice E0 l.length c') := d_43.out.at 1 _ rfl
      have zd := d_43.out.lt
      have qf0 : wM.cell? ⟨w27.heap.size, 0, none⟩ = some (.slice (some ⟨bF, oF, none⟩) b.length kf) := f_43.out.at 0 _ rfl
      have qf1 : wM.cell? ⟨w27.heap.size, 1, none⟩ = some (.slice Z 0 kz) := f_43.out.at 1 _ rfl
      have zf := f_43.out.lt
      go_region_held3 (fun w' => w'.cell? ⟨w.heap.size, 0, none⟩ = some (.slice (some ⟨bA, oA, none⟩) b.length c) ∧ w'.cell? ⟨w.heap.size, 1, none⟩ = some (.slice E0 l.length c') ∧ w'.cell? ⟨w27.heap.size, 0, none⟩ = some (.slice (some ⟨bF, oF, none⟩) b.length kf) ∧ w'.cell? ⟨w27.heap.size, 1, none⟩ = some (.slice Z 0 kz))
        (first | exact HK50.out _ E50_5.out | exact HK50.out _ E50_4.out | exact HK50.out _ E50_3.out | exact HK50.out _ E50_2.out | exact HK50.out _ E50_1.out | exact HK50.out _ E50_0.out | exact HK50.out _ (Ext.refl wM).drew | exact HK50.out _ (Ext.refl wM))
        (first
          | ((go_at_call 14
              have hc := same_n D1 D2 _ Z fb [] b.length 0 i1 i2 kf kz _ Hn.out rfl (by omega) (by omega) D1_50_4.out D2_50_4.out (F_43.out.ext E50_4.out) (Z_43.out.ext E50_4.out)
              with_reducible refine hc.mono ?_
              clear hc
              rintro e v50_5 ⟨rfl, hx⟩
              have E50_5 := Lib.hid (E50_4.out.trans hx)
              have C1_50_5 := Lib.hid (C1_50_4.out.ext hx)
              have C2_50_5 := Lib.hid (C2_50_4.out.ext hx)
              have G1_50_5 := Lib.hid (G1_50_4.out.ext hx)
              have G2_50_5 := Lib.hid (G2_50_4.out.ext hx)
              have D1_50_5 := Lib.hid (D1_50_4.out.ext hx)
              have D2_50_5 := Lib.hid (D2_50_4.out.ext hx)
              clear hx))
          | ((go_at_call 26
              with_reducible refine (G50_4.out _ E50_3.out).mono ?_
              rintro e v50_4 ⟨v, rfl, ⟨D1, i1, D2, i2, rfl, h1, h2⟩, hx⟩
              have E50_4 := Lib.hid (E50_3.out.trans hx)
              have C1_50_4 := Lib.hid (C1_50_3.out.ext hx)
              have C2_50_4 := Lib.hid (C2_50_3.out.ext hx)
              have G1_50_4 := Lib.hid (G1_50_3.out.ext hx)
              have G2_50_4 := Lib.hid (G2_50_3.out.ext hx)
              have D1_50_4 := Lib.hid h1
              have D2_50_4 := Lib.hid h2
              clear hx h1 h2))
          | ((go_at_call 14
              have hc := same_n G1 G2 _ Z fb [] b.length 0 m1 m2 kf kz _ Hn.out rfl (by omega) (by omega) G1_50_2.out G2_50_2.out (F_43.out.ext E50_2.out) (Z_43.out.ext E50_2.out)
              with_reducible refine hc.mono ?_
              clear hc
              rintro e v50_3 ⟨rfl, hx⟩
              have E50_3 := Lib.hid (E50_2.out.trans hx)
              have C1_50_3 := Lib.hid (C1_50_2.out.ext hx)
              have C2_50_3 := Lib.hid (C2_50_2.out.ext hx)
              have G1_50_3 := Lib.hid (G1_50_2.out.ext hx)
              have G2_50_3 := Lib.hid (G2_50_2.out.ext hx)
              clear hx))
          | ((go_at_call 24
              with_reducible refine (G50_2.out _ E50_1.out).mono ?_
              rintro e v50_2 ⟨v, rfl, ⟨G1, m1, G2, m2, rfl, h1, h2⟩, hx⟩
              have E50_2 := Lib.hid (E50_1.out.trans hx)
              have C1_50_2 := Lib.hid (C1_50_1.out.ext hx)
              have C2_50_2 := Lib.hid (C2_50_1.out.ext hx)
              have G1_50_2 := Lib.hid h1
              have G2_50_2 := Lib.hid h2
              clear hx h1 h2))
          | ((go_at_call 14
              have hc := same_n C1 C2 _ Z fb [] b.length 0 j1 j2 kf kz _ Hn.out rfl (by omega) (by omega) C1_50_0.out C2_50_0.out (F_43.out.ext E50_0.out) (Z_43.out.ext E50_0.out)
              with_reducible refine hc.mono ?_
              clear hc
              rintro e v50_1 ⟨rfl, hx⟩
              have E50_1 := Lib.hid (E50_0.out.trans hx)
              have C1_50_1 := Lib.hid (C1_50_0.out.ext hx)
              have C2_50_1 := Lib.hid (C2_50_0.out.ext hx)
              clear hx))
          | ((go_at_call 26
              with_reducible refine (G50_0.out _ ?_).mono ?_
              (first | exact Ext.refl _ | exact (Ext.refl _).drew)
              rintro e v50_0 ⟨v, rfl, ⟨C1, j1, C2, j2, rfl, h1, h2⟩, hx⟩
              have E50_0 := Lib.hid (show Ext wM v50_0 from by first | exact hx | exact (Ext.refl wM).drew.trans hx)
              have C1_50_0 := Lib.hid h1
              have C2_50_0 := Lib.hid h2
              clear hx h1 h2)))
      clear qd0 qd1 zd qf0 qf1 zf
      go_wp2
      go_ret
      exact ⟨rfl, X_43.out.trans E50_5.out⟩
end Go.Proofs.Ytikdicnpmobidaa

