/- Path of package name as it landed. -/
import Derived.Test.YtpdeagndandnjaaDoorNmJ
namespace Go.Proofs.YtpdeagndandnjaaDoor
set_option maxRecDepth 20000
open Go.RowKit

/-- What strings.CutPrefix answers. -/
theorem cutPrefix_any (s : ByteArray) (w : World) :
    Calls Tryd.prog 23 #[.string s, .string oneSl] w fun e w' => ∃ b : ByteArray, e = .returned (.tuple #[.string b, .bool (Go.Lib.hasPrefix (tx s) [47])]) ∧ (Go.Lib.hasPrefix (tx s) [47] = true → tx s = 47 :: tx b) ∧ b.size ≤ s.size ∧ w = w' := by
  refine (Tryd.strings_CutPrefix s oneSl w).mono ?_
  rintro e w' ⟨rfl, rfl⟩
  refine ⟨_, rfl, fun h => ?_, ?_, rfl⟩
  · show tx s = 47 :: (Go.Lib.trimPrefix s.data.toList [47])
    unfold Go.Lib.trimPrefix
    rw [if_pos h]
    unfold Go.Lib.hasPrefix at h
    obtain ⟨t, ht⟩ := List.isPrefixOf_iff_prefix.1 h
    unfold tx at ht ⊢
    rw [← ht]
    rfl
  · rw [← tx_len, ← tx_len]
    show (Go.Lib.trimPrefix s.data.toList [47]).length ≤ (tx s).length
    unfold Go.Lib.trimPrefix
    split
    · rw [List.length_drop]; exact Nat.sub_le _ _
    · exact Nat.le_refl _
theorem Cells.pie {w : World} {A : Option Addr} {l : List ByteArray} (h : Cells w A (l.map sv)) {k : Nat} (hk : k < l.length) :
    ∃ b off, A = some ⟨b, off, none⟩ ∧ b < w.heap.size ∧ w.cell? ⟨b, off + k, none⟩ = some (.string l[k]) := by
  obtain ⟨b, off, rfl, hlt, hc⟩ := h (by intro e; rw [List.map_eq_nil_iff] at e; subst e; simp at hk)
  exact ⟨b, off, rfl, hlt, hc k _ (by simp [hk, sv])⟩
def rwJ (n : Nat) (f : Nat → Int) : List Value := (List.range n).map (fun k => zv (f k))
theorem rwJ_len (n : Nat) (f : Nat → Int) : (rwJ n f).length = n := by unfold rwJ; simp
theorem rwJ_set {n : Nat} {f : Nat → Int} {k : Nat} (_hk : k < n) (b : Int) : (rwJ n f).set k (.int .i64 b) = rwJ n (fun j => if j = k then b else f j) := by
  apply List.ext_getElem (by simp [rwJ_len])
  intro j h1 h2
  by_cases h : k = j
  · subst h; simp [rwJ, zv]
  · simp [rwJ, zv, List.getElem_set_ne h, Ne.symm h]
theorem rwJ_congr {n : Nat} {f g : Nat → Int} (h : ∀ k, k < n → f k = g k) : rwJ n f = rwJ n g := by
  unfold rwJ
  exact List.map_congr_left (fun k hk => by rw [h k (List.mem_range.1 hk)])
theorem rwJ_made (n : Nat) : (madeCells (Value.int .i64 0).cells (n * 1)).toList = rwJ n (fun _ => 0) := by
  have hz : (Value.int .i64 0).cells = #[.int .i64 0] := by simp [Value.cells]
  rw [hz, Nat.mul_one]
  apply List.ext_getElem (by simp [rwJ_len, size_madeCells])
  intro j h1 h2
  unfold rwJ
  simp [madeCells, zv, Nat.mod_one]
theorem ownJ_free {w : World} {B e s n g cap : Nat} {xs : List Value} (h : w.ownsRow B e s (.slice (some ⟨g, 0, none⟩) n cap) n xs) (j : Nat) : w.frozen? ⟨g, j, none⟩ = false := by
  rcases h.2 with ⟨e0, _⟩ | ⟨g', cap', cur, e0, hg, hh, _⟩
  · cases e0
  · cases e0
    exact Bx.free ⟨_, hh⟩ j
theorem ownJ_set {w : World} {B e s n g cap : Nat} {xs : List Value} (h : w.ownsRow B e s (.slice (some ⟨g, 0, none⟩) n cap) n xs) {j : Nat} (_hj : j < n * s) (u : Value) :
    (w.setCell ⟨g, j, none⟩ u).ownsRow B e s (.slice (some ⟨g, 0, none⟩) n cap) n (xs.set j u) := by
  refine ⟨by rw [List.length_set]; exact h.1, ?_⟩
  rcases h.2 with ⟨e0, _⟩ | ⟨g', cap', cur, e0, hg, hh, hnc, hcm, hsz, ht⟩
  · cases e0
  · cases e0
    refine .inr ⟨g, cap, _, rfl, hg, heap_setCell_same w g j cur e u hh, hnc, hcm, by simp [hsz], ?_⟩
    rw [Array.toList_setIfInBounds, List.take_set, ht]
/-- A row of numbers of the call's own that holds what f says. -/
def OnJ (w : World) (B g n : Nat) (f : Nat → Int) : Prop := B ≤ g ∧ w.ownsRow B 3 1 (.slice (some ⟨g, 0, none⟩) n n) n (rwJ n f)
theorem OnJ.cell {w : World} {B g n : Nat} {f : Nat → Int} (h : OnJ w B g n f) {k : Nat} (hk : k < n) : w.cell? ⟨g, k, none⟩ = some (.int .i64 (f k)) := (h.2.cellAt k (by omega)).trans (by unfold rwJ; simp [hk, zv])
theorem OnJ.ext {w w' : World} {B g n : Nat} {f : Nat → Int} (h : OnJ w B g n f) (hx : Ext w w') : OnJ w' B g n f := ⟨h.1, own_ext h.2 hx⟩
theorem OnJ.set {w : World} {B g n : Nat} {f : Nat → Int} (h : OnJ w B g n f) {k : Nat} (hk : k < n) (b : Int) : OnJ (w.setCell ⟨g, k, none⟩ (.int .i64 b)) B g n (fun j => if j = k then b else f j) := ⟨h.1, by rw [← rwJ_set hk]; exact ownJ_set h.2 (by omega) _⟩
theorem OnJ.congr {w : World} {B g n : Nat} {f f' : Nat → Int} (h : OnJ w B g n f) (he : ∀ k, k < n → f k = f' k) : OnJ w B g n f' := ⟨h.1, by rw [← rwJ_congr he]; exact h.2⟩
theorem OnJ.made (w : World) (B n : Nat) (hB : B ≤ w.heap.size) (hn : n ≤ 90000) : OnJ (w.alloc (.cells (madeCells (Value.int .i64 0).cells (n * 1)) 3)) B w.heap.size n (fun _ => 0) :=
  ⟨hB, by rw [← rwJ_made]; exact World.ownsRow_lit (base := B) (e := 3) (size := 1) w _ n hB (by unfold maxLen; omega) (by rw [size_madeCells])⟩
/-- The numbers of the first k pieces, noughts behind. -/
def numF (ps : List ByteArray) (k : Nat) (j : Nat) : Int := if j < k then ((numL (tx (ps.getD j ByteArray.empty)) : Nat) : Int) else 0
theorem numF_next (ps : List ByteArray) (k : Nat) (hk : k < ps.length) (j : Nat) : (if j = k then ((numL (tx ps[k]) : Nat) : Int) else numF ps k j) = numF ps (k + 1) j := by
  unfold numF
  by_cases h : j = k
  · subst h
    rw [if_pos rfl, if_pos (Nat.lt_succ_self _), List.getD_eq_getElem?_getD, List.getElem?_eq_getElem hk]
    rfl
  · rw [if_neg h]
    by_cases h2 : j < k
    · rw [if_pos h2, if_pos (by omega)]
    · rw [if_neg h2, if_neg (by omega)]
theorem numF_all (ps : List ByteArray) : rwJ ps.length (numF ps ps.length) = ((ps.map tx).map numL).map nv := by
  apply List.ext_getElem (by simp [rwJ_len])
  intro j h1 h2
  rw [rwJ_len] at h1
  simp [rwJ, numF, h1, zv, nv, List.getD_eq_getElem?_getD]
theorem sl_otherJ {w : World} {b off n c g i : Nat} {xs : List Value} (h : Sl w (some ⟨b, off, none⟩) n c xs) (hne : b ≠ g) (v : Value) : Sl (w.setCell ⟨g, i, none⟩ v) (some ⟨b, off, none⟩) n c xs :=
  ⟨h.1, h.2.1, h.2.2.1, fun hx => by
    obtain ⟨b', off', e, hlt, hc⟩ := h.2.2.2 hx
    cases e
    exact ⟨b, off, rfl, by rw [World.size_setCell]; exact hlt, fun j u hu => (World.cell?_setCell_other _ _ _ _ (fun e => hne (congrArg Addr.block e).symm)).trans (hc j u hu)⟩⟩
theorem info_partsJ {i : Option TypeInfo} {z : Value} {a b : Nat} (h : i.map (fun i => (i.zero, i.size, i.bytes)) = some (some z, a, b)) : ∃ i0, i = some i0 ∧ i0.zero = some z ∧ i0.size = a ∧ i0.bytes = b := by
  cases i with
  | none => cases h
  | some i0 => simp at h; exact ⟨i0, rfl, h.1, h.2.1, h.2.2⟩
set_option maxRecDepth 100000 in
set_option maxHeartbeats 3200000 in
theorem namePath_any (s : ByteArray) (w : World) (hs : s.size ≤ 1000000) :
    Calls Tryd.prog 14 #[.string s] w fun e w' => ∃ A c, e = .returned (.tuple #[.slice A (pathL (tx s)).length c, .int .i64 (pathE (tx s) : Nat)]) ∧ Sl w' A (pathL (tx s)).length c ((pathL (tx s)).map nv) ∧ Ext w w' := by
  by_cases h1 : tx s = [47]
  · obtain ⟨e1, e2⟩ := pathP_yes (show pathP (tx s) = some [] from by rw [h1]; exact pathP_root)
    rw [e1, e2]
    have hq := eq_yes h1
    clear h1
    go_enter Tryd.func14, Tryd.ntmps14
    go_wp2_with fail
    go_ret2
    exact ⟨none, 0, rfl, Sl.nil _, Ext.refl w⟩
  have hq := eq_no h1
  have H1 := Lib.hid h1
  clear h1
  have HCP := Lib.hid (fun w' => cutPrefix_any s w')
  have HSP := Lib.hid (fun (b : ByteArray) w' (h : b.size ≤ 1000000) => splitN_any b w' h)
  cases hf : Go.Lib.hasPrefix (tx s) [47]
  · have HE := Lib.hid (pathP_none (path_nofirst hf))
    rw [hf] at HCP
    clear hf
    go_enter Tryd.func14, Tryd.ntmps14
    go_wp2_with (first
      | (go_at_call 23; refine (HCP.out _).mono ?_; rintro e w1 ⟨b, rfl, _, hb, rfl⟩)
      | (go_at_call 24; refine (HSP.out _ _ (by omega)).mono ?_; rintro e w2 ⟨ps, A, c, _, rfl, _, hx⟩; have HX := Lib.hid hx; clear hx))
    go_ret2
    exact ⟨none, 0, by rw [HE.out.1, HE.out.2]; rfl, by rw [HE.out.1]; exact Sl.nil _, HX.out⟩
  rw [hf] at HCP
  clear hf
  obtain ⟨i0, hi, hz0, hz1, hz2⟩ := info_partsJ infoN
  have HII := Lib.hid hi
  have HZ0 := Lib.hid hz0
  have HZ1 := Lib.hid hz1
  have HZ2 := Lib.hid hz2
  clear hi hz0 hz1 hz2
  go_enter Tryd.func14, Tryd.ntmps14
  go_wp2_with (first
    | (go_at_call 23; refine (HCP.out _).mono ?_; rintro e w1 ⟨b, rfl, h2, hb, rfl⟩; have HT := Lib.hid (h2 trivial); clear h2)
    | (go_at_call 24; refine stop_here ?_))
  refine stop_on ?_
  refine (HSP.out b _ (by omega)).mono ?_
  rintro e w2 ⟨ps, A, c, hps, rfl, hS, hx⟩
  have HPS := Lib.hid hps
  have HSL := Lib.hid hS
  have HX := Lib.hid hx
  have HR := Lib.hid (show tx b ≠ [] from fun e => H1.out (by rw [HT.out, e]))
  have hl21 : ps.length ≤ 21 := by
    have h := (cut_len (min 20 (tx b).length) (tx b)).2
    rw [← hps, List.length_map] at h
    omega
  clear hps hS hx
  by_cases h20 : 20 < ps.length
  · have HB := Lib.hid (pathP_none (show pathP (tx s) = none from by rw [HT.out]; exact cut_many HR.out (by rw [← HPS.out, List.length_map]; exact h20)))
    have d1 : decide ((20 : Int) < (ps.length : Int)) = true := decide_eq_true (by omega)
    have d2 : decide (20 < ps.length) = true := decide_eq_true h20
    go_wp2_with fail
    go_ret2
    exact ⟨none, 0, by rw [HB.out.1, HB.out.2]; rfl, by rw [HB.out.1]; exact Sl.nil _, HX.out⟩
  have d1 : decide ((20 : Int) < (ps.length : Int)) = false := decide_eq_false (by omega)
  have d2 : decide (20 < ps.length) = false := decide_eq_false h20
  have HC := Lib.hid (show pathP (tx s) = if (ps.map tx).all ofOk then some ((ps.map tx).map numL) else none from by
    rw [HT.out, HPS.out]
    exact cut_few HR.out (by rw [← HPS.out, List.length_map]; omega))
  clear HPS HR HT HCP HSP H1
  obtain ⟨n, hn⟩ : ∃ n, ps.length = n := ⟨_, rfl⟩
  have HN := Lib.hid hn
  rw [hn] at HSL d1 d2 hl21 h20 ⊢
  clear hn
  go_wp2_with (at_make; refine stop_here ?_)
  refine stop_on ?_
  refine wpList_make_cap _ rfl _ _ 22 rfl 3 i0 _ Tryd.underlying22 HII.out HZ0.out _ _ _ _ n n rfl rfl (by omega) (by omega) (by omega) (by rw [HZ2.out]; omega) (by unfold maxLen; omega) ?_
  rw [HZ1.out]
  have HO0 := Lib.hid (OnJ.made w2 w.heap.size n HX.out.size (by omega))
  have HX1 := Lib.hid (HX.out.alloc (.cells (madeCells (Value.int .i64 0).cells (n * 1)) 3))
  have HS1 := Lib.hid (HSL.out.ext ((Ext.refl w2).alloc (.cells (madeCells (Value.int .i64 0).cells (n * 1)) 3)))
  generalize hW : World.alloc w2 (.cells (madeCells (Value.int .i64 0).cells (n * 1)) 3) = W1 at *
  obtain ⟨g, hg⟩ : ∃ g, w2.heap.size = g := ⟨_, rfl⟩
  have hgl : w.heap.size ≤ g := by rw [← hg]; exact HX.out.size
  have hgl1 : g < W1.heap.size := by rw [← hW, World.size_alloc, hg]; omega
  have HAP := Lib.hid (show ∀ b off, A = some ⟨b, off, none⟩ → 0 < n → b < g from fun b off e hp => by
    obtain ⟨b', off', e', hlt, _⟩ := HSL.out.cells.pie (k := 0) (by rw [HN.out]; exact hp)
    rw [e] at e'
    cases e'
    rw [← hg]; exact hlt)
  rw [hg] at HO0 ⊢
  clear hW hg HX HSL
  go_wp2_with fail
  go_loopw [33] (fun i wr => ∃ k : Nat, k ≤ n ∧ i = .int .i64 k ∧ OnJ wr w.heap.size g n (numF ps k) ∧ Sl wr A n c (ps.map sv) ∧ ((ps.map tx).take k).all ofOk = true ∧ Ext w wr) (fun i _ => n - (intOf i).toNat)
  case atStart => exact ⟨0, Nat.zero_le _, rfl, HO0.out.congr (fun j _ => by unfold numF; rw [if_neg (by omega)]), HS1.out, rfl, HX1.out⟩
  case round =>
    obtain ⟨k, hk, rfl, ho, hs', hok, hx⟩ := hrel
    have HO := Lib.hid ho
    have HS := Lib.hid hs'
    have HOK := Lib.hid hok
    have HX := Lib.hid hx
    clear ho hs' hok hx HO0 HS1 HX1
    rcases Nat.lt_or_ge k n with hlt | hge
    · have hkl : k < ps.length := by rw [HN.out]; exact hlt
      obtain ⟨b1, off, e1, hbl, hc1⟩ := HS.out.cells.pie hkl
      have hbg := HAP.out b1 off e1 (by omega)
      subst e1
      have hki : (k : Int) < (n : Int) := by omega
      have HTK := Lib.hid (show (ps.map tx).take (k + 1) = (ps.map tx).take k ++ [tx ps[k]] from by
        rw [List.take_succ_eq_append_getElem (by rw [List.length_map]; exact hkl), List.getElem_map])
      have HNX := Lib.hid (numF_next ps k hkl)
      have HBAD := Lib.hid (fun (h : ofOk (tx ps[k]) = false) => (show (ps.map tx).all ofOk = false from by
        cases ha : (ps.map tx).all ofOk with
        | false => rfl
        | true => rw [List.all_eq_true.1 ha _ (List.mem_map.2 ⟨_, List.getElem_mem hkl, rfl⟩)] at h; cases h))
      have HOF := Lib.hid (fun w' => nameOf_any ps[k] w')
      generalize ps[k] = x at *
      cases hg : ofOk (tx x)
      · obtain ⟨n1, n2⟩ := of_bad hg
        have HB := Lib.hid (pathP_none (show pathP (tx s) = none from by rw [HC.out, HBAD.out hg]; rfl))
        rw [n1, n2] at HOF
        clear hg n1 n2
        go_wp2_with (go_at_call 10; refine (HOF.out _).mono ?_; rintro e w3 ⟨rfl, hx3⟩; have HX3 := Lib.hid (HX.out.trans hx3); clear hx3)
        go_ret2
        exact ⟨none, 0, by rw [HB.out.1, HB.out.2]; rfl, by rw [HB.out.1]; exact Sl.nil _, HX3.out⟩
      · obtain ⟨n1, n2⟩ := of_good hg
        have HAL := Lib.hid (show ((ps.map tx).take (k + 1)).all ofOk = true from by rw [HTK.out, List.all_append, HOK.out]; simp [hg])
        rw [n1, n2] at HOF
        clear hg n1 n2 HBAD
        generalize numL (tx x) = y at *
        have r0 := fun (w' : World) (h : OnJ w' w.heap.size g n (numF ps k)) => h.cell hlt
        go_wp2_with (go_at_call 10; refine (HOF.out _).mono ?_; rintro e w3 ⟨rfl, hx3⟩; have HO3 := Lib.hid (HO.out.ext hx3); have HS3 := Lib.hid (HS.out.ext hx3); have HX3 := Lib.hid (HX.out.trans hx3); have rd := HO3.out.cell hlt; have rf := ownJ_free HO3.out.2 k; clear hx3)
        go_roundw
        case rel => exact ⟨k + 1, by omega, by go_num, (HO3.out.set hlt y).congr (fun j _ => HNX.out j), sl_otherJ HS3.out (by omega) _, HAL.out, HX3.out.set hgl _⟩
        case measure => simp [intOf]; omega
    · obtain rfl : n = k := by omega
      have HP := Lib.hid (pathP_yes (show pathP (tx s) = some ((ps.map tx).map numL) from by
        rw [HC.out, if_pos]
        have h := HOK.out
        rw [List.take_of_length_le (by rw [List.length_map, HN.out]; exact Nat.le_refl _)] at h
        exact h))
      have HL := Lib.hid (show (pathL (tx s)).length = n from by rw [HP.out.1, List.length_map, List.length_map, HN.out])
      have HV := Lib.hid (show rwJ n (numF ps n) = (pathL (tx s)).map nv from by rw [HP.out.1, ← numF_all, HN.out])
      go_wp2_with fail
      go_ret2
      exact ⟨_, n, by rw [HP.out.2, HL.out]; rfl, by rw [HL.out, ← HV.out]; exact own_sl HO.out.2, HX.out⟩
end Go.Proofs.YtpdeagndandnjaaDoor
