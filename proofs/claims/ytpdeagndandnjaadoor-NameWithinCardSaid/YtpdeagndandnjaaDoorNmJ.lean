/- A path that is cut at its slashes: the plain theory, and what strings.SplitN answers. -/
import Derived.Test.YtpdeagndandnjaaDoorNmI
import Derived.Test.YtpdeagndandnjaaDoorSplit
namespace Go.Proofs.YtpdeagndandnjaaDoor
set_option maxRecDepth 20000
open Go.RowKit

/-- A text's pieces, cut at a slash, so many times at most. -/
def cutP (k : Nat) (r : Bs) : List Bs := Go.Lib.splitK [47] 0 k r
theorem idx_cases (r : Bs) : (Go.Lib.indexByte r 47 = -1 ∧ ∀ b ∈ r, isSl b = false) ∨ ∃ i : Nat, Go.Lib.indexByte r 47 = i ∧ i < r.length ∧ r.take i ++ 47 :: r.drop (i + 1) = r ∧ ∀ b ∈ r.take i, isSl b = false := by
  have hge := Go.Lib.indexByte_ge r 47
  rcases Int.lt_or_le (Go.Lib.indexByte r 47) 0 with h | h
  · have e : Go.Lib.indexByte r 47 = -1 := by omega
    refine .inl ⟨e, fun b hb => ?_⟩
    obtain ⟨k, hk, rfl⟩ := List.mem_iff_getElem.1 hb
    have h2 := Go.Lib.indexByte_none e k
    rw [List.getElem?_eq_getElem hk] at h2
    exact decide_eq_false (fun e2 => h2 (by rw [e2]))
  · obtain ⟨i, hi⟩ := Int.eq_ofNat_of_zero_le h
    obtain ⟨h1, h2⟩ := Go.Lib.indexByte_some hi
    obtain ⟨hlt, hat⟩ := List.getElem?_eq_some_iff.1 h1
    refine .inr ⟨i, hi, hlt, ?_, fun b hb => ?_⟩
    · conv => rhs; rw [← List.take_append_drop i r, List.drop_eq_getElem_cons hlt, hat]
    · obtain ⟨k, hk, rfl⟩ := List.mem_iff_getElem.1 hb
      rw [List.length_take] at hk
      have h3 := h2 k (by omega)
      rw [List.getElem?_eq_getElem (by omega)] at h3
      rw [List.getElem_take]
      exact decide_eq_false (fun e2 => h3 (by rw [e2]))
theorem cut_miss (k : Nat) {r : Bs} (h : Go.Lib.indexByte r 47 = -1) : cutP k r = [r] := by
  cases k with
  | zero => rfl
  | succ k => unfold cutP; rw [Go.Lib.splitK, Go.Lib.index_one, h]; rfl
theorem cut_hit (k : Nat) {r : Bs} {i : Nat} (h : Go.Lib.indexByte r 47 = i) : cutP (k + 1) r = r.take i :: cutP k (r.drop (i + 1)) := by
  unfold cutP
  rw [Go.Lib.splitK, Go.Lib.index_one, h, if_neg (by rw [beq_iff_eq]; omega)]
  rfl
theorem cut_len : ∀ (k : Nat) (r : Bs), 1 ≤ (cutP k r).length ∧ (cutP k r).length ≤ k + 1
  | 0, r => ⟨Nat.le_refl _, Nat.le_refl _⟩
  | k + 1, r => by
    rcases idx_cases r with ⟨h, _⟩ | ⟨i, h, _, _, _⟩
    · rw [cut_miss _ h]; exact ⟨Nat.le_refl _, by simp⟩
    · have := cut_len k (r.drop (i + 1))
      rw [cut_hit _ h, List.length_cons]
      omega
theorem cut_slashed : ∀ (k : Nat) (r : Bs), slashed (cutP k r) = 47 :: r
  | 0, r => by unfold cutP slashed; simp [Go.Lib.splitK]
  | k + 1, r => by
    rcases idx_cases r with ⟨h, _⟩ | ⟨i, h, _, h3, _⟩
    · rw [cut_miss _ h]; simp [slashed]
    · rw [cut_hit _ h, show slashed (r.take i :: cutP k (r.drop (i + 1))) = 47 :: (r.take i ++ slashed (cutP k (r.drop (i + 1)))) from by simp [slashed], cut_slashed k, h3]
theorem cut_clean : ∀ (k : Nat) (r : Bs), ((cutP k r).length ≤ k ∨ r.length ≤ k) → ∀ p ∈ cutP k r, ∀ b ∈ p, isSl b = false
  | 0, r, h, p, hp, b, hb => by
    rcases h with h | h
    · have := (cut_len 0 r).1; omega
    · obtain rfl := List.eq_nil_of_length_eq_zero (Nat.le_zero.1 h)
      rw [show cutP 0 ([] : Bs) = [[]] from rfl, List.mem_singleton] at hp
      subst hp
      cases hb
  | k + 1, r, h, p, hp, b, hb => by
    rcases idx_cases r with ⟨h1, h2⟩ | ⟨i, h1, hl, _, h2⟩
    · rw [cut_miss _ h1, List.mem_singleton] at hp
      subst hp
      exact h2 b hb
    · rw [cut_hit _ h1] at hp h
      rcases List.mem_cons.1 hp with rfl | hp
      · exact h2 b hb
      · refine cut_clean k _ ?_ p hp b hb
        rw [List.length_cons] at h
        rw [List.length_drop]
        omega
theorem cnt_ge (ns : List Bs) : ns.length ≤ (slashed ns).countP isSl := by
  induction ns with
  | nil => simp [slashed]
  | cons n ns ih =>
    rw [show slashed (n :: ns) = 47 :: (n ++ slashed ns) from by simp [slashed], List.countP_cons_of_pos (by decide), List.countP_append, List.length_cons]
    omega
theorem cnt_eq (ns : List Bs) (h : ∀ n ∈ ns, ∀ b ∈ n, isSl b = false) : (slashed ns).countP isSl = ns.length := by
  induction ns with
  | nil => simp [slashed]
  | cons n ns ih =>
    rw [show slashed (n :: ns) = 47 :: (n ++ slashed ns) from by simp [slashed], List.countP_cons_of_pos (by decide), List.countP_append, List.length_cons, ih (fun m hm => h m (List.mem_cons_of_mem _ hm)), List.countP_eq_zero.2 (fun b hb => by rw [h n List.mem_cons_self b hb]; decide)]
    omega
/-- What Path asks: more pieces than names may be. -/
theorem cut_many {r : Bs} {k : Nat} (hr : r ≠ []) (h : 20 < (cutP k r).length) : pathP (47 :: r) = none := by
  cases hp : pathP (47 :: r) with
  | none => rfl
  | some ns =>
    rcases pathP_some hp with ⟨e, _⟩ | ⟨ms, h1, h2, h3, h4, h5⟩
    · exact absurd (List.tail_eq_of_cons_eq e) hr
    · have c1 := cnt_ge (cutP k r)
      rw [cut_slashed, h2, cnt_eq ms (ok_no h3)] at c1
      omega
theorem cut_few {r : Bs} (hr : r ≠ []) (h : (cutP (min 20 r.length) r).length ≤ 20) : pathP (47 :: r) = if (cutP (min 20 r.length) r).all ofOk then some ((cutP (min 20 r.length) r).map numL) else none := by
  have hc := cut_clean (min 20 r.length) r (by omega)
  have hs := cut_slashed (min 20 r.length) r
  generalize cutP (min 20 r.length) r = ps at *
  have h2 := segs_slashed ps (47 :: r).length (by rw [hs]; exact Nat.le_refl _) hc
  rw [hs] at h2
  unfold pathP
  rw [if_neg (fun e => hr (List.tail_eq_of_cons_eq e)), if_neg (by simp), h2]
  simp only [decide_eq_true h, Bool.and_true]
theorem path_first {l : Bs} {ns : List Nat} (h : pathP l = some ns) : [47].isPrefixOf l = true := by
  rcases pathP_some h with ⟨rfl, _⟩ | ⟨ms, h1, rfl, _, _, _⟩
  · rfl
  · cases ms with
    | nil => exact absurd rfl h1
    | cons m ms => rw [show slashed (m :: ms) = 47 :: (m ++ slashed ms) from by simp [slashed]]; rfl
theorem path_nofirst {l : Bs} (h : Go.Lib.hasPrefix l [47] = false) : pathP l = none := by
  cases hp : pathP l with
  | none => rfl
  | some ns => have := path_first hp; unfold Go.Lib.hasPrefix at h; rw [this] at h; cases h

theorem infoS : (Tryd.prog.info? 9).map (fun i => (i.zero, i.size, i.bytes)) = some (some (.string ByteArray.empty), 1, 16) := by kernel_rfl
def oneSl : ByteArray := ⟨#[47]⟩
set_option maxHeartbeats 1600000 in
theorem genSplit_one (s : ByteArray) (w : World) (hs : s.size ≤ 1000000) :
    Calls Tryd.prog 27 #[.string s, .string oneSl, .int .i64 0, .int .i64 21] w fun e w' =>
      e = .returned (.slice (some ⟨w.heap.size, 0, none⟩) (Go.Lib.splitB oneSl 0 (min 21 (s.size + 1) - 1) s).length (min 21 (s.size + 1))) ∧ w' = w.alloc (.cells (Go.Lib.cellsOf (Go.Lib.splitB oneSl 0 (min 21 (s.size + 1) - 1) s) (min 21 (s.size + 1))) 9) := by
  refine Any.strings_genSplit_core Tryd.lays221 infoS s oneSl 0 21 (min 21 (s.size + 1)) w (by omega) (by decide) (Nat.zero_le _) ?_ ?_ (by decide) (by decide) (by rw [if_neg (by decide)]; omega)
  · intro x c _
    refine (Any.strings_Index_one { Tryd.lays221 with } x 47 _).mono ?_
    rintro e w' ⟨rfl, rfl⟩
    exact ⟨by show _ = Ending.returned (Value.int .i64 (Go.Lib.index x.data.toList [47])); rw [Go.Lib.index_one], rfl⟩
  · refine (Any.strings_Count_one { Tryd.lays221 with } s 47 w).mono ?_
    rintro e w' ⟨rfl, rfl⟩
    exact ⟨by show _ = Ending.returned (Value.int .i64 ((Go.Lib.count s.data.toList [47] : Nat) : Int)); rw [Go.Lib.count_one]; rfl, rfl⟩
set_option maxHeartbeats 1600000 in
/-- What strings.SplitN answers: the pieces, in a row of their own. -/
theorem splitN_any (s : ByteArray) (w : World) (hs : s.size ≤ 1000000) :
    Calls Tryd.prog 24 #[.string s, .string oneSl, .int .i64 21] w fun e w' => ∃ ps : List ByteArray, ∃ A c, ps.map tx = cutP (min 20 (tx s).length) (tx s) ∧ e = .returned (.slice A ps.length c) ∧ Sl w' A ps.length c (ps.map sv) ∧ Ext w w' := by
  have HG := Lib.hid (genSplit_one s w hs)
  have hps : (Go.Lib.splitB oneSl 0 (min 21 (s.size + 1) - 1) s).map tx = cutP (min 20 (tx s).length) (tx s) := by
    rw [show min 21 (s.size + 1) - 1 = min 20 (tx s).length from by rw [tx_len]; omega]
    exact Go.Lib.splitB_data oneSl 0 _ s
  have hle : (Go.Lib.splitB oneSl 0 (min 21 (s.size + 1) - 1) s).length ≤ min 21 (s.size + 1) := by
    have := Go.Lib.splitB_length_le oneSl 0 (min 21 (s.size + 1) - 1) s
    omega
  generalize Go.Lib.splitB oneSl 0 (min 21 (s.size + 1) - 1) s = ps at *
  have hc21 : min 21 (s.size + 1) ≤ 21 := Nat.min_le_left _ _
  generalize min 21 (s.size + 1) = c at *
  have HX := Lib.hid ((Ext.refl w).alloc (.cells (Go.Lib.cellsOf ps c) 9))
  have HS := Lib.hid (show Sl (w.alloc (.cells (Go.Lib.cellsOf ps c) 9)) (some ⟨w.heap.size, 0, none⟩) ps.length c (ps.map sv) from
    ⟨(fun h => by cases h), hle, (by unfold maxLen; omega), fun _ => ⟨w.heap.size, 0, rfl, by simp, fun j u hu => by
      have h1 := heap_alloc_new w (.cells (Go.Lib.cellsOf ps c) 9)
      unfold World.cell?
      rw [h1]
      have h2 : j < (ps.map Value.string).length := by have := (List.getElem?_eq_some_iff.1 hu).1; simpa using this
      show (Go.Lib.cellsOf ps c)[0 + j]? = some u
      unfold Go.Lib.cellsOf
      rw [List.getElem?_toArray, Nat.zero_add, List.getElem?_append_left h2]
      exact hu⟩⟩)
  have HP := Lib.hid hps
  clear hps hle
  generalize World.alloc w _ = w1 at *
  go_enter Tryd.func24, Tryd.ntmps24
  go_wp2_with (go_at_call 27; refine HG.out.mono ?_; rintro e w2 ⟨rfl, rfl⟩)
  go_ret
  exact ⟨ps, _, c, HP.out, rfl, HS.out, HX.out⟩
end Go.Proofs.YtpdeagndandnjaaDoor
