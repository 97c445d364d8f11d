/- Names as numbers, and paths as rows of names: the plain theory. No program in sight. -/
import Derived.Test.YtpdeagndandnjaaDoorLaw
namespace Go.Proofs.YtpdeagndandnjaaDoor
set_option maxRecDepth 20000
open Go.RowKit

abbrev Bs := List UInt8
/-- P17.1: a letter; a name's number. -/
def letB (b : UInt8) : Bool := decide (97 ≤ b.toNat) && decide (b.toNat ≤ 122)
def numL (l : Bs) : Nat := l.foldl (fun n b => 27 * n + (b.toNat - 96)) 0
def ofOk (l : Bs) : Bool := decide (1 ≤ l.length) && (decide (l.length ≤ 4) && l.all letB)
def ofN (l : Bs) : Nat := if ofOk l then numL l else 0
def ofE (l : Bs) : Nat := if ofOk l then 0 else 1
theorem letB_iff {b : UInt8} : letB b = true ↔ 97 ≤ b.toNat ∧ b.toNat ≤ 122 := by unfold letB; simp
theorem numL_snoc (l : Bs) (b : UInt8) : numL (l ++ [b]) = 27 * numL l + (b.toNat - 96) := by unfold numL; simp
theorem ofOk_iff {l : Bs} : ofOk l = true ↔ (1 ≤ l.length ∧ l.length ≤ 4) ∧ ∀ b ∈ l, letB b = true := by unfold ofOk; simp [and_assoc]
/-- The figures to the base 27, the last one last. -/
def digs : Nat → Nat → List Nat
  | 0, _ => []
  | f + 1, n => if n = 0 then [] else digs f (n / 27) ++ [n % 27]
def chr (d : Nat) : UInt8 := UInt8.ofNat (96 + d)
def textOk (n : Int) : Bool := decide (1 ≤ n) && (decide (n ≤ 531440) && (digs 4 n.toNat).all (fun d => decide (d ≠ 0)))
def textL (n : Int) : Bs := if textOk n then (digs 4 n.toNat).map chr else []
def textE (n : Int) : Nat := if textOk n then 0 else 1
theorem chr_nat {d : Nat} (h : d < 27) : (chr d).toNat = 96 + d := by
  unfold chr
  rw [UInt8.toNat_ofNat']
  omega
theorem chr_let {d : Nat} (h : d < 27) (h0 : d ≠ 0) : letB (chr d) = true := by rw [letB_iff, chr_nat h]; omega
theorem chr_of {b : UInt8} (h : letB b = true) : chr (b.toNat - 96) = b := by
  have hb := letB_iff.1 h
  apply UInt8.toNat_inj.1
  rw [chr_nat (by omega)]
  omega
theorem digs_lt : ∀ (f n : Nat), ∀ d ∈ digs f n, d < 27
  | 0, _, d, h => by simp [digs] at h
  | f + 1, n, d, h => by
    rw [digs] at h
    split at h
    · simp at h
    · rw [List.mem_append] at h
      rcases h with h | h
      · exact digs_lt f _ d h
      · simp at h; omega
theorem digs_len : ∀ (f n : Nat), (digs f n).length ≤ f
  | 0, _ => by simp [digs]
  | f + 1, n => by
    rw [digs]
    split
    · simp
    · have := digs_len f (n / 27); simp; omega
theorem digs_pos {f n : Nat} (h : n ≠ 0) : 1 ≤ (digs (f + 1) n).length := by rw [digs, if_neg h]; simp
/-- The number of these figures. -/
theorem num_digs : ∀ (f n : Nat), n < 27 ^ f → (∀ d ∈ digs f n, d ≠ 0) → numL ((digs f n).map chr) = n
  | 0, n, h, _ => by
    have : n = 0 := by simpa using h
    subst this
    rfl
  | f + 1, n, h, hd => by
    rw [digs]
    split
    · rename_i h0; rw [h0]; rfl
    · rename_i h0
      rw [digs, if_neg h0] at hd
      have hd1 : ∀ d ∈ digs f (n / 27), d ≠ 0 := fun d h => hd d (List.mem_append_left _ h)
      have ih := num_digs f (n / 27) (by rw [Nat.pow_succ] at h; omega) hd1
      rw [List.map_append, List.map_singleton, numL_snoc, ih, chr_nat (Nat.mod_lt _ (by omega))]
      omega
theorem digs_num : ∀ (f : Nat) (l : Bs), l.length ≤ f → (∀ b ∈ l, letB b = true) → (digs f (numL l)).map chr = l ∧ (∀ d ∈ digs f (numL l), d ≠ 0) ∧ numL l < 27 ^ f ∧ (l ≠ [] → numL l ≠ 0)
  | 0, l, h, _ => by
    obtain rfl : l = [] := List.eq_nil_of_length_eq_zero (by omega)
    exact ⟨rfl, by simp [digs], by simp [numL], fun h => absurd rfl h⟩
  | f + 1, l, h, hl => by
    rcases List.eq_nil_or_concat l with rfl | ⟨r, b, rfl⟩
    · exact ⟨by simp [digs, numL], by simp [digs, numL], by simp [numL]; exact Nat.pow_pos (by omega), fun h => absurd rfl h⟩
    · rw [List.concat_eq_append] at h hl ⊢
      rw [List.length_append, List.length_singleton] at h
      obtain ⟨h1, h2, h3, _⟩ := digs_num f r (by omega) (fun b hb => hl b (List.mem_append_left _ hb))
      have hb := hl b (List.mem_append_right _ (by simp))
      have hb' := letB_iff.1 hb
      rw [numL_snoc]
      have e1 : (27 * numL r + (b.toNat - 96)) / 27 = numL r := by omega
      have e2 : (27 * numL r + (b.toNat - 96)) % 27 = b.toNat - 96 := by omega
      have e3 : 27 * numL r + (b.toNat - 96) ≠ 0 := by omega
      rw [digs, if_neg e3, e1, e2]
      refine ⟨by rw [List.map_append, h1, List.map_singleton, chr_of hb], fun d hd => ?_, by rw [Nat.pow_succ]; omega, fun _ => e3⟩
      rw [List.mem_append] at hd
      rcases hd with hd | hd
      · exact h2 d hd
      · simp at hd; omega
/-- P17.4: what is told as a number is told back. -/
theorem text_of {l : Bs} (h : ofOk l = true) : textOk (numL l : Int) = true ∧ textL (numL l : Int) = l ∧ 1 ≤ numL l ∧ numL l ≤ 531440 := by
  obtain ⟨⟨h1, h2⟩, h3⟩ := ofOk_iff.1 h
  obtain ⟨a, b, c, d⟩ := digs_num 4 l h2 h3
  have hne : numL l ≠ 0 := d (by intro e; rw [e] at h1; simp at h1)
  have hok : textOk (numL l : Int) = true := by
    unfold textOk
    simp only [Bool.and_eq_true, decide_eq_true_eq, List.all_eq_true, Int.toNat_natCast]
    exact ⟨by omega, by omega, fun d hd => b d hd⟩
  refine ⟨hok, ?_, by omega, by omega⟩
  unfold textL
  rw [if_pos hok, Int.toNat_natCast, a]
theorem of_text {n : Int} (h : textOk n = true) : ofOk (textL n) = true ∧ (numL (textL n) : Int) = n ∧ (textL n).length = (digs 4 n.toNat).length := by
  have h' := h
  unfold textOk at h'
  simp only [Bool.and_eq_true, decide_eq_true_eq, List.all_eq_true] at h'
  obtain ⟨h1, h2, h3⟩ := h'
  have e : textL n = (digs 4 n.toNat).map chr := by unfold textL; rw [if_pos h]
  have hn := num_digs 4 n.toNat (by omega) h3
  rw [e]
  refine ⟨?_, by rw [hn]; omega, by simp⟩
  rw [ofOk_iff]
  refine ⟨⟨?_, by simpa using digs_len 4 n.toNat⟩, fun b hb => ?_⟩
  · rw [List.length_map]; exact digs_pos (by omega)
  · obtain ⟨d, hd, rfl⟩ := List.mem_map.1 hb
    exact chr_let (digs_lt 4 _ d hd) (h3 d hd)
/-- Longer names have greater numbers. -/
theorem num_range : ∀ (n : Nat) (l : Bs), l.length = n → (∀ b ∈ l, letB b = true) → 27 ^ n ≤ 26 * numL l + 1 ∧ numL l < 27 ^ n
  | 0, l, h, _ => by
    obtain rfl : l = [] := List.eq_nil_of_length_eq_zero h
    simp [numL]
  | n + 1, l, hn, h => by
    rcases List.eq_nil_or_concat l with rfl | ⟨r, b, rfl⟩
    · simp at hn
    · rw [List.concat_eq_append] at hn h ⊢
      rw [List.length_append, List.length_singleton] at hn
      obtain ⟨h1, h2⟩ := num_range n r (by omega) (fun x hx => h x (List.mem_append_left _ hx))
      have hb := letB_iff.1 (h b (List.mem_append_right _ (by simp)))
      rw [numL_snoc, Nat.pow_succ]
      omega
theorem num_len {l m : Bs} (hl : ∀ b ∈ l, letB b = true) (hm : ∀ b ∈ m, letB b = true) (h : l.length < m.length) : numL l < numL m := by
  obtain ⟨_, h2⟩ := num_range l.length l rfl hl
  obtain ⟨h3, _⟩ := num_range m.length m rfl hm
  have h4 : 27 ^ (l.length + 1) ≤ 27 ^ m.length := Nat.pow_le_pow_right (by omega) (by omega)
  rw [Nat.pow_succ] at h4
  omega
/-- Of as many letters the one that is greater byte by byte has the greater one. -/
def ltB : Bs → Bs → Bool
  | [], [] => false
  | [], _ :: _ => true
  | _ :: _, [] => false
  | a :: l, b :: m => decide (a.toNat < b.toNat) || (decide (a = b) && ltB l m)
theorem num_cons (a : UInt8) : ∀ (l : Bs), numL (a :: l) = (a.toNat - 96) * 27 ^ l.length + numL l := by
  have key : ∀ (l : Bs) (k : Nat), l.foldl (fun n b => 27 * n + (b.toNat - 96)) k = k * 27 ^ l.length + numL l := by
    intro l
    induction l with
    | nil => intro k; simp [numL]
    | cons b r ih =>
      intro k
      unfold numL
      rw [List.foldl_cons, List.foldl_cons, ih, ih, List.length_cons, Nat.pow_succ, Nat.mul_zero, Nat.zero_add, Nat.add_mul]
      have : 27 * k * 27 ^ r.length = k * (27 ^ r.length * 27) := by rw [Nat.mul_comm 27 k, Nat.mul_assoc, Nat.mul_comm 27]
      omega
  intro l
  unfold numL
  rw [List.foldl_cons, key]
  simp [numL]
theorem num_lt : ∀ {l m : Bs}, (∀ b ∈ l, letB b = true) → (∀ b ∈ m, letB b = true) → l.length = m.length → (numL l < numL m ↔ ltB l m = true) ∧ (numL l = numL m ↔ l = m)
  | [], [], _, _, _ => by simp [ltB]
  | a :: l, b :: m, hl, hm, h => by
    have hlen : l.length = m.length := by simpa using h
    obtain ⟨i1, i2⟩ := num_lt (fun x hx => hl x (List.mem_cons_of_mem _ hx)) (fun x hx => hm x (List.mem_cons_of_mem _ hx)) hlen
    obtain ⟨_, r1⟩ := num_range l.length l rfl (fun x hx => hl x (List.mem_cons_of_mem _ hx))
    obtain ⟨_, r2⟩ := num_range m.length m rfl (fun x hx => hm x (List.mem_cons_of_mem _ hx))
    have ha := letB_iff.1 (hl a List.mem_cons_self)
    have hb := letB_iff.1 (hm b List.mem_cons_self)
    rw [num_cons, num_cons, ltB, hlen]
    rw [hlen] at r1
    generalize 27 ^ m.length = p at *
    rcases Nat.lt_trichotomy a.toNat b.toNat with hab | hab | hab
    · have hne : a ≠ b := fun e => by rw [e] at hab; omega
      have hmul : (a.toNat - 96) * p + p ≤ (b.toNat - 96) * p := by
        have : (a.toNat - 96 + 1) * p ≤ (b.toNat - 96) * p := Nat.mul_le_mul_right _ (by omega)
        rw [Nat.add_mul] at this
        omega
      refine ⟨⟨fun _ => by simp [hab], fun _ => by omega⟩, ⟨fun e => by omega, fun e => by cases e; exact absurd rfl hne⟩⟩
    · have hab2 : a = b := UInt8.toNat_inj.1 hab
      subst hab2
      simp only [Nat.lt_irrefl, decide_false, decide_true, Bool.true_and, Bool.false_or, List.cons.injEq, true_and]
      refine ⟨?_, ?_⟩
      · rw [← i1]; omega
      · rw [← i2]; omega
    · have hne : a ≠ b := fun e => by rw [e] at hab; omega
      have hmul : (b.toNat - 96) * p + p ≤ (a.toNat - 96) * p := by
        have : (b.toNat - 96 + 1) * p ≤ (a.toNat - 96) * p := Nat.mul_le_mul_right _ (by omega)
        rw [Nat.add_mul] at this
        omega
      refine ⟨⟨fun h => by omega, fun h => by simp [hne, show ¬ a.toNat < b.toNat by omega] at h⟩, ⟨fun e => by omega, fun e => by cases e; exact absurd rfl hne⟩⟩
  | [], _ :: _, _, _, h => by simp at h
  | _ :: _, [], _, _, h => by simp at h
/-- P17.2: a path's names. -/
def isSl (b : UInt8) : Bool := decide (b = 47)
def segs : Nat → Bs → Option (List Bs)
  | _, [] => some []
  | 0, _ :: _ => none
  | f + 1, c :: r => if isSl c then (segs f (r.dropWhile (fun b => !isSl b))).map (fun l => r.takeWhile (fun b => !isSl b) :: l) else none
def pathP (l : Bs) : Option (List Nat) :=
  if l = [47] then some [] else if l = [] then none else
    match segs l.length l with
    | none => none
    | some ns => if ns.all ofOk && decide (ns.length ≤ 20) then some (ns.map numL) else none
def pathL (l : Bs) : List Nat := (pathP l).getD []
def pathE (l : Bs) : Nat := if (pathP l).isSome then 0 else 1
/-- P17.2: the path of these names. -/
def slashed (ns : List Bs) : Bs := ns.flatMap (fun n => 47 :: n)
def joinOk (l : List Int) : Bool := decide (l.length ≤ 20) && l.all textOk
def joinL (l : List Int) : Bs := if joinOk l then (if l = [] then [47] else slashed (l.map textL)) else []
def joinE (l : List Int) : Nat := if joinOk l then 0 else 1
theorem mem_tw {α : Type} {p : α → Bool} {x : α} : ∀ {l : List α}, x ∈ l.takeWhile p → p x = true
  | [], h => by simp at h
  | a :: l, h => by
    rw [List.takeWhile_cons] at h
    split at h
    · rename_i ha
      rcases List.mem_cons.1 h with rfl | h
      · exact ha
      · exact mem_tw h
    · simp at h
theorem no_sl {l : Bs} (h : ∀ b ∈ l, letB b = true) : ∀ b ∈ l, isSl b = false := fun b hb => by
  have := letB_iff.1 (h b hb)
  unfold isSl
  rw [decide_eq_false_iff_not]
  intro e
  rw [e] at this
  simp at this
theorem take_noS {l r : Bs} (h : ∀ b ∈ l, isSl b = false) : (l ++ 47 :: r).takeWhile (fun b => !isSl b) = l ∧ (l ++ 47 :: r).dropWhile (fun b => !isSl b) = 47 :: r ∧ l.takeWhile (fun b => !isSl b) = l ∧ l.dropWhile (fun b => !isSl b) = [] := by
  induction l with
  | nil => simp [isSl]
  | cons a l ih =>
    obtain ⟨h1, h2, h3, h4⟩ := ih (fun b hb => h b (List.mem_cons_of_mem _ hb))
    have ha : isSl a = false := h a List.mem_cons_self
    simp [ha, h1, h2, h3, h4]
theorem segs_slashed : ∀ (ns : List Bs) (f : Nat), (slashed ns).length ≤ f → (∀ n ∈ ns, ∀ b ∈ n, isSl b = false) → segs f (slashed ns) = some ns
  | [], f, _, _ => by cases f <;> rfl
  | n :: ns, 0, h, _ => by simp [slashed] at h
  | n :: ns, f + 1, h, hn => by
    have hn0 := hn n List.mem_cons_self
    have e : slashed (n :: ns) = 47 :: (n ++ slashed ns) := by simp [slashed]
    rw [e] at h ⊢
    simp only [List.length_cons, List.length_append] at h
    have ih := segs_slashed ns f (by omega) (fun m hm => hn m (List.mem_cons_of_mem _ hm))
    have key : (n ++ slashed ns).takeWhile (fun b => !isSl b) = n ∧ (n ++ slashed ns).dropWhile (fun b => !isSl b) = slashed ns := by
      cases ns with
      | nil =>
        have := take_noS (r := []) hn0
        simp only [slashed, List.flatMap_nil, List.append_nil]
        exact ⟨this.2.2.1, this.2.2.2⟩
      | cons m ms =>
        rw [show slashed (m :: ms) = 47 :: (m ++ slashed ms) from by simp [slashed]]
        have := take_noS (r := m ++ slashed ms) hn0
        exact ⟨this.1, this.2.1⟩
    rw [segs, if_pos (by unfold isSl; simp), key.1, key.2, ih]
    rfl
theorem slashed_segs : ∀ (f : Nat) (l : Bs) (ns : List Bs), segs f l = some ns → slashed ns = l ∧ ∀ n ∈ ns, ∀ b ∈ n, isSl b = false
  | 0, [], ns, h => by simp [segs] at h; subst h; simp [slashed]
  | f + 1, [], ns, h => by simp [segs] at h; subst h; simp [slashed]
  | 0, _ :: _, ns, h => by simp [segs] at h
  | f + 1, c :: r, ns, h => by
    rw [segs] at h
    split at h
    · rename_i hc
      rw [Option.map_eq_some_iff] at h
      obtain ⟨ms, h1, rfl⟩ := h
      obtain ⟨i1, i2⟩ := slashed_segs f _ ms h1
      have hc : c = 47 := by unfold isSl at hc; simpa using hc
      subst hc
      refine ⟨?_, fun n hn => ?_⟩
      · rw [show slashed (List.takeWhile (fun b => !isSl b) r :: ms) = 47 :: (List.takeWhile (fun b => !isSl b) r ++ slashed ms) from by simp [slashed], i1, List.takeWhile_append_dropWhile]
      · rcases List.mem_cons.1 hn with rfl | hn
        · intro b hb
          have := mem_tw hb
          simpa using this
        · exact i2 n hn
    · cases h
theorem slashed_ne {n : Bs} {ns : List Bs} : slashed (n :: ns) ≠ [] := by simp [slashed]
theorem slashed_one {ns : List Bs} (h : ns.all ofOk = true) : slashed ns ≠ [47] := fun e => by
  cases ns with
  | nil => simp [slashed] at e
  | cons n ns =>
    rw [show slashed (n :: ns) = 47 :: (n ++ slashed ns) from by simp [slashed]] at e
    rw [List.all_cons, Bool.and_eq_true] at h
    have := (ofOk_iff.1 h.1).1.1
    injection e with _ e
    have : n = [] := List.append_eq_nil_iff.1 e |>.1
    subst this
    simp at *
theorem ok_no {ns : List Bs} (h : ns.all ofOk = true) : ∀ n ∈ ns, ∀ b ∈ n, isSl b = false := fun n hn => no_sl (ofOk_iff.1 (List.all_eq_true.1 h n hn)).2
/-- What a path is. -/
theorem pathP_some {l : Bs} {ns : List Nat} (h : pathP l = some ns) : (l = [47] ∧ ns = []) ∨ ∃ ms, ms ≠ [] ∧ l = slashed ms ∧ ms.all ofOk = true ∧ ms.length ≤ 20 ∧ ns = ms.map numL := by
  unfold pathP at h
  split at h
  · rename_i e; simp at h; exact .inl ⟨e, h⟩
  · split at h
    · cases h
    · rename_i h1 h2
      cases hs : segs l.length l with
      | none => rw [hs] at h; cases h
      | some ms =>
        rw [hs] at h
        simp only at h
        split at h
        · rename_i hc
          rw [Bool.and_eq_true, decide_eq_true_eq] at hc
          injection h with h
          obtain ⟨e, _⟩ := slashed_segs _ _ _ hs
          exact .inr ⟨ms, fun e2 => by subst e2; simp [slashed] at e; exact h2 e, e.symm, hc.1, hc.2, h.symm⟩
        · cases h
theorem pathP_slashed {ms : List Bs} (hne : ms ≠ []) (h : ms.all ofOk = true) : pathP (slashed ms) = if ms.length ≤ 20 then some (ms.map numL) else none := by
  unfold pathP
  rw [if_neg (slashed_one h), if_neg (by cases ms with | nil => exact absurd rfl hne | cons n ns => exact slashed_ne), segs_slashed ms _ (Nat.le_refl _) (ok_no h)]
  simp only [h, Bool.true_and, decide_eq_true_eq]
theorem pathP_root : pathP [47] = some [] := by unfold pathP; rw [if_pos rfl]
/-- P17.4: a path that is told as numbers is told back. -/
theorem join_path {l : Bs} {ns : List Nat} (h : pathP l = some ns) : joinOk (ns.map (fun (n : Nat) => (n : Int))) = true ∧ joinL (ns.map (fun (n : Nat) => (n : Int))) = l ∧ ns.length ≤ 20 := by
  rcases pathP_some h with ⟨rfl, rfl⟩ | ⟨ms, h1, rfl, h3, h4, rfl⟩
  · exact ⟨by decide, by decide, by simp⟩
  · have hok : joinOk ((ms.map numL).map (fun (n : Nat) => (n : Int))) = true := by
      unfold joinOk
      rw [Bool.and_eq_true, decide_eq_true_eq, List.all_eq_true]
      refine ⟨by simpa using h4, fun x hx => ?_⟩
      rw [List.map_map, List.mem_map] at hx
      obtain ⟨n, hn, rfl⟩ := hx
      exact (text_of (List.all_eq_true.1 h3 n hn)).1
    refine ⟨hok, ?_, by simpa using h4⟩
    unfold joinL
    rw [if_pos hok, if_neg (by cases ms with | nil => exact absurd rfl h1 | cons n ns => simp), List.map_map, List.map_map]
    congr 1
    have : ms.map ((textL ∘ fun (n : Nat) => (n : Int)) ∘ numL) = ms.map id := List.map_congr_left (fun n hn => (text_of (List.all_eq_true.1 h3 n hn)).2.1)
    rw [this, List.map_id]
theorem path_join {l : List Int} (h : joinOk l = true) : ∃ ns : List Nat, pathP (joinL l) = some ns ∧ ns.map (fun (n : Nat) => (n : Int)) = l := by
  have h' := h
  unfold joinOk at h'
  rw [Bool.and_eq_true, decide_eq_true_eq, List.all_eq_true] at h'
  unfold joinL
  rw [if_pos h]
  by_cases hl : l = []
  · subst hl; exact ⟨[], by rw [if_pos rfl, pathP_root], rfl⟩
  · rw [if_neg hl, pathP_slashed (by simpa using hl) (by rw [List.all_eq_true]; intro x hx; obtain ⟨n, hn, rfl⟩ := List.mem_map.1 hx; exact (of_text (h'.2 n hn)).1), if_pos (by simpa using h'.1)]
    refine ⟨_, rfl, ?_⟩
    rw [List.map_map, List.map_map]
    have : l.map (((fun (n : Nat) => (n : Int)) ∘ numL) ∘ textL) = l.map id := List.map_congr_left (fun n hn => (of_text (h'.2 n hn)).2.1)
    rw [this, List.map_id]
theorem slashed_app (a b : List Bs) : slashed (a ++ b) = slashed a ++ slashed b := by simp [slashed]
/-- Two paths, one behind the other. -/
theorem path_two {s t : Bs} {a b : List Nat} (hs : s ≠ [47]) (ht : t ≠ [47]) (h1 : pathP s = some a) (h2 : pathP t = some b) : pathP (s ++ t) = if a.length + b.length ≤ 20 then some (a ++ b) else none := by
  obtain ⟨ms, m1, rfl, m3, m4, rfl⟩ := (pathP_some h1).resolve_left (fun h => hs h.1)
  obtain ⟨ns, n1, rfl, n3, n4, rfl⟩ := (pathP_some h2).resolve_left (fun h => ht h.1)
  rw [← slashed_app, pathP_slashed (by simp [m1]) (by rw [List.all_append, m3, n3]; rfl)]
  simp
end Go.Proofs.YtpdeagndandnjaaDoor
