/- What else holds of bytes, sums, and sealed blocks; rows of bytes that are the call's own. -/
import Derived.Test.YtpcchbcibcfldaaNumW8
import Derived.Test.YtpcchbcibcfldaaNumQ1
namespace Go.Proofs.Ytpcchbcibcfldaa
open Go.RowKit


theorem Cells.take {w : World} {A : Option Addr} {xs : List Value} (h : Cells w A xs) (k : Nat) : Cells w A (xs.take k) := fun hne => by
  obtain ⟨b, off, e, hlt, hc⟩ := h (by intro e; subst e; simp at hne)
  exact ⟨b, off, e, hlt, fun j u hu => hc j u (by
    rw [List.getElem?_take] at hu
    split at hu
    · exact hu
    · cases hu)⟩
theorem leNat_one (l : List UInt8) (k : Nat) (hk : k < l.length) : leNat ((l.drop k).take 1) = l[k].toNat := by
  rw [List.drop_eq_getElem_cons hk, List.take_succ_cons, List.take_zero]; simp [leNat]
theorem leNat_step (l : List UInt8) (k : Nat) (hk : k < l.length) : leNat (l.take (k + 1)) = leNat (l.take k) + 256 ^ k * l[k].toNat := by
  have := leNat_take_succ l 0 k (by omega)
  simpa using this
theorem putL_take (n w : Nat) : ∀ k, k ≤ w → (putL n w).take k = putL n k := by
  induction w generalizing n with
  | zero =>
    intro k hk
    have e : k = 0 := by omega
    rw [e]; rfl
  | succ w ih =>
    intro k hk
    cases k with
    | zero => rfl
    | succ k => simp only [putL, List.take_succ_cons]; rw [ih _ k (by omega)]
theorem putL_mod (n w : Nat) : putL (n % 256 ^ w) w = putL n w := by
  have h := putL_leNat (putL n w)
  rw [leNat_putL, putL_length] at h
  exact h
theorem putL_inj (a b w : Nat) (ha : a < 256 ^ w) (hb : b < 256 ^ w) (h : putL a w = putL b w) : a = b := by
  have := congrArg leNat h
  rwa [leNat_putL, leNat_putL, Nat.mod_eq_of_lt ha, Nat.mod_eq_of_lt hb] at this


theorem own_empty_b (w : World) : (w.alloc (.cells #[] 5)).ownsRow w.heap.size 5 1 (.slice (some ⟨w.heap.size, 0, none⟩) 0 0) 0 (([] : List UInt8).map bv) :=
  World.ownsRow_lit (base := w.heap.size) (e := 5) (size := 1) w #[] 0 (Nat.le_refl _) (Nat.zero_le _) rfl
theorem own_zero (w : World) (B : Nat) (h : B ≤ w.heap.size) : (w.alloc (.cells #[.int .u8 0] 5)).ownsRow B 5 1 (.slice (some ⟨w.heap.size, 0, none⟩) 1 1) 1 (([0] : List UInt8).map bv) :=
  World.ownsRow_lit (base := B) (e := 5) (size := 1) w #[.int .u8 0] 1 h (by unfold maxLen; omega) rfl

/-- append of bytes onto a row of the call's own. -/
theorem app_bytes (w : World) {ops : Array Oper} {rest : List Oper} {o : Oper} {a : Act} {Q : Exit → Act → World → Prop} (hgd : o.guard = none) (s x : Operand)
    (ho : o.op = .call { callee := .builtin .append, args := #[s, x], argTypes := #[57, 57] })
    (B : Nat) (v : Value) (n : Nat) (l : List UInt8) (hs : a.eval s = v) (hown : w.ownsRow B 5 1 v n (l.map bv))
    (A : Option Addr) (m c : Nat) (k : List UInt8) (hx : a.eval x = .slice A m c) (hl : k.length = m) (hnil : A = none → c = 0) (hc : Cells w A (k.map bv))
    (hsz : n + m ≤ 100000) (hB : B ≤ w.heap.size)
    (h : ∀ A' c' w', w'.ownsRow B 5 1 (.slice A' (n + m) c') (n + m) ((l ++ k).map bv) → w.grownBy w' v.ownBlock → wpList Try.prog ops Q rest (a.put o.dst (.slice A' (n + m) c')) w') : wpList Try.prog ops Q (o :: rest) a w := by
  obtain ⟨i0, hi, hz0, hz1, hz2⟩ := info_parts info5
  subst hl
  refine wpList_app w hgd s x 57 ho B 5 i0 (.int .u8 0) 1 1 Try.underlying57 hi hz0 hz1 hz2 rfl (by decide) v n _ hs hown A k.length c (k.map bv) hx (by simp) (fun e => ⟨hc.none_ e, hnil e⟩) hc.at_ (bytes_oneCell _) (by unfold maxLen; omega) (by omega) hB ?_
  intro v' w' hown' hg
  rw [← List.map_append] at hown'
  obtain ⟨A', c', rfl⟩ := own_shape hown'
  exact h A' c' w' hown' hg

theorem crc_both (a m : List UInt8) : crc ((a ++ putL (crc a) 4) ++ m) = reg (foldN 32 4294967295) m ^^^ 4294967295 := by
  unfold crc
  rw [reg_append]
  have := reg_seal a
  unfold crc at this
  rw [this]


/-- Block g's first cells are the bytes l, and may be written. -/
def Mine (w : World) (g : Nat) (l : List UInt8) : Prop := ∃ cur t lo hi, w.heap[g]? = some (.cells cur t (lo, hi)) ∧ l.length ≤ lo ∧ ∀ j (hj : j < l.length), cur[j]? = some (bv l[j])
theorem Mine.lt {w : World} {g : Nat} {l : List UInt8} (h : Mine w g l) : g < w.heap.size := by
  obtain ⟨cur, t, lo, hi, h1, _⟩ := h
  exact (Array.getElem?_eq_some_iff.1 h1).1
theorem Mine.cell {w : World} {g : Nat} {l : List UInt8} (h : Mine w g l) (j : Nat) (hj : j < l.length) : w.cell? ⟨g, j, none⟩ = some (.int .u8 (l[j].toNat : Int)) := by
  obtain ⟨cur, t, lo, hi, h1, _, h2⟩ := h
  rw [cell_of_row w g j cur t (lo, hi) h1, h2 j hj]; rfl
theorem Mine.free {w : World} {g : Nat} {l : List UInt8} (h : Mine w g l) (j : Nat) (hj : j < l.length) : w.frozen? ⟨g, j, none⟩ = false := by
  obtain ⟨cur, t, lo, hi, h1, h3, _⟩ := h
  simp [World.frozen?, h1]
  omega
theorem Mine.set {w : World} {g : Nat} {l : List UInt8} (h : Mine w g l) (j : Nat) (u : UInt8) : Mine (w.setCell ⟨g, j, none⟩ (bv u)) g (l.set j u) := by
  obtain ⟨cur, t, lo, hi, h1, h3, h2⟩ := h
  refine ⟨cur.setIfInBounds j (bv u), t, lo, hi, ?_, by simpa using h3, fun i hi => ?_⟩
  · simp [World.setCell, Array.getElem?_modify, h1]
  · have hi' : i < l.length := by simpa using hi
    rw [Array.getElem?_setIfInBounds]
    by_cases e : j = i
    · subst e
      have hlt : j < cur.size := (Array.getElem?_eq_some_iff.1 (h2 j hi')).1
      simp [hlt]
    · rw [if_neg e, h2 i hi']
      simp [e]
theorem Mine.cells {w : World} {g : Nat} {l : List UInt8} (h : Mine w g l) : Cells w (some ⟨g, 0, none⟩) (l.map bv) := fun _ =>
  ⟨g, 0, rfl, h.lt, fun j u hu => by
    have hj : j < l.length := by have := (List.getElem?_eq_some_iff.1 hu).1; simpa using this
    rw [Nat.zero_add, h.cell j hj, ← hu]
    simp [bv, hj]⟩
theorem conv_mine (s : ByteArray) (w : World) : ∃ cap W, (convert 9 57 (.string s)).run Try.prog w = .ok (.slice (some ⟨w.heap.size, 0, none⟩) s.size cap) W ∧
    Ext w W ∧ Mine W w.heap.size s.data.toList := by
  refine ⟨_, _, run_bytes_of_string (P := Try.prog) w 9 57 5 s Try.underlying9 Try.underlying57 Try.underlying5, ((Below.refl _ _).drew).alloc (Nat.le_refl _) _, ?_⟩
  have hcap := grownCap_ge w s.size 0 5
  refine ⟨_, 5, _, _, heap_alloc_new w.drew _, ?_, fun j hj => ?_⟩
  · simp [bytesRow]
  · have hj' : j < s.data.size := by simpa using hj
    rw [bytesRow_at s _ j hj']
    simp [bv]

theorem bits_xor8 (a b : UInt8) : bits BinOp.xor IntKind.u8 (a.toNat : Int) (b.toNat : Int) = ((a ^^^ b).toNat : Int) := by
  rw [u8_xor_nat _ _ a.toNat_lt b.toNat_lt, UInt8.toNat_xor]

theorem bits_turn (u : UInt8) (q : Nat) (hq : q < 8) : Value.int .u8 (bits BinOp.xor IntKind.u8 (u.toNat : Int) (2 ^ q)) = bv (u ^^^ UInt8.ofNat (2 ^ q)) := by
  have h8 : 2 ^ q ≤ 2 ^ 7 := Nat.pow_le_pow_right (by omega) (by omega)
  have e : ((2 : Int) ^ q) = (((UInt8.ofNat (2 ^ q)).toNat : Nat) : Int) := by
    rw [show (UInt8.ofNat (2 ^ q)).toNat = 2 ^ q by simp; omega]; simp
  rw [e, bits_xor8]; rfl
theorem open_spoilt (c d : List UInt8) (first t : Nat) (hc : c.length = 40) (hd : d.length = 40) (hf : first ≤ 288) (ht : t < 4294967296) (h0 : t ≠ 0)
    (hx : leNat d = leNat c ^^^ (2 ^ first * t)) (h : reg 4294967295 c = foldN 32 4294967295) : openE d = 2 := by
  refine (open_no (s := d) ?_).1
  rintro ⟨_, hq⟩
  refine spoilt c d first t hc hd hf ht h0 hx h ?_
  have hm : (d.drop 36).take 4 = d.drop 36 := List.take_of_length_le (by simp [hd])
  rw [hm] at hq
  have hl : (d.drop 36).length = 4 := by simp [hd]
  have hput : putL (crc (d.take 36)) 4 = d.drop 36 := by
    rw [← hq, ← hl]; exact putL_leNat _
  have := reg_seal (d.take 36)
  rw [hput, List.take_append_drop] at this
  exact this


/-- What is sealed, opened: b with noughts behind, or nothing. -/
def unsealed (b : List UInt8) : List UInt8 := if b.length ≤ 36 then padL b else []
theorem unsealed_at (b : List UInt8) (i : Nat) (hi : i < (unsealed b).length) : (∀ h : i < b.length, (unsealed b)[i] = b[i]) ∧ (b.length ≤ i → (unsealed b)[i] = 0) := by
  unfold unsealed at hi ⊢
  split at hi
  · rename_i h
    simp only [if_pos h]
    unfold padL
    constructor
    · intro h'; rw [List.getElem_append_left h']
    · intro h'; rw [List.getElem_append_right h']; simp
  · simp at hi
theorem open_sealB (b : List UInt8) : openL (sealB b).data.toList = unsealed b ∧ openE (sealB b).data.toList = (if b.length ≤ 36 then 0 else 2) ∧ (sealB b).size = (if b.length ≤ 36 then 40 else 0) := by
  unfold sealB unsealed
  by_cases h : b.length ≤ 36
  · simp only [if_pos h]
    have := open_seal b h
    exact ⟨this.2, this.1, sealL_length b h⟩
  · simp only [if_neg h]
    have := open_no (s := ([] : List UInt8)) (by simp)
    exact ⟨this.2, this.1, rfl⟩
theorem seal_open (s : ByteArray) (h : openE s.data.toList = 0) : sealV (openL s.data.toList) = .tuple #[.string s, .int .i64 0] := by
  by_cases hc : s.data.toList.length = 40 ∧ leNat ((s.data.toList.drop 36).take 4) = crc (s.data.toList.take 36)
  · obtain ⟨h40, hq⟩ := hc
    rw [(open_yes h40 hq).2]
    have hl : (s.data.toList.take 36).length = 36 := by rw [List.length_take, h40]; rfl
    have hd : (s.data.toList.drop 36).length = 4 := by rw [List.length_drop, h40]
    unfold sealV sealB sealE
    rw [if_pos (by omega), if_pos (by omega)]
    have hp : padL (s.data.toList.take 36) = s.data.toList.take 36 := by unfold padL; rw [hl]; simp
    have e : sealL (s.data.toList.take 36) = s.data.toList := by
      unfold sealL
      have ht : (s.data.toList.drop 36).take 4 = s.data.toList.drop 36 := List.take_of_length_le (by omega)
      rw [hp, ← hq, ht]
      have := putL_leNat (s.data.toList.drop 36)
      rw [hd] at this
      rw [this, List.take_append_drop]
    rw [e]
  · rw [(open_no hc).1] at h
    cases h

theorem unsealed_length (b : List UInt8) : (unsealed b).length = if b.length ≤ 36 then 36 else 0 := by
  unfold unsealed
  by_cases h : b.length ≤ 36
  · rw [if_pos h, if_pos h]; exact padL_length b h
  · rw [if_neg h, if_neg h]; rfl
theorem openE_two (s : List UInt8) : openE s = 0 ∨ openE s = 2 := by
  unfold openE; split
  · exact .inl rfl
  · exact .inr rfl
theorem openL_le (s : List UInt8) : (openL s).length ≤ 36 := by
  unfold openL openS
  split
  · simp; omega
  · simp

end Go.Proofs.Ytpcchbcibcfldaa
