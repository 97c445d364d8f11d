/- A byte that is changed: the sum is another, and a sealed block isn't opened; rows of the call's own whose cells may be written. -/
import Derived.Test.YthaebcljehmhmaaSlotN
namespace Go.Proofs.Ythaebcljehmhmaa
open Go.RowKit

theorem pow256 (k : Nat) : (256 : Nat) ^ k = 2 ^ (8 * k) := by rw [show (256 : Nat) = 2 ^ 8 from rfl, ← Nat.pow_mul]
/-- With one byte changed the sum is another one, and with none it is that. -/
theorem crc_set (l : List UInt8) (k : Nat) (u : UInt8) (hk : k < l.length) : crc (l.set k (l[k] ^^^ u)) = crc l ↔ u = 0 := by
  constructor
  · intro h
    unfold crc at h
    have h1 : reg 4294967295 (l.set k (l[k] ^^^ u)) = reg 4294967295 l := by
      have := congrArg (· ^^^ 4294967295) h
      simpa [Nat.xor_assoc] using this
    rw [reg_num, reg_num, List.length_set, leNat_set l k u hk, ← Nat.xor_assoc, foldN_xor] at h1
    have h3 : foldN (8 * l.length) (256 ^ k * u.toNat) = 0 := by
      have := congrArg (foldN (8 * l.length) (4294967295 ^^^ leNat l) ^^^ ·) h1
      simp only [← Nat.xor_assoc, Nat.xor_self, Nat.zero_xor] at this
      exact this
    rw [show 8 * l.length = 8 * k + (8 * l.length - 8 * k) by omega, foldN_add, pow256, foldN_shift] at h3
    have := foldN_zero _ _ (by have := u.toNat_lt; omega) h3
    exact UInt8.toNat_inj.1 (by simpa using this)
  · intro h
    subst h
    simp
/-- A sealed block with one byte changed is none. -/
theorem open_set (c : List UInt8) (k : Nat) (u : UInt8) (hc : c.length = 40) (hk : k < c.length) (hu : u ≠ 0) (h : reg 4294967295 c = foldN 32 4294967295) : openE (c.set k (c[k] ^^^ u)) = 2 := by
  have hu0 : u.toNat ≠ 0 := fun e => hu (UInt8.toNat_inj.1 (by simpa using e))
  have hlt := u.toNat_lt
  have hx := leNat_set c k u hk
  rw [pow256] at hx
  rcases Nat.lt_or_ge k 37 with h37 | h37
  · exact open_spoilt c _ (8 * k) u.toNat hc (by simpa using hc) (by omega) (by omega) hu0 hx h
  · obtain ⟨f, hf⟩ : ∃ f : Nat, f = 288 := ⟨_, rfl⟩
    have e : 2 ^ (8 * k) * u.toNat = 2 ^ f * (2 ^ (8 * (k - 36)) * u.toNat) := by
      rw [← Nat.mul_assoc, ← Nat.pow_add]; congr 2; omega
    rw [e] at hx
    have h3 : 2 ^ (8 * (k - 36)) ≤ 2 ^ 24 := Nat.pow_le_pow_right (by omega) (by omega)
    have h4 : 2 ^ (8 * (k - 36)) * u.toNat ≤ 2 ^ 24 * 255 := Nat.mul_le_mul h3 (by omega)
    exact open_spoilt c _ f (2 ^ (8 * (k - 36)) * u.toNat) hc (by simpa using hc) (by omega) (by omega) (Nat.mul_ne_zero (by have : 0 < 2 ^ (8 * (k - 36)) := Nat.pow_pos (by omega); omega) hu0) hx h
theorem par_closed {b : ByteArray} (h : openE b.data.toList = 2) : parS b = none := by
  unfold parS; rw [if_neg (fun e => by rw [h] at e; exact absurd e.1 (by decide))]
/-- The block of a right one is sealed. -/
theorem supB_reg (x : Sup) (h : supR x = true) : reg 4294967295 (supB x).data.toList = foldN 32 4294967295 := by
  unfold supB
  rw [if_pos h]
  unfold sealB
  rw [if_pos (by rw [supL_length]; omega)]
  exact reg_seal (padL (supL x))
theorem par_spoilt (x : Sup) (h : supR x = true) (k : Nat) (hk : k < (supB x).data.toList.length) (u : UInt8) (hu : u ≠ 0) : parS ⟨((supB x).data.toList.set k ((supB x).data.toList[k] ^^^ u)).toArray⟩ = none :=
  par_closed (open_set _ k u (by have := supB_size x h; simpa using this) hk hu (supB_reg x h))

/-- Block g's first cells are the bytes l, and none is frozen. -/
def Free (w : World) (g : Nat) (l : List UInt8) : Prop := ∃ cur t, w.heap[g]? = some (.cells cur t (0, 0)) ∧ ∀ j (hj : j < l.length), cur[j]? = some (bv l[j])
theorem Free.lt {w : World} {g : Nat} {l : List UInt8} (h : Free w g l) : g < w.heap.size := by
  obtain ⟨cur, t, h1, _⟩ := h
  exact (Array.getElem?_eq_some_iff.1 h1).1
theorem Free.cell {w : World} {g : Nat} {l : List UInt8} (h : Free w g l) (j : Nat) (hj : j < l.length) : w.cell? ⟨g, j, none⟩ = some (.int .u8 (l[j].toNat : Int)) := by
  obtain ⟨cur, t, h1, h2⟩ := h
  rw [cell_of_row w g j cur t (0, 0) h1, h2 j hj]; rfl
theorem Free.free {w : World} {g : Nat} {l : List UInt8} (h : Free w g l) (j : Nat) : w.frozen? ⟨g, j, none⟩ = false := by
  obtain ⟨cur, t, h1, _⟩ := h
  simp [World.frozen?, h1]
theorem Free.set {w : World} {g : Nat} {l : List UInt8} (h : Free w g l) (j : Nat) (u : UInt8) : Free (w.setCell ⟨g, j, none⟩ (bv u)) g (l.set j u) := by
  obtain ⟨cur, t, h1, h2⟩ := h
  refine ⟨cur.setIfInBounds j (bv u), t, ?_, fun i hi => ?_⟩
  · simp [World.setCell, Array.getElem?_modify, h1]
  · have hi' : i < l.length := by simpa using hi
    rw [Array.getElem?_setIfInBounds]
    by_cases e : j = i
    · subst e
      have hlt : j < cur.size := (Array.getElem?_eq_some_iff.1 (h2 j hi')).1
      simp [hlt]
    · rw [if_neg e, h2 i hi']
      simp [e]
theorem Free.cells {w : World} {g : Nat} {l : List UInt8} (h : Free w g l) : Cells w (some ⟨g, 0, none⟩) (l.map bv) := fun _ =>
  ⟨g, 0, rfl, h.lt, fun j u hu => by
    have hj : j < l.length := by have := (List.getElem?_eq_some_iff.1 hu).1; simpa using this
    rw [Nat.zero_add, h.cell j hj, ← hu]
    simp [bv, hj]⟩
theorem own_free {w : World} {B n c : Nat} {A : Option Addr} {l : List UInt8} (h : w.ownsRow B 5 1 (.slice A n c) n (l.map bv)) (hn : 1 ≤ n) : ∃ g, A = some ⟨g, 0, none⟩ ∧ B ≤ g ∧ Free w g l ∧ n ≤ c ∧ c ≤ maxLen := by
  rcases h.2 with ⟨e1, h0⟩ | ⟨g, cap', cur, e1, hg, hh, hnc, hcm, _⟩
  · omega
  · cases e1
    refine ⟨g, rfl, hg, ⟨cur, _, hh, fun j hj => ?_⟩, hnc, hcm⟩
    have h1 := h.cellAt j (by have := h.1; simp at this ⊢; omega)
    rw [cell_of_row w g j cur _ _ hh] at h1
    simpa [hj] using h1
theorem Bx.cells1 {w : World} {g : Nat} {u : UInt8} (h : Bx w g #[bv u]) : Cells w (some ⟨g, 0, none⟩) (([u] : List UInt8).map bv) := fun _ =>
  ⟨g, 0, rfl, h.lt, fun j v hv => by
    have hj := (List.getElem?_eq_some_iff.1 hv).1
    obtain rfl : j = 0 := by simp at hj; exact hj
    have e : v = bv u := by simpa using hv.symm
    rw [e]; exact h.at 0 _ rfl⟩
theorem bits_u8 (a b : UInt8) : Value.int .u8 (bits BinOp.xor IntKind.u8 (a.toNat : Int) (b.toNat : Int)) = bv (a ^^^ b) := by rw [bits_xor8]; rfl
end Go.Proofs.Ythaebcljehmhmaa
