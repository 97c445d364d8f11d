/- Walks of Of, Place, Done, On, whole and Right of the reference of layer 6. Walks of Right and Same of the reference of layer 6. -/
import Derived.Test.YtjbfopnkeclfgaaGreatK17
import Derived.Deep.QuietTactic
import Derived.BigQuiet
namespace Go.Proofs.YtjbfopnkeclfgaaGreat
set_option maxRecDepth 20000
open Go.RowKit

end Go.Proofs.YtjbfopnkeclfgaaGreat
namespace Go.Proofs.YtjbfopnkeclfgaaGreat
set_option maxRecDepth 20000
open Go.RowKit

/-- Are two tasks the same? -/
def sameK (a b : Tk) : Bool := feq a.1 b.1 && feq a.2 b.2
def sameT : List Tk → List Tk → Bool
  | [], [] => true
  | a :: l, b :: m => sameK a b && sameT l m
  | _, _ => false
theorem sameT_len : ∀ {l m : List Tk}, sameT l m = true → l.length = m.length
  | [], [], _ => rfl
  | a :: l, b :: m, h => by
    unfold sameT at h
    rw [Bool.and_eq_true] at h
    simp [sameT_len h.2]
  | [], _ :: _, h => by simp [sameT] at h
  | _ :: _, [], h => by simp [sameT] at h
theorem sameT_all : ∀ {l m : List Tk}, l.length = m.length → (∀ k (hk : k < l.length) (hk2 : k < m.length), sameK l[k] m[k] = true) → sameT l m = true
  | [], [], _, _ => rfl
  | a :: l, b :: m, hl, h => by
    unfold sameT
    rw [Bool.and_eq_true]
    exact ⟨h 0 (by simp) (by simp), sameT_all (by simpa using hl) (fun k hk hk2 => h (k + 1) (by simp; omega) (by simp; omega))⟩
  | [], _ :: _, hl, _ => by simp at hl
  | _ :: _, [], hl, _ => by simp at hl
theorem sameT_at : ∀ {l m : List Tk}, sameT l m = true → ∀ k (hk : k < l.length) (hk2 : k < m.length), sameK l[k] m[k] = true
  | a :: l, b :: m, h, 0, _, _ => by unfold sameT at h; rw [Bool.and_eq_true] at h; exact h.1
  | a :: l, b :: m, h, k + 1, hk, hk2 => by
    unfold sameT at h
    rw [Bool.and_eq_true] at h
    exact sameT_at h.2 k (by simpa using hk) (by simpa using hk2)
  | [], _, _, _, hk, _ => by simp at hk
theorem sameT_no {l m : List Tk} {k : Nat} (hk : k < l.length) (hk2 : k < m.length) (h : sameK l[k] m[k] = false) : sameT l m = false := by
  cases hs : sameT l m
  · rfl
  · rw [sameT_at hs k hk hk2] at h; cases h
set_option maxHeartbeats 1600000 in
theorem ref06Same_any (A B : Option Addr) (a b : List Tk) (n m c d : Nat) (w : World) (hn : n = a.length) (hm : m = b.length) (hA : Sl w A n c (a.map cxv)) (hB : Sl w B m d (b.map cxv)) :
    Calls Tryz.prog 24 #[.slice A n c, .slice B m d] w fun e w' => e = .returned (.bool (sameT a b)) ∧ ∃ q, w' = w.drewN q := by
  have hl := hA.len
  unfold maxLen at hl
  have HA := Lib.hid hA.cells
  have HB := Lib.hid hB.cells
  have HNA := Lib.hid hn
  have HNB := Lib.hid hm
  clear hA hB hn hm
  by_cases hnm : n = m
  rotate_left
  · have e2 : ((n : Int) != (m : Int)) = true := bne_iff_ne.2 (by omega)
    have HE := Lib.hid (show sameT a b = false from by
      cases hs : sameT a b
      · rfl
      · have := sameT_len hs; rw [← HNA.out, ← HNB.out] at this; exact absurd this hnm)
    clear hnm
    go_enter Tryz.func24, Tryz.ntmps24
    go_wp2
    go_ret
    exact ⟨ret_bool HE.out.symm, 0, rfl⟩
  subst hnm
  have e2 : ((n : Int) != (n : Int)) = false := by simp
  go_enter Tryz.func24, Tryz.ntmps24
  go_wp2
  go_loopw [5] (fun i wr => ∃ k q : Nat, k ≤ n ∧ i = .int .i64 k ∧ wr = w.drewN q ∧ ∀ j (hj : j < a.length) (hj2 : j < b.length), j < k → sameK a[j] b[j] = true) (fun i _ => n - (intOf i).toNat)
  case atStart => exact ⟨0, 0, Nat.zero_le _, rfl, rfl, fun _ _ _ h => by omega⟩
  case round =>
    obtain ⟨k, q, hk, rfl, rfl, hb⟩ := hrel
    have HBB := Lib.hid hb
    clear hb
    rcases Nat.lt_or_ge k n with hlt | hlt
    · have hka : k < a.length := by rw [← HNA.out]; exact hlt
      have hkb : k < b.length := by rw [← HNB.out]; exact hlt
      obtain ⟨ba, oa, rfl, _, hca⟩ := HA.out.tk hka
      obtain ⟨bb, ob, rfl, _, hcb⟩ := HB.out.tk hkb
      have hcka := hca k hka
      have hckb := hcb k hkb
      have hki : (k : Int) < (n : Int) := by omega
      have HY := Lib.hid (fun h => sameT_no hka hkb h)
      have HN := Lib.hid (fun (h : sameK a[k] b[k] = true) => (show ∀ j (hj : j < a.length) (hj2 : j < b.length), j < k + 1 → sameK a[j] b[j] = true from fun j hj hj2 hjk => by
        rcases Nat.lt_or_ge j k with h' | h'
        · exact HBB.out j hj hj2 h'
        · obtain rfl : j = k := by omega
          exact h))
      have HO := Lib.hid (show sameK a[k] b[k] = ((FloatKind.f64.format.order a[k].1 b[k].1 == some .eq) && (FloatKind.f64.format.order a[k].2 b[k].2 == some .eq)) from rfl)
      clear hca hcb HBB
      generalize sameK a[k] b[k] = s at *
      generalize a[k] = x at *
      generalize b[k] = y at *
      obtain ⟨x1, x2⟩ := x
      obtain ⟨y1, y2⟩ := y
      simp only at hcka hckb HO
      have ho := HO.out.symm
      clear HO
      cases s
      · have HE := Lib.hid (HY.out rfl)
        clear HY HN
        go_wp2
        go_quiet (fail)
        go_wp2
        go_ret
        exact ⟨ret_bool HE.out.symm, q + nq, by rw [World.drewN_drewN]⟩
      · have HE := Lib.hid (HN.out rfl)
        clear HY HN
        go_wp2
        go_quiet (fail)
        go_wp2
        go_roundw
        case rel => exact ⟨k + 1, q + nq, by omega, by go_num, rfl, HE.out⟩
        case measure => simp [intOf]; omega
    · obtain rfl : n = k := by omega
      have HE := Lib.hid (sameT_all (l := a) (m := b) (by rw [← HNA.out, ← HNB.out]) (fun j hj hj2 => HBB.out j hj hj2 (by rw [HNA.out]; exact hj)))
      clear hlt
      go_wp2
      go_ret
      exact ⟨ret_bool HE.out.symm, q, rfl⟩
end Go.Proofs.YtjbfopnkeclfgaaGreat
