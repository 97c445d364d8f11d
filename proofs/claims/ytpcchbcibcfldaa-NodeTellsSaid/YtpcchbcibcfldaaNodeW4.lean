/- Walks of the reference's Same, At and With. -/
import Derived.Test.YtpcchbcibcfldaaNodeW3
namespace Go.Proofs.Ytpcchbcibcfldaa
open Go.RowKit

def sameN (f : Bool) (a : List It) (g : Bool) (b : List It) : Bool := (f == g) && sameI a b
set_option maxHeartbeats 2000000 in
theorem ref04Same_any (f g : Bool) (A B : Option Addr) (a b : List It) (n m c c' : Nat) (w : World) (hn : n = a.length) (hm : m = b.length) (hA : Sl w A n c (ivs a)) (hB : Sl w B m c' (ivs b)) :
    Calls Try.prog 17 #[.agg #[.bool f, .slice A n c], .agg #[.bool g, .slice B m c']] w fun e w' => e = .returned (.bool (sameN f a g b)) ∧ Ext w w' := by
  have HX := Lib.hid (((Ext.refl w).alloc (.cells #[.bool f, .slice A n c] 24)).alloc (.cells #[.bool g, .slice B m c'] 24))
  have HI := Lib.hid (fun w' (hx : Ext w w') => ref04Items_any A B a b n m c c' w' hn hm (hA.ext hx) (hB.ext hx))
  clear hA hB hn hm
  unfold sameN
  cases f <;> cases g
  all_goals
    go_enter Try.func17, Try.ntmps17
    go_wp2_with (go_at_call 24; refine (HI.out _ HX.out).mono ?_; rintro e w1 ⟨rfl, hx⟩; have HX := Lib.hid (HX.out.trans hx); clear hx)
    go_ret
    exact ⟨ret_bool (by simp), HX.out⟩

theorem countP_take_succ (l : List It) (p : It → Bool) (k : Nat) (hk : k < l.length) : (l.take (k + 1)).countP p = (l.take k).countP p + (if p l[k] then 1 else 0) := by
  rw [List.take_succ_eq_append_getElem hk, List.countP_append]; simp [List.countP_cons]
theorem atC_at {l : List It} (h : NdR l) {k : Nat} (hk : k < l.length) {key : Int} (he : l[k].1 = key) : atC l key = k := by
  unfold atC
  conv => lhs; rw [← List.take_append_drop k l, List.countP_append]
  have h1 : (l.take k).countP (fun x => decide (x.1 < key)) = k := by
    rw [List.countP_eq_length.2, List.length_take, Nat.min_eq_left (by omega)]
    intro x hx
    obtain ⟨i, hi, rfl⟩ := List.mem_iff_getElem.1 hx
    have hi' : i < k := by simp at hi; omega
    have := h.rise k i hk hi'
    simp only [List.getElem_take, decide_eq_true_eq]
    omega
  have h2 : (l.drop k).countP (fun x => decide (x.1 < key)) = 0 := by
    rw [List.countP_eq_zero]
    intro x hx
    obtain ⟨i, hi, rfl⟩ := List.mem_iff_getElem.1 hx
    simp only [List.getElem_drop, decide_eq_true_eq]
    rcases Nat.eq_zero_or_pos i with h0 | h0
    · subst h0; simp only [Nat.add_zero]; omega
    · have := h.rise (k + i) k (by simp at hi; omega) (by omega)
      omega
  omega
theorem atB_yes {l : List It} {k : Nat} (hk : k < l.length) {key : Int} (he : l[k].1 = key) : atB l key = true := by
  unfold atB; rw [List.any_eq_true]; exact ⟨l[k], List.getElem_mem hk, by simpa using he⟩
theorem atB_no {l : List It} {key : Int} (h : ∀ j (hj : j < l.length), l[j].1 ≠ key) : atB l key = false := by
  unfold atB; rw [List.any_eq_false]
  intro x hx
  obtain ⟨i, hi, rfl⟩ := List.mem_iff_getElem.1 hx
  simpa using h i hi
theorem atI_yes {leaf : Bool} {l : List It} {key : Int} (h : atB l key = true) : atI leaf l key = (atC l key : Nat) := by unfold atI; rw [h]; rfl
theorem atI_leaf {l : List It} {key : Int} : atI true l key = (atC l key : Nat) := by unfold atI; simp
theorem atI_not {l : List It} {key : Int} (h : atB l key = false) : atI false l key = ((atC l key - 1 : Nat) : Int) := by unfold atI; rw [h]; rfl

set_option maxRecDepth 100000 in
set_option maxHeartbeats 1000000 in
theorem ref04At_any (leaf : Bool) (A : Option Addr) (l : List It) (n c : Nat) (key : Int) (w : World) (hn : n = l.length) (hr : ndR l = true) (hA : Sl w A n c (ivs l)) :
    Calls Try.prog 20 #[.agg #[.bool leaf, .slice A n c], .int .i64 key] w fun e w' => e = .returned (.tuple #[.int .i64 (atI leaf l key), .bool (atB l key)]) ∧ Ext w w' := by
  subst hn
  have hN := (ndR_iff l).1 hr
  have h4 : l.length ≤ 4 := hN.1.2
  have HX := Lib.hid ((Ext.refl w).alloc (.cells #[.bool leaf, .slice A l.length c] 24))
  have HB := Lib.hid (Bx.new w #[.bool leaf, .slice A l.length c] 24)
  have HA := Lib.hid (hA.cells.ext HX.out)
  have HN := Lib.hid hN
  clear hA hr hN
  go_enter Try.func20, Try.ntmps20
  go_wp2
  generalize hW : World.alloc w _ = W at *
  clear hW
  obtain ⟨b0, b1, b2⟩ := HB.out.read2
  go_loop [6, 7] (fun v i => ∃ k : Nat, k ≤ l.length ∧ i = .int .i64 k ∧ v = .int .i64 ((l.take k).countP (fun x => decide (x.1 < key)) : Nat) ∧ ∀ j (hj : j < l.length), j < k → l[j].1 ≠ key) (fun _ i => l.length - (intOf i).toNat)
  case atStart => exact ⟨0, Nat.zero_le _, rfl, rfl, fun j hj h => by omega⟩
  case round =>
    obtain ⟨k, hk, rfl, rfl, hne⟩ := hrel
    have HNE := Lib.hid hne
    clear hne
    have hcnt : (l.take k).countP (fun x => decide (x.1 < key)) ≤ 4 := Nat.le_trans List.countP_le_length (by simp; omega)
    by_cases hlt : k < l.length
    · obtain ⟨bb, off, rfl, _, hc⟩ := HA.out.it hlt
      have hck := (hc k hlt).1
      have hki : (k : Int) < (l.length : Int) := by omega
      have HS := Lib.hid (countP_take_succ l (fun x => decide (x.1 < key)) k hlt)
      have HY := Lib.hid (fun (h : l[k].1 = key) => (show atI leaf l key = (k : Int) ∧ atB l key = true from ⟨by rw [atI_yes (atB_yes hlt h), atC_at HN.out hlt h], atB_yes hlt h⟩))
      have HK := Lib.hid (fun (h : l[k].1 ≠ key) => (show ∀ j (hj : j < l.length), j < k + 1 → l[j].1 ≠ key from fun j hj hjk => by
        rcases Nat.lt_or_ge j k with h' | h'
        · exact HNE.out j hj h'
        · obtain rfl : j = k := by omega
          exact h))
      clear hc HNE
      generalize hcn : (l.take k).countP (fun x => decide (x.1 < key)) = cn at *
      generalize hcm : (l.take (k + 1)).countP (fun x => decide (x.1 < key)) = cm at *
      have HCM := Lib.hid hcm
      clear hcn hcm
      generalize l[k] = q at *
      obtain ⟨K, V⟩ := q
      simp only at hck
      rcases Decidable.em (K = key) with he | he
      · have HE := Lib.hid (HY.out he)
        have e1 : (K == key) = true := by simpa using he
        clear he
        go_wp2
        go_ret2
        exact ⟨by rw [HE.out.1, HE.out.2]; rfl, HX.out⟩
      · have HE := Lib.hid (HK.out he)
        have e1 : (K == key) = false := by simpa using he
        clear he
        rcases Decidable.em (K < key) with h2 | h2
        · have HS2 := Lib.hid (show cm = cn + 1 from by have := HS.out; simpa [h2] using this)
          go_wp2
          go_round
          case rel => exact ⟨k + 1, by omega, by go_num, by rw [HCM.out, HS2.out]; go_num, HE.out⟩
          case measure => simp [intOf]; omega
        · have HS2 := Lib.hid (show cm = cn from by have := HS.out; simpa [h2] using this)
          go_wp2
          go_round
          case rel => exact ⟨k + 1, by omega, by go_num, by rw [HCM.out, HS2.out], HE.out⟩
          case measure => simp [intOf]; omega
    · obtain rfl : k = l.length := by omega
      have HNB := Lib.hid (atB_no (l := l) (key := key) (fun j hj => HNE.out j hj hj))
      have HC := Lib.hid (show (l.take l.length).countP (fun x => decide (x.1 < key)) = atC l key by rw [List.take_length]; rfl)
      rw [HC.out] at hcnt ⊢
      have HI := Lib.hid (fun h => atI_not (l := l) (key := key) h)
      have HI2 := Lib.hid (atI_leaf (l := l) (key := key))
      generalize atC l key = cc at *
      cases leaf
      · have HE := Lib.hid (HI.out HNB.out)
        clear HI HI2 HC
        rcases Nat.eq_zero_or_pos cc with h0 | h0
        · subst h0
          go_wp2
          go_ret2
          exact ⟨by rw [HE.out, HNB.out]; rfl, HX.out⟩
        · obtain ⟨d, rfl⟩ : ∃ d, cc = d + 1 := ⟨cc - 1, by omega⟩
          have h1 : (0 : Int) ≤ (d : Int) := by omega
          rw [show ((d + 1 : Nat) : Int) = (d : Int) + 1 by omega]
          go_wp2
          go_ret2
          exact ⟨by rw [HE.out, HNB.out]; rfl, HX.out⟩
      · go_wp2
        go_ret2
        exact ⟨by rw [HI2.out, HNB.out]; rfl, HX.out⟩
end Go.Proofs.Ytpcchbcibcfldaa
