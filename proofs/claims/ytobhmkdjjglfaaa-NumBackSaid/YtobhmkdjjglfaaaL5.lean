/- Walk of NumBack. -/
import Derived.Test.YtobhmkdjjglfaaaL4
namespace Go.Proofs.Ytobhmkdjjglfaaa
open Go.RowKit

/-- What is sealed, opened: b with noughts behind, or nothing. -/
def unsealed (b : List UInt8) : List UInt8 := if b.length ≤ 36 then padL b else []
theorem unsealed_at (b : List UInt8) (i : Nat) (hi : i < (unsealed b).length) : (∀ h : i < b.length, (unsealed b)[i] = b[i]) ∧ (b.length ≤ i → (unsealed b)[i] = 0) := by
  unfold unsealed at hi ⊢
  split at hi
  · rename_i h
    simp only [if_pos h]
    unfold padL
    constructor
    · intro h'; rw [List.getElem_append_left h']
    · intro h'; rw [List.getElem_append_right h']; simp
  · simp at hi
theorem open_sealB (b : List UInt8) : openL (sealB b).data.toList = unsealed b ∧ openE (sealB b).data.toList = (if b.length ≤ 36 then 0 else 2) ∧ (sealB b).size = (if b.length ≤ 36 then 40 else 0) := by
  unfold sealB unsealed
  by_cases h : b.length ≤ 36
  · simp only [if_pos h]
    have := open_seal b h
    exact ⟨this.2, this.1, sealL_length b h⟩
  · simp only [if_neg h]
    have := open_no (s := ([] : List UInt8)) (by simp)
    exact ⟨this.2, this.1, rfl⟩
theorem seal_open (s : ByteArray) (h : openE s.data.toList = 0) : sealV (openL s.data.toList) = .tuple #[.string s, .int .i64 0] := by
  by_cases hc : s.data.toList.length = 40 ∧ leNat ((s.data.toList.drop 36).take 4) = crc (s.data.toList.take 36)
  · obtain ⟨h40, hq⟩ := hc
    rw [(open_yes h40 hq).2]
    have hl : (s.data.toList.take 36).length = 36 := by rw [List.length_take, h40]; rfl
    have hd : (s.data.toList.drop 36).length = 4 := by rw [List.length_drop, h40]
    unfold sealV sealB sealE
    rw [if_pos (by omega), if_pos (by omega)]
    have hp : padL (s.data.toList.take 36) = s.data.toList.take 36 := by unfold padL; rw [hl]; simp
    have e : sealL (s.data.toList.take 36) = s.data.toList := by
      unfold sealL
      have ht : (s.data.toList.drop 36).take 4 = s.data.toList.drop 36 := List.take_of_length_le (by omega)
      rw [hp, ← hq, ht]
      have := putL_leNat (s.data.toList.drop 36)
      rw [hd] at this
      rw [this, List.take_append_drop]
    rw [e]
  · rw [(open_no hc).1] at h
    cases h

theorem unsealed_length (b : List UInt8) : (unsealed b).length = if b.length ≤ 36 then 36 else 0 := by
  unfold unsealed
  by_cases h : b.length ≤ 36
  · rw [if_pos h, if_pos h]; exact padL_length b h
  · rw [if_neg h, if_neg h]; rfl
theorem openE_two (s : List UInt8) : openE s = 0 ∨ openE s = 2 := by
  unfold openE; split
  · exact .inl rfl
  · exact .inr rfl
theorem openL_le (s : List UInt8) : (openL s).length ≤ 36 := by
  unfold openL openS
  split
  · simp; omega
  · simp

set_option maxRecDepth 100000 in
set_option maxHeartbeats 4000000 in
theorem numBack_any (n wd : Int) (A B : Option Addr) (a b : List UInt8) (ca cb : Nat) (s : ByteArray) (w : World) (hn1 : -9223372036854775808 ≤ n) (hn2 : n ≤ 9223372036854775807) (hw1 : -9223372036854775808 ≤ wd) (hw2 : wd ≤ 9223372036854775807)
    (hla : a.length ≤ maxLen) (hlb : b.length ≤ maxLen) (hna : A = none → ca = 0) (hnb : B = none → cb = 0) (hA : Cells w A (a.map bv)) (hB : Cells w B (b.map bv)) (hs : s.size ≤ maxLen) :
    Calls Try.prog 5 #[.agg #[.int .i64 n, .int .i64 wd, .slice A a.length ca, .slice B b.length cb, .string s]] w fun e w' => e = .returned (.bool true) ∧ Below w.heap.size w w' := by
  have HLA := Lib.hid hla
  have HLB := Lib.hid hlb
  have HNA := Lib.hid hna
  have HNB := Lib.hid hnb
  have HA := Lib.hid hA
  have HB := Lib.hid hB
  have HS := Lib.hid hs
  have X0 := Lib.hid (fun o => (Ext.refl w).alloc o)
  have hlen : (a.length ≤ 500 ∧ b.length ≤ 500 ∧ s.size ≤ 1000) ∨ 500 < a.length ∨ (a.length ≤ 500 ∧ 500 < b.length) ∨ (a.length ≤ 500 ∧ b.length ≤ 500 ∧ 1000 < s.size) := by omega
  clear hla hlb hna hnb hA hB hs
  rcases hlen with ⟨l1, l2, l3⟩ | l1 | ⟨l1, l2⟩ | ⟨l1, l2, l3⟩
  case inr.inl =>
    go_enter Try.func5, Try.ntmps5
    go_wp2_with (go_at_call 9; refine (shown_any _).mono ?_; rintro e w1 ⟨rfl, hb1⟩; have HB1 := Lib.hid ((X0.out _).trans hb1); clear hb1)
    go_ret
    exact ⟨rfl, HB1.out⟩
  case inr.inr.inl =>
    go_enter Try.func5, Try.ntmps5
    go_wp2_with (go_at_call 9; refine (shown_any _).mono ?_; rintro e w1 ⟨rfl, hb1⟩; have HB1 := Lib.hid ((X0.out _).trans hb1); clear hb1)
    go_ret
    exact ⟨rfl, HB1.out⟩
  case inr.inr.inr =>
    go_enter Try.func5, Try.ntmps5
    go_wp2_with (go_at_call 9; refine (shown_any _).mono ?_; rintro e w1 ⟨rfl, hb1⟩; have HB1 := Lib.hid ((X0.out _).trans hb1); clear hb1)
    go_ret
    exact ⟨rfl, HB1.out⟩
  case inl =>
    go_enter Try.func5, Try.ntmps5
    go_wp2_with (go_at_call 9; refine stop_here ?_)
    refine stop_on ?_
    refine (shown_any _).mono ?_
    rintro e w1 ⟨rfl, hb1⟩
    have X1 := Lib.hid (show Ext w w1 from (X0.out _).trans hb1)
    clear hb1
    go_wp2_with (go_at_call 13; refine stop_here ?_)
    refine stop_on ?_
    by_cases hp : 1 ≤ wd ∧ wd ≤ 4 ∧ 0 ≤ n ∧ n < 256 ^ wd.toNat
    case' neg =>
      have hP := putP_any n wd w1 hn1 hn2
      rw [putS_none hp] at hP
      refine hP.mono ?_
      clear hP
      rintro e w2 ⟨v2, rfl, ⟨A2, c2, rfl, _, _, _, _⟩, hb2⟩
      have X2 := Lib.hid (X1.out.trans hb2)
      clear hb2 hp
      go_wp2_with (go_at_call 17; refine stop_here ?_)
    case' pos =>
      obtain ⟨hp1, hp2, hp3, hp4⟩ := hp
      obtain ⟨m, rfl⟩ := Int.eq_ofNat_of_zero_le (show 0 ≤ wd by omega)
      obtain ⟨n, rfl⟩ := Int.eq_ofNat_of_zero_le hp3
      have hnm : n < 256 ^ m := by
        rw [Int.toNat_natCast] at hp4
        have e : ((256 ^ m : Nat) : Int) = (256 : Int) ^ m := by simp
        rw [← e] at hp4; omega
      have HNM := Lib.hid hnm
      have hP := putP_any n m w1 hn1 hn2
      rw [putS_some (by omega) (by omega) hnm] at hP
      refine hP.mono ?_
      clear hP hnm hp4
      rintro e wq ⟨v2, rfl, ⟨A2, c2, rfl, _, _, hn2', hc2⟩, hb2⟩
      have hml := putL_length m n
      have HML := Lib.hid hml
      rw [hml]
      have XQ := Lib.hid (X1.out.trans hb2)
      have HC2 := Lib.hid hc2
      have HN2 := Lib.hid hn2'
      clear hb2 hml hc2 hn2'
      have hm0 : 0 < m := by omega
      go_wp2_with (at_builtin; refine stop_here ?_)
      refine stop_on ?_
      refine app_bytes _ rfl _ _ rfl wq.heap.size _ 0 [] rfl (own_empty wq) A a.length ca a rfl rfl HNA.out (HA.out.ext (XQ.out.alloc _)) (by omega) (by simp) ?_
      intro A3 c3 w3 hown3 hg3
      rw [List.nil_append, Nat.zero_add] at hown3
      rw [Nat.zero_add]
      have X23 := Lib.hid (((Ext.refl wq).alloc (.cells #[] 5)).app (own_empty wq) (Nat.le_refl _) hg3)
      have HO3 := Lib.hid hown3
      clear hown3 hg3
      go_wp2_with (at_builtin; refine stop_here ?_)
      refine stop_on ?_
      refine app_bytes _ rfl _ _ rfl wq.heap.size (.slice A3 a.length c3) a.length a rfl HO3.out A2 m c2 (putL n m) rfl HML.out HN2.out (HC2.out.ext X23.out) (by omega) X23.out.size ?_
      intro A4 c4 w4 hown4 hg4
      have X24 := Lib.hid (X23.out.app HO3.out (Nat.le_refl _) hg4)
      have HO4 := Lib.hid hown4
      clear hown4 hg4 X23 HO3
      go_wp2_with (at_builtin; refine stop_here ?_)
      refine stop_on ?_
      refine app_bytes _ rfl _ _ rfl wq.heap.size (.slice A4 (a.length + m) c4) (a.length + m) (a ++ putL n m) rfl HO4.out B b.length cb b rfl rfl HNB.out (HB.out.ext (XQ.out.trans X24.out)) (by omega) X24.out.size ?_
      intro A5 c5 w2 hown5 hg5
      have XQ2 := Lib.hid (X24.out.app HO4.out (Nat.le_refl _) hg5)
      have X2 := Lib.hid (XQ.out.trans XQ2.out)
      have hl5 : (a ++ putL n m ++ b).length = a.length + m + b.length := by rw [List.length_append, List.length_append, HML.out]
      have hT := takeP_any A5 (a ++ putL n m ++ b) c5 a.length m w2 (by rw [hl5]; unfold maxLen; omega) (own_cells hown5) (by omega) (by omega)
      rw [takeV_some (by omega) (by omega) (by rw [hl5]; omega), hl5] at hT
      rw [show ((a ++ putL n m ++ b).drop a.length).take m = putL n m from by
        rw [List.append_assoc, List.drop_left]
        have := List.take_left (l₁ := putL n m) (l₂ := b)
        rw [HML.out] at this
        exact this, leNat_putL, Nat.mod_eq_of_lt HNM.out] at hT
      have HT := Lib.hid hT
      clear hT hl5 hown5 hg5 X24 HO4
      go_wp2_with (first | (go_at_call 10; refine HT.out.mono ?_; rintro e w' ⟨rfl, rfl⟩) | (go_at_call 17; refine stop_here ?_))
    all_goals
      refine stop_on ?_
      have hC := sealP_any B b cb w2 HLB.out (HB.out.ext X2.out)
      unfold sealV at hC
      obtain ⟨o1, o2, o3⟩ := open_sealB b
      have HU := Lib.hid (unsealed_at b)
      by_cases h36 : b.length ≤ 36
    all_goals
      have hE : sealE b = if b.length ≤ 36 then 0 else 1 := rfl
      have hU := unsealed_length b
      have q1 : (((unsealed b).length : Int) == 36) = (if b.length ≤ 36 then true else false) := by rw [hU]; split <;> rfl
      have q2 : (((sealB b).size : Int) == 40) = (if b.length ≤ 36 then true else false) := by rw [o3]; split <;> rfl
      simp only [h36, if_true, if_false] at hE o2 o3 hU q1 q2
      rw [hE] at hC
      have hO := openP_any (sealB b) 
      rw [o1, o2] at hO
      generalize sealB b = sb at *
      generalize unsealed b = ol at *
      have HO1 := Lib.hid hO
      have HOL := Lib.hid hU
      have hl36 : ol.length ≤ 36 := by omega
      clear o1 o2 hE hO hU
      refine hC.mono ?_
      clear hC
      rintro e w3 ⟨rfl, hb3⟩
      have X3 := Lib.hid (X2.out.trans hb3)
      clear hb3
      go_wp2_with (go_at_call 19; refine stop_here ?_)
      refine stop_on ?_
      refine (HO1.out w3 (by rw [o3]; unfold maxLen; omega)).mono ?_
      rintro e w4 ⟨v4, rfl, ⟨A6, c6, rfl, _, _, _, hc6⟩, hb4⟩
      have X4 := Lib.hid (X3.out.trans hb4)
      have HC6 := Lib.hid hc6
      clear hc6 hb4
      have hO3 := Lib.hid o3
      clear o3
      go_wp2
      go_loopw [17] (fun iv wr => ∃ k q : Nat, k ≤ ol.length ∧ iv = .int .i64 k ∧ wr = w4.drewN q) (fun iv _ => ol.length - (intOf iv).toNat)
      case atStart => exact ⟨0, 0, Nat.zero_le _, rfl, rfl⟩
      case round =>
        obtain ⟨k, q, hk, rfl, rfl⟩ := hrel
        by_cases hlt : k < ol.length
        · obtain ⟨ba, offa, rfl, _, hca⟩ := HC6.out.byte hlt
          have hcka := hca k hlt
          have i1 : (k : Int) < (ol.length : Int) := by omega
          by_cases hkb : k < b.length
          · obtain ⟨bb, offb, rfl, _, hcb⟩ := (HB.out.ext X4.out).byte hkb
            have hckb := hcb k hkb
            have i2 : (k : Int) < (b.length : Int) := by omega
            have i3 : decide (b.length ≤ k) = false := by simp; omega
            have hq : ((ol[k].toNat : Int) != (b[k].toNat : Int)) = false := by rw [(HU.out k hlt).1 hkb]; simp
            go_wp2
            go_quiet (fail)
            go_wp2
            go_roundw
            case rel => exact ⟨k + 1, q + nq, by omega, by go_num, rfl⟩
            case measure => simp [intOf]; omega
          · have i2 : decide ((k : Int) < (b.length : Int)) = false := by simp; omega
            have i3 : (b.length : Int) ≤ (k : Int) := by omega
            have i4 : decide (b.length ≤ k) = true := by simp; omega
            have i5 : decide (k < b.length) = false := by simp; omega
            have hq : ((ol[k].toNat : Int) != 0) = false := by rw [(HU.out k hlt).2 (by omega)]; simp
            go_wp2
            go_quiet (fail)
            go_wp2
            go_roundw
            case rel => exact ⟨k + 1, q + nq, by omega, by go_num, rfl⟩
            case measure => simp [intOf]; omega
        · obtain rfl : k = ol.length := by omega
          have XQ4 := Lib.hid (X4.out.drewN q)
          have hO := openP_any s (w4.drewN q) HS.out
          have hle := openL_le s.data.toList
          have HO9 := Lib.hid hO
          have HSO := Lib.hid (seal_open s)
          rcases openE_two s.data.toList with h02 | h02
          · rw [h02] at HO9
            have HSV := Lib.hid (HSO.out h02)
            generalize openL s.data.toList = cl at *
            clear h02 HSO hO
            go_wp2_with (go_at_call 19; refine stop_here ?_)
            refine stop_on ?_
            refine HO9.out.mono ?_
            rintro e w5 ⟨v5, rfl, ⟨A7, c7, rfl, _, hm7, _, hc7⟩, hb5⟩
            have X5 := Lib.hid (XQ4.out.trans hb5)
            have hC7 := sealP_any A7 cl c7 w5 (by unfold maxLen; omega) hc7
            rw [HSV.out] at hC7
            have HC7 := Lib.hid hC7
            clear hc7 hC7 hb5 HO9 hm7
            go_wp2_with (go_at_call 17; refine stop_here ?_)
            refine stop_on ?_
            refine HC7.out.mono ?_
            rintro e w6 ⟨rfl, hb6⟩
            have X6 := Lib.hid (X5.out.trans hb6)
            clear hb6 HC7
            go_wp2
            go_ret
            exact ⟨rfl, X6.out⟩
          · rw [h02] at HO9
            generalize openL s.data.toList = cl at *
            clear h02 HSO hO
            go_wp2_with (go_at_call 19; refine stop_here ?_)
            refine stop_on ?_
            refine HO9.out.mono ?_
            rintro e w5 ⟨v5, rfl, ⟨A7, c7, rfl, _, hm7, _, hc7⟩, hb5⟩
            have X5 := Lib.hid (XQ4.out.trans hb5)
            have hC7 := sealP_any A7 cl c7 w5 (by unfold maxLen; omega) hc7
            unfold sealV at hC7
            have HC7 := Lib.hid hC7
            generalize sealB cl = sb7 at *
            generalize sealE cl = se7 at *
            clear hc7 hC7 hb5 HO9 hm7
            go_wp2_with (go_at_call 17; refine stop_here ?_)
            refine stop_on ?_
            refine HC7.out.mono ?_
            rintro e w6 ⟨rfl, hb6⟩
            have X6 := Lib.hid (X5.out.trans hb6)
            clear hb6 HC7
            go_wp2
            go_ret
            exact ⟨rfl, X6.out⟩
end Go.Proofs.Ytobhmkdjjglfaaa
