/- Walk of Path of the reference of layer 17. -/
import Derived.Test.YtpdeagndandnjaaDoorNmC
namespace Go.Proofs.YtpdeagndandnjaaDoor
set_option maxRecDepth 20000
open Go.RowKit

def nv (n : Nat) : Value := .int .i64 n
theorem nv_one (l : List Nat) : ∀ u ∈ l.map nv, u.oneCell' = true := by
  intro u hu
  obtain ⟨_, _, rfl⟩ := List.mem_map.1 hu
  rfl
theorem sl_lit' {w : World} {z : Nat} (hz : z = w.heap.size) (e n : Nat) (xs : List Value) (hn : n ≤ maxLen) : Sl (w.alloc (.cells xs.toArray e)) (some ⟨z, 0, none⟩) n n xs := by subst hz; exact sl_lit w e n xs hn
theorem infoN : (Tryd.prog.info? 3).map (fun i => (i.zero, i.size, i.bytes)) = some (some (.int .i64 0), 1, 8) := by kernel_rfl
theorem app_nv (w : World) {ops : Array Oper} {rest : List Oper} {o : Oper} {a : Act} {Q : Exit → Act → World → Prop} (hgd : o.guard = none) (s x : Operand)
    (ho : o.op = .call { callee := .builtin .append, args := #[s, x], argTypes := #[22, 22] })
    (B : Nat) (v : Value) (n : Nat) (l : List Nat) (hs : a.eval s = v) (hown : w.ownsRow B 3 1 v n (l.map nv))
    (A : Option Addr) (m c : Nat) (k : List Nat) (hx : a.eval x = .slice A m c) (hl : k.length = m) (hS : Sl w A m c (k.map nv))
    (hsz : n + m ≤ 1000000) (hB : B ≤ w.heap.size)
    (h : ∀ A' c' w', w'.ownsRow B 3 1 (.slice A' (n + m) c') (n + m) ((l ++ k).map nv) → w.grownBy w' v.ownBlock → wpList Tryd.prog ops Q rest (a.put o.dst (.slice A' (n + m) c')) w') : wpList Tryd.prog ops Q (o :: rest) a w := by
  refine wpList_app_sl w hgd s x 22 ho B 3 (.int .i64 0) 1 8 Tryd.underlying22 infoN rfl (by omega) v n (l.map nv) hs hown A m c (k.map nv) hx (by simp [hl]) hS (nv_one k) (by unfold maxLen; omega) (by omega) hB ?_
  intro A' c' w' h1 h2
  rw [← List.map_append] at h1
  exact h A' c' w' h1 h2
theorem eq_yes {s : ByteArray} {l : Bs} (h : tx s = l) : (s.toList == l) = true := by rw [ByteArray.toList_eq, beq_iff_eq]; exact h
theorem eq_no {s : ByteArray} {l : Bs} (h : tx s ≠ l) : (s.toList == l) = false := by rw [ByteArray.toList_eq, beq_eq_false_iff_ne]; exact h
theorem emp_yes {s : ByteArray} (h : tx s = []) : s.toList.isEmpty = true := by rw [ByteArray.toList_eq, List.isEmpty_iff]; exact h
theorem emp_no {s : ByteArray} (h : tx s ≠ []) : s.toList.isEmpty = false := by
  rw [ByteArray.toList_eq]
  cases h2 : s.data.toList with
  | nil => exact absurd h2 h
  | cons a r => rfl
theorem pathP_none {l : Bs} (h : pathP l = none) : pathL l = [] ∧ pathE l = 1 := by unfold pathL pathE; rw [h]; exact ⟨rfl, rfl⟩
theorem pathP_yes {l : Bs} {ns : List Nat} (h : pathP l = some ns) : pathL l = ns ∧ pathE l = 0 := by unfold pathL pathE; rw [h]; exact ⟨rfl, rfl⟩
theorem isSl_nat {b : UInt8} : isSl b = decide (b.toNat = 47) := by
  unfold isSl
  by_cases h : b = 47
  · subst h; rfl
  · rw [decide_eq_false h, decide_eq_false]
    intro e
    exact h (UInt8.toNat_inj.1 e)
theorem name_at (s : ByteArray) (a : Nat) : tx (s.extract (a + 1) (a + 1 + tw (tx s) a)) = nameAt (tx s) a := by
  rw [tx_extract]
  unfold nameAt
  rw [Nat.add_sub_cancel_left]
set_option maxRecDepth 100000 in
set_option maxHeartbeats 1600000 in
theorem ref17Path_any (s : ByteArray) (w : World) (hs : s.size ≤ 1000000) :
    Calls Tryd.prog 15 #[.string s] w fun e w' => ∃ A c, e = .returned (.tuple #[.slice A (pathL (tx s)).length c, .int .i64 (pathE (tx s) : Nat)]) ∧ Sl w' A (pathL (tx s)).length c ((pathL (tx s)).map nv) ∧ Ext w w' := by
  by_cases h1 : tx s = [47]
  · obtain ⟨e1, e2⟩ := pathP_yes (show pathP (tx s) = some [] from by rw [h1]; exact pathP_root)
    rw [e1, e2]
    have hq := eq_yes h1
    clear h1
    go_enter Tryd.func15, Tryd.ntmps15
    go_wp2_with fail
    go_ret2
    exact ⟨none, 0, rfl, Sl.nil _, Ext.refl w⟩
  · by_cases h2 : tx s = []
    · obtain ⟨e1, e2⟩ := pathP_none (show pathP (tx s) = none from by rw [h2]; rfl)
      rw [e1, e2]
      have hq := eq_no h1
      have hq2 := emp_yes h2
      clear h1 h2
      go_enter Tryd.func15, Tryd.ntmps15
      go_wp2_with fail
      go_ret2
      exact ⟨none, 0, rfl, Sl.nil _, Ext.refl w⟩
    · have hq := eq_no h1
      have hq2 := emp_no h2
      have H1 := Lib.hid h1
      have H2 := Lib.hid h2
      clear h1 h2
      have HLEN := Lib.hid (tx_len s)
      have HOF := Lib.hid (fun (t : ByteArray) w' => ref17Of_any t w')
      go_enter Tryd.func15, Tryd.ntmps15
      go_wp2_with fail
      go_loopw [4, 5] (fun out at_ wr => ∃ k : Nat, ∃ ms : List Bs, ∃ O oc, at_ = .int .i64 k ∧ k ≤ s.size ∧ Way (tx s) k ms ∧ out = .slice O ms.length oc ∧ wr.ownsRow w.heap.size 3 1 (.slice O ms.length oc) ms.length ((ms.map numL).map nv) ∧ Ext w wr) (fun _ at_ _ => s.size - (intOf at_).toNat)
      case atStart => exact ⟨0, [], none, 0, rfl, Nat.zero_le _, Way.start _, rfl, World.ownsRow_nil _ _ _ _, Ext.refl w⟩
      case round =>
        obtain ⟨k, ms, O, oc, rfl, hk, hw, rfl, ho, hx⟩ := hrel
        have HW := Lib.hid hw
        have HO := Lib.hid ho
        have HX := Lib.hid hx
        have h20 := hw.few
        clear hw ho hx
        rcases Nat.lt_or_ge k s.size with hlt | hlt
        · have hki : (k : Int) < (s.size : Int) := by omega
          have hkl : k < (tx s).length := by rw [HLEN.out]; exact hlt
          have hT : k + 1 + tw (tx s) k ≤ s.size := by rw [← HLEN.out]; exact tw_le (tx s) k hkl
          have HTW := Lib.hid (fun (E : Nat) (h1 : k + 1 ≤ E) (h : E < s.size) => (show (E < k + 1 + tw (tx s) k → isSl s[E] = false) ∧ (E = k + 1 + tw (tx s) k → isSl s[E] = true) from by
            obtain ⟨j, rfl⟩ : ∃ j, E = k + 1 + j := ⟨E - (k + 1), by omega⟩
            have h2 := tw_at (l := tx s) (at_ := k) (j := j) (by rw [HLEN.out]; exact h)
            rw [tx_get h] at h2
            exact ⟨fun h3 => h2.1 (by omega), fun h3 => h2.2 (by omega)⟩))
          obtain ⟨T, hTT⟩ : ∃ T, k + 1 + tw (tx s) k = T := ⟨_, rfl⟩
          rw [hTT] at HTW hT
          have HTT := Lib.hid hTT
          clear hTT
          go_wp2_with fail
          go_loopw [6] (fun en wr2 => wr2 = wr ∧ ∃ E : Nat, en = .int .i64 E ∧ k + 1 ≤ E ∧ E ≤ T) (fun en _ => T - (intOf en).toNat)
          case atStart => exact ⟨rfl, k + 1, by go_num, Nat.le_refl _, by have := HTT.out; omega⟩
          case round =>
            obtain ⟨rfl, E, rfl, hE0, hE1⟩ := hrel
            rcases Nat.lt_or_ge E T with hET | hET
            · have hEs : E < s.size := by omega
              have hEi : (E : Int) < (s.size : Int) := by omega
              have hsl := (HTW.out E hE0 hEs).1 hET
              rw [isSl_nat, decide_eq_false_iff_not] at hsl
              have c1 : ((s[E].toNat : Int) != 47) = true := by rw [bne_iff_ne]; omega
              clear hsl
              go_wp2_with fail
              go_roundw
              case rel => exact ⟨trivial, E + 1, by go_num, by omega, by omega⟩
              case measure => simp [intOf]; omega
            · have HE2 := Lib.hid (show E = k + 1 + tw (tx s) k from by have := HTT.out; omega)
              have hkE : (k : Int) + 1 ≤ (E : Int) := by omega
              have hEs0 : (E : Int) ≤ (s.size : Int) := by omega
              rcases Nat.lt_or_ge E s.size with hEs | hEs
              · have hEi : (E : Int) < (s.size : Int) := by omega
                have hsl := (HTW.out E hE0 hEs).2 (by omega)
                rw [isSl_nat, decide_eq_true_eq] at hsl
                have c2 : ((s[E].toNat : Int) != 47) = false := by rw [hsl]; rfl
                clear hsl
                have HNM := Lib.hid (name_at s k)
                rw [← HE2.out] at HNM
                by_cases hc : isSl s[k] = true
                · have c1 : ((s[k].toNat : Int) != 47) = false := by rw [isSl_nat, decide_eq_true_eq] at hc; rw [hc]; rfl
                  have HC := Lib.hid (show isSl (tx s)[k] = true from by rw [tx_get hlt]; exact hc)
                  by_cases hn : ofOk (nameAt (tx s) k) = true
                  · obtain ⟨n1, n2⟩ := of_good hn
                    have HOE := Lib.hid (fun w' => HOF.out (s.extract (k + 1) E) w')
                    rw [HNM.out, n1, n2] at HOE
                    by_cases h20e : ms.length = 20
                    · have HB := Lib.hid (pathP_none (HW.out.bad2 H1.out H2.out hkl HC.out (.inr h20e)))
                      have m1 : ((ms.length : Int) == 20) = true := by rw [h20e]; rfl
                      have m2 : (ms.length == 20) = true := by rw [h20e]; rfl
                      clear hn n1 n2 hc h20e
                      go_wp2_with (go_at_call 11; refine (HOE.out _).mono ?_; rintro e w2 ⟨rfl, rfl⟩)
                      go_ret2
                      exact ⟨none, 0, by rw [HB.out.1, HB.out.2]; rfl, by rw [HB.out.1]; exact Sl.nil _, HX.out⟩
                    · have HWN := Lib.hid (HW.out.next hkl HC.out hn h20e)
                      rw [← HE2.out] at HWN
                      have m1 : ((ms.length : Int) == 20) = false := by rw [beq_eq_false_iff_ne]; omega
                      have m2 : (ms.length == 20) = false := by rw [beq_eq_false_iff_ne]; exact h20e
                      have HML := Lib.hid (show (ms ++ [nameAt (tx s) k]).length = ms.length + 1 from by simp)
                      have HMM := Lib.hid (show (ms ++ [nameAt (tx s) k]).map numL = ms.map numL ++ [numL (nameAt (tx s) k)] from by simp)
                      have h20 : ms.length < 20 := by have := HW.out.few; omega
                      clear hn n1 n2 hc h20e
                      generalize numL (nameAt (tx s) k) = nx at *
                      go_wp2_with (first | (go_at_call 11; refine (HOE.out _).mono ?_; rintro e w2 ⟨rfl, rfl⟩) | (at_builtin; refine stop_here ?_))
                      refine stop_on ?_
                      refine app_nv _ rfl _ _ rfl w.heap.size _ ms.length (ms.map numL) rfl (own_ext HO.out ((Ext.refl wr).alloc _)) (some ⟨wr.heap.size, 0, none⟩) 1 1 [nx] rfl rfl (sl_lit' rfl _ 1 [nv nx] (by unfold maxLen; omega)) (by omega) (by have := HX.out.size; simp; omega) ?_
                      intro A5 c5 w5 hown hg
                      have HX5 := Lib.hid (Below.grown (HX.out.alloc (.cells #[nv nx] 3)) hg (by have := HX.out.size; simp; omega) (fun q hq => (HO.out.lt q hq).1))
                      rw [← HMM.out] at hown
                      have HO5 := Lib.hid hown
                      clear hown hg
                      go_wp2_with fail
                      go_roundw
                      case rel => exact ⟨E, ms ++ [nameAt (tx s) k], A5, c5, by go_num, by omega, HWN.out, by rw [HML.out], by rw [HML.out]; exact HO5.out, HX5.out⟩
                      case measure => simp [intOf]; omega
                  · obtain ⟨n1, n2⟩ := of_bad (show ofOk (nameAt (tx s) k) = false by simpa using hn)
                    have HB := Lib.hid (pathP_none (HW.out.bad2 H1.out H2.out hkl HC.out (.inl (by simpa using hn))))
                    have HOE := Lib.hid (fun w' => HOF.out (s.extract (k + 1) E) w')
                    rw [HNM.out, n1, n2] at HOE
                    clear hn n1 n2 hc
                    go_wp2_with (go_at_call 11; refine (HOE.out _).mono ?_; rintro e w2 ⟨rfl, rfl⟩)
                    go_ret2
                    exact ⟨none, 0, by rw [HB.out.1, HB.out.2]; rfl, by rw [HB.out.1]; exact Sl.nil _, HX.out⟩
                · have c1 : ((s[k].toNat : Int) != 47) = true := by rw [isSl_nat, decide_eq_true_eq] at hc; rw [bne_iff_ne]; omega
                  have HB := Lib.hid (pathP_none (HW.out.bad1 H1.out H2.out hkl (by rw [tx_get hlt]; simpa using hc)))
                  have HOE := Lib.hid (fun w' => HOF.out (s.extract (k + 1) E) w')
                  clear hc
                  go_wp2_with (go_at_call 11; refine (HOE.out _).mono ?_; rintro e w2 ⟨rfl, rfl⟩)
                  go_ret2
                  exact ⟨none, 0, by rw [HB.out.1, HB.out.2]; rfl, by rw [HB.out.1]; exact Sl.nil _, HX.out⟩
              · have hEi : ¬ (E : Int) < (s.size : Int) := by omega
                have hEi2 : decide (E < s.size) = false := decide_eq_false (by omega)
                have hEi3 : decide ((E : Int) < (s.size : Int)) = false := decide_eq_false (by omega)
                have HNM := Lib.hid (name_at s k)
                rw [← HE2.out] at HNM
                by_cases hc : isSl s[k] = true
                · have c1 : ((s[k].toNat : Int) != 47) = false := by rw [isSl_nat, decide_eq_true_eq] at hc; rw [hc]; rfl
                  have HC := Lib.hid (show isSl (tx s)[k] = true from by rw [tx_get hlt]; exact hc)
                  by_cases hn : ofOk (nameAt (tx s) k) = true
                  · obtain ⟨n1, n2⟩ := of_good hn
                    have HOE := Lib.hid (fun w' => HOF.out (s.extract (k + 1) E) w')
                    rw [HNM.out, n1, n2] at HOE
                    by_cases h20e : ms.length = 20
                    · have HB := Lib.hid (pathP_none (HW.out.bad2 H1.out H2.out hkl HC.out (.inr h20e)))
                      have m1 : ((ms.length : Int) == 20) = true := by rw [h20e]; rfl
                      have m2 : (ms.length == 20) = true := by rw [h20e]; rfl
                      clear hn n1 n2 hc h20e
                      go_wp2_with (go_at_call 11; refine (HOE.out _).mono ?_; rintro e w2 ⟨rfl, rfl⟩)
                      go_ret2
                      exact ⟨none, 0, by rw [HB.out.1, HB.out.2]; rfl, by rw [HB.out.1]; exact Sl.nil _, HX.out⟩
                    · have HWN := Lib.hid (HW.out.next hkl HC.out hn h20e)
                      rw [← HE2.out] at HWN
                      have m1 : ((ms.length : Int) == 20) = false := by rw [beq_eq_false_iff_ne]; omega
                      have m2 : (ms.length == 20) = false := by rw [beq_eq_false_iff_ne]; exact h20e
                      have HML := Lib.hid (show (ms ++ [nameAt (tx s) k]).length = ms.length + 1 from by simp)
                      have HMM := Lib.hid (show (ms ++ [nameAt (tx s) k]).map numL = ms.map numL ++ [numL (nameAt (tx s) k)] from by simp)
                      have h20 : ms.length < 20 := by have := HW.out.few; omega
                      clear hn n1 n2 hc h20e
                      generalize numL (nameAt (tx s) k) = nx at *
                      go_wp2_with (first | (go_at_call 11; refine (HOE.out _).mono ?_; rintro e w2 ⟨rfl, rfl⟩) | (at_builtin; refine stop_here ?_))
                      refine stop_on ?_
                      refine app_nv _ rfl _ _ rfl w.heap.size _ ms.length (ms.map numL) rfl (own_ext HO.out ((Ext.refl wr).alloc _)) (some ⟨wr.heap.size, 0, none⟩) 1 1 [nx] rfl rfl (sl_lit' rfl _ 1 [nv nx] (by unfold maxLen; omega)) (by omega) (by have := HX.out.size; simp; omega) ?_
                      intro A5 c5 w5 hown hg
                      have HX5 := Lib.hid (Below.grown (HX.out.alloc (.cells #[nv nx] 3)) hg (by have := HX.out.size; simp; omega) (fun q hq => (HO.out.lt q hq).1))
                      rw [← HMM.out] at hown
                      have HO5 := Lib.hid hown
                      clear hown hg
                      go_wp2_with fail
                      go_roundw
                      case rel => exact ⟨E, ms ++ [nameAt (tx s) k], A5, c5, by go_num, by omega, HWN.out, by rw [HML.out], by rw [HML.out]; exact HO5.out, HX5.out⟩
                      case measure => simp [intOf]; omega
                  · obtain ⟨n1, n2⟩ := of_bad (show ofOk (nameAt (tx s) k) = false by simpa using hn)
                    have HB := Lib.hid (pathP_none (HW.out.bad2 H1.out H2.out hkl HC.out (.inl (by simpa using hn))))
                    have HOE := Lib.hid (fun w' => HOF.out (s.extract (k + 1) E) w')
                    rw [HNM.out, n1, n2] at HOE
                    clear hn n1 n2 hc
                    go_wp2_with (go_at_call 11; refine (HOE.out _).mono ?_; rintro e w2 ⟨rfl, rfl⟩)
                    go_ret2
                    exact ⟨none, 0, by rw [HB.out.1, HB.out.2]; rfl, by rw [HB.out.1]; exact Sl.nil _, HX.out⟩
                · have c1 : ((s[k].toNat : Int) != 47) = true := by rw [isSl_nat, decide_eq_true_eq] at hc; rw [bne_iff_ne]; omega
                  have HB := Lib.hid (pathP_none (HW.out.bad1 H1.out H2.out hkl (by rw [tx_get hlt]; simpa using hc)))
                  have HOE := Lib.hid (fun w' => HOF.out (s.extract (k + 1) E) w')
                  clear hc
                  go_wp2_with (go_at_call 11; refine (HOE.out _).mono ?_; rintro e w2 ⟨rfl, rfl⟩)
                  go_ret2
                  exact ⟨none, 0, by rw [HB.out.1, HB.out.2]; rfl, by rw [HB.out.1]; exact Sl.nil _, HX.out⟩
        · obtain rfl : k = s.size := by omega
          have HD := Lib.hid (pathP_yes (HW.out.done' HLEN.out H1.out H2.out))
          have hlm := Lib.hid (show (pathL (tx s)).length = ms.length from by rw [HD.out.1, List.length_map])
          go_wp2_with fail
          go_ret2
          exact ⟨O, oc, by rw [HD.out.2, hlm.out]; rfl, by rw [hlm.out, HD.out.1]; exact own_sl HO.out, HX.out⟩
end Go.Proofs.YtpdeagndandnjaaDoor
