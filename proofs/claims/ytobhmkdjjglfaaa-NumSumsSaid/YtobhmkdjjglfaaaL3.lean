/- Walk of NumSums. -/
import Derived.Test.YtobhmkdjjglfaaaL2
import Derived.Test.YtobhmkdjjglfaaaQ1
namespace Go.Proofs.Ytobhmkdjjglfaaa
open Go.RowKit

/-- Nothing of what w holds is turned in w'. -/
def Ext (w w' : World) : Prop := Below w.heap.size w w'
theorem Ext.refl (w : World) : Ext w w := Below.refl _ _
theorem Ext.trans {a b c : World} (h : Ext a b) (k : Ext b c) : Ext a c := Below.trans h (Below.mono k h.size)
theorem Ext.alloc {a b : World} (h : Ext a b) (o : Obj) : Ext a (b.alloc o) := Below.alloc h h.size o
theorem Ext.drewN {a b : World} (h : Ext a b) (n : Nat) : Ext a (b.drewN n) := below_drewN h n
theorem Ext.app {a b c : World} {B e s n : Nat} {v : Value} {xs : List Value} (h : Ext a b) (o : b.ownsRow B e s v n xs) (hB : a.heap.size ≤ B) (hg : b.grownBy c v.ownBlock) : Ext a c :=
  Below.grown h hg h.size (fun q hq => Nat.le_trans hB (o.lt q hq).1)
theorem Cells.ext {w w' : World} {A : Option Addr} {xs : List Value} (h : Cells w A xs) (hb : Ext w w') : Cells w' A xs := h.below hb
theorem own_ext {w w' : World} {B e s n : Nat} {v : Value} {xs : List Value} (h : w.ownsRow B e s v n xs) (hb : Ext w w') : w'.ownsRow B e s v n xs := own_below h hb
theorem own_empty (w : World) : (w.alloc (.cells #[] 5)).ownsRow w.heap.size 5 1 (.slice (some ⟨w.heap.size, 0, none⟩) 0 0) 0 (([] : List UInt8).map bv) :=
  World.ownsRow_lit (base := w.heap.size) (e := 5) (size := 1) w #[] 0 (Nat.le_refl _) (Nat.zero_le _) rfl
theorem own_zero (w : World) (B : Nat) (h : B ≤ w.heap.size) : (w.alloc (.cells #[.int .u8 0] 5)).ownsRow B 5 1 (.slice (some ⟨w.heap.size, 0, none⟩) 1 1) 1 (([0] : List UInt8).map bv) :=
  World.ownsRow_lit (base := B) (e := 5) (size := 1) w #[.int .u8 0] 1 h (by unfold maxLen; omega) rfl

/-- append of bytes onto a row of the call's own. -/
theorem app_bytes (w : World) {ops : Array Oper} {rest : List Oper} {o : Oper} {a : Act} {Q : Exit → Act → World → Prop} (hgd : o.guard = none) (s x : Operand)
    (ho : o.op = .call { callee := .builtin .append, args := #[s, x], argTypes := #[22, 22] })
    (B : Nat) (v : Value) (n : Nat) (l : List UInt8) (hs : a.eval s = v) (hown : w.ownsRow B 5 1 v n (l.map bv))
    (A : Option Addr) (m c : Nat) (k : List UInt8) (hx : a.eval x = .slice A m c) (hl : k.length = m) (hnil : A = none → c = 0) (hc : Cells w A (k.map bv))
    (hsz : n + m ≤ 100000) (hB : B ≤ w.heap.size)
    (h : ∀ A' c' w', w'.ownsRow B 5 1 (.slice A' (n + m) c') (n + m) ((l ++ k).map bv) → w.grownBy w' v.ownBlock → wpList Try.prog ops Q rest (a.put o.dst (.slice A' (n + m) c')) w') : wpList Try.prog ops Q (o :: rest) a w := by
  obtain ⟨i0, hi, hz0, hz1, hz2⟩ := info_parts info5
  subst hl
  refine wpList_app w hgd s x 22 ho B 5 i0 (.int .u8 0) 1 1 Try.underlying22 hi hz0 hz1 hz2 rfl (by decide) v n _ hs hown A k.length c (k.map bv) hx (by simp) (fun e => ⟨hc.none_ e, hnil e⟩) hc.at_ (bytes_oneCell _) (by unfold maxLen; omega) (by omega) hB ?_
  intro v' w' hown' hg
  rw [← List.map_append] at hown'
  obtain ⟨A', c', rfl⟩ := own_shape hown'
  exact h A' c' w' hown' hg

theorem crc_both (a m : List UInt8) : crc ((a ++ putL (crc a) 4) ++ m) = reg (foldN 32 4294967295) m ^^^ 4294967295 := by
  unfold crc
  rw [reg_append]
  have := reg_seal a
  unfold crc at this
  rw [this]

set_option maxHeartbeats 2000000 in
theorem numSums_any (A B : Option Addr) (a b : List UInt8) (ca cb : Nat) (w : World) (hla : a.length ≤ maxLen) (hlb : b.length ≤ maxLen) (hna : A = none → ca = 0) (hnb : B = none → cb = 0) (hA : Cells w A (a.map bv)) (hB : Cells w B (b.map bv)) :
    Calls Try.prog 8 #[.slice A a.length ca, .slice B b.length cb] w fun e w' => e = .returned (.bool true) ∧ Below w.heap.size w w' := by
  have HLA := Lib.hid hla
  have HLB := Lib.hid hlb
  have HNA := Lib.hid hna
  have HNB := Lib.hid hnb
  have HA := Lib.hid hA
  have HB := Lib.hid hB
  have hlen : a.length ≤ 500 ∨ 500 < a.length := by omega
  have hlen2 : b.length ≤ 500 ∨ 500 < b.length := by omega
  clear hla hlb hna hnb hA hB
  rcases hlen with hlen | hlen
  · rcases hlen2 with hlen2 | hlen2
    · go_enter Try.func8, Try.ntmps8
      go_wp2_with (go_at_call 9; refine stop_here ?_)
      refine stop_on ?_
      refine (shown_any _).mono ?_
      rintro e w1 ⟨rfl, hb1⟩
      have X1 := Lib.hid (show Ext w w1 from hb1)
      clear hb1
      have HS := Lib.hid (sumP_any A a ca w1 HLA.out (HA.out.ext X1.out))
      have hca := crc_lt a
      go_wp2_with (first | (go_at_call 15; refine HS.out.mono ?_; rintro e w' ⟨rfl, rfl⟩) | (go_at_call 13; refine stop_here ?_))
      refine stop_on ?_
      have hP := putP_any (crc a : Nat) 4 w1 (by omega) (by omega)
      rw [putS_crc] at hP
      refine hP.mono ?_
      clear hP
      rintro e w2 ⟨v2, rfl, ⟨A2, c2, rfl, _, _, hn2, hc2⟩, hb2⟩
      have h4 := putL_length 4 (crc a)
      rw [h4]
      have HC2 := Lib.hid hc2
      have HN2 := Lib.hid hn2
      have X2 := Lib.hid (X1.out.trans hb2)
      have X12 := Lib.hid (show Ext w1 w2 from hb2)
      clear hc2 hb2 h4 hn2
      go_wp2_with (at_builtin; refine stop_here ?_)
      refine stop_on ?_
      have X2' := Lib.hid (X2.out.alloc (.cells #[] 5))
      refine app_bytes _ rfl _ _ rfl w2.heap.size _ 0 [] rfl (own_empty w2) A a.length ca a rfl rfl HNA.out (HA.out.ext X2'.out) (by omega) (by simp) ?_
      intro A3 c3 w3 hown3 hg3
      rw [List.nil_append, Nat.zero_add] at hown3
      rw [Nat.zero_add]
      have X23 := Lib.hid (((Ext.refl w2).alloc (.cells #[] 5)).app (own_empty w2) (Nat.le_refl _) hg3)
      have HO3 := Lib.hid hown3
      clear hown3 hg3 X2'
      go_wp2_with (at_builtin; refine stop_here ?_)
      refine stop_on ?_
      refine app_bytes _ rfl _ _ rfl w2.heap.size (.slice A3 a.length c3) a.length a rfl HO3.out A2 4 c2 (putL (crc a) 4) rfl (putL_length _ _) HN2.out (HC2.out.ext X23.out) (by omega) X23.out.size ?_
      intro A4 c4 w4 hown4 hg4
      have X24 := Lib.hid (X23.out.app HO3.out (Nat.le_refl _) hg4)
      have HL := Lib.hid (show (a ++ putL (crc a) 4).length = a.length + 4 by rw [List.length_append, putL_length])
      have HXB := Lib.hid (crc_both a b)
      have HXN := Lib.hid (crc_both a [])
      rw [List.append_nil] at HXN
      have HO4 := Lib.hid hown4
      clear hown4 hg4 X23 HO3
      generalize hp : a ++ putL (crc a) 4 = p at *
      clear hp
      have z1 := (Ext.refl w4).alloc (.cells #[.int .u8 0] 5)
      have z2 := z1.alloc (.cells #[.int .u8 0] 5)
      have hz := own_zero (w4.alloc (.cells #[.int .u8 0] 5)) 0 (Nat.zero_le _)
      have hS0 := sumP_any (some ⟨w4.heap.size + 1, 0, none⟩) [0] 1 ((w4.alloc (.cells #[.int .u8 0] 5)).alloc (.cells #[.int .u8 0] 5)) (by unfold maxLen; simp) (by have := own_cells hz; simpa using this)
      have HS0 := Lib.hid hS0
      have Z2 := Lib.hid z2
      have HZ := Lib.hid (own_ext (own_zero w4 w4.heap.size (Nat.le_refl _)) ((Ext.refl _).alloc (.cells #[.int .u8 0] 5)))
      have hc0 := crc_lt [0]
      clear z1 z2 hz hS0
      go_wp2_with (first | (go_at_call 15; refine HS0.out.mono ?_; rintro e w' ⟨rfl, rfl⟩) | (go_at_call 13; refine stop_here ?_))
      refine stop_on ?_
      have hP := fun W => putP_any (crc [0] : Nat) 4 W (by omega) (by omega)
      rw [putS_crc] at hP
      refine (hP _).mono ?_
      clear hP
      rintro e w5 ⟨v5, rfl, ⟨A5, c5, rfl, _, _, hn5, hc5⟩, hb5⟩
      rw [putL_length]
      have X45 := Lib.hid (Z2.out.trans hb5)
      have HO5 := Lib.hid (own_ext HZ.out hb5)
      have HC5 := Lib.hid hc5
      have HN5 := Lib.hid hn5
      clear hb5 hc5 hn5
      go_wp2_with (at_builtin; refine stop_here ?_)
      refine stop_on ?_
      refine app_bytes _ rfl _ _ rfl w4.heap.size (.slice (some ⟨w4.heap.size, 0, none⟩) 1 1) 1 [0] rfl HO5.out A5 4 c5 (putL (crc [0]) 4) rfl (putL_length _ _) HN5.out HC5.out (by omega) X45.out.size ?_
      intro A6 c6 w6 hown6 hg6
      have X46 := Lib.hid (X45.out.app HO5.out (Nat.le_refl _) hg6)
      have HZB := Lib.hid (crc_both [0] b)
      have HZN := Lib.hid (crc_both [0] [])
      rw [List.append_nil] at HZN
      have HO6 := Lib.hid hown6
      have HLZ := Lib.hid (show ([0] ++ putL (crc [0]) 4).length = 5 by rw [List.length_append, putL_length]; rfl)
      clear hown6 hg6 X45 HO5 HC5 HN5 HS0 Z2 HZ
      generalize hq : [0] ++ putL (crc [0]) 4 = q at *
      clear hq
      have HP6 := Lib.hid (own_ext HO4.out X46.out)
      have X26 := Lib.hid (X24.out.trans X46.out)
      have X06 := Lib.hid (X2.out.trans X26.out)
      clear X46 X24
      go_wp2_with (at_builtin; refine stop_here ?_)
      refine stop_on ?_
      refine app_bytes _ rfl _ _ rfl w6.heap.size _ 0 [] rfl (own_empty w6) A4 (a.length + 4) c4 p rfl HL.out ?n1 ((own_cells HP6.out).ext ((Ext.refl w6).alloc (.cells #[] 5))) (by omega) (by simp) ?_
      case n1 =>
        intro h
        have := (own_cells HP6.out).none_ h
        rw [HL.out] at this
        omega
      intro A7 c7 w7 hown7 hg7
      rw [List.nil_append, Nat.zero_add] at hown7
      rw [Nat.zero_add]
      have X67 := Lib.hid (((Ext.refl w6).alloc (.cells #[] 5)).app (own_empty w6) (Nat.le_refl _) hg7)
      have HO7 := Lib.hid hown7
      clear hown7 hg7
      go_wp2_with (at_builtin; refine stop_here ?_)
      refine stop_on ?_
      refine app_bytes _ rfl _ _ rfl w6.heap.size (.slice A7 (a.length + 4) c7) (a.length + 4) p rfl HO7.out B b.length cb b rfl rfl HNB.out (HB.out.ext (X06.out.trans X67.out)) (by omega) X67.out.size ?_
      intro A8 c8 w8 hown8 hg8
      have X68 := Lib.hid (X67.out.app HO7.out (Nat.le_refl _) hg8)
      have hS8 := sumP_any A8 (p ++ b) c8 w8 (by rw [List.length_append, HL.out]; unfold maxLen; omega) (own_cells hown8)
      rw [List.length_append, HL.out, HXB.out] at hS8
      have HS8 := Lib.hid hS8
      clear hown8 hg8 X67 HO7 hS8
      have HO6' := Lib.hid (own_ext HO6.out X68.out)
      have X08 := Lib.hid (X06.out.trans X68.out)
      go_wp2_with (first | (go_at_call 15; refine HS8.out.mono ?_; rintro e w' ⟨rfl, rfl⟩) | (at_builtin; refine stop_here ?_))
      refine stop_on ?_
      refine app_bytes _ rfl _ _ rfl w8.heap.size _ 0 [] rfl (own_empty w8) A6 5 c6 q rfl HLZ.out ?n2 ((own_cells HO6'.out).ext ((Ext.refl w8).alloc (.cells #[] 5))) (by omega) (by simp) ?_
      case n2 =>
        intro h
        have := (own_cells HO6'.out).none_ h
        rw [HLZ.out] at this
        omega
      intro A9 c9 w9 hown9 hg9
      rw [List.nil_append, Nat.zero_add] at hown9
      rw [Nat.zero_add]
      have X89 := Lib.hid (((Ext.refl w8).alloc (.cells #[] 5)).app (own_empty w8) (Nat.le_refl _) hg9)
      have HO9 := Lib.hid hown9
      clear hown9 hg9
      go_wp2_with (at_builtin; refine stop_here ?_)
      refine stop_on ?_
      refine app_bytes _ rfl _ _ rfl w8.heap.size (.slice A9 5 c9) 5 q rfl HO9.out B b.length cb b rfl rfl HNB.out (HB.out.ext (X08.out.trans X89.out)) (by omega) X89.out.size ?_
      intro A10 c10 w10 hown10 hg10
      have X810 := Lib.hid (X89.out.app HO9.out (Nat.le_refl _) hg10)
      have hS10 := sumP_any A10 (q ++ b) c10 w10 (by rw [List.length_append, HLZ.out]; unfold maxLen; omega) (own_cells hown10)
      rw [List.length_append, HLZ.out, HZB.out] at hS10
      have HS10 := Lib.hid hS10
      have X010 := Lib.hid (X08.out.trans X810.out)
      have hSp := sumP_any A4 p c4 w10 (by rw [HL.out]; unfold maxLen; omega) ((own_cells HP6.out).ext (X68.out.trans X810.out))
      rw [HL.out, HXN.out] at hSp
      have HSp := Lib.hid hSp
      have hSq := sumP_any A6 q c6 w10 (by rw [HLZ.out]; unfold maxLen; omega) ((own_cells HO6'.out).ext X810.out)
      rw [HLZ.out, HZN.out] at hSq
      have HSq := Lib.hid hSq
      have hSn : Calls Try.prog 15 #[.slice none 0 0] w10 fun e w' => e = .returned (.int .i64 0) ∧ w10 = w' := sumP_any none [] 0 w10 (Nat.zero_le _) (fun h => absurd rfl h)
      have HSn := Lib.hid hSn
      clear hSn hSp hSq hS10 hown10 hg10 HO9 X89 X810 HO6' X08 HS8
      generalize (reg (foldN 32 4294967295) [] ^^^ 4294967295) = s0 at *
      generalize (reg (foldN 32 4294967295) b ^^^ 4294967295) = sb at *
      go_wp2_with (go_at_call 15; first | ((with_reducible refine HS10.out.mono ?_); rintro e w' ⟨rfl, rfl⟩) | ((with_reducible refine HSp.out.mono ?_); rintro e w' ⟨rfl, rfl⟩) | ((with_reducible refine HSq.out.mono ?_); rintro e w' ⟨rfl, rfl⟩) | ((with_reducible refine HSn.out.mono ?_); rintro e w' ⟨rfl, rfl⟩))
      go_ret
      exact ⟨rfl, X010.out⟩
    · go_enter Try.func8, Try.ntmps8
      go_wp2_with (go_at_call 9; refine (shown_any _).mono ?_; rintro e w1 ⟨rfl, hb1⟩; have HB1 := Lib.hid hb1; clear hb1)
      go_ret
      exact ⟨rfl, HB1.out⟩
  · go_enter Try.func8, Try.ntmps8
    go_wp2_with (go_at_call 9; refine (shown_any _).mono ?_; rintro e w1 ⟨rfl, hb1⟩; have HB1 := Lib.hid hb1; clear hb1)
    go_ret
    exact ⟨rfl, HB1.out⟩
end Go.Proofs.Ytobhmkdjjglfaaa
