/- The walk of TreeStays. -/
import Derived.Test.YthlencnlgnbpaaaTreeB
import Derived.Test.YthlencnlgnbpaaaTreeT
import Derived.Deep.AppendLies
import Derived.Deep.RegionHeld3
import Derived.Deep.DeepCutAuto
import Derived.Deep.DrawnRows
import Derived.RegionTactic
import Derived.Deep.QuietTactic
import Derived.BigQuiet
namespace Go.Proofs.Ythlencnlgnbpaaa
open Go.RowKit
attribute [local go_sem ↓] Go.wp_at_zero Go.wp_at_succ

attribute [local go_sem] beq_self_eq_true bne_self_eq_false
theorem infoHx : (Try.prog.info? 55).map (fun i => (i.zero, i.size, i.bytes)) = some (some (.agg #[.int .i64 0, .bool false, .bool false, .slice none 0 0]), 4, 48) := by kernel_rfl
/-- append of cells onto a row of the call's own. -/
theorem app_hcx (w : World) {ops : Array Oper} {rest : List Oper} {o : Oper} {a : Act} {Q : Exit → Act → World → Prop} (hgd : o.guard = none) (s x : Operand)
    (ho : o.op = .call { callee := .builtin .append, args := #[s, x], argTypes := #[22, 22] })
    (B : Nat) (v : Value) (n : Nat) (xs : List Value) (hs : a.eval s = v) (hown : w.ownsRow B 55 4 v n xs)
    (A : Option Addr) (m c : Nat) (ys : List Value) (hx : a.eval x = .slice A m c) (hl : ys.length = m * 4) (hS : Sl w A m c ys) (h1 : ∀ u ∈ ys, u.oneCell' = true)
    (hsz : n + m ≤ 100000) (hB : B ≤ w.heap.size)
    (h : ∀ A' c' w', w'.ownsRow B 55 4 (.slice A' (n + m) c') (n + m) (xs ++ ys) → w.grownBy w' v.ownBlock → wpList Try.prog ops Q rest (a.put o.dst (.slice A' (n + m) c')) w') : wpList Try.prog ops Q (o :: rest) a w :=
  wpList_app_sl w hgd s x 22 ho B 55 (.agg #[.int .i64 0, .bool false, .bool false, .slice none 0 0]) 4 48 Try.underlying22 infoHx rfl (by omega) v n xs hs hown A m c ys hx hl hS h1 (by unfold maxLen; omega) (by omega) hB h
theorem ref05Right_yes (R : Option Addr) (l : List HC) (n q : Nat) (keep : Int) (w : World) (hA : HcSl w R n q l) (h : rightH ⟨l, keep⟩ = true) :
    Calls Try.prog 26 #[.agg #[.slice R n q, .int .i64 keep]] w fun e w' => e = .returned (.bool true) ∧ Ext w w' := by
  have h1 := ref05Right_any R l n q keep w hA
  rw [h] at h1
  exact h1
theorem treeRight_yes (R : Option Addr) (l : List HC) (n q : Nat) (keep p : Int) (w : World) (hl : AllR l) (hn : l.length ≤ 2000) (hr : rightR ⟨l, keep⟩ p = true) (hA : HcSl w R n q l) :
    Calls Try.prog 12 #[.agg #[.slice R n q, .int .i64 keep], .int .i64 p] w fun e w' => e = .returned (.bool true) ∧ Ext w w' := by
  have h := treeRight_any R l n q keep p w hl hn hA
  rw [hr] at h
  exact h
theorem Bx.set1of4 {w : World} {k : Nat} {a b c d : Value} (h : Bx w k #[a, b, c, d]) (x : Value) : Bx (w.setCell ⟨k, 0, none⟩ x) k #[x, b, c, d] := h.set 0 x
set_option maxRecDepth 100000 in
set_option maxHeartbeats 4000000 in
theorem stays_any (R : Option Addr) (l : List HC) (n q : Nat) (keep root : Int) (y : Nat) (key : Int) (w : World) (hy : y < 256) (hA : HcSl w R n q l) :
    Calls Try.prog 8 #[.agg #[.slice R n q, .int .i64 keep, .int .i64 root, .int .u8 y, .int .i64 key]] w fun e w' => e = .returned (.bool true) ∧ Ext w w' := by
  have A_1 := Lib.hid (hA)
  have X_2 := Lib.hid (Ext.refl w)
  clear hA
  cases hr : mayR ⟨l, keep⟩ root 60
  · have Hr := Lib.hid hr
    clear hr
    go_enter Try.func8, Try.ntmps8
    go_wp2_with (go_at_call 9; refine stop_here ?_)
    refine stop_on ?_
    generalize hW : (World.alloc (World.alloc w _) _) = W3
    obtain ⟨hx, hb0, hb1⟩ := allocs2 hW
    clear hW
    have A_4 := Lib.hid (A_1.out.ext hx)
    have X_4 := Lib.hid (X_2.out.ext hx)
    clear A_1 X_2
    have wi_5 := Lib.hid hb0
    have h_6 := Lib.hid hb1
    clear hx hb0 hb1
    refine (shown_any _).mono ?_
    rintro e w7 ⟨rfl, hx⟩
    have A_8 := Lib.hid (A_4.out.ext hx)
    have X_8 := Lib.hid (X_4.out.ext hx)
    have wi_8 := Lib.hid (wi_5.out.ext hx)
    have h_8 := Lib.hid (h_6.out.ext hx)
    clear A_4 X_4 wi_5 h_6
    clear hx
    have qwi0 : w7.cell? ⟨w.heap.size, 0, none⟩ = some (.slice R n q) := wi_8.out.at 0 _ rfl
    have qwi1 : w7.cell? ⟨w.heap.size, 1, none⟩ = some (.int .i64 keep) := wi_8.out.at 1 _ rfl
    have qwi2 : w7.cell? ⟨w.heap.size, 2, none⟩ = some (.int .i64 root) := wi_8.out.at 2 _ rfl
    have qwi3 : w7.cell? ⟨w.heap.size, 3, none⟩ = some (.int .u8 y) := wi_8.out.at 3 _ rfl
    have qwi4 : w7.cell? ⟨w.heap.size, 4, none⟩ = some (.int .i64 key) := wi_8.out.at 4 _ rfl
    have zwi := wi_8.out.lt
    have qh0 : w7.cell? ⟨w.heap.size + 1, 0, none⟩ = some (.slice R n q) := h_8.out.at 0 _ rfl
    have qh1 : w7.cell? ⟨w.heap.size + 1, 1, none⟩ = some (.int .i64 keep) := h_8.out.at 1 _ rfl
    have zh := h_8.out.lt
    go_wp2_with (go_at_call 20; refine stop_here ?_)
    refine stop_on ?_
    clear qwi0 qwi1 qwi2 qwi3 qwi4 zwi qh0 qh1 zh
    refine (ref07May_is R l n q keep root 60 _ A_8.out Hr.out).mono ?_
    rintro e w9 ⟨rfl, hx⟩
    have A_10 := Lib.hid (A_8.out.ext hx)
    have X_10 := Lib.hid (X_8.out.ext hx)
    have wi_10 := Lib.hid (wi_8.out.ext hx)
    have h_10 := Lib.hid (h_8.out.ext hx)
    clear A_8 X_8 wi_8 h_8
    clear hx
    have zwi := wi_10.out.lt
    have qh0 : w9.cell? ⟨w.heap.size + 1, 0, none⟩ = some (.slice R n q) := h_10.out.at 0 _ rfl
    have qh1 : w9.cell? ⟨w.heap.size + 1, 1, none⟩ = some (.int .i64 keep) := h_10.out.at 1 _ rfl
    have zh := h_10.out.lt
    go_wp2
    go_ret
    exact ⟨rfl, X_10.out⟩
  obtain ⟨hl, hn, hrr⟩ := mayR_all hr
  obtain ⟨kp, hkp⟩ : ∃ kp : Nat, y % (l.length + 1) = kp := ⟨_, rfl⟩
  have hkp2 : kp ≤ l.length := by have := Nat.mod_lt y (show 0 < l.length + 1 by omega); omega
  have hmay : mayH ⟨l, keep⟩ 60 = true := by unfold mayR at hr; rw [Bool.and_eq_true] at hr; exact hr.1
  have hgr := stay_rightH (y := (y : Int)) (by omega) (by omega) hmay (keep' := (kp : Int)) (by omega) (by omega)
  have HGR := Lib.hid hgr
  have HGA := Lib.hid (stay_all hgr)
  have HGN := Lib.hid (show (stayL (y : Int) l).length ≤ 2000 from by rw [stayL_len]; exact hn)
  have HGT := Lib.hid (show rightR ⟨stayL (y : Int) l, (kp : Int)⟩ root = true from by rw [stay_right (by omega) l keep]; exact hrr)
  have HSG := Lib.hid (fun k => stay_get (y : Int) l root k)
  have HSS := Lib.hid (stay_scan (y : Int) l root 0 key)
  have HSH := Lib.hid (stay_high (y := (y : Int)) (by omega) l root)
  have HSM := Lib.hid (show ∀ k (hk : k < l.length), 0 ≤ l[k].ref ∧ l[k].ref ≤ 1000000 from fun k hk => by
    have h1 := hl k hk
    unfold mayH at hmay
    rw [Bool.and_eq_true] at hmay
    have h2 := hmay.1
    unfold smallH at h2
    rw [Bool.and_eq_true, List.all_eq_true] at h2
    have h3 := h2.2 _ (List.getElem_mem hk)
    rw [Bool.and_eq_true, decide_eq_true_eq, decide_eq_true_eq] at h3
    refine ⟨?_, h3.2⟩
    unfold cellR at h1
    split at h1
    · omega
    · rw [Bool.and_eq_true, decide_eq_true_eq] at h1; omega)
  have Hr := Lib.hid hr
  have HL := Lib.hid hl
  have HN := Lib.hid hn
  have HRR := Lib.hid hrr
  have HKP := Lib.hid hkp
  clear hr hl hrr hmay hgr hkp
  go_enter Try.func8, Try.ntmps8
  go_wp2_with (go_at_call 9; refine stop_here ?_)
  refine stop_on ?_
  generalize hW : (World.alloc (World.alloc w _) _) = W11
  obtain ⟨hx, hb0, hb1⟩ := allocs2 hW
  clear hW
  have A_12 := Lib.hid (A_1.out.ext hx)
  have X_12 := Lib.hid (X_2.out.ext hx)
  clear A_1 X_2
  have wi_13 := Lib.hid hb0
  have h_14 := Lib.hid hb1
  clear hx hb0 hb1
  refine (shown_any _).mono ?_
  rintro e w15 ⟨rfl, hx⟩
  have A_16 := Lib.hid (A_12.out.ext hx)
  have X_16 := Lib.hid (X_12.out.ext hx)
  have wi_16 := Lib.hid (wi_13.out.ext hx)
  have h_16 := Lib.hid (h_14.out.ext hx)
  clear A_12 X_12 wi_13 h_14
  clear hx
  have qwi0 : w15.cell? ⟨w.heap.size, 0, none⟩ = some (.slice R n q) := wi_16.out.at 0 _ rfl
  have qwi1 : w15.cell? ⟨w.heap.size, 1, none⟩ = some (.int .i64 keep) := wi_16.out.at 1 _ rfl
  have qwi2 : w15.cell? ⟨w.heap.size, 2, none⟩ = some (.int .i64 root) := wi_16.out.at 2 _ rfl
  have qwi3 : w15.cell? ⟨w.heap.size, 3, none⟩ = some (.int .u8 y) := wi_16.out.at 3 _ rfl
  have qwi4 : w15.cell? ⟨w.heap.size, 4, none⟩ = some (.int .i64 key) := wi_16.out.at 4 _ rfl
  have zwi := wi_16.out.lt
  have qh0 : w15.cell? ⟨w.heap.size + 1, 0, none⟩ = some (.slice R n q) := h_16.out.at 0 _ rfl
  have qh1 : w15.cell? ⟨w.heap.size + 1, 1, none⟩ = some (.int .i64 keep) := h_16.out.at 1 _ rfl
  have zh := h_16.out.lt
  go_wp2_with (go_at_call 20; refine stop_here ?_)
  refine stop_on ?_
  clear qwi0 qwi1 qwi2 qwi3 qwi4 zwi qh0 qh1 zh
  refine (ref07May_is R l n q keep root 60 _ A_16.out Hr.out).mono ?_
  rintro e w17 ⟨rfl, hx⟩
  have A_18 := Lib.hid (A_16.out.ext hx)
  have X_18 := Lib.hid (X_16.out.ext hx)
  have wi_18 := Lib.hid (wi_16.out.ext hx)
  have h_18 := Lib.hid (h_16.out.ext hx)
  clear A_16 X_16 wi_16 h_16
  clear hx
  have zwi := wi_18.out.lt
  have qh0 : w17.cell? ⟨w.heap.size + 1, 0, none⟩ = some (.slice R n q) := h_18.out.at 0 _ rfl
  have qh1 : w17.cell? ⟨w.heap.size + 1, 1, none⟩ = some (.int .i64 keep) := h_18.out.at 1 _ rfl
  have zh := h_18.out.lt
  have HNL := Lib.hid (A_18.out).1
  have hnb : n ≤ 2000 := by have := HNL.out; omega
  go_wp2_with fail
  clear zwi qh0 qh1 zh
  have HE0 := Lib.hid (own_empty w17 55 4)
  have HXE := Lib.hid ((Ext.refl w17).alloc (.cells #[] 55))
  go_loopw [8, 9] (fun v i wr => ∃ k : Nat, k ≤ n ∧ i = .int .i64 k ∧ ∃ Z c2 cs, v = .slice Z k c2 ∧ wr.ownsRow w17.heap.size 55 4 (.slice Z k c2) k cs ∧ HcAt w17 cs (stayL y (l.take k)) ∧ Ext w17 wr) (fun _ i _ => n - (intOf i).toNat)
  case atStart => exact ⟨0, Nat.zero_le _, rfl, _, _, _, rfl, HE0.out, HcAt.nil _, HXE.out⟩
  case round =>
    obtain ⟨k, hk, rfl, Z, c2, cs, rfl, ho, hat, hx0⟩ := hrel
    have HA0 := A_18
    have A_19 := Lib.hid (A_18.out.ext hx0)
    have X_19 := Lib.hid (X_18.out.ext hx0)
    have wi_19 := Lib.hid (wi_18.out.ext hx0)
    have h_19 := Lib.hid (h_18.out.ext hx0)
    clear A_18 X_18 wi_18 h_18
    have HO := Lib.hid ho
    have HAT := Lib.hid hat
    have HX0 := Lib.hid hx0
    clear ho hat hx0
    rcases Nat.lt_or_ge k n with hlt | hlt
    · have hkl : k < l.length := by rw [← HNL.out]; exact hlt
      have HTK := Lib.hid (stay_take (y := (y : Int)) hkl)
      have hsm := HSM.out k hkl
      have hki : (k : Int) < (n : Int) := by omega
      obtain ⟨b, off, rfl, hbl, A, c, r0, r1, r2, r3, hI⟩ := (A_19.out).cell hkl
      obtain ⟨b9, off9, he9, _, A9, c9, _, _, _, u3, hI9⟩ := HA0.out.cell hkl
      cases he9
      have h39 := (HX0.out.cell (p := ⟨b, off + k * 4 + 3, none⟩) (by assumption)).trans u3
      rw [r3] at h39
      cases h39
      have hW9 : 0 ≤ l[k].ref + (y : Int) := by omega
      have qh0 : wr.cell? ⟨w.heap.size + 1, 0, none⟩ = some (.slice (some ⟨b, off, none⟩) n q) := h_19.out.at 0 _ rfl
      have qh1 : wr.cell? ⟨w.heap.size + 1, 1, none⟩ = some (.int .i64 keep) := h_19.out.at 1 _ rfl
      have zh := h_19.out.lt
      have HIW := Lib.hid hI9
      clear hI hI9 u3
      obtain ⟨rf, hrf⟩ : ∃ rf, l[k].ref = rf := ⟨_, rfl⟩
      obtain ⟨pn, hpn⟩ : ∃ pn, l[k].pin = pn := ⟨_, rfl⟩
      obtain ⟨lf, hlf⟩ : ∃ lf, l[k].leaf = lf := ⟨_, rfl⟩
      obtain ⟨m, hm⟩ : ∃ m, l[k].it.length = m := ⟨_, rfl⟩
      rw [hrf] at r0 hsm hW9
      rw [hpn] at r1
      rw [hlf] at r2
      rw [hm] at r3 HIW
      have HSC := Lib.hid (show stayC (y : Int) l[k] = ⟨if 0 < rf then rf + y else rf, false, lf, l[k].it⟩ from by unfold stayC; rw [hrf, hlf])
      have HM := Lib.hid hm
      clear hrf hpn hlf hm
      clear qh0 qh1 zh
      rcases Int.lt_or_le 0 rf with hp | hp
      · have t0 : decide (0 < rf) = true := decide_eq_true hp
        rw [if_pos hp] at HSC
        have hw64 : wrap64 (y : Int) = (y : Int) := by unfold wrap64; omega
        have hw65 : IntKind.i64.wrap (rf + (y : Int)) = rf + (y : Int) := by rw [IntKind.wrap_i64]; omega
        have HNEW := Lib.hid (show HcAt w17 (cs ++ [.int .i64 (rf + (y : Int)), .bool false, .bool lf, .slice A m c]) (stayL y (l.take (k + 1))) from by
          rw [HTK.out, HSC.out]
          have h := HAT.out.app (HcAt.one (w := w17) ⟨(rf + (y : Int)), false, lf, l[k].it⟩ (A := A) (c := c) (by rw [HM.out]; exact HIW.out))
          simp only [HM.out] at h
          exact h)
        clear HSC HM HTK hsm hW9
        have qh0 : wr.cell? ⟨w.heap.size + 1, 0, none⟩ = some (.slice (some ⟨b, off, none⟩) n q) := h_19.out.at 0 _ rfl
        have qh1 : wr.cell? ⟨w.heap.size + 1, 1, none⟩ = some (.int .i64 keep) := h_19.out.at 1 _ rfl
        have zh := h_19.out.lt
        go_wp2_with (at_builtin; refine stop_here ?_)
        refine stop_on ?_
        clear qh0 qh1 zh
        have EX := Lib.hid (((Ext.refl wr).alloc (.cells #[.int .i64 (rf + (y : Int)), .bool pn, .bool lf, .slice A m c] 55)).alloc (.cells #[.int .i64 (rf + (y : Int)), .bool false, .bool lf, .slice A m c] 55))
        refine app_hcx _ rfl _ _ rfl w17.heap.size _ k cs rfl (own_ext HO.out EX.out) (some ⟨wr.heap.size + 1, 0, none⟩) 1 1 [.int .i64 (rf + (y : Int)), .bool false, .bool lf, .slice A m c] rfl rfl (sl_lit' (w := wr.alloc (.cells #[.int .i64 (rf + (y : Int)), .bool pn, .bool lf, .slice A m c] 55)) (by rw [World.size_alloc]) 55 1 [.int .i64 (rf + (y : Int)), .bool false, .bool lf, .slice A m c] (by unfold maxLen; omega)) (by intro u hu; simp only [List.mem_cons, List.not_mem_nil, or_false] at hu; rcases hu with rfl | rfl | rfl | rfl <;> rfl) (by omega) (by have h1 := HX0.out.size; have h2 := EX.out.size; omega) ?_
        intro A3 c3 w3 ho3 hg3
        have HX3 := Lib.hid (Ext.app (HX0.out.trans EX.out) (own_ext HO.out EX.out) (Nat.le_refl _) hg3)
        have HO3 := Lib.hid ho3
        clear ho3 hg3
        go_wp2_with fail
        go_roundw
        case rel => exact ⟨k + 1, by omega, by go_num, A3, c3, _, rfl, HO3.out, HNEW.out, HX3.out⟩
        case measure => simp [intOf]; omega
      · have t0 : decide (0 < rf) = false := decide_eq_false (by omega)
        rw [if_neg (by omega)] at HSC
        have HNEW := Lib.hid (show HcAt w17 (cs ++ [.int .i64 rf, .bool false, .bool lf, .slice A m c]) (stayL y (l.take (k + 1))) from by
          rw [HTK.out, HSC.out]
          have h := HAT.out.app (HcAt.one (w := w17) ⟨rf, false, lf, l[k].it⟩ (A := A) (c := c) (by rw [HM.out]; exact HIW.out))
          simp only [HM.out] at h
          exact h)
        clear HSC HM HTK hsm hW9
        have qh0 : wr.cell? ⟨w.heap.size + 1, 0, none⟩ = some (.slice (some ⟨b, off, none⟩) n q) := h_19.out.at 0 _ rfl
        have qh1 : wr.cell? ⟨w.heap.size + 1, 1, none⟩ = some (.int .i64 keep) := h_19.out.at 1 _ rfl
        have zh := h_19.out.lt
        go_wp2_with (at_builtin; refine stop_here ?_)
        refine stop_on ?_
        clear qh0 qh1 zh
        have EX := Lib.hid (((Ext.refl wr).alloc (.cells #[.int .i64 rf, .bool pn, .bool lf, .slice A m c] 55)).alloc (.cells #[.int .i64 rf, .bool false, .bool lf, .slice A m c] 55))
        refine app_hcx _ rfl _ _ rfl w17.heap.size _ k cs rfl (own_ext HO.out EX.out) (some ⟨wr.heap.size + 1, 0, none⟩) 1 1 [.int .i64 rf, .bool false, .bool lf, .slice A m c] rfl rfl (sl_lit' (w := wr.alloc (.cells #[.int .i64 rf, .bool pn, .bool lf, .slice A m c] 55)) (by rw [World.size_alloc]) 55 1 [.int .i64 rf, .bool false, .bool lf, .slice A m c] (by unfold maxLen; omega)) (by intro u hu; simp only [List.mem_cons, List.not_mem_nil, or_false] at hu; rcases hu with rfl | rfl | rfl | rfl <;> rfl) (by omega) (by have h1 := HX0.out.size; have h2 := EX.out.size; omega) ?_
        intro A3 c3 w3 ho3 hg3
        have HX3 := Lib.hid (Ext.app (HX0.out.trans EX.out) (own_ext HO.out EX.out) (Nat.le_refl _) hg3)
        have HO3 := Lib.hid ho3
        clear ho3 hg3
        go_wp2_with fail
        go_roundw
        case rel => exact ⟨k + 1, by omega, by go_num, A3, c3, _, rfl, HO3.out, HNEW.out, HX3.out⟩
        case measure => simp [intOf]; omega
    · obtain rfl : n = k := by omega
      have hE : l.take n = l := by rw [HNL.out, List.take_length]
      rw [hE] at HAT
      have HG := Lib.hid (show HcSl wr Z n c2 (stayL y l) from ⟨by rw [stayL_len]; exact HNL.out, cs, own_sl HO.out, HAT.out.ext HX0.out⟩)
      clear hE hk hlt HA0
      have hmod : (y : Int).tmod ((n : Int) + 1) = (kp : Int) := by
        have h1 := HKP.out
        rw [← HNL.out] at h1
        rw [Int.tmod_eq_emod_of_nonneg (by omega), ← h1]
        have h2 : ((y % (n + 1) : Nat) : Int) = (y : Int) % ((n + 1 : Nat) : Int) := Int.natCast_emod _ _
        rw [h2]
        congr 1
      have hz : (((n : Int) + 1) == 0) = false := by rw [beq_eq_false_iff_ne]; omega
      have hw64 : wrap64 (y : Int) = (y : Int) := by unfold wrap64; omega
      have hw66 : IntKind.i64.wrap ((n : Int) + 1) = (n : Int) + 1 := by rw [IntKind.wrap_i64]; omega
      have hw67 : IntKind.i64.wrap (kp : Int) = (kp : Int) := by rw [IntKind.wrap_i64]; have := HKP.out; omega
      have zwi := wi_19.out.lt
      have qh0 : wr.cell? ⟨w.heap.size + 1, 0, none⟩ = some (.slice R n q) := h_19.out.at 0 _ rfl
      have qh1 : wr.cell? ⟨w.heap.size + 1, 1, none⟩ = some (.int .i64 keep) := h_19.out.at 1 _ rfl
      have zh := h_19.out.lt
      go_wp2_with (go_at_call 21; refine stop_here ?_)
      refine stop_on ?_
      clear zwi qh0 qh1 zh
      generalize hW : (World.alloc wr _) = W20
      obtain ⟨hx, hb0⟩ := allocs1 hW
      clear hW
      have A_21 := Lib.hid (A_19.out.ext hx)
      have X_21 := Lib.hid (X_19.out.ext hx)
      have wi_21 := Lib.hid (wi_19.out.ext hx)
      have h_21 := Lib.hid (h_19.out.ext hx)
      have G_21 := Lib.hid (HG.out.ext hx)
      clear A_19 X_19 wi_19 h_19 HG
      have g_22 := Lib.hid hb0
      clear hx hb0
      refine (treeGet_any R l n q keep keep root key _ HL.out HN.out HRR.out A_21.out).mono ?_
      rintro e w23 ⟨rfl, hx⟩
      have A_24 := Lib.hid (A_21.out.ext hx)
      have X_24 := Lib.hid (X_21.out.ext hx)
      have wi_24 := Lib.hid (wi_21.out.ext hx)
      have h_24 := Lib.hid (h_21.out.ext hx)
      have G_24 := Lib.hid (G_21.out.ext hx)
      have g_24 := Lib.hid (g_22.out.ext hx)
      clear A_21 X_21 wi_21 h_21 G_21 g_22
      clear hx
      have zwi := wi_24.out.lt
      have qh0 : w23.cell? ⟨w.heap.size + 1, 0, none⟩ = some (.slice R n q) := h_24.out.at 0 _ rfl
      have qh1 : w23.cell? ⟨w.heap.size + 1, 1, none⟩ = some (.int .i64 keep) := h_24.out.at 1 _ rfl
      have zh := h_24.out.lt
      have qg0 : w23.cell? ⟨wr.heap.size, 0, none⟩ = some (.slice Z n c2) := g_24.out.at 0 _ rfl
      have qg1 : w23.cell? ⟨wr.heap.size, 1, none⟩ = some (.int .i64 kp) := g_24.out.at 1 _ rfl
      have zg := g_24.out.lt
      go_wp2_with (go_at_call 21; refine stop_here ?_)
      refine stop_on ?_
      clear zwi qh0 qh1 zh qg0 qg1 zg
      have hc := treeGet_any Z (stayL y l) n c2 kp kp root key _ HGA.out HGN.out HGT.out G_24.out
      rw [HSG.out] at hc
      refine hc.mono ?_
      clear hc
      rintro e w25 ⟨rfl, hx⟩
      have A_26 := Lib.hid (A_24.out.ext hx)
      have X_26 := Lib.hid (X_24.out.ext hx)
      have wi_26 := Lib.hid (wi_24.out.ext hx)
      have h_26 := Lib.hid (h_24.out.ext hx)
      have G_26 := Lib.hid (G_24.out.ext hx)
      have g_26 := Lib.hid (g_24.out.ext hx)
      clear A_24 X_24 wi_24 h_24 G_24 g_24
      clear hx
      have zwi := wi_26.out.lt
      have qh0 : w25.cell? ⟨w.heap.size + 1, 0, none⟩ = some (.slice R n q) := h_26.out.at 0 _ rfl
      have qh1 : w25.cell? ⟨w.heap.size + 1, 1, none⟩ = some (.int .i64 keep) := h_26.out.at 1 _ rfl
      have zh := h_26.out.lt
      have qg0 : w25.cell? ⟨wr.heap.size, 0, none⟩ = some (.slice Z n c2) := g_26.out.at 0 _ rfl
      have qg1 : w25.cell? ⟨wr.heap.size, 1, none⟩ = some (.int .i64 kp) := g_26.out.at 1 _ rfl
      have zg := g_26.out.lt
      go_wp2_with fail
      have HK27 := Lib.hid (fun w' (hx : Ext w25 w') => (show w'.cell? ⟨w.heap.size + 1, 0, none⟩ = some (.slice R n q) ∧ w'.cell? ⟨w.heap.size + 1, 1, none⟩ = some (.int .i64 keep) ∧ w'.cell? ⟨wr.heap.size, 0, none⟩ = some (.slice Z n c2) ∧ w'.cell? ⟨wr.heap.size, 1, none⟩ = some (.int .i64 kp) from ⟨(h_26.out.ext hx).at 0 _ rfl, (h_26.out.ext hx).at 1 _ rfl, (g_26.out.ext hx).at 0 _ rfl, (g_26.out.ext hx).at 1 _ rfl⟩))
      have G27_0 := Lib.hid (fun w' (hx : Ext w25 w') => ref05Right_yes Z (stayL y l) n c2 kp w' (G_26.out.ext hx) HGR.out)
      have G27_1 := Lib.hid (fun w' (hx : Ext w25 w') => treeRight_yes Z (stayL y l) n c2 kp root w' HGA.out HGN.out HGT.out (G_26.out.ext hx))
      have G27_2 := Lib.hid (fun w' (hx : Ext w25 w') => by
          have h := treeScan_is Z (stayL y l) n c2 kp kp root 0 key w' HGA.out HGN.out HGT.out (G_26.out.ext hx)
          rw [HSS.out] at h
          exact h)
      have G27_3 := Lib.hid (fun w' (hx : Ext w25 w') => treeScan_is R l n q keep keep root 0 key w' HL.out HN.out HRR.out (A_26.out.ext hx))
      have G27_5 := Lib.hid (fun w' (hx : Ext w25 w') => by
          have h := treeHigh_any Z (stayL y l) n c2 kp kp root w' HGA.out HGN.out HGT.out (G_26.out.ext hx)
          rw [HSH.out] at h
          exact h)
      have G27_6 := Lib.hid (fun w' (hx : Ext w25 w') => treeHigh_any R l n q keep keep root w' HL.out HN.out HRR.out (A_26.out.ext hx))
      clear zwi qh0 qh1 zh qg0 qg1 zg
      have qh0 : w25.cell? ⟨w.heap.size + 1, 0, none⟩ = some (.slice R n q) := h_26.out.at 0 _ rfl
      have qh1 : w25.cell? ⟨w.heap.size + 1, 1, none⟩ = some (.int .i64 keep) := h_26.out.at 1 _ rfl
      have zh := h_26.out.lt
      have qg0 : w25.cell? ⟨wr.heap.size, 0, none⟩ = some (.slice Z n c2) := g_26.out.at 0 _ rfl
      have qg1 : w25.cell? ⟨wr.heap.size, 1, none⟩ = some (.int .i64 kp) := g_26.out.at 1 _ rfl
      have zg := g_26.out.lt
      go_region_held3 (fun w' => w'.cell? ⟨w.heap.size + 1, 0, none⟩ = some (.slice R n q) ∧ w'.cell? ⟨w.heap.size + 1, 1, none⟩ = some (.int .i64 keep) ∧ w'.cell? ⟨wr.heap.size, 0, none⟩ = some (.slice Z n c2) ∧ w'.cell? ⟨wr.heap.size, 1, none⟩ = some (.int .i64 kp))
        (first | exact HK27.out _ E27_6.out | exact HK27.out _ E27_5.out | exact HK27.out _ E27_4.out | exact HK27.out _ E27_3.out | exact HK27.out _ E27_2.out | exact HK27.out _ E27_1.out | exact HK27.out _ E27_0.out | exact HK27.out _ (Ext.refl w25).drew | exact HK27.out _ (Ext.refl w25))
        (first
          | ((go_at_call 15
              with_reducible refine (G27_6.out _ E27_5.out).mono ?_
              rintro e v27_6 ⟨rfl, hx⟩
              have E27_6 := Lib.hid (E27_5.out.trans hx)
              have P1_27_6 := Lib.hid (P1_27_5.out.ext hx)
              have P2_27_6 := Lib.hid (P2_27_5.out.ext hx)
              clear hx))
          | ((go_at_call 15
              with_reducible refine (G27_5.out _ E27_4.out).mono ?_
              rintro e v27_5 ⟨rfl, hx⟩
              have E27_5 := Lib.hid (E27_4.out.trans hx)
              have P1_27_5 := Lib.hid (P1_27_4.out.ext hx)
              have P2_27_5 := Lib.hid (P2_27_4.out.ext hx)
              clear hx))
          | ((go_at_call 23
              have hc := ref04Items_self S1 S2 (scanT l root 0 key) (scanT l root 0 key) s1 s2 d1 d2 _ (sameI_self _) P1_27_3.out P2_27_3.out
              with_reducible refine hc.mono ?_
              clear hc
              rintro e v27_4 ⟨rfl, hx⟩
              have E27_4 := Lib.hid (E27_3.out.trans hx)
              have P1_27_4 := Lib.hid (P1_27_3.out.ext hx)
              have P2_27_4 := Lib.hid (P2_27_3.out.ext hx)
              clear hx))
          | ((go_at_call 24
              with_reducible refine (G27_3.out _ E27_2.out).mono ?_
              rintro e v27_3 ⟨S2, s2, d2, rfl, h2, hx⟩
              have E27_3 := Lib.hid (E27_2.out.trans hx)
              have P1_27_3 := Lib.hid (P1_27_2.out.ext hx)
              have P2_27_3 := Lib.hid h2
              clear hx h2))
          | ((go_at_call 24
              with_reducible refine (G27_2.out _ E27_1.out).mono ?_
              rintro e v27_2 ⟨S1, s1, d1, rfl, h1, hx⟩
              have E27_2 := Lib.hid (E27_1.out.trans hx)
              have P1_27_2 := Lib.hid h1
              clear hx h1))
          | ((go_at_call 12
              with_reducible refine (G27_1.out _ E27_0.out).mono ?_
              rintro e v27_1 ⟨rfl, hx⟩
              have E27_1 := Lib.hid (E27_0.out.trans hx)
              clear hx))
          | ((go_at_call 26
              with_reducible refine (G27_0.out _ ?_).mono ?_
              (first | exact Ext.refl _ | exact (Ext.refl _).drew)
              rintro e v27_0 ⟨rfl, hx⟩
              have E27_0 := Lib.hid (show Ext w25 v27_0 from by first | exact hx | exact (Ext.refl w25).drew.trans hx)
              clear hx)))
      clear qh0 qh1 zh qg0 qg1 zg
      go_wp2
      go_ret
      exact ⟨rfl, X_26.out.trans E27_6.out⟩
end Go.Proofs.Ythlencnlgnbpaaa

