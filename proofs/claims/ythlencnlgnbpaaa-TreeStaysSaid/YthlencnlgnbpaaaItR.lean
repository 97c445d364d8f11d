/- Walks of Items, Right and Same of the reference, of nodes. -/
import Derived.Test.YthlencnlgnbpaaaRows
import Derived.Test.YthlencnlgnbpaaaIt
import Derived.WalkKit
import Derived.Deep.QuietTactic
import Derived.BigQuiet
import Derived.ChangeSame
namespace Go.Proofs.Ythlencnlgnbpaaa
open Go.RowKit

theorem Bx.grown {w w' : World} {k : Nat} {cs : Array Value} {row : Option Nat} (h : Bx w k cs) (hg : w.grownBy w' row) (hne : row ≠ some k) : Bx w' k cs := by
  have hk := h.lt
  obtain ⟨t, h⟩ := h
  obtain ⟨_, _, _, _, hh⟩ := hg
  exact ⟨t, (hh k hk (Ne.symm hne)).trans h⟩
/-- A box that is older than a row isn't its block. -/
theorem own_old {w : World} {B e s n : Nat} {v : Value} {xs : List Value} {k : Nat} (h : w.ownsRow B e s v n xs) (hk : k < B) : v.ownBlock ≠ some k := fun e => by
  have := (h.lt k e).1
  omega
theorem Bx.set {w : World} {k : Nat} {cs : Array Value} (h : Bx w k cs) (i : Nat) (v : Value) : Bx (w.setCell ⟨k, i, none⟩ v) k (cs.setIfInBounds i v) := by
  obtain ⟨t, h⟩ := h
  refine ⟨t, ?_⟩
  simp [World.setCell, Array.getElem?_modify, h]
theorem Bx.set_other {w : World} {k : Nat} {cs : Array Value} (h : Bx w k cs) {p : Addr} (hp : p.block ≠ k) (v : Value) : Bx (w.setCell p v) k cs := by
  obtain ⟨t, h⟩ := h
  exact ⟨t, by rw [Below.heap_setCell _ _ _ _ (by simpa using Ne.symm hp), h]⟩
theorem Bx.set2 {w : World} {k : Nat} {a b : Value} (h : Bx w k #[a, b]) (x y : Value) : Bx ((w.setCell ⟨k, 0, none⟩ x).setCell ⟨k, 1, none⟩ y) k #[x, y] := (h.set 0 x).set 1 y
/-- A function's end whose result lies in a box of two. -/
theorem ret2_cell {P : Program} {fn : Func} {R : Ending → World → Prop} {a : Act} {W : World} {v : Value} {k : Nat} {x y : Value} (hb : Bx W k #[x, y])
    (h : W.cell? ⟨k, 0, none⟩ = some x → W.cell? ⟨k, 1, none⟩ = some y → (results fn a.tmps).run P W = .ok v W) (hd : a.defers = []) (hR : R (.returned v) W) : bodyPost P fn R .ret a W :=
  bodyPost_ret (h hb.read2.1 hb.read2.2.1) hd hR
theorem Bx.free2 {w : World} {k : Nat} {a b : Value} (h : Bx w k #[a, b]) : w.frozen? ⟨k, 0, none⟩ = false ∧ w.frozen? ⟨k, 1, none⟩ = false := ⟨h.free 0, h.free 1⟩
theorem infoIt : (Try.prog.info? 49).map (fun i => (i.zero, i.size, i.bytes)) = some (some (.agg #[.int .i64 0, .int .i64 0]), 2, 16) := by kernel_rfl
/-- append of items onto a row of the call's own. -/
theorem app_items (w : World) {ops : Array Oper} {rest : List Oper} {o : Oper} {a : Act} {Q : Exit → Act → World → Prop} (hgd : o.guard = none) (s x : Operand)
    (ho : o.op = .call { callee := .builtin .append, args := #[s, x], argTypes := #[43, 43] })
    (B : Nat) (v : Value) (n : Nat) (l : List It) (hs : a.eval s = v) (hown : w.ownsRow B 49 2 v n (ivs l))
    (A : Option Addr) (m c : Nat) (k : List It) (hx : a.eval x = .slice A m c) (hl : k.length = m) (hS : Sl w A m c (ivs k))
    (hsz : n + m ≤ 100000) (hB : B ≤ w.heap.size)
    (h : ∀ A' c' w', w'.ownsRow B 49 2 (.slice A' (n + m) c') (n + m) (ivs (l ++ k)) → w.grownBy w' v.ownBlock → wpList Try.prog ops Q rest (a.put o.dst (.slice A' (n + m) c')) w') : wpList Try.prog ops Q (o :: rest) a w := by
  refine wpList_app_sl w hgd s x 43 ho B 49 (.agg #[.int .i64 0, .int .i64 0]) 2 16 Try.underlying43 infoIt rfl (by omega) v n (ivs l) hs hown A m c (ivs k) hx (by rw [ivs_length, hl]) hS (ivs_oneCell k) (by unfold maxLen; omega) (by omega) hB ?_
  intro A' c' w' h1 h2
  rw [← ivs_append] at h1
  exact h A' c' w' h1 h2

theorem Sl.pre {w : World} {A : Option Addr} {n c : Nat} {l : List It} (h : Sl w A n c (ivs l)) (hn : n = l.length) (k : Nat) (hk : k ≤ n) : Sl w A k c (ivs (l.take k)) := by
  obtain ⟨ha, hb, hc, hd⟩ := h
  refine ⟨ha, by omega, hc, fun hne => ?_⟩
  obtain ⟨b, off, e, hlt, hcell⟩ := hd (by intro e; have := ivs_nil e; subst this; simp [ivs] at hne)
  refine ⟨b, off, e, hlt, fun j u hu => hcell j u ?_⟩
  rw [← ivs_take, List.getElem?_take] at hu
  split at hu
  · exact hu
  · cases hu
theorem Sl.post {w : World} {A : Option Addr} {n c : Nat} {l : List It} (h : Sl w A n c (ivs l)) (hn : n = l.length) (k : Nat) (hk : k ≤ n) : Sl w (if c = k then A else A.map (fun x => x.add (k * 2))) (n - k) (c - k) (ivs (l.drop k)) := by
  have h1 := h.items hn k n hk (Nat.le_refl _)
  rwa [List.take_of_length_le (by simp; omega)] at h1
theorem ne_at {α : Type} {a b : List α} (k : Nat) (h : k < a.length) (h' : k < b.length) (hne : a[k] ≠ b[k]) : a ≠ b := by
  intro e; subst e; exact hne rfl
theorem eq_step {α : Type} {a b : List α} (k : Nat) (h : k < a.length) (h' : k < b.length) (h0 : a.take k = b.take k) (he : a[k] = b[k]) : a.take (k + 1) = b.take (k + 1) := by
  rw [List.take_succ_eq_append_getElem h, List.take_succ_eq_append_getElem h', h0, he]
theorem eq_end {α : Type} {a b : List α} (hl : a.length = b.length) (h0 : a.take a.length = b.take a.length) : a = b := by
  rw [List.take_length, hl, List.take_length] at h0; exact h0
/-- How two items are compared. -/
theorem eq_it (a b c d : Int) (w : World) : (Op.equalIn 10000 49 (.agg #[.int .i64 a, .int .i64 b]) (.agg #[.int .i64 c, .int .i64 d])).run Try.prog w = .ok (decide ((a, b) = (c, d))) w := by
  have u3 := Try.underlying3
  have a3 := Try.isAgg3
  have z3 := Try.sizeOf3
  have hS : Try.prog.underlying 49 = some (.struct (Try.prog.fieldsOf 49)) := by kernel_rfl
  have hp : Try.prog.stoodInHeld 49 = false := by kernel_rfl
  rw [show (10000 : Nat) = 9999 + 1 from rfl, run_equalIn_agg w 9999 49 _ _ hS hp]
  simp only [Program.fieldsOf, Try.underlying49]
  go_simp
  by_cases h1 : a = c <;> by_cases h2 : b = d <;> simp [h1, h2]

def sameI (a b : List It) : Bool := decide (a = b)
set_option maxHeartbeats 2000000 in
theorem ref04Items_any (A B : Option Addr) (a b : List It) (n m c c' : Nat) (w : World) (hn : n = a.length) (hm : m = b.length) (hA : Sl w A n c (ivs a)) (hB : Sl w B m c' (ivs b)) :
    Calls Try.prog 23 #[.slice A n c, .slice B m c'] w fun e w' => e = .returned (.bool (sameI a b)) ∧ Ext w w' := by
  subst hn hm
  have ha := hA.len
  unfold maxLen at ha
  unfold sameI
  have HA := Lib.hid hA.cells
  have HB := Lib.hid hB.cells
  clear hA hB
  by_cases hl : a.length = b.length
  · have HL := Lib.hid hl
    have hl1 : ((a.length : Int) != (b.length : Int)) = false := by simp [hl]
    have hl2 : a.length ≤ b.length := by omega
    have hl3 : b.length ≤ a.length := by omega
    clear hl
    go_enter Try.func23, Try.ntmps23
    go_wp2
    go_loopw [5] (fun i wr => ∃ k : Nat, k ≤ a.length ∧ i = .int .i64 k ∧ a.take k = b.take k ∧ Ext w wr) (fun i _ => a.length - (intOf i).toNat)
    case atStart => exact ⟨0, Nat.zero_le _, rfl, rfl, Ext.refl _⟩
    case round =>
      obtain ⟨k, hk, rfl, hal, hX⟩ := hrel
      have HT := Lib.hid hal
      have HX := Lib.hid hX
      clear hal
      by_cases hlt : k < a.length
      · have hlt2 : k < b.length := by omega
        obtain ⟨ba, offa, rfl, _, hca⟩ := (HA.out.ext hX).it hlt
        obtain ⟨bb, offb, rfl, _, hcb⟩ := (HB.out.ext hX).it hlt2
        obtain ⟨hcka, hckas⟩ := hca k hlt
        obtain ⟨hckb, hckbs⟩ := hcb k hlt2
        have hki : (k : Int) < (a.length : Int) := by omega
        have hki2 : (k : Int) < (b.length : Int) := by omega
        have HF := Lib.hid (ne_at (a := a) (b := b) k hlt hlt2)
        have HS := Lib.hid (eq_step (a := a) (b := b) k hlt hlt2 HT.out)
        clear hca hcb HT hX
        generalize hq : a[k] = qa at *
        generalize hq2 : b[k] = qb at *
        clear hq hq2
        obtain ⟨qaa, qas⟩ := qa
        obtain ⟨qba, qbs⟩ := qb
        simp only at hcka hckas hckb hckbs
        have HQ := eq_it qaa qas qba qbs
        rcases Decidable.em ((qaa, qas) = (qba, qbs)) with he | he
        rotate_left
        · have HZ := Lib.hid he
          rw [decide_eq_false he] at HQ
          clear he
          go_wp2_with fail
          go_quiet (fail)
          go_wp2
          go_ret
          exact ⟨ret_bool (by rw [decide_eq_false (HF.out HZ.out)]), HX.out.drewN _⟩
        · have HZ := Lib.hid he
          rw [decide_eq_true he] at HQ
          clear he
          go_wp2_with fail
          go_quiet (fail)
          go_wp2
          go_roundw
          case rel => exact ⟨k + 1, by omega, by go_num, HS.out HZ.out, HX.out.drewN _⟩
          case measure => simp [intOf]; omega
      · obtain rfl : k = a.length := by omega
        have HE := Lib.hid (eq_end HL.out HT.out)
        clear HT hX
        go_wp2
        go_ret
        exact ⟨ret_bool (by rw [decide_eq_true HE.out]), HX.out⟩
  · have HL := Lib.hid (show ¬ a = b from fun e => hl (by rw [e]))
    have hl1 : ((a.length : Int) != (b.length : Int)) = true := by simp; omega
    clear hl
    go_enter Try.func23, Try.ntmps23
    go_wp2
    go_ret
    exact ⟨ret_bool (by rw [decide_eq_false HL.out]), Ext.refl _⟩
set_option maxRecDepth 100000 in
set_option maxHeartbeats 400000 in
theorem ref04Right_any (leaf : Bool) (A : Option Addr) (l : List It) (n c : Nat) (w : World) (hn : n = l.length) (hA : Sl w A n c (ivs l)) :
    Calls Try.prog 43 #[.agg #[.bool leaf, .slice A n c]] w fun e w' => e = .returned (.bool (ndR l)) ∧ Ext w w' := by
  subst hn
  have hl := hA.len
  unfold maxLen at hl
  have HX := Lib.hid ((Ext.refl w).alloc (.cells #[.bool leaf, .slice A l.length c] 53))
  have HB := Lib.hid (Bx.new w #[.bool leaf, .slice A l.length c] 53)
  have HA := Lib.hid (hA.cells.ext HX.out)
  clear hA
  by_cases h1 : l.length < 1
  · go_enter Try.func43, Try.ntmps43
    go_wp2
    go_ret
    exact ⟨ret_bool (ndR_no (fun h => by have := h.1; omega)).symm, HX.out⟩
  by_cases h4 : 4 < l.length
  · go_enter Try.func43, Try.ntmps43
    go_wp2
    go_ret
    exact ⟨ret_bool (ndR_no (fun h => by have := h.1; omega)).symm, HX.out⟩
  go_enter Try.func43, Try.ntmps43
  go_wp2
  generalize hW : World.alloc w _ = W at *
  clear hW
  go_loopw [3] (fun i wr => ∃ k : Nat, k ≤ l.length ∧ i = .int .i64 k ∧ NdK l k ∧ Ext W wr) (fun i _ => l.length - (intOf i).toNat)
  case atStart => exact ⟨0, Nat.zero_le _, rfl, NdK.zero l, Ext.refl _⟩
  case round =>
    obtain ⟨k, hk, rfl, hnk, hx⟩ := hrel
    have HK := Lib.hid hnk
    have HXR := Lib.hid hx
    obtain ⟨b0, b1, b2⟩ := (HB.out.ext hx).read2
    have HXE := Lib.hid (fun o q => ((HX.out.trans (hx.alloc o)).drewN q))
    clear hnk
    by_cases hlt : k < l.length
    · obtain ⟨bb, off, rfl, _, hc⟩ := (HA.out.ext hx).it hlt
      obtain ⟨hck, hcv⟩ := hc k hlt
      have HNO := Lib.hid (fun (h : ¬ okIt l[k]) => ndR_no (l := l) (fun e => h (e.2 k hlt).1))
      have hki : (k : Int) < (l.length : Int) := by omega
      rcases Nat.eq_zero_or_pos k with h0 | h0
      · subst h0
        have HS := Lib.hid (fun h => HK.out.succ hlt h (fun h0 => absurd h0 (by omega)))
        simp only [Nat.zero_mul, Nat.add_zero] at hck hcv
        clear hc hx HK
        generalize hq : l[0] = q at *
        clear hq
        obtain ⟨K, V⟩ := q
        simp only at hck hcv
        by_cases hb0 : K < 0
        · have d0 : decide (K < 0) = true := decide_eq_true hb0
          go_wp2_with fail
          go_quiet (fail)
          go_wp2
          go_ret
          exact ⟨ret_bool (HNO.out (by unfold okIt; simp only; omega)).symm, HXE.out _ _⟩
        have d0 : decide (K < 0) = false := decide_eq_false hb0
        by_cases hb1 : 2147483647 < K
        · have d1 : decide (2147483647 < K) = true := decide_eq_true hb1
          go_wp2_with fail
          go_quiet (fail)
          go_wp2
          go_ret
          exact ⟨ret_bool (HNO.out (by unfold okIt; simp only; omega)).symm, HXE.out _ _⟩
        have d1 : decide (2147483647 < K) = false := decide_eq_false hb1
        by_cases hb2 : V < 0
        · have d2 : decide (V < 0) = true := decide_eq_true hb2
          go_wp2_with fail
          go_quiet (fail)
          go_wp2
          go_ret
          exact ⟨ret_bool (HNO.out (by unfold okIt; simp only; omega)).symm, HXE.out _ _⟩
        have d2 : decide (V < 0) = false := decide_eq_false hb2
        by_cases hb3 : 2147483647 < V
        · have d3 : decide (2147483647 < V) = true := decide_eq_true hb3
          go_wp2_with fail
          go_quiet (fail)
          go_wp2
          go_ret
          exact ⟨ret_bool (HNO.out (by unfold okIt; simp only; omega)).symm, HXE.out _ _⟩
        have d3 : decide (2147483647 < V) = false := decide_eq_false hb3
        · have HOK := Lib.hid (show okIt (K, V) from by unfold okIt; simp only; omega)
          clear hb0 hb1 hb2 hb3
          go_wp2_with fail
          go_quiet (fail)
          go_wp2
          go_roundw
          case rel => exact ⟨1, by omega, by go_num, HS.out HOK.out, (HXR.out.alloc _).drewN _⟩
          case measure => simp [intOf]; omega
      · obtain ⟨j, rfl⟩ : ∃ j, k = j + 1 := ⟨k - 1, by omega⟩
        have hj := (hc j (by omega)).1
        have HS := Lib.hid (fun (h : okIt l[j + 1]) (hp : l[j].1 < l[j + 1].1) => HK.out.succ hlt h (fun _ => by simpa using hp))
        have HNR := Lib.hid (fun (h : ¬ l[j + 1 - 1].1 < l[j + 1].1) => ndR_no (l := l) (fun e => h ((e.2 (j + 1) hlt).2 (by omega))))
        simp only [Nat.add_sub_cancel] at HNR
        clear hc hx HK h0
        generalize hq : l[j + 1] = q at *
        generalize hq2 : l[j] = pr at *
        clear hq hq2
        obtain ⟨K, V⟩ := q
        obtain ⟨PK, PV⟩ := pr
        simp only at hck hcv hj HNR HS
        by_cases hb0 : K < 0
        · have d0 : decide (K < 0) = true := decide_eq_true hb0
          go_wp2_with fail
          go_quiet (fail)
          go_wp2
          go_ret
          exact ⟨ret_bool (HNO.out (by unfold okIt; simp only; omega)).symm, HXE.out _ _⟩
        have d0 : decide (K < 0) = false := decide_eq_false hb0
        by_cases hb1 : 2147483647 < K
        · have d1 : decide (2147483647 < K) = true := decide_eq_true hb1
          go_wp2_with fail
          go_quiet (fail)
          go_wp2
          go_ret
          exact ⟨ret_bool (HNO.out (by unfold okIt; simp only; omega)).symm, HXE.out _ _⟩
        have d1 : decide (2147483647 < K) = false := decide_eq_false hb1
        by_cases hb2 : V < 0
        · have d2 : decide (V < 0) = true := decide_eq_true hb2
          go_wp2_with fail
          go_quiet (fail)
          go_wp2
          go_ret
          exact ⟨ret_bool (HNO.out (by unfold okIt; simp only; omega)).symm, HXE.out _ _⟩
        have d2 : decide (V < 0) = false := decide_eq_false hb2
        by_cases hb3 : 2147483647 < V
        · have d3 : decide (2147483647 < V) = true := decide_eq_true hb3
          go_wp2_with fail
          go_quiet (fail)
          go_wp2
          go_ret
          exact ⟨ret_bool (HNO.out (by unfold okIt; simp only; omega)).symm, HXE.out _ _⟩
        have d3 : decide (2147483647 < V) = false := decide_eq_false hb3
        · have HOK := Lib.hid (show okIt (K, V) from by unfold okIt; simp only; omega)
          clear hb0 hb1 hb2 hb3
          have hk0 : decide ((0 : Int) < ((j + 1 : Nat) : Int)) = true := decide_eq_true (by omega)
          rcases Decidable.em (K ≤ PK) with hp | hp
          · go_wp2_with fail
            go_quiet (fail)
            go_wp2
            go_ret
            exact ⟨ret_bool (HNR.out (by omega)).symm, HXE.out _ _⟩
          · have hp' : decide (K ≤ PK) = false := decide_eq_false hp
            have HP := Lib.hid (show PK < K by omega)
            go_wp2_with fail
            go_quiet (fail)
            go_wp2
            go_roundw
            case rel => exact ⟨j + 1 + 1, by omega, by go_num, HS.out HOK.out HP.out, (HXR.out.alloc _).drewN _⟩
            case measure => simp [intOf]; omega
    · obtain rfl : k = l.length := by omega
      have HE := Lib.hid ((ndR_iff l).2 (HK.out.all (by omega)))
      clear hx
      go_wp2
      go_ret
      exact ⟨ret_bool HE.out.symm, HX.out.trans HXR.out⟩
def sameN (f : Bool) (a : List It) (g : Bool) (b : List It) : Bool := (f == g) && sameI a b
end Go.Proofs.Ythlencnlgnbpaaa
