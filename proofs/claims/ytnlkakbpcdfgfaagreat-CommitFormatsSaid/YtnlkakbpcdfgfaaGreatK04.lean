/- Walks of Items, Right and Same of the reference, of nodes. Heaps as plain lists of cells; where they lie. No program in sight. -/
import Derived.Test.YtnlkakbpcdfgfaaGreatRows
import Derived.Test.YtnlkakbpcdfgfaaGreatK03
import Derived.WalkKit
import Derived.Deep.QuietTactic
import Derived.BigQuiet
import Derived.ChangeSame
namespace Go.Proofs.YtnlkakbpcdfgfaaGreat
set_option maxRecDepth 20000
open Go.RowKit

theorem Bx.grown {w w' : World} {k : Nat} {cs : Array Value} {row : Option Nat} (h : Bx w k cs) (hg : w.grownBy w' row) (hne : row ≠ some k) : Bx w' k cs := by
  have hk := h.lt
  obtain ⟨t, h⟩ := h
  obtain ⟨_, _, _, _, hh⟩ := hg
  exact ⟨t, (hh k hk (Ne.symm hne)).trans h⟩
/-- A box that is older than a row isn't its block. -/
theorem own_old {w : World} {B e s n : Nat} {v : Value} {xs : List Value} {k : Nat} (h : w.ownsRow B e s v n xs) (hk : k < B) : v.ownBlock ≠ some k := fun e => by
  have := (h.lt k e).1
  omega
theorem Bx.set {w : World} {k : Nat} {cs : Array Value} (h : Bx w k cs) (i : Nat) (v : Value) : Bx (w.setCell ⟨k, i, none⟩ v) k (cs.setIfInBounds i v) := by
  obtain ⟨t, h⟩ := h
  refine ⟨t, ?_⟩
  simp [World.setCell, Array.getElem?_modify, h]
theorem Bx.set_other {w : World} {k : Nat} {cs : Array Value} (h : Bx w k cs) {p : Addr} (hp : p.block ≠ k) (v : Value) : Bx (w.setCell p v) k cs := by
  obtain ⟨t, h⟩ := h
  exact ⟨t, by rw [Below.heap_setCell _ _ _ _ (by simpa using Ne.symm hp), h]⟩
theorem Bx.set2 {w : World} {k : Nat} {a b : Value} (h : Bx w k #[a, b]) (x y : Value) : Bx ((w.setCell ⟨k, 0, none⟩ x).setCell ⟨k, 1, none⟩ y) k #[x, y] := (h.set 0 x).set 1 y
/-- A function's end whose result lies in a box of two. -/
theorem ret2_cell {P : Program} {fn : Func} {R : Ending → World → Prop} {a : Act} {W : World} {v : Value} {k : Nat} {x y : Value} (hb : Bx W k #[x, y])
    (h : W.cell? ⟨k, 0, none⟩ = some x → W.cell? ⟨k, 1, none⟩ = some y → (results fn a.tmps).run P W = .ok v W) (hd : a.defers = []) (hR : R (.returned v) W) : bodyPost P fn R .ret a W :=
  bodyPost_ret (h hb.read2.1 hb.read2.2.1) hd hR
theorem Bx.free2 {w : World} {k : Nat} {a b : Value} (h : Bx w k #[a, b]) : w.frozen? ⟨k, 0, none⟩ = false ∧ w.frozen? ⟨k, 1, none⟩ = false := ⟨h.free 0, h.free 1⟩
theorem infoIt : (Tryz.prog.info? 146).map (fun i => (i.zero, i.size, i.bytes)) = some (some (.agg #[.int .i64 0, .int .i64 0]), 2, 16) := by kernel_rfl
/-- append of items onto a row of the call's own. -/
theorem app_items (w : World) {ops : Array Oper} {rest : List Oper} {o : Oper} {a : Act} {Q : Exit → Act → World → Prop} (hgd : o.guard = none) (s x : Operand)
    (ho : o.op = .call { callee := .builtin .append, args := #[s, x], argTypes := #[68, 68] })
    (B : Nat) (v : Value) (n : Nat) (l : List It) (hs : a.eval s = v) (hown : w.ownsRow B 146 2 v n (ivs l))
    (A : Option Addr) (m c : Nat) (k : List It) (hx : a.eval x = .slice A m c) (hl : k.length = m) (hS : Sl w A m c (ivs k))
    (hsz : n + m ≤ 100000) (hB : B ≤ w.heap.size)
    (h : ∀ A' c' w', w'.ownsRow B 146 2 (.slice A' (n + m) c') (n + m) (ivs (l ++ k)) → w.grownBy w' v.ownBlock → wpList Tryz.prog ops Q rest (a.put o.dst (.slice A' (n + m) c')) w') : wpList Tryz.prog ops Q (o :: rest) a w := by
  refine wpList_app_sl w hgd s x 68 ho B 146 (.agg #[.int .i64 0, .int .i64 0]) 2 16 Tryz.underlying68 infoIt rfl (by omega) v n (ivs l) hs hown A m c (ivs k) hx (by rw [ivs_length, hl]) hS (ivs_oneCell k) (by unfold maxLen; omega) (by omega) hB ?_
  intro A' c' w' h1 h2
  rw [← ivs_append] at h1
  exact h A' c' w' h1 h2

theorem Sl.pre {w : World} {A : Option Addr} {n c : Nat} {l : List It} (h : Sl w A n c (ivs l)) (hn : n = l.length) (k : Nat) (hk : k ≤ n) : Sl w A k c (ivs (l.take k)) := by
  obtain ⟨ha, hb, hc, hd⟩ := h
  refine ⟨ha, by omega, hc, fun hne => ?_⟩
  obtain ⟨b, off, e, hlt, hcell⟩ := hd (by intro e; have := ivs_nil e; subst this; simp [ivs] at hne)
  refine ⟨b, off, e, hlt, fun j u hu => hcell j u ?_⟩
  rw [← ivs_take, List.getElem?_take] at hu
  split at hu
  · exact hu
  · cases hu
theorem Sl.post {w : World} {A : Option Addr} {n c : Nat} {l : List It} (h : Sl w A n c (ivs l)) (hn : n = l.length) (k : Nat) (hk : k ≤ n) : Sl w (if c = k then A else A.map (fun x => x.add (k * 2))) (n - k) (c - k) (ivs (l.drop k)) := by
  have h1 := h.items hn k n hk (Nat.le_refl _)
  rwa [List.take_of_length_le (by simp; omega)] at h1
theorem ne_at {α : Type} {a b : List α} (k : Nat) (h : k < a.length) (h' : k < b.length) (hne : a[k] ≠ b[k]) : a ≠ b := by
  intro e; subst e; exact hne rfl
theorem eq_step {α : Type} {a b : List α} (k : Nat) (h : k < a.length) (h' : k < b.length) (h0 : a.take k = b.take k) (he : a[k] = b[k]) : a.take (k + 1) = b.take (k + 1) := by
  rw [List.take_succ_eq_append_getElem h, List.take_succ_eq_append_getElem h', h0, he]
theorem eq_end {α : Type} {a b : List α} (hl : a.length = b.length) (h0 : a.take a.length = b.take a.length) : a = b := by
  rw [List.take_length, hl, List.take_length] at h0; exact h0
/-- How two items are compared. -/
theorem eq_it (a b c d : Int) (w : World) : (Op.equalIn 10000 146 (.agg #[.int .i64 a, .int .i64 b]) (.agg #[.int .i64 c, .int .i64 d])).run Tryz.prog w = .ok (decide ((a, b) = (c, d))) w := by
  have u3 := Tryz.underlying3
  have a3 := Tryz.isAgg3
  have z3 := Tryz.sizeOf3
  have hS : Tryz.prog.underlying 146 = some (.struct (Tryz.prog.fieldsOf 146)) := by kernel_rfl
  have hp : Tryz.prog.stoodInHeld 146 = false := by kernel_rfl
  rw [show (10000 : Nat) = 9999 + 1 from rfl, run_equalIn_agg w 9999 146 _ _ hS hp]
  simp only [Program.fieldsOf, Tryz.underlying146]
  go_simp
  by_cases h1 : a = c <;> by_cases h2 : b = d <;> simp [h1, h2]

def sameI (a b : List It) : Bool := decide (a = b)
set_option maxHeartbeats 2000000 in
theorem ref04Items_any (A B : Option Addr) (a b : List It) (n m c c' : Nat) (w : World) (hn : n = a.length) (hm : m = b.length) (hA : Sl w A n c (ivs a)) (hB : Sl w B m c' (ivs b)) :
    Calls Tryz.prog 62 #[.slice A n c, .slice B m c'] w fun e w' => e = .returned (.bool (sameI a b)) ∧ Ext w w' := by
  subst hn hm
  have ha := hA.len
  unfold maxLen at ha
  unfold sameI
  have HA := Lib.hid hA.cells
  have HB := Lib.hid hB.cells
  clear hA hB
  by_cases hl : a.length = b.length
  · have HL := Lib.hid hl
    have hl1 : ((a.length : Int) != (b.length : Int)) = false := by simp [hl]
    have hl2 : a.length ≤ b.length := by omega
    have hl3 : b.length ≤ a.length := by omega
    clear hl
    go_enter Tryz.func62, Tryz.ntmps62
    go_wp2
    go_loopw [5] (fun i wr => ∃ k : Nat, k ≤ a.length ∧ i = .int .i64 k ∧ a.take k = b.take k ∧ Ext w wr) (fun i _ => a.length - (intOf i).toNat)
    case atStart => exact ⟨0, Nat.zero_le _, rfl, rfl, Ext.refl _⟩
    case round =>
      obtain ⟨k, hk, rfl, hal, hX⟩ := hrel
      have HT := Lib.hid hal
      have HX := Lib.hid hX
      clear hal
      by_cases hlt : k < a.length
      · have hlt2 : k < b.length := by omega
        obtain ⟨ba, offa, rfl, _, hca⟩ := (HA.out.ext hX).it hlt
        obtain ⟨bb, offb, rfl, _, hcb⟩ := (HB.out.ext hX).it hlt2
        obtain ⟨hcka, hckas⟩ := hca k hlt
        obtain ⟨hckb, hckbs⟩ := hcb k hlt2
        have hki : (k : Int) < (a.length : Int) := by omega
        have hki2 : (k : Int) < (b.length : Int) := by omega
        have HF := Lib.hid (ne_at (a := a) (b := b) k hlt hlt2)
        have HS := Lib.hid (eq_step (a := a) (b := b) k hlt hlt2 HT.out)
        clear hca hcb HT hX
        generalize hq : a[k] = qa at *
        generalize hq2 : b[k] = qb at *
        clear hq hq2
        obtain ⟨qaa, qas⟩ := qa
        obtain ⟨qba, qbs⟩ := qb
        simp only at hcka hckas hckb hckbs
        have HQ := eq_it qaa qas qba qbs
        rcases Decidable.em ((qaa, qas) = (qba, qbs)) with he | he
        rotate_left
        · have HZ := Lib.hid he
          rw [decide_eq_false he] at HQ
          clear he
          go_wp2_with fail
          go_quiet (fail)
          go_wp2
          go_ret
          exact ⟨ret_bool (by rw [decide_eq_false (HF.out HZ.out)]), HX.out.drewN _⟩
        · have HZ := Lib.hid he
          rw [decide_eq_true he] at HQ
          clear he
          go_wp2_with fail
          go_quiet (fail)
          go_wp2
          go_roundw
          case rel => exact ⟨k + 1, by omega, by go_num, HS.out HZ.out, HX.out.drewN _⟩
          case measure => simp [intOf]; omega
      · obtain rfl : k = a.length := by omega
        have HE := Lib.hid (eq_end HL.out HT.out)
        clear HT hX
        go_wp2
        go_ret
        exact ⟨ret_bool (by rw [decide_eq_true HE.out]), HX.out⟩
  · have HL := Lib.hid (show ¬ a = b from fun e => hl (by rw [e]))
    have hl1 : ((a.length : Int) != (b.length : Int)) = true := by simp; omega
    clear hl
    go_enter Tryz.func62, Tryz.ntmps62
    go_wp2
    go_ret
    exact ⟨ret_bool (by rw [decide_eq_false HL.out]), Ext.refl _⟩
set_option maxRecDepth 100000 in
set_option maxHeartbeats 400000 in
theorem ref04Right_any (leaf : Bool) (A : Option Addr) (l : List It) (n c : Nat) (w : World) (hn : n = l.length) (hA : Sl w A n c (ivs l)) :
    Calls Tryz.prog 85 #[.agg #[.bool leaf, .slice A n c]] w fun e w' => e = .returned (.bool (ndR l)) ∧ Ext w w' := by
  subst hn
  have hl := hA.len
  unfold maxLen at hl
  have HX := Lib.hid ((Ext.refl w).alloc (.cells #[.bool leaf, .slice A l.length c] 70))
  have HB := Lib.hid (Bx.new w #[.bool leaf, .slice A l.length c] 70)
  have HA := Lib.hid (hA.cells.ext HX.out)
  clear hA
  by_cases h1 : l.length < 1
  · go_enter Tryz.func85, Tryz.ntmps85
    go_wp2
    go_ret
    exact ⟨ret_bool (ndR_no (fun h => by have := h.1; omega)).symm, HX.out⟩
  by_cases h4 : 4 < l.length
  · go_enter Tryz.func85, Tryz.ntmps85
    go_wp2
    go_ret
    exact ⟨ret_bool (ndR_no (fun h => by have := h.1; omega)).symm, HX.out⟩
  go_enter Tryz.func85, Tryz.ntmps85
  go_wp2
  generalize hW : World.alloc w _ = W at *
  clear hW
  go_loopw [3] (fun i wr => ∃ k : Nat, k ≤ l.length ∧ i = .int .i64 k ∧ NdK l k ∧ Ext W wr) (fun i _ => l.length - (intOf i).toNat)
  case atStart => exact ⟨0, Nat.zero_le _, rfl, NdK.zero l, Ext.refl _⟩
  case round =>
    obtain ⟨k, hk, rfl, hnk, hx⟩ := hrel
    have HK := Lib.hid hnk
    have HXR := Lib.hid hx
    obtain ⟨b0, b1, b2⟩ := (HB.out.ext hx).read2
    have HXE := Lib.hid (fun o q => ((HX.out.trans (hx.alloc o)).drewN q))
    clear hnk
    by_cases hlt : k < l.length
    · obtain ⟨bb, off, rfl, _, hc⟩ := (HA.out.ext hx).it hlt
      obtain ⟨hck, hcv⟩ := hc k hlt
      have HNO := Lib.hid (fun (h : ¬ okIt l[k]) => ndR_no (l := l) (fun e => h (e.2 k hlt).1))
      have hki : (k : Int) < (l.length : Int) := by omega
      rcases Nat.eq_zero_or_pos k with h0 | h0
      · subst h0
        have HS := Lib.hid (fun h => HK.out.succ hlt h (fun h0 => absurd h0 (by omega)))
        simp only [Nat.zero_mul, Nat.add_zero] at hck hcv
        clear hc hx HK
        generalize hq : l[0] = q at *
        clear hq
        obtain ⟨K, V⟩ := q
        simp only at hck hcv
        by_cases hb0 : K < 0
        · have d0 : decide (K < 0) = true := decide_eq_true hb0
          go_wp2_with fail
          go_quiet (fail)
          go_wp2
          go_ret
          exact ⟨ret_bool (HNO.out (by unfold okIt; simp only; omega)).symm, HXE.out _ _⟩
        have d0 : decide (K < 0) = false := decide_eq_false hb0
        by_cases hb1 : 2147483647 < K
        · have d1 : decide (2147483647 < K) = true := decide_eq_true hb1
          go_wp2_with fail
          go_quiet (fail)
          go_wp2
          go_ret
          exact ⟨ret_bool (HNO.out (by unfold okIt; simp only; omega)).symm, HXE.out _ _⟩
        have d1 : decide (2147483647 < K) = false := decide_eq_false hb1
        by_cases hb2 : V < 0
        · have d2 : decide (V < 0) = true := decide_eq_true hb2
          go_wp2_with fail
          go_quiet (fail)
          go_wp2
          go_ret
          exact ⟨ret_bool (HNO.out (by unfold okIt; simp only; omega)).symm, HXE.out _ _⟩
        have d2 : decide (V < 0) = false := decide_eq_false hb2
        by_cases hb3 : 2147483647 < V
        · have d3 : decide (2147483647 < V) = true := decide_eq_true hb3
          go_wp2_with fail
          go_quiet (fail)
          go_wp2
          go_ret
          exact ⟨ret_bool (HNO.out (by unfold okIt; simp only; omega)).symm, HXE.out _ _⟩
        have d3 : decide (2147483647 < V) = false := decide_eq_false hb3
        · have HOK := Lib.hid (show okIt (K, V) from by unfold okIt; simp only; omega)
          clear hb0 hb1 hb2 hb3
          go_wp2_with fail
          go_quiet (fail)
          go_wp2
          go_roundw
          case rel => exact ⟨1, by omega, by go_num, HS.out HOK.out, (HXR.out.alloc _).drewN _⟩
          case measure => simp [intOf]; omega
      · obtain ⟨j, rfl⟩ : ∃ j, k = j + 1 := ⟨k - 1, by omega⟩
        have hj := (hc j (by omega)).1
        have HS := Lib.hid (fun (h : okIt l[j + 1]) (hp : l[j].1 < l[j + 1].1) => HK.out.succ hlt h (fun _ => by simpa using hp))
        have HNR := Lib.hid (fun (h : ¬ l[j + 1 - 1].1 < l[j + 1].1) => ndR_no (l := l) (fun e => h ((e.2 (j + 1) hlt).2 (by omega))))
        simp only [Nat.add_sub_cancel] at HNR
        clear hc hx HK h0
        generalize hq : l[j + 1] = q at *
        generalize hq2 : l[j] = pr at *
        clear hq hq2
        obtain ⟨K, V⟩ := q
        obtain ⟨PK, PV⟩ := pr
        simp only at hck hcv hj HNR HS
        by_cases hb0 : K < 0
        · have d0 : decide (K < 0) = true := decide_eq_true hb0
          go_wp2_with fail
          go_quiet (fail)
          go_wp2
          go_ret
          exact ⟨ret_bool (HNO.out (by unfold okIt; simp only; omega)).symm, HXE.out _ _⟩
        have d0 : decide (K < 0) = false := decide_eq_false hb0
        by_cases hb1 : 2147483647 < K
        · have d1 : decide (2147483647 < K) = true := decide_eq_true hb1
          go_wp2_with fail
          go_quiet (fail)
          go_wp2
          go_ret
          exact ⟨ret_bool (HNO.out (by unfold okIt; simp only; omega)).symm, HXE.out _ _⟩
        have d1 : decide (2147483647 < K) = false := decide_eq_false hb1
        by_cases hb2 : V < 0
        · have d2 : decide (V < 0) = true := decide_eq_true hb2
          go_wp2_with fail
          go_quiet (fail)
          go_wp2
          go_ret
          exact ⟨ret_bool (HNO.out (by unfold okIt; simp only; omega)).symm, HXE.out _ _⟩
        have d2 : decide (V < 0) = false := decide_eq_false hb2
        by_cases hb3 : 2147483647 < V
        · have d3 : decide (2147483647 < V) = true := decide_eq_true hb3
          go_wp2_with fail
          go_quiet (fail)
          go_wp2
          go_ret
          exact ⟨ret_bool (HNO.out (by unfold okIt; simp only; omega)).symm, HXE.out _ _⟩
        have d3 : decide (2147483647 < V) = false := decide_eq_false hb3
        · have HOK := Lib.hid (show okIt (K, V) from by unfold okIt; simp only; omega)
          clear hb0 hb1 hb2 hb3
          have hk0 : decide ((0 : Int) < ((j + 1 : Nat) : Int)) = true := decide_eq_true (by omega)
          rcases Decidable.em (K ≤ PK) with hp | hp
          · go_wp2_with fail
            go_quiet (fail)
            go_wp2
            go_ret
            exact ⟨ret_bool (HNR.out (by omega)).symm, HXE.out _ _⟩
          · have hp' : decide (K ≤ PK) = false := decide_eq_false hp
            have HP := Lib.hid (show PK < K by omega)
            go_wp2_with fail
            go_quiet (fail)
            go_wp2
            go_roundw
            case rel => exact ⟨j + 1 + 1, by omega, by go_num, HS.out HOK.out HP.out, (HXR.out.alloc _).drewN _⟩
            case measure => simp [intOf]; omega
    · obtain rfl : k = l.length := by omega
      have HE := Lib.hid ((ndR_iff l).2 (HK.out.all (by omega)))
      clear hx
      go_wp2
      go_ret
      exact ⟨ret_bool HE.out.symm, HX.out.trans HXR.out⟩
def sameN (f : Bool) (a : List It) (g : Bool) (b : List It) : Bool := (f == g) && sameI a b
set_option maxHeartbeats 2000000 in
theorem ref04Same_any (f g : Bool) (A B : Option Addr) (a b : List It) (n m c c' : Nat) (w : World) (hn : n = a.length) (hm : m = b.length) (hA : Sl w A n c (ivs a)) (hB : Sl w B m c' (ivs b)) :
    Calls Tryz.prog 38 #[.agg #[.bool f, .slice A n c], .agg #[.bool g, .slice B m c']] w fun e w' => e = .returned (.bool (sameN f a g b)) ∧ Ext w w' := by
  have HX := Lib.hid (((Ext.refl w).alloc (.cells #[.bool f, .slice A n c] 70)).alloc (.cells #[.bool g, .slice B m c'] 70))
  have HI := Lib.hid (fun w' (hx : Ext w w') => ref04Items_any A B a b n m c c' w' hn hm (hA.ext hx) (hB.ext hx))
  clear hA hB hn hm
  unfold sameN
  cases f <;> cases g
  all_goals
    go_enter Tryz.func38, Tryz.ntmps38
    go_wp2_with (go_at_call 62; refine (HI.out _ HX.out).mono ?_; rintro e w1 ⟨rfl, hx⟩; have HX := Lib.hid (HX.out.trans hx); clear hx)
    go_ret
    exact ⟨ret_bool (by simp), HX.out⟩

end Go.Proofs.YtnlkakbpcdfgfaaGreat
namespace Go.Proofs.YtnlkakbpcdfgfaaGreat
set_option maxRecDepth 20000
open Go.RowKit

/-- A cell: how many refer to it, whether it waits, and its node. -/
structure HC where
  ref : Int
  pin : Bool
  leaf : Bool
  it : List It
deriving DecidableEq
/-- A heap: its cells, and how many are kept. -/
structure Hp where
  c : List HC
  keep : Int
deriving DecidableEq
def HC.none : HC := ⟨0, false, false, []⟩
/-- Values that are cells. -/
def HcAt (w : World) (cs : List Value) (l : List HC) : Prop := cs.length = l.length * 4 ∧ ∀ i (h : i < l.length), ∃ A c, cs[i * 4]? = some (.int .i64 l[i].ref) ∧ cs[i * 4 + 1]? = some (.bool l[i].pin) ∧ cs[i * 4 + 2]? = some (.bool l[i].leaf) ∧ cs[i * 4 + 3]? = some (.slice A l[i].it.length c) ∧ Sl w A l[i].it.length c (ivs l[i].it)
theorem HcAt.ext {w w' : World} {cs : List Value} {l : List HC} (h : HcAt w cs l) (hx : Ext w w') : HcAt w' cs l :=
  ⟨h.1, fun i hi => by obtain ⟨A, c, h1, h2, h3, h4, h5⟩ := h.2 i hi; exact ⟨A, c, h1, h2, h3, h4, h5.ext hx⟩⟩
theorem HcAt.nil (w : World) : HcAt w [] [] := ⟨rfl, fun i hi => by simp at hi⟩
theorem HcAt.one {w : World} {A : Option Addr} {c : Nat} (x : HC) (h : Sl w A x.it.length c (ivs x.it)) : HcAt w [.int .i64 x.ref, .bool x.pin, .bool x.leaf, .slice A x.it.length c] [x] :=
  ⟨rfl, fun i hi => by
    have : i = 0 := by simpa using hi
    subst this
    exact ⟨A, c, rfl, rfl, rfl, rfl, h⟩⟩
theorem HcAt.app {w : World} {cs ds : List Value} {l m : List HC} (h : HcAt w cs l) (k : HcAt w ds m) : HcAt w (cs ++ ds) (l ++ m) := by
  refine ⟨by rw [List.length_append, List.length_append, h.1, k.1]; omega, fun i hi => ?_⟩
  rcases Nat.lt_or_ge i l.length with h1 | h1
  · obtain ⟨A, c, e1, e2, e3, e4, hs⟩ := h.2 i h1
    have hl := h.1
    rw [List.getElem_append_left h1]
    exact ⟨A, c, by rw [List.getElem?_append_left (by omega)]; exact e1, by rw [List.getElem?_append_left (by omega)]; exact e2, by rw [List.getElem?_append_left (by omega)]; exact e3, by rw [List.getElem?_append_left (by omega)]; exact e4, hs⟩
  · obtain ⟨A, c, e1, e2, e3, e4, hs⟩ := k.2 (i - l.length) (by rw [List.length_append] at hi; omega)
    have hl := h.1
    rw [List.getElem_append_right h1]
    exact ⟨A, c, by rw [List.getElem?_append_right (by omega), show i * 4 - cs.length = (i - l.length) * 4 by omega]; exact e1, by rw [List.getElem?_append_right (by omega), show i * 4 + 1 - cs.length = (i - l.length) * 4 + 1 by omega]; exact e2, by rw [List.getElem?_append_right (by omega), show i * 4 + 2 - cs.length = (i - l.length) * 4 + 2 by omega]; exact e3, by rw [List.getElem?_append_right (by omega), show i * 4 + 3 - cs.length = (i - l.length) * 4 + 3 by omega]; exact e4, hs⟩
theorem hc_one {w : World} {cs : List Value} {l : List HC} (h : HcAt w cs l) : ∀ u ∈ cs, u.oneCell' = true := fun u hu => by
  obtain ⟨i, hi, rfl⟩ := List.mem_iff_getElem.1 hu
  have hl := h.1
  obtain ⟨A, c, e1, e2, e3, e4, _⟩ := h.2 (i / 4) (by omega)
  have hm : i = i / 4 * 4 ∨ i = i / 4 * 4 + 1 ∨ i = i / 4 * 4 + 2 ∨ i = i / 4 * 4 + 3 := by omega
  have he := List.getElem?_eq_getElem hi
  rcases hm with hm | hm | hm | hm
  · rw [← hm, he] at e1; have e := Option.some.inj e1; rw [e]; rfl
  · rw [← hm, he] at e2; have e := Option.some.inj e2; rw [e]; rfl
  · rw [← hm, he] at e3; have e := Option.some.inj e3; rw [e]; rfl
  · rw [← hm, he] at e4; have e := Option.some.inj e4; rw [e]; rfl
theorem HcAt.set {w : World} {cs : List Value} {l : List HC} (h : HcAt w cs l) {p : Nat} (hp : p < l.length) (x : HC) {A : Option Addr} {c : Nat} (hs : Sl w A x.it.length c (ivs x.it)) :
    HcAt w ((((cs.set (p * 4) (.int .i64 x.ref)).set (p * 4 + 1) (.bool x.pin)).set (p * 4 + 2) (.bool x.leaf)).set (p * 4 + 3) (.slice A x.it.length c)) (l.set p x) := by
  have hl := h.1
  refine ⟨by simp [hl], fun i hi => ?_⟩
  rw [List.length_set] at hi
  by_cases hip : p = i
  · subst hip
    rw [List.getElem_set_self]
    refine ⟨A, c, ?_, ?_, ?_, ?_, hs⟩ <;> simp [List.getElem?_set] <;> omega
  · rw [List.getElem_set_ne hip]
    obtain ⟨B, d, e1, e2, e3, e4, h5⟩ := h.2 i hi
    refine ⟨B, d, ?_, ?_, ?_, ?_, h5⟩
    · rw [List.getElem?_set_ne (by omega), List.getElem?_set_ne (by omega), List.getElem?_set_ne (by omega), List.getElem?_set_ne (by omega)]; exact e1
    · rw [List.getElem?_set_ne (by omega), List.getElem?_set_ne (by omega), List.getElem?_set_ne (by omega), List.getElem?_set_ne (by omega)]; exact e2
    · rw [List.getElem?_set_ne (by omega), List.getElem?_set_ne (by omega), List.getElem?_set_ne (by omega), List.getElem?_set_ne (by omega)]; exact e3
    · rw [List.getElem?_set_ne (by omega), List.getElem?_set_ne (by omega), List.getElem?_set_ne (by omega), List.getElem?_set_ne (by omega)]; exact e4
/-- A slice of cells. -/
def HcSl (w : World) (R : Option Addr) (m q : Nat) (l : List HC) : Prop := m = l.length ∧ ∃ cs, Sl w R m q cs ∧ HcAt w cs l
theorem HcSl.ext {w w' : World} {R : Option Addr} {m q : Nat} {l : List HC} (h : HcSl w R m q l) (hx : Ext w w') : HcSl w' R m q l := by
  obtain ⟨h1, cs, h2, h3⟩ := h
  exact ⟨h1, cs, h2.ext hx, h3.ext hx⟩
/-- Where a cell stands. -/
theorem HcSl.cell {w : World} {R : Option Addr} {m q : Nat} {l : List HC} (h : HcSl w R m q l) {k : Nat} (hk : k < l.length) :
    ∃ b off, R = some ⟨b, off, none⟩ ∧ b < w.heap.size ∧ ∃ A c, w.cell? ⟨b, off + k * 4, none⟩ = some (.int .i64 l[k].ref) ∧ w.cell? ⟨b, off + k * 4 + 1, none⟩ = some (.bool l[k].pin) ∧ w.cell? ⟨b, off + k * 4 + 2, none⟩ = some (.bool l[k].leaf) ∧ w.cell? ⟨b, off + k * 4 + 3, none⟩ = some (.slice A l[k].it.length c) ∧ Sl w A l[k].it.length c (ivs l[k].it) := by
  obtain ⟨h1, cs, h2, h3⟩ := h
  obtain ⟨A, c, e1, e2, e3, e4, h5⟩ := h3.2 k hk
  have hne : cs ≠ [] := by intro e; subst e; simp at e1
  obtain ⟨b, off, rfl, hb, hc⟩ := h2.cells hne
  exact ⟨b, off, rfl, hb, A, c, hc _ _ e1, by rw [Nat.add_assoc]; exact hc _ _ e2, by rw [Nat.add_assoc]; exact hc _ _ e3, by rw [Nat.add_assoc]; exact hc _ _ e4, h5⟩
/-- Rows of items, and of cells, lie in no box of a slice and a number. -/
theorem no_box {w : World} {b off k : Nat} {A1 : Option Addr} {n1 c1 : Nat} {z : Int} (hb : Bx w k #[.slice A1 n1 c1, .int .i64 z]) {r : Int} {u : Value} (h0 : w.cell? ⟨b, off, none⟩ = some (.int .i64 r)) (h1 : w.cell? ⟨b, off + 1, none⟩ = some u) : k ≠ b := fun e => by
  subst e
  obtain ⟨t, hb⟩ := hb
  unfold World.cell? at h0 h1
  rw [show w.heap[(⟨k, off, none⟩ : Addr).block]? = _ from hb] at h0
  rw [show w.heap[(⟨k, off + 1, none⟩ : Addr).block]? = _ from hb] at h1
  match off, h0, h1 with
  | 0, h0, _ => simp at h0
  | 1, _, h1 => simp at h1
  | n + 2, h0, _ => simp at h0
theorem Sl.boxed2 {w : World} {A : Option Addr} {n c : Nat} {l : List It} (h : Sl w A n c (ivs l)) {k : Nat} {A1 : Option Addr} {n1 c1 : Nat} {z : Int} (hb : Bx w k #[.slice A1 n1 c1, .int .i64 z]) (x y : Value) :
    Sl ((w.setCell ⟨k, 0, none⟩ x).setCell ⟨k, 1, none⟩ y) A n c (ivs l) := by
  refine h.grown (grown_store2 w k x y) (fun hx p hp e => ?_)
  obtain ⟨b, off, e', hlt, hc⟩ := h.cells hx
  rw [hp] at e'
  cases e'
  cases l with
  | nil => exact hx rfl
  | cons u r =>
    have h0 := hc 0 _ rfl
    have h1 := hc 1 _ rfl
    rw [Nat.add_zero] at h0
    exact no_box hb h0 h1 (Option.some.inj e)
theorem HcSl.boxed2 {w : World} {R : Option Addr} {m q : Nat} {l : List HC} (h : HcSl w R m q l) {k : Nat} {A1 : Option Addr} {n1 c1 : Nat} {z : Int} (hb : Bx w k #[.slice A1 n1 c1, .int .i64 z]) (x y : Value) :
    HcSl ((w.setCell ⟨k, 0, none⟩ x).setCell ⟨k, 1, none⟩ y) R m q l := by
  obtain ⟨h1, cs, h2, h3⟩ := h
  refine ⟨h1, cs, ?_, h3.1, fun i hi => ?_⟩
  · refine h2.grown (grown_store2 w k x y) (fun hx p hp e => ?_)
    obtain ⟨b, off, e', hlt, hc⟩ := h2.cells hx
    rw [hp] at e'
    cases e'
    have hl := h3.1
    have hpos : 0 < l.length := by
      rcases Nat.eq_zero_or_pos l.length with h0 | h0
      · rw [h0] at hl; exact absurd (List.eq_nil_of_length_eq_zero hl) hx
      · exact h0
    obtain ⟨A, c, e1, e2, _⟩ := h3.2 0 hpos
    have g0 := hc _ _ e1
    have g1 := hc _ _ e2
    simp only [Nat.zero_mul, Nat.add_zero, Nat.zero_add] at g0 g1
    exact no_box hb g0 g1 (Option.some.inj e)
  · obtain ⟨A, c, e1, e2, e3, e4, h5⟩ := h3.2 i hi
    exact ⟨A, c, e1, e2, e3, e4, h5.boxed2 hb x y⟩
/-- A row of the call's own, with one of its cells written. -/
theorem own_set {w : World} {B e s n g cap : Nat} {xs : List Value} (h : w.ownsRow B e s (.slice (some ⟨g, 0, none⟩) n cap) n xs) {j : Nat} (_hj : j < n * s) (u : Value) :
    (w.setCell ⟨g, j, none⟩ u).ownsRow B e s (.slice (some ⟨g, 0, none⟩) n cap) n (xs.set j u) := by
  refine ⟨by rw [List.length_set]; exact h.1, ?_⟩
  rcases h.2 with ⟨e0, _⟩ | ⟨g', cap', cur, e0, hg, hh, hnc, hcm, hsz, ht⟩
  · cases e0
  · cases e0
    refine .inr ⟨g, cap, _, rfl, hg, heap_setCell_same w g j cur e u hh, hnc, hcm, by simp [hsz], ?_⟩
    rw [Array.toList_setIfInBounds, List.take_set, ht]
theorem own_free {w : World} {B e s n g cap : Nat} {xs : List Value} (h : w.ownsRow B e s (.slice (some ⟨g, 0, none⟩) n cap) n xs) (j : Nat) : w.frozen? ⟨g, j, none⟩ = false := by
  rcases h.2 with ⟨e0, _⟩ | ⟨g', cap', cur, e0, hg, hh, _⟩
  · cases e0
  · cases e0
    exact Bx.free ⟨_, hh⟩ j
/-- A row of the call's own, with a whole cell of the heap written. -/
theorem own_hc {w : World} {B e g n cap : Nat} {cs : List Value} (h : w.ownsRow B e 4 (.slice (some ⟨g, 0, none⟩) n cap) n cs) {p : Nat} (hp : p < n) (a b c d : Value) :
    ((((w.setCell ⟨g, p * 4, none⟩ a).setCell ⟨g, p * 4 + 1, none⟩ b).setCell ⟨g, p * 4 + 2, none⟩ c).setCell ⟨g, p * 4 + 3, none⟩ d).ownsRow B e 4 (.slice (some ⟨g, 0, none⟩) n cap) n ((((cs.set (p * 4) a).set (p * 4 + 1) b).set (p * 4 + 2) c).set (p * 4 + 3) d) :=
  own_set (own_set (own_set (own_set h (by omega) a) (by omega) b) (by omega) c) (by omega) d

/-- P5.1 to P5.4, on plain lists. -/
def usedC (l : List HC) (p : Int) : Bool := decide (0 ≤ p) && (decide (p < l.length) && decide (0 < (l.getD p.toNat HC.none).ref))
abbrev usedH (h : Hp) (p : Int) : Bool := usedC h.c p
def leadsC (l : List HC) (leaf : Bool) (it : List It) : Bool := leaf || it.all (fun x => usedC l x.2)
def placesC (n : Nat) (leaf : Bool) (it : List It) : Bool := leaf || it.all (fun x => decide (0 ≤ x.2) && decide (x.2 < n))
def cellR (n : Nat) (c : HC) : Bool := if c.ref = 0 then !c.leaf && decide (c.it.length = 0) else decide (0 < c.ref) && (decide (c.ref ≤ 2147483647) && (!c.pin && (ndR c.it && placesC n c.leaf c.it)))
def rightH (h : Hp) : Bool := decide ((1 ≤ h.c.length ∧ h.c.length ≤ 2000) ∧ (0 ≤ h.keep ∧ h.keep ≤ h.c.length)) && h.c.all (cellR h.c.length)
theorem usedC_neg {l : List HC} {p : Int} (h : p < 0) : usedC l p = false := by unfold usedC; rw [decide_eq_false (by omega)]; rfl
theorem usedC_big {l : List HC} {p : Int} (h : (l.length : Int) ≤ p) : usedC l p = false := by unfold usedC; rw [decide_eq_false (show ¬ p < l.length by omega)]; simp
theorem usedC_at {l : List HC} {k : Nat} (h : k < l.length) : usedC l (k : Int) = decide (0 < l[k].ref) := by
  unfold usedC
  rw [decide_eq_true (show (0 : Int) ≤ k by omega), decide_eq_true (show (k : Int) < l.length by omega), Int.toNat_natCast, List.getD_eq_getElem?_getD, List.getElem?_eq_getElem h]
  rfl
theorem usedC_iff {l : List HC} {p : Int} (h : usedC l p = true) : ∃ k : Nat, ∃ hk : k < l.length, p = (k : Int) ∧ 0 < l[k].ref := by
  rcases Int.lt_or_le p 0 with h0 | h0
  · rw [usedC_neg h0] at h; cases h
  rcases Int.lt_or_le p l.length with h1 | h1
  · obtain ⟨k, rfl⟩ := Int.eq_ofNat_of_zero_le h0
    have hk : k < l.length := by omega
    rw [usedC_at hk] at h
    exact ⟨k, hk, rfl, by simpa using h⟩
  · rw [usedC_big h1] at h; cases h
def freeC (c : HC) : Bool := decide (c.ref = 0) && !c.pin
def freeH (h : Hp) : Nat := h.c.countP freeC
def fitsH (h : Hp) (n : Int) (deep : Bool) : Bool := decide (n ≤ (freeH h : Int) - (if deep then 0 else h.keep))
def setH (h : Hp) (p : Nat) (x : HC) : Hp := ⟨h.c.set p x, h.keep⟩
def moreH (h : Hp) (p : Nat) : Hp := setH h p ⟨(h.c.getD p HC.none).ref + 1, (h.c.getD p HC.none).pin, (h.c.getD p HC.none).leaf, (h.c.getD p HC.none).it⟩
def holdH (h : Hp) (p : Int) : Hp := if usedH h p then moreH h p.toNat else h
def holdE (h : Hp) (p : Int) : Int := if usedH h p then 0 else 4
/-- Numbers as values; is one among them? -/
def iv (x : Int) : Value := .int .i64 x
theorem Cells.num {w : World} {A : Option Addr} {l : List Int} (h : Cells w A (l.map iv)) {k : Nat} (hk : k < l.length) :
    ∃ b off, A = some ⟨b, off, none⟩ ∧ b < w.heap.size ∧ ∀ j (hj : j < l.length), w.cell? ⟨b, off + j, none⟩ = some (.int .i64 l[j]) := by
  obtain ⟨b, off, rfl, hlt, hc⟩ := h (by intro e; rw [List.map_eq_nil_iff] at e; subst e; simp at hk)
  exact ⟨b, off, rfl, hlt, fun j hj => hc j _ (by simp [hj, iv])⟩
def inL (l : List Int) (x : Int) : Bool := l.any (fun y => decide (y = x))
theorem inL_yes {l : List Int} {x : Int} {k : Nat} (hk : k < l.length) (h : l[k] = x) : inL l x = true := by
  unfold inL; rw [List.any_eq_true]; exact ⟨l[k], List.getElem_mem hk, by simpa using h⟩
theorem inL_no {l : List Int} {x : Int} (h : ∀ j (hj : j < l.length), l[j] ≠ x) : inL l x = false := by
  unfold inL; rw [List.any_eq_false]; intro y hy
  obtain ⟨i, hi, rfl⟩ := List.mem_iff_getElem.1 hy
  simpa using h i hi
/-- One Ref more. -/
def HC.more (x : HC) : HC := ⟨x.ref + 1, x.pin, x.leaf, x.it⟩
/-- P5.2: what a node tells is held once more, for each item, but what is held already. -/
def moreL (held : List Int) (l : List HC) (it : List It) : List HC := it.foldl (fun g x => if inL held x.2 then g else g.set x.2.toNat (g.getD x.2.toNat HC.none).more) l
def stopC (c : HC) : Bool := !(decide (0 < c.ref) || c.pin)
def firstF (l : List HC) : Nat := l.findIdx stopC
def allocE (l : List HC) (leaf : Bool) (it : List It) : Int := if ndR it && leadsC l leaf it then (if firstF l < l.length then 0 else 3) else 1
def allocP (l : List HC) (leaf : Bool) (it : List It) : Nat := if allocE l leaf it = 0 then firstF l else 0
def allocL (l : List HC) (leaf : Bool) (it : List It) (held : List Int) : List HC := if allocE l leaf it = 0 then (if leaf then l else moreL held l it).set (firstF l) ⟨1, false, leaf, it⟩ else l
/-- P5.3: one Ref less; what goes is loosed below, in order. (Fuel: more than there are cells in use.) -/
def looseL : Nat → List HC → Int → List HC
  | 0, l, _ => l
  | f + 1, l, p =>
    if usedC l p then
      if 1 < (l.getD p.toNat HC.none).ref then l.set p.toNat ⟨(l.getD p.toNat HC.none).ref - 1, false, (l.getD p.toNat HC.none).leaf, (l.getD p.toNat HC.none).it⟩
      else if (l.getD p.toNat HC.none).leaf then l.set p.toNat ⟨0, true, false, []⟩
      else (l.getD p.toNat HC.none).it.foldl (fun g x => looseL f g x.2) (l.set p.toNat ⟨0, true, false, []⟩)
    else l
def usedN (l : List HC) : Nat := l.countP (fun c => decide (0 < c.ref))
def looseH (h : Hp) (p : Int) : Hp := ⟨looseL (h.c.length + 1) h.c p, h.keep⟩
def looseE (h : Hp) (p : Int) : Int := if usedH h p then 0 else 4
def settleH (h : Hp) : Hp := ⟨h.c.map (fun c => ⟨c.ref, false, c.leaf, c.it⟩), h.keep⟩
def smallH (h : Hp) (most : Int) : Bool := decide ((h.c.length : Int) ≤ most) && h.c.all (fun c => decide (c.it.length ≤ 10) && decide (c.ref ≤ 1000000))
/-- A value that is a heap. -/
def IsHeap (w : World) (v : Value) (h : Hp) : Prop := ∃ R q, v = .agg #[.slice R h.c.length q, .int .i64 h.keep] ∧ HcSl w R h.c.length q h.c
theorem IsHeap.ext {w w' : World} {v : Value} {h : Hp} (k : IsHeap w v h) (hx : Ext w w') : IsHeap w' v h := by
  obtain ⟨R, q, e, h1⟩ := k
  exact ⟨R, q, e, h1.ext hx⟩
end Go.Proofs.YtnlkakbpcdfgfaaGreat
