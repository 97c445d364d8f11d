/- Items, and right nodes, as plain lists; slices of items. No program in sight. Walks of Items, Right and Same of the reference, of nodes. Walks of isNumber, Right and Same of package node. -/
import Derived.Test.YtjbfopnkeclfgaaGreatK03
import Derived.Test.YtjbfopnkeclfgaaGreatRows
import Derived.WalkKit
import Derived.Deep.QuietTactic
import Derived.BigQuiet
import Derived.ChangeSame
namespace Go.Proofs.YtjbfopnkeclfgaaGreat
set_option maxRecDepth 20000
open Go.RowKit

/-- An item: its key, and what it tells. -/
abbrev It := Int × Int
def ivs : List It → List Value
  | [] => []
  | x :: l => .int .i64 x.1 :: .int .i64 x.2 :: ivs l
theorem ivs_length (l : List It) : (ivs l).length = l.length * 2 := by
  induction l with
  | nil => rfl
  | cons x l ih => simp only [ivs, List.length_cons, ih]; omega
theorem ivs_append (l m : List It) : ivs (l ++ m) = ivs l ++ ivs m := by
  induction l with
  | nil => rfl
  | cons x l ih => simp [ivs, ih]
theorem ivs_at (l : List It) : ∀ (k : Nat) (h : k < l.length), (ivs l)[k * 2]? = some (.int .i64 l[k].1) ∧ (ivs l)[k * 2 + 1]? = some (.int .i64 l[k].2) := by
  induction l with
  | nil => intro k h; simp at h
  | cons x l ih =>
    intro k h
    match k with
    | 0 => exact ⟨rfl, rfl⟩
    | k + 1 =>
      have := ih k (by simpa using h)
      have e1 : (k + 1) * 2 = k * 2 + 1 + 1 := by omega
      rw [e1]
      simpa [ivs] using this
theorem ivs_oneCell (l : List It) : ∀ u ∈ ivs l, u.oneCell' = true := by
  induction l with
  | nil => intro u h; simp [ivs] at h
  | cons x l ih =>
    intro u h
    simp only [ivs, List.mem_cons] at h
    rcases h with rfl | rfl | h
    · rfl
    · rfl
    · exact ih u h
theorem ivs_drop (l : List It) : ∀ k, (ivs l).drop (k * 2) = ivs (l.drop k) := by
  induction l with
  | nil => intro k; simp [ivs]
  | cons x l ih =>
    intro k
    match k with
    | 0 => rfl
    | k + 1 => rw [show (k + 1) * 2 = k * 2 + 1 + 1 by omega]; simp only [ivs, List.drop_succ_cons]; exact ih k
theorem ivs_take (l : List It) : ∀ k, (ivs l).take (k * 2) = ivs (l.take k) := by
  induction l with
  | nil => intro k; simp [ivs]
  | cons x l ih =>
    intro k
    match k with
    | 0 => simp [ivs]
    | k + 1 => rw [show (k + 1) * 2 = k * 2 + 1 + 1 by omega]; simp only [ivs, List.take_succ_cons]; rw [ih k]
theorem ivs_nil {l : List It} (h : ivs l = []) : l = [] := by
  cases l with
  | nil => rfl
  | cons x l => simp [ivs] at h
/-- Where an item stands. -/
theorem Cells.it {w : World} {A : Option Addr} {l : List It} (h : Cells w A (ivs l)) {k : Nat} (hk : k < l.length) :
    ∃ b off, A = some ⟨b, off, none⟩ ∧ b < w.heap.size ∧ ∀ j (hj : j < l.length), w.cell? ⟨b, off + j * 2, none⟩ = some (.int .i64 l[j].1) ∧ w.cell? ⟨b, off + j * 2 + 1, none⟩ = some (.int .i64 l[j].2) := by
  obtain ⟨b, off, rfl, hlt, hc⟩ := h (by intro e; have := ivs_length l; rw [e] at this; simp at this; omega)
  exact ⟨b, off, rfl, hlt, fun j hj => ⟨hc _ _ (ivs_at l j hj).1, by rw [Nat.add_assoc]; exact hc _ _ (ivs_at l j hj).2⟩⟩
/-- A piece of a slice. -/
theorem Sl.cut {w : World} {A : Option Addr} {n c size : Nat} {xs : List Value} (h : Sl w A n c xs) (hx : xs.length = n * size) (lo hi : Nat) (h1 : lo ≤ hi) (h2 : hi ≤ n) :
    Sl w (if c = lo then A else A.map (fun p => p.add (lo * size))) (hi - lo) (c - lo) ((xs.drop (lo * size)).take ((hi - lo) * size)) := by
  obtain ⟨ha, hb, hc, hd⟩ := h
  refine ⟨fun e => ?_, by omega, by omega, fun hne => ?_⟩
  · by_cases hcl : c = lo
    · omega
    · rw [if_neg hcl] at e
      cases A with
      | none => have := ha rfl; omega
      | some a => simp at e
  · have hlh : lo < hi := by
      rcases Nat.lt_or_ge lo hi with h | h
      · exact h
      · have : hi - lo = 0 := by omega
        rw [this] at hne; simp at hne
    have hsz : 0 < size := by
      rcases Nat.eq_zero_or_pos size with h | h
      · subst h; simp at hne
      · exact h
    have hne2 : xs ≠ [] := by intro e; subst e; simp at hne
    obtain ⟨b, off, rfl, hlt, hcell⟩ := hd hne2
    rw [if_neg (by omega)]
    refine ⟨b, off + lo * size, by simp [Addr.add_lit], hlt, fun j u hu => ?_⟩
    rw [Nat.add_assoc]
    refine hcell _ _ ?_
    rw [List.getElem?_take] at hu
    split at hu
    · rwa [List.getElem?_drop] at hu
    · cases hu
theorem Sl.items {w : World} {A : Option Addr} {n c : Nat} {l : List It} (h : Sl w A n c (ivs l)) (hn : n = l.length) (lo hi : Nat) (h1 : lo ≤ hi) (h2 : hi ≤ n) :
    Sl w (if c = lo then A else A.map (fun p => p.add (lo * 2))) (hi - lo) (c - lo) (ivs ((l.drop lo).take (hi - lo))) := by
  have k := h.cut (size := 2) (by rw [ivs_length, hn]) lo hi h1 h2
  rw [ivs_drop, ivs_take] at k
  exact k

theorem Bx.read2 {w : World} {k : Nat} {a b : Value} (h : Bx w k #[a, b]) : w.cell? ⟨k, 0, none⟩ = some a ∧ w.cell? ⟨k, 1, none⟩ = some b ∧ k < w.heap.size := ⟨h.at 0 _ rfl, h.at 1 _ rfl, h.lt⟩
/-- P4.1: which are right. -/
def okIt (x : It) : Prop := (0 ≤ x.1 ∧ x.1 ≤ 2147483647) ∧ (0 ≤ x.2 ∧ x.2 ≤ 2147483647)
instance (x : It) : Decidable (okIt x) := by unfold okIt; infer_instance
def NdK (l : List It) (k : Nat) : Prop := ∀ i (h : i < l.length), i < k → okIt l[i] ∧ (∀ h0 : 0 < i, l[i - 1].1 < l[i].1)
def NdR (l : List It) : Prop := (1 ≤ l.length ∧ l.length ≤ 4) ∧ ∀ i (h : i < l.length), okIt l[i] ∧ (∀ h0 : 0 < i, l[i - 1].1 < l[i].1)
instance (l : List It) : Decidable (NdR l) := by unfold NdR; infer_instance
def ndR (l : List It) : Bool := decide (NdR l)
theorem ndR_iff (l : List It) : ndR l = true ↔ NdR l := by unfold ndR; simp
theorem ndR_no {l : List It} (h : ¬ NdR l) : ndR l = false := by unfold ndR; simpa using h
theorem NdK.zero (l : List It) : NdK l 0 := fun _ _ h => by omega
theorem NdK.succ {l : List It} {k : Nat} (h : NdK l k) (hk : k < l.length) (h1 : okIt l[k]) (h2 : ∀ h0 : 0 < k, l[k - 1].1 < l[k].1) : NdK l (k + 1) := fun i hi hik => by
  rcases Nat.lt_or_ge i k with h' | h'
  · exact h i hi h'
  · obtain rfl : i = k := by omega
    exact ⟨h1, h2⟩
theorem NdK.all {l : List It} (h : NdK l l.length) (h1 : 1 ≤ l.length ∧ l.length ≤ 4) : NdR l := ⟨h1, fun i hi => h i hi hi⟩
/-- Keys rise. -/
theorem NdR.rise {l : List It} (h : NdR l) : ∀ (j i : Nat) (hj : j < l.length) (hi : i < j), (l[i]'(by omega)).1 < l[j].1
  | 0, i, hj, hi => by omega
  | j + 1, i, hj, hi => by
    have h1 := (h.2 (j + 1) hj).2 (by omega)
    simp only [Nat.add_sub_cancel] at h1
    rcases Nat.lt_or_ge i j with h' | h'
    · have := NdR.rise h j i (by omega) h'; omega
    · obtain rfl : i = j := by omega
      exact h1

theorem NdR.ok {l : List It} (h : NdR l) : ∀ x ∈ l, okIt x := fun x hx => by
  obtain ⟨i, hi, rfl⟩ := List.mem_iff_getElem.1 hx
  exact (h.2 i hi).1
end Go.Proofs.YtjbfopnkeclfgaaGreat
namespace Go.Proofs.YtjbfopnkeclfgaaGreat
set_option maxRecDepth 20000
open Go.RowKit

theorem Bx.grown {w w' : World} {k : Nat} {cs : Array Value} {row : Option Nat} (h : Bx w k cs) (hg : w.grownBy w' row) (hne : row ≠ some k) : Bx w' k cs := by
  have hk := h.lt
  obtain ⟨t, h⟩ := h
  obtain ⟨_, _, _, _, hh⟩ := hg
  exact ⟨t, (hh k hk (Ne.symm hne)).trans h⟩
/-- A box that is older than a row isn't its block. -/
theorem own_old {w : World} {B e s n : Nat} {v : Value} {xs : List Value} {k : Nat} (h : w.ownsRow B e s v n xs) (hk : k < B) : v.ownBlock ≠ some k := fun e => by
  have := (h.lt k e).1
  omega
theorem Bx.set {w : World} {k : Nat} {cs : Array Value} (h : Bx w k cs) (i : Nat) (v : Value) : Bx (w.setCell ⟨k, i, none⟩ v) k (cs.setIfInBounds i v) := by
  obtain ⟨t, h⟩ := h
  refine ⟨t, ?_⟩
  simp [World.setCell, Array.getElem?_modify, h]
theorem Bx.set_other {w : World} {k : Nat} {cs : Array Value} (h : Bx w k cs) {p : Addr} (hp : p.block ≠ k) (v : Value) : Bx (w.setCell p v) k cs := by
  obtain ⟨t, h⟩ := h
  exact ⟨t, by rw [Below.heap_setCell _ _ _ _ (by simpa using Ne.symm hp), h]⟩
theorem Bx.set2 {w : World} {k : Nat} {a b : Value} (h : Bx w k #[a, b]) (x y : Value) : Bx ((w.setCell ⟨k, 0, none⟩ x).setCell ⟨k, 1, none⟩ y) k #[x, y] := (h.set 0 x).set 1 y
/-- A function's end whose result lies in a box of two. -/
theorem ret2_cell {P : Program} {fn : Func} {R : Ending → World → Prop} {a : Act} {W : World} {v : Value} {k : Nat} {x y : Value} (hb : Bx W k #[x, y])
    (h : W.cell? ⟨k, 0, none⟩ = some x → W.cell? ⟨k, 1, none⟩ = some y → (results fn a.tmps).run P W = .ok v W) (hd : a.defers = []) (hR : R (.returned v) W) : bodyPost P fn R .ret a W :=
  bodyPost_ret (h hb.read2.1 hb.read2.2.1) hd hR
theorem Bx.free2 {w : World} {k : Nat} {a b : Value} (h : Bx w k #[a, b]) : w.frozen? ⟨k, 0, none⟩ = false ∧ w.frozen? ⟨k, 1, none⟩ = false := ⟨h.free 0, h.free 1⟩
theorem infoIt : (Tryz.prog.info? 146).map (fun i => (i.zero, i.size, i.bytes)) = some (some (.agg #[.int .i64 0, .int .i64 0]), 2, 16) := by kernel_rfl
/-- append of items onto a row of the call's own. -/
theorem app_items (w : World) {ops : Array Oper} {rest : List Oper} {o : Oper} {a : Act} {Q : Exit → Act → World → Prop} (hgd : o.guard = none) (s x : Operand)
    (ho : o.op = .call { callee := .builtin .append, args := #[s, x], argTypes := #[57, 57] })
    (B : Nat) (v : Value) (n : Nat) (l : List It) (hs : a.eval s = v) (hown : w.ownsRow B 146 2 v n (ivs l))
    (A : Option Addr) (m c : Nat) (k : List It) (hx : a.eval x = .slice A m c) (hl : k.length = m) (hS : Sl w A m c (ivs k))
    (hsz : n + m ≤ 100000) (hB : B ≤ w.heap.size)
    (h : ∀ A' c' w', w'.ownsRow B 146 2 (.slice A' (n + m) c') (n + m) (ivs (l ++ k)) → w.grownBy w' v.ownBlock → wpList Tryz.prog ops Q rest (a.put o.dst (.slice A' (n + m) c')) w') : wpList Tryz.prog ops Q (o :: rest) a w := by
  refine wpList_app_sl w hgd s x 57 ho B 146 (.agg #[.int .i64 0, .int .i64 0]) 2 16 Tryz.underlying57 infoIt rfl (by omega) v n (ivs l) hs hown A m c (ivs k) hx (by rw [ivs_length, hl]) hS (ivs_oneCell k) (by unfold maxLen; omega) (by omega) hB ?_
  intro A' c' w' h1 h2
  rw [← ivs_append] at h1
  exact h A' c' w' h1 h2

theorem Sl.pre {w : World} {A : Option Addr} {n c : Nat} {l : List It} (h : Sl w A n c (ivs l)) (hn : n = l.length) (k : Nat) (hk : k ≤ n) : Sl w A k c (ivs (l.take k)) := by
  obtain ⟨ha, hb, hc, hd⟩ := h
  refine ⟨ha, by omega, hc, fun hne => ?_⟩
  obtain ⟨b, off, e, hlt, hcell⟩ := hd (by intro e; have := ivs_nil e; subst this; simp [ivs] at hne)
  refine ⟨b, off, e, hlt, fun j u hu => hcell j u ?_⟩
  rw [← ivs_take, List.getElem?_take] at hu
  split at hu
  · exact hu
  · cases hu
theorem Sl.post {w : World} {A : Option Addr} {n c : Nat} {l : List It} (h : Sl w A n c (ivs l)) (hn : n = l.length) (k : Nat) (hk : k ≤ n) : Sl w (if c = k then A else A.map (fun x => x.add (k * 2))) (n - k) (c - k) (ivs (l.drop k)) := by
  have h1 := h.items hn k n hk (Nat.le_refl _)
  rwa [List.take_of_length_le (by simp; omega)] at h1
theorem ne_at {α : Type} {a b : List α} (k : Nat) (h : k < a.length) (h' : k < b.length) (hne : a[k] ≠ b[k]) : a ≠ b := by
  intro e; subst e; exact hne rfl
theorem eq_step {α : Type} {a b : List α} (k : Nat) (h : k < a.length) (h' : k < b.length) (h0 : a.take k = b.take k) (he : a[k] = b[k]) : a.take (k + 1) = b.take (k + 1) := by
  rw [List.take_succ_eq_append_getElem h, List.take_succ_eq_append_getElem h', h0, he]
theorem eq_end {α : Type} {a b : List α} (hl : a.length = b.length) (h0 : a.take a.length = b.take a.length) : a = b := by
  rw [List.take_length, hl, List.take_length] at h0; exact h0
/-- How two items are compared. -/
theorem eq_it (a b c d : Int) (w : World) : (Op.equalIn 10000 146 (.agg #[.int .i64 a, .int .i64 b]) (.agg #[.int .i64 c, .int .i64 d])).run Tryz.prog w = .ok (decide ((a, b) = (c, d))) w := by
  have u3 := Tryz.underlying3
  have a3 := Tryz.isAgg3
  have z3 := Tryz.sizeOf3
  have hS : Tryz.prog.underlying 146 = some (.struct (Tryz.prog.fieldsOf 146)) := by kernel_rfl
  have hp : Tryz.prog.stoodInHeld 146 = false := by kernel_rfl
  rw [show (10000 : Nat) = 9999 + 1 from rfl, run_equalIn_agg w 9999 146 _ _ hS hp]
  simp only [Program.fieldsOf, Tryz.underlying146]
  go_simp
  by_cases h1 : a = c <;> by_cases h2 : b = d <;> simp [h1, h2]

def sameI (a b : List It) : Bool := decide (a = b)
set_option maxHeartbeats 2000000 in
theorem ref04Items_any (A B : Option Addr) (a b : List It) (n m c c' : Nat) (w : World) (hn : n = a.length) (hm : m = b.length) (hA : Sl w A n c (ivs a)) (hB : Sl w B m c' (ivs b)) :
    Calls Tryz.prog 79 #[.slice A n c, .slice B m c'] w fun e w' => e = .returned (.bool (sameI a b)) ∧ Ext w w' := by
  subst hn hm
  have ha := hA.len
  unfold maxLen at ha
  unfold sameI
  have HA := Lib.hid hA.cells
  have HB := Lib.hid hB.cells
  clear hA hB
  by_cases hl : a.length = b.length
  · have HL := Lib.hid hl
    have hl1 : ((a.length : Int) != (b.length : Int)) = false := by simp [hl]
    have hl2 : a.length ≤ b.length := by omega
    have hl3 : b.length ≤ a.length := by omega
    clear hl
    go_enter Tryz.func79, Tryz.ntmps79
    go_wp2
    go_loopw [5] (fun i wr => ∃ k : Nat, k ≤ a.length ∧ i = .int .i64 k ∧ a.take k = b.take k ∧ Ext w wr) (fun i _ => a.length - (intOf i).toNat)
    case atStart => exact ⟨0, Nat.zero_le _, rfl, rfl, Ext.refl _⟩
    case round =>
      obtain ⟨k, hk, rfl, hal, hX⟩ := hrel
      have HT := Lib.hid hal
      have HX := Lib.hid hX
      clear hal
      by_cases hlt : k < a.length
      · have hlt2 : k < b.length := by omega
        obtain ⟨ba, offa, rfl, _, hca⟩ := (HA.out.ext hX).it hlt
        obtain ⟨bb, offb, rfl, _, hcb⟩ := (HB.out.ext hX).it hlt2
        obtain ⟨hcka, hckas⟩ := hca k hlt
        obtain ⟨hckb, hckbs⟩ := hcb k hlt2
        have hki : (k : Int) < (a.length : Int) := by omega
        have hki2 : (k : Int) < (b.length : Int) := by omega
        have HF := Lib.hid (ne_at (a := a) (b := b) k hlt hlt2)
        have HS := Lib.hid (eq_step (a := a) (b := b) k hlt hlt2 HT.out)
        clear hca hcb HT hX
        generalize hq : a[k] = qa at *
        generalize hq2 : b[k] = qb at *
        clear hq hq2
        obtain ⟨qaa, qas⟩ := qa
        obtain ⟨qba, qbs⟩ := qb
        simp only at hcka hckas hckb hckbs
        have HQ := eq_it qaa qas qba qbs
        rcases Decidable.em ((qaa, qas) = (qba, qbs)) with he | he
        rotate_left
        · have HZ := Lib.hid he
          rw [decide_eq_false he] at HQ
          clear he
          go_wp2_with fail
          go_quiet (fail)
          go_wp2
          go_ret
          exact ⟨ret_bool (by rw [decide_eq_false (HF.out HZ.out)]), HX.out.drewN _⟩
        · have HZ := Lib.hid he
          rw [decide_eq_true he] at HQ
          clear he
          go_wp2_with fail
          go_quiet (fail)
          go_wp2
          go_roundw
          case rel => exact ⟨k + 1, by omega, by go_num, HS.out HZ.out, HX.out.drewN _⟩
          case measure => simp [intOf]; omega
      · obtain rfl : k = a.length := by omega
        have HE := Lib.hid (eq_end HL.out HT.out)
        clear HT hX
        go_wp2
        go_ret
        exact ⟨ret_bool (by rw [decide_eq_true HE.out]), HX.out⟩
  · have HL := Lib.hid (show ¬ a = b from fun e => hl (by rw [e]))
    have hl1 : ((a.length : Int) != (b.length : Int)) = true := by simp; omega
    clear hl
    go_enter Tryz.func79, Tryz.ntmps79
    go_wp2
    go_ret
    exact ⟨ret_bool (by rw [decide_eq_false HL.out]), Ext.refl _⟩
def sameN (f : Bool) (a : List It) (g : Bool) (b : List It) : Bool := (f == g) && sameI a b
set_option maxHeartbeats 2000000 in
theorem ref04Same_any (f g : Bool) (A B : Option Addr) (a b : List It) (n m c c' : Nat) (w : World) (hn : n = a.length) (hm : m = b.length) (hA : Sl w A n c (ivs a)) (hB : Sl w B m c' (ivs b)) :
    Calls Tryz.prog 50 #[.agg #[.bool f, .slice A n c], .agg #[.bool g, .slice B m c']] w fun e w' => e = .returned (.bool (sameN f a g b)) ∧ Ext w w' := by
  have HX := Lib.hid (((Ext.refl w).alloc (.cells #[.bool f, .slice A n c] 59)).alloc (.cells #[.bool g, .slice B m c'] 59))
  have HI := Lib.hid (fun w' (hx : Ext w w') => ref04Items_any A B a b n m c c' w' hn hm (hA.ext hx) (hB.ext hx))
  clear hA hB hn hm
  unfold sameN
  cases f <;> cases g
  all_goals
    go_enter Tryz.func50, Tryz.ntmps50
    go_wp2_with (go_at_call 79; refine (HI.out _ HX.out).mono ?_; rintro e w1 ⟨rfl, hx⟩; have HX := Lib.hid (HX.out.trans hx); clear hx)
    go_ret
    exact ⟨ret_bool (by simp), HX.out⟩

end Go.Proofs.YtjbfopnkeclfgaaGreat
namespace Go.Proofs.YtjbfopnkeclfgaaGreat
set_option maxRecDepth 20000
open Go.RowKit

def isNum (x : Int) : Bool := decide (0 ≤ x) && decide (x ≤ 2147483647)
set_option maxHeartbeats 400000 in
theorem nodeIsNumber_any (x : Int) (w : World) :
    Calls Tryz.prog 125 #[.int .i64 x] w fun e w' => e = .returned (.bool (isNum x)) ∧ w = w' := by
  unfold isNum
  by_cases h0 : 0 ≤ x
  · by_cases h1 : x ≤ 2147483647
    · have d0 : decide (0 ≤ x) = true := decide_eq_true h0
      have d1 : decide (x ≤ 2147483647) = true := decide_eq_true h1
      go_enter Tryz.func125, Tryz.ntmps125
      go_wp2
      go_ret
      exact ⟨ret_bool (by first | rfl | (rw [d0, d1]; rfl)), rfl⟩
    · have d0 : decide (0 ≤ x) = true := decide_eq_true h0
      have d1 : decide (x ≤ 2147483647) = false := decide_eq_false h1
      go_enter Tryz.func125, Tryz.ntmps125
      go_wp2
      go_ret
      exact ⟨ret_bool (by first | rfl | (rw [d0, d1]; rfl)), rfl⟩
  · have d0 : decide (0 ≤ x) = false := decide_eq_false h0
    go_enter Tryz.func125, Tryz.ntmps125
    go_wp2
    go_ret
    exact ⟨ret_bool (by first | rfl | (rw [d0]; rfl)), rfl⟩
theorem isNum_iff (x : Int) : isNum x = true ↔ 0 ≤ x ∧ x ≤ 2147483647 := by unfold isNum; simp
theorem isNum_ok {x : It} (h1 : isNum x.1 = true) (h2 : isNum x.2 = true) : okIt x := ⟨(isNum_iff _).1 h1, (isNum_iff _).1 h2⟩
theorem isNum_no {x : It} (h : isNum x.1 = false ∨ isNum x.2 = false) : ¬ okIt x := fun e => by
  have h1 := (isNum_iff _).2 e.1
  have h2 := (isNum_iff _).2 e.2
  rw [h1, h2] at h
  simp at h
set_option maxRecDepth 100000 in
set_option maxHeartbeats 800000 in
theorem nodeRight_any (leaf : Bool) (A : Option Addr) (l : List It) (n c : Nat) (w : World) (hn : n = l.length) (hA : Sl w A n c (ivs l)) :
    Calls Tryz.prog 80 #[.agg #[.bool leaf, .slice A n c]] w fun e w' => e = .returned (.bool (ndR l)) ∧ Ext w w' := by
  subst hn
  have hl := hA.len
  unfold maxLen at hl
  have HX := Lib.hid ((Ext.refl w).alloc (.cells #[.bool leaf, .slice A l.length c] 59))
  have HB := Lib.hid (Bx.new w #[.bool leaf, .slice A l.length c] 59)
  have HA := Lib.hid (hA.cells.ext HX.out)
  clear hA
  by_cases h1 : l.length < 1
  · go_enter Tryz.func80, Tryz.ntmps80
    go_wp2
    go_ret
    exact ⟨ret_bool (ndR_no (fun h => by have := h.1; omega)).symm, HX.out⟩
  by_cases h4 : 4 < l.length
  · go_enter Tryz.func80, Tryz.ntmps80
    go_wp2
    go_ret
    exact ⟨ret_bool (ndR_no (fun h => by have := h.1; omega)).symm, HX.out⟩
  go_enter Tryz.func80, Tryz.ntmps80
  go_wp2
  generalize hW : World.alloc w _ = W at *
  clear hW
  go_loopw [18] (fun i wr => ∃ k : Nat, k ≤ l.length ∧ i = .int .i64 k ∧ NdK l k ∧ Ext W wr) (fun i _ => l.length - (intOf i).toNat)
  case atStart => exact ⟨0, Nat.zero_le _, rfl, NdK.zero l, Ext.refl _⟩
  case round =>
    obtain ⟨k, hk, rfl, hnk, hx⟩ := hrel
    have HK := Lib.hid hnk
    have HXR := Lib.hid hx
    obtain ⟨b0, b1, b2⟩ := (HB.out.ext hx).read2
    clear hnk
    by_cases hlt : k < l.length
    · obtain ⟨bb, off, rfl, hbb, hc⟩ := (HA.out.ext hx).it hlt
      obtain ⟨hck, hcv⟩ := hc k hlt
      have HNO := Lib.hid (fun (h : ¬ okIt l[k]) => ndR_no (l := l) (fun e => h (e.2 k hlt).1))
      have HS := Lib.hid (fun h h2 => HK.out.succ hlt h h2)
      have HNR := Lib.hid (fun (h0 : 0 < k) (h : ¬ l[k - 1].1 < l[k].1) => ndR_no (l := l) (fun e => h ((e.2 k hlt).2 h0)))
      have HPV := Lib.hid (fun (h0 : 0 < k) (h : k - 1 < l.length) => (hc (k - 1) h).1)
      have hki : (k : Int) < (l.length : Int) := by omega
      clear hc
      generalize hq : l[k] = q at *
      clear hq
      obtain ⟨K, V⟩ := q
      simp only at hck hcv
      have HXA := Lib.hid (hx.alloc (.cells #[.int .i64 K, .int .i64 V] 146))
      have HBI := Lib.hid (Bx.new wr #[.int .i64 K, .int .i64 V] 146)
      obtain ⟨x0, x1, x2⟩ := HBI.out.read2
      have HN1 := Lib.hid (nodeIsNumber_any K)
      have HN2 := Lib.hid (nodeIsNumber_any V)
      clear hx
      cases h0 : isNum K
      · rw [h0] at HN1
        go_wp2_with (go_at_call 125; refine (HN1.out _).mono ?_; rintro e w' ⟨rfl, rfl⟩)
        go_ret
        exact ⟨ret_bool (HNO.out (isNum_no (.inl h0))).symm, HX.out.trans HXA.out⟩
      rw [h0] at HN1
      cases h5 : isNum V
      · rw [h5] at HN2
        go_wp2_with (go_at_call 125; (first | (with_reducible refine (HN1.out _).mono ?_) | (with_reducible refine (HN2.out _).mono ?_)); rintro e w' ⟨rfl, rfl⟩)
        go_ret
        exact ⟨ret_bool (HNO.out (isNum_no (.inr h5))).symm, HX.out.trans HXA.out⟩
      rw [h5] at HN2
      have HOK := Lib.hid (isNum_ok (x := (K, V)) h0 h5)
      clear h0 h5
      rcases Nat.eq_zero_or_pos k with h0 | h0
      · subst h0
        simp only [Nat.zero_mul, Nat.add_zero] at hck hcv
        have HS1 := Lib.hid (HS.out HOK.out (fun h => absurd h (by omega)))
        have d0 : decide ((0 : Int) < ((0 : Nat) : Int)) = false := decide_eq_false (by omega)
        clear HS HK HNR HPV
        go_wp2_with (go_at_call 125; (first | (with_reducible refine (HN1.out _).mono ?_) | (with_reducible refine (HN2.out _).mono ?_)); rintro e w' ⟨rfl, rfl⟩)
        go_quiet (fail)
        go_wp2
        go_roundw
        case rel => exact ⟨1, by omega, by go_num, HS1.out, HXA.out.drewN _⟩
        case measure => simp [intOf]; omega
      · obtain ⟨j, rfl⟩ : ∃ j, k = j + 1 := ⟨k - 1, by omega⟩
        have hj := HPV.out h0 (by omega)
        have HNR2 := Lib.hid (HNR.out h0)
        simp only [Nat.add_sub_cancel] at hj HNR2
        have hj9 : j < l.length := by omega
        have HS2 := Lib.hid (show l[j].1 < K → NdK l (j + 1 + 1) from fun h => HS.out HOK.out (fun _ => h))
        clear HS HK HNR HPV
        have hj1 : (wr.alloc (.cells #[.int .i64 K, .int .i64 V] 146)).cell? ⟨bb, off + j * 2, none⟩ = some (.int .i64 l[j].1) := by
          exact (((Ext.refl wr).alloc _).cell (p := ⟨bb, off + j * 2, none⟩) (World.block_lt_of_cell? _ _ hj)).trans hj
        generalize l[j].1 = PK at *
        have hk0 : decide ((0 : Int) < ((j + 1 : Nat) : Int)) = true := decide_eq_true (by omega)
        have e1 : ((j + 1 : Nat) : Int) - 1 = (j : Int) := by omega
        have e2 : (j : Int) < (l.length : Int) := by omega
        rcases Decidable.em (K ≤ PK) with hp | hp
        · have HE := Lib.hid (HNR2.out (by omega))
          have hp' : decide (K ≤ PK) = true := decide_eq_true hp
          clear hp
          go_wp2_with (go_at_call 125; (first | (with_reducible refine (HN1.out _).mono ?_) | (with_reducible refine (HN2.out _).mono ?_)); rintro e w' ⟨rfl, rfl⟩)
          go_quiet (fail)
          go_wp2
          go_ret
          exact ⟨ret_bool HE.out.symm, HX.out.trans (HXA.out.drewN _)⟩
        · have hp' : decide (K ≤ PK) = false := decide_eq_false hp
          have HE := Lib.hid (HS2.out (by omega))
          clear hp
          go_wp2_with (go_at_call 125; (first | (with_reducible refine (HN1.out _).mono ?_) | (with_reducible refine (HN2.out _).mono ?_)); rintro e w' ⟨rfl, rfl⟩)
          go_quiet (fail)
          go_wp2
          go_roundw
          case rel => exact ⟨j + 1 + 1, by omega, by go_num, HE.out, HXA.out.drewN _⟩
          case measure => simp [intOf]; omega
    · obtain rfl : k = l.length := by omega
      have HE := Lib.hid ((ndR_iff l).2 (HK.out.all (by omega)))
      clear hx
      go_wp2
      go_ret
      exact ⟨ret_bool HE.out.symm, HX.out.trans HXR.out⟩
end Go.Proofs.YtjbfopnkeclfgaaGreat
