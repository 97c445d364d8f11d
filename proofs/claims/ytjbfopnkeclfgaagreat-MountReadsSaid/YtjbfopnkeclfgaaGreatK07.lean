/- The walks of step and steps. Walks of the functions that look through a disk: Short, Small, and both Right. Walks of what compares disks: slices.Equal at both kinds, and both Same. Walks of both Same. The walk of the reference's Read. The walk of Read. The walk of Do. -/
import Derived.Test.YtjbfopnkeclfgaaGreatK02
import Derived.StillTailTactics
import Derived.Deep.QuietTactic
import Derived.BigQuiet
import Derived.Test.YtjbfopnkeclfgaaGreatK05
import Derived.Deep.DeepCutAuto
namespace Go.Proofs.YtjbfopnkeclfgaaGreat
set_option maxRecDepth 20000
open Go.RowKit
attribute [local go_sem ↓] Go.wp_at_zero Go.wp_at_succ

/-- P2.4: one step of a plan, if it can be done. -/
def step1 (b : List ByteArray) (l : List Wr) (x : Wr) : Option (List ByteArray × List Wr) :=
  if isFl x then some (writeL b l, []) else if takesS b.length x then some (b, l ++ [x]) else none

/-- What is neither a text's, nor a write's, nor a disk's block lies as it lay. -/
def Keeps3 (W W' : World) : Prop := W.heap.size ≤ W'.heap.size ∧ ∀ (k : Nat) (o : Obj), W.heap[k]? = some o → (∀ cs t fr, o = .cells cs t fr → t ≠ 9 ∧ t ≠ 85 ∧ t ≠ 25) → W'.heap[k]? = some o
theorem Keeps3.refl (W : World) : Keeps3 W W := ⟨Nat.le_refl _, fun _ _ h _ => h⟩
theorem Keeps3.trans {A B C : World} (h : Keeps3 A B) (k : Keeps3 B C) : Keeps3 A C := ⟨Nat.le_trans h.1 k.1, fun i o hi ho => k.2 i o (h.2 i o hi ho) ho⟩
theorem Keeps3.ext {A B : World} (h : Ext A B) : Keeps3 A B := ⟨h.size, fun i _ hi _ => (h.block i (Array.getElem?_eq_some_iff.1 hi).1).trans hi⟩
theorem Keeps3.grown {A B : World} {g : Nat} {cs : Array Value} {t : TypeId} {fr : Nat × Nat} (h : A.grownBy B (some g)) (hg : A.heap[g]? = some (.cells cs t fr)) (ht : t = 9 ∨ t = 85 ∨ t = 25) : Keeps3 A B :=
  ⟨h.size, fun i o hi ho => (h.block i (Array.getElem?_eq_some_iff.1 hi).1 (fun e => by
    cases e
    rw [hg] at hi
    cases hi
    obtain ⟨h1, h2, h3⟩ := ho _ _ _ rfl
    rcases ht with h | h | h <;> contradiction)).trans hi⟩
theorem Keeps3.grownN {A B : World} (h : A.grownBy B none) : Keeps3 A B := ⟨h.size, fun i o hi _ => (h.block i (Array.getElem?_eq_some_iff.1 hi).1 (by simp)).trans hi⟩
theorem own_obj {w : World} {B e size n g cap : Nat} {xs : List Value} (h : w.ownsRow B e size (.slice (some ⟨g, 0, none⟩) n cap) n xs) : ∃ cur, w.heap[g]? = some (.cells cur e (0, 0)) := by
  rcases h.2 with ⟨h', _⟩ | ⟨g', cap', cur, h', _, hg, _⟩
  · cases h'
  · cases h'; exact ⟨cur, hg⟩
/-- Whatever the own row is: its block has its type, or there is none. -/
theorem own_type {w : World} {B e size n : Nat} {v : Value} {xs : List Value} (h : w.ownsRow B e size v n xs) : v.ownBlock = none ∨ ∃ g cur, v.ownBlock = some g ∧ w.heap[g]? = some (.cells cur e (0, 0)) := by
  rcases h.2 with ⟨rfl, _⟩ | ⟨g', cap', cur, rfl, _, hg, _⟩
  · exact .inl rfl
  · exact .inr ⟨g', cur, rfl, hg⟩
theorem Keeps3.row {A B : World} {C e size n : Nat} {v : Value} {xs : List Value} (h : A.grownBy B v.ownBlock) (ho : A.ownsRow C e size v n xs) (ht : e = 9 ∨ e = 85 ∨ e = 25) : Keeps3 A B := by
  rcases own_type ho with hn | ⟨g, cur, hs, hg⟩
  · rw [hn] at h; exact Keeps3.grownN h
  · rw [hs] at h; exact Keeps3.grown h hg ht

/-- A disk in the making: its box, and its two rows, all made from B0 on. -/
def DoSt (B0 : Nat) (W : World) (X : Nat) (b : List ByteArray) (l : List Wr) : Prop :=
  ∃ g cb A' cl, W.heap[X]? = some (.cells #[.slice (some ⟨g, 0, none⟩) b.length cb, .slice A' l.length cl] 25 (0, 0)) ∧
    W.ownsRow B0 9 1 (.slice (some ⟨g, 0, none⟩) b.length cb) b.length (b.map sv) ∧ W.ownsRow B0 85 2 (.slice A' l.length cl) l.length (wvs l) ∧ B0 ≤ X

theorem DoSt.ext {B0 : Nat} {W W' : World} {X : Nat} {b : List ByteArray} {l : List Wr} (h : DoSt B0 W X b l) (hx : Ext W W') : DoSt B0 W' X b l := by
  obtain ⟨g, cb, A', cl, h1, h2, h3, h4⟩ := h
  exact ⟨g, cb, A', cl, (hx.block X (Array.getElem?_eq_some_iff.1 h1).1).trans h1, own_ext h2 hx, own_ext h3 hx, h4⟩
theorem box_read {w : World} {k : Nat} {a b : Value} {t : TypeId} (h : w.heap[k]? = some (.cells #[a, b] t (0, 0))) : w.cell? ⟨k, 0, none⟩ = some a ∧ w.cell? ⟨k, 1, none⟩ = some b ∧ w.frozen? ⟨k, 0, none⟩ = false ∧ w.frozen? ⟨k, 1, none⟩ = false := Box2.read ⟨t, h⟩

theorem Keeps3.set {W : World} {X j : Nat} {cs : Array Value} {t : TypeId} {fr : Nat × Nat} (h : W.heap[X]? = some (.cells cs t fr)) (ht : t = 9 ∨ t = 85 ∨ t = 25) (u : Value) : Keeps3 W (W.setCell ⟨X, j, none⟩ u) :=
  Keeps3.grown (g := X) ⟨rfl, rfl, rfl, by simp [World.setCell], fun k _ hk => Below.heap_setCell _ _ _ _ (by simpa using hk)⟩ h ht

end Go.Proofs.YtjbfopnkeclfgaaGreat
namespace Go.Proofs.YtjbfopnkeclfgaaGreat
set_option maxRecDepth 20000
open Go.RowKit

theorem all_false {α : Type} {p : α → Bool} {l : List α} (k : Nat) (h : k < l.length) (hp : p l[k] = false) : l.all p = false := by
  rw [List.all_eq_false]
  exact ⟨l[k], List.getElem_mem h, by simp [hp]⟩
theorem all_step {α : Type} {p : α → Bool} {l : List α} (k : Nat) (h : k < l.length) (h0 : (l.take k).all p = true) (hp : p l[k] = true) : (l.take (k + 1)).all p = true := by
  rw [List.take_succ_eq_append_getElem h, List.all_append, h0]; simp [hp]
theorem all_end {α : Type} {p : α → Bool} {l : List α} (h0 : (l.take l.length).all p = true) : l.all p = true := by
  rw [List.take_length] at h0; exact h0


def fewB (s : ByteArray) : Bool := decide ((s.size : Int) ≤ 100)
def fewW (x : Wr) : Bool := decide ((x.2.size : Int) ≤ 100)
def shortS (l : List Wr) (most : Int) : Bool := decide ((l.length : Int) ≤ most) && l.all fewW
def smallS (b : List ByteArray) (l : List Wr) (most : Int) : Bool := decide ((b.length : Int) ≤ most) && (b.all fewB && shortS l most)

set_option maxHeartbeats 1000000 in
theorem short_any (A : Option Addr) (l : List Wr) (c : Nat) (most : Int) (w : World) (hl : l.length ≤ maxLen) (hA : Cells w A (wvs l)) :
    Calls Tryz.prog 35 #[.slice A l.length c, .int .i64 most] w fun e w' => e = .returned (.bool (shortS l most)) ∧ w = w' := by
  unfold maxLen at hl
  unfold shortS
  have HA := Lib.hid hA
  clear hA
  by_cases h0 : (l.length : Int) ≤ most
  · go_enter Tryz.func35, Tryz.ntmps35
    go_wp2
    go_loop [5] (fun i => ∃ k : Nat, k ≤ l.length ∧ i = .int .i64 k ∧ (l.take k).all fewW = true) (fun i => l.length - (intOf i).toNat)
    case atStart => exact ⟨0, Nat.zero_le _, rfl, rfl⟩
    case round =>
      obtain ⟨k, hk, rfl, hal⟩ := hrel
      have HL := Lib.hid hal
      clear hal
      by_cases hlt : k < l.length
      · obtain ⟨b, off, rfl, _, hc⟩ := HA.out.wr hlt
        have hck := (hc k hlt).2
        have HF := Lib.hid (all_false (p := fewW) k hlt)
        have HS := Lib.hid (all_step (p := fewW) k hlt HL.out)
        have HW := Lib.hid (show fewW l[k] = decide ((l[k].2.size : Int) ≤ 100) from rfl)
        clear hc HL
        generalize hq : l[k] = q at *
        clear hq
        obtain ⟨qa, qs⟩ := q
        by_cases hz : (qs.size : Int) ≤ 100
        · go_wp2
          go_round
          case rel => exact ⟨k + 1, by omega, by go_num, HS.out (by rw [HW.out]; simpa using hz)⟩
          case measure => simp [intOf]; omega
        · go_wp2
          go_ret
          exact ⟨ret_bool (by simp only [HF.out (by rw [HW.out]; simpa using hz)]), rfl⟩
      · obtain rfl : k = l.length := by omega
        have HE := Lib.hid (all_end HL.out)
        clear HL
        go_wp2
        go_ret
        exact ⟨ret_bool (by simp only [HE.out]), rfl⟩
  · go_enter Tryz.func35, Tryz.ntmps35
    go_wp2
    go_ret
    exact ⟨ret_bool (by rw [decide_eq_false (by omega)]; rfl), rfl⟩

set_option maxHeartbeats 1000000 in
theorem small_any (A A' : Option Addr) (b : List ByteArray) (l : List Wr) (c c' : Nat) (most : Int) (w : World) (hb : b.length ≤ maxLen) (hl : l.length ≤ maxLen) (hA : Cells w A (b.map sv)) (hA' : Cells w A' (wvs l)) :
    Calls Tryz.prog 14 #[.agg #[.slice A b.length c, .slice A' l.length c'], .int .i64 most] w fun e w' => e = .returned (.bool (smallS b l most)) ∧ Ext w w' := by
  have hl0 := hl
  unfold maxLen at hl hb
  unfold smallS
  have HX := Lib.hid ((Ext.refl w).alloc (.cells #[.slice A b.length c, .slice A' l.length c'] 25))
  have HA := Lib.hid (hA.ext HX.out)
  have HS := Lib.hid (short_any A' l c' most _ hl0 (hA'.ext HX.out))
  clear hA hA' hl0
  by_cases h0 : (b.length : Int) ≤ most
  · by_cases h1 : (l.length : Int) ≤ most
    · go_enter Tryz.func14, Tryz.ntmps14
      go_wp2
      go_loop [5] (fun i => ∃ k : Nat, k ≤ b.length ∧ i = .int .i64 k ∧ (b.take k).all fewB = true) (fun i => b.length - (intOf i).toNat)
      case atStart => exact ⟨0, Nat.zero_le _, rfl, rfl⟩
      case round =>
        obtain ⟨k, hk, rfl, hal⟩ := hrel
        have HL := Lib.hid hal
        clear hal
        by_cases hlt : k < b.length
        · obtain ⟨bb, off, rfl, _, hc⟩ := HA.out.str hlt
          have hck := hc k hlt
          have HF := Lib.hid (all_false (p := fewB) k hlt)
          have HS := Lib.hid (all_step (p := fewB) k hlt HL.out)
          have HW := Lib.hid (show fewB b[k] = decide ((b[k].size : Int) ≤ 100) from rfl)
          clear hc HL
          generalize hq : b[k] = qs at *
          clear hq
          by_cases hz : (qs.size : Int) ≤ 100
          · go_wp2
            go_round
            case rel => exact ⟨k + 1, by omega, by go_num, HS.out (by rw [HW.out]; simpa using hz)⟩
            case measure => simp [intOf]; omega
          · go_wp2
            go_ret
            exact ⟨ret_bool (by simp only [HF.out (by rw [HW.out]; simpa using hz), Bool.false_and]), HX.out⟩
        · obtain rfl : k = b.length := by omega
          have HE := Lib.hid (all_end HL.out)
          clear HL
          go_wp2_with (go_at_call 35; refine HS.out.mono ?_; rintro e w' ⟨rfl, rfl⟩)
          go_ret
          exact ⟨ret_bool (by simp only [HE.out, decide_eq_true h0, Bool.true_and]), HX.out⟩
    · have HN := Lib.hid (show shortS l most = false by unfold shortS; rw [decide_eq_false (by omega)]; rfl)
      go_enter Tryz.func14, Tryz.ntmps14
      go_wp2
      go_ret
      exact ⟨ret_bool (by simp only [HN.out, Bool.and_false]), HX.out⟩
  · go_enter Tryz.func14, Tryz.ntmps14
    go_wp2
    go_ret
    exact ⟨ret_bool (by rw [decide_eq_false (by omega)]; rfl), HX.out⟩

def okB (s : ByteArray) : Bool := (s.size : Int) == 40
def rightS (b : List ByteArray) (l : List Wr) : Bool := decide (1 ≤ (b.length : Int)) && (decide ((b.length : Int) ≤ 4000) && (b.all okB && l.all (takesS b.length)))

set_option maxHeartbeats 2000000 in
set_option maxRecDepth 100000 in
theorem rightR_any (A A' : Option Addr) (b : List ByteArray) (l : List Wr) (c c' : Nat) (w : World) (hb : b.length ≤ maxLen) (hl : l.length ≤ maxLen) (hA : Cells w A (b.map sv)) (hA' : Cells w A' (wvs l)) :
    Calls Tryz.prog 15 #[.agg #[.slice A b.length c, .slice A' l.length c']] w fun e w' => e = .returned (.bool (rightS b l)) ∧ Ext w w' := by
  unfold maxLen at hl hb
  unfold rightS
  have HX := Lib.hid ((Ext.refl w).alloc (.cells #[.slice A b.length c, .slice A' l.length c'] 25))
  have HA := Lib.hid (hA.ext HX.out)
  have HA' := Lib.hid (hA'.ext HX.out)
  clear hA hA'
  by_cases h0 : (1 : Int) ≤ b.length
  · by_cases h1 : (b.length : Int) ≤ 4000
    · go_enter Tryz.func15, Tryz.ntmps15
      go_wp2
      go_loop [3] (fun i => ∃ k : Nat, k ≤ b.length ∧ i = .int .i64 k ∧ (b.take k).all okB = true) (fun i => b.length - (intOf i).toNat)
      case atStart => exact ⟨0, Nat.zero_le _, rfl, rfl⟩
      case round =>
        obtain ⟨k, hk, rfl, hal⟩ := hrel
        have HL := Lib.hid hal
        clear hal
        by_cases hlt : k < b.length
        · obtain ⟨bb, off, rfl, _, hc⟩ := HA.out.str hlt
          have hck := hc k hlt
          have HF := Lib.hid (all_false (p := okB) k hlt)
          have HS := Lib.hid (all_step (p := okB) k hlt HL.out)
          have HW := Lib.hid (show okB b[k] = ((b[k].size : Int) == 40) from rfl)
          clear hc HL
          generalize hq : b[k] = qs at *
          clear hq
          by_cases hz : ((qs.size : Int) != 40) = true
          · go_wp2
            go_ret
            exact ⟨ret_bool (by simp only [HF.out (by rw [HW.out]; simpa using hz), Bool.false_and]), HX.out⟩
          · have hz' : ((qs.size : Int) != 40) = false := by simpa using hz
            go_wp2
            go_round
            case rel => exact ⟨k + 1, by omega, by go_num, HS.out (by rw [HW.out]; simpa using hz')⟩
            case measure => simp [intOf]; omega
        · obtain rfl : k = b.length := by omega
          have HE := Lib.hid (all_end HL.out)
          clear HL
          go_wp2
          go_loopw [4] (fun i wr => ∃ k : Nat, k ≤ l.length ∧ i = .int .i64 k ∧ (l.take k).all (takesS b.length) = true ∧ Ext (w.alloc (.cells #[.slice A b.length c, .slice A' l.length c'] 25)) wr) (fun i _ => l.length - (intOf i).toNat)
          case atStart => exact ⟨0, Nat.zero_le _, rfl, rfl, Ext.refl _⟩
          case round =>
            obtain ⟨k, hk, rfl, hal, hX⟩ := hrel
            have HL := Lib.hid hal
            have HXr := Lib.hid (Ext.trans HX.out hX)
            have hc0 := hX.cell (p := ⟨w.heap.size, 0, none⟩) (by simp)
            have hc1 := hX.cell (p := ⟨w.heap.size, 1, none⟩) (by simp)
            simp only [cell_new0, cell_new1] at hc0 hc1
            clear hal
            by_cases hlt : k < l.length
            · obtain ⟨bb, off, rfl, _, hc⟩ := (HA'.out.ext hX).wr hlt
              obtain ⟨hck, hcs⟩ := hc k hlt
              have HF := Lib.hid (all_false (p := takesS b.length) k hlt)
              have HS := Lib.hid (all_step (p := takesS b.length) k hlt HL.out)
              have HXr0 := Lib.hid hX
              clear hc HL hX
              generalize hq : l[k] = q at *
              clear hq
              obtain ⟨qa, qs⟩ := q
              have HM := Lib.hid (may_any A (some ⟨bb, off, none⟩) b.length c l.length c' qa qs)
              cases ht : takesS b.length (qa, qs)
              · have HZ := Lib.hid ht
                go_wp2_with fail
                go_still_tail 13, (by kernel_rfl)
                change wpList _ _ _ _ _ wr.drew
                go_wp2_with (go_at_call 36; refine (HM.out wr.drew).mono ?_; rintro e w2 ⟨rfl, hX2⟩; rw [HZ.out]; have HX2 := Lib.hid hX2; clear hX2)
                go_ret
                exact ⟨ret_bool (by simp only [HF.out HZ.out, Bool.and_false]), HXr.out.drew.trans HX2.out⟩
              · have HZ := Lib.hid ht
                go_wp2_with fail
                go_still_tail 13, (by kernel_rfl)
                change wpList _ _ _ _ _ wr.drew
                go_wp2_with (go_at_call 36; refine (HM.out wr.drew).mono ?_; rintro e w2 ⟨rfl, hX2⟩; rw [HZ.out]; have HX2 := Lib.hid hX2; clear hX2)
                go_roundw
                case rel => exact ⟨k + 1, by omega, by go_num, HS.out HZ.out, HXr0.out.drew.trans HX2.out⟩
                case measure => simp [intOf]; omega
            · obtain rfl : k = l.length := by omega
              have HE2 := Lib.hid (all_end HL.out)
              clear HL hX
              go_wp2
              go_ret
              exact ⟨ret_bool (by simp only [HE.out, HE2.out, decide_eq_true h0, decide_eq_true h1, Bool.and_true]), HXr.out⟩
    · go_enter Tryz.func15, Tryz.ntmps15
      go_wp2
      go_ret
      exact ⟨ret_bool (by rw [decide_eq_false (p := (b.length : Int) ≤ 4000) (by omega)]; simp), HX.out⟩
  · go_enter Tryz.func15, Tryz.ntmps15
    go_wp2
    go_ret
    exact ⟨ret_bool (by rw [decide_eq_false (by omega)]; rfl), HX.out⟩

end Go.Proofs.YtjbfopnkeclfgaaGreat
namespace Go.Proofs.YtjbfopnkeclfgaaGreat
set_option maxRecDepth 20000
open Go.RowKit

theorem bytes_inj (a b : ByteArray) (h : a.toList = b.toList) : a = b := by
  rw [ByteArray.toList_eq, ByteArray.toList_eq] at h
  obtain ⟨⟨l⟩⟩ := a
  obtain ⟨⟨m⟩⟩ := b
  simp only at h
  rw [h]
theorem bytes_same (a b : ByteArray) : (a.toList == b.toList) = decide (a = b) := by
  by_cases h : a = b
  · subst h; simp
  · rw [decide_eq_false h]
    simp only [beq_eq_false_iff_ne, ne_eq]
    exact fun e => h (bytes_inj a b e)

end Go.Proofs.YtjbfopnkeclfgaaGreat
namespace Go.Proofs.YtjbfopnkeclfgaaGreat
set_option maxRecDepth 20000
open Go.RowKit

end Go.Proofs.YtjbfopnkeclfgaaGreat
namespace Go.Proofs.YtjbfopnkeclfgaaGreat
set_option maxRecDepth 20000
open Go.RowKit

/-- What the last write to a block says, or s. -/
def lastW (l : List Wr) (at_ : Int) (s : ByteArray) : ByteArray := l.foldl (fun s x => if x.1 = at_ then x.2 else s) s
theorem lastW_step (l : List Wr) (at_ : Int) (s : ByteArray) (k : Nat) (h : k < l.length) : lastW (l.take (k + 1)) at_ s = if l[k].1 = at_ then l[k].2 else lastW (l.take k) at_ s := by
  unfold lastW; rw [List.take_succ_eq_append_getElem h, List.foldl_append]; rfl
/-- P2.2: what stands in a block. -/
def readS (b : List ByteArray) (l : List Wr) (at_ : Int) : ByteArray := if hasS b.length at_ then lastW l at_ (b[at_.toNat]?.getD (ByteArray.mk #[])) else ByteArray.mk #[]
def readE (b : List ByteArray) (at_ : Int) : Int := if hasS b.length at_ then 0 else 1

theorem ret_pair {a a' : ByteArray} {k : IntKind} {b b' : Int} (h : a = a') (h' : b = b') : Ending.returned (.tuple #[.string a, .int k b]) = .returned (.tuple #[.string a', .int k b']) := by rw [h, h']

set_option maxHeartbeats 2000000 in
theorem readR_any (A A' : Option Addr) (b : List ByteArray) (l : List Wr) (c c' : Nat) (at_ : Int) (w : World) (_hb : b.length ≤ maxLen) (hl : l.length ≤ maxLen) (hA : Cells w A (b.map sv)) (hA' : Cells w A' (wvs l)) :
    Calls Tryz.prog 134 #[.agg #[.slice A b.length c, .slice A' l.length c'], .int .i64 at_] w fun e w' => e = .returned (.tuple #[.string (readS b l at_), .int .i64 (readE b at_)]) ∧ Ext w w' := by
  unfold maxLen at hl
  have HX := Lib.hid ((Ext.refl w).alloc (.cells #[.slice A b.length c, .slice A' l.length c'] 25))
  have HA := Lib.hid (hA.ext HX.out)
  have HA' := Lib.hid (hA'.ext HX.out)
  clear hA hA'
  by_cases h0 : 0 ≤ at_
  · obtain ⟨n, rfl⟩ := Int.eq_ofNat_of_zero_le h0
    by_cases h1 : n < b.length
    · have HR := Lib.hid (show hasS b.length n = true by unfold hasS; simp; omega)
      have h2 : (n : Int) < (b.length : Int) := by omega
      obtain ⟨bb, off, rfl, _, hc⟩ := HA.out.str h1
      have hcb := hc n h1
      have HQ := Lib.hid (show b[n]?.getD (ByteArray.mk #[]) = b[n] by simp [h1])
      clear hc
      generalize hq : b[n] = q at *
      clear hq
      have fin : ∀ s, s = lastW l n q → Ending.returned (.tuple #[.string s, .int .i64 0]) = .returned (.tuple #[.string (readS b l n), .int .i64 (readE b n)]) := by
        intro s hs
        refine ret_pair ?_ ?_
        · unfold readS; rw [HR.out, Int.toNat_natCast, HQ.out, hs]; rfl
        · unfold readE; rw [HR.out]; rfl
      have FIN := Lib.hid fin
      clear fin
      generalize readS b l n = rS at *
      generalize readE b n = rE at *
      go_enter Tryz.func134, Tryz.ntmps134
      go_wp2
      go_loop [6, 7] (fun s i => ∃ k : Nat, k ≤ l.length ∧ i = .int .i64 k ∧ s = .string (lastW (l.take k) n q)) (fun _ i => l.length - (intOf i).toNat)
      case atStart => exact ⟨0, Nat.zero_le _, rfl, rfl⟩
      case round =>
        obtain ⟨k, hk, rfl, rfl⟩ := hrel
        by_cases hlt : k < l.length
        · obtain ⟨b2, off2, rfl, _, hc⟩ := HA'.out.wr hlt
          obtain ⟨hck, hcs⟩ := hc k hlt
          have HS := Lib.hid (lastW_step l n q k hlt)
          clear hc
          generalize hq : l[k] = x at *
          clear hq
          obtain ⟨xa, xs⟩ := x
          simp only at hck hcs
          generalize lastW (l.take k) n q = s0 at *
          rcases Decidable.em (xa = (n : Int)) with he | he
          · have hz : (xa == (n : Int)) = true := by simpa using he
            have HZ := Lib.hid he
            clear he
            go_wp2
            go_round
            case rel => exact ⟨k + 1, by omega, by go_num, by rw [HS.out, if_pos HZ.out]⟩
            case measure => simp [intOf]; omega
          · have hz : (xa == (n : Int)) = false := by simpa using he
            have HZ := Lib.hid he
            clear he
            go_wp2
            go_round
            case rel => exact ⟨k + 1, by omega, by go_num, by rw [HS.out, if_neg HZ.out]⟩
            case measure => simp [intOf]; omega
        · obtain rfl : k = l.length := by omega
          rw [List.take_length]
          go_wp2
          go_ret2
          exact ⟨FIN.out _ rfl, HX.out⟩
    · have HR := Lib.hid (show hasS b.length n = false by unfold hasS; simp; omega)
      have h2 : (b.length : Int) ≤ (n : Int) := by omega
      go_enter Tryz.func134, Tryz.ntmps134
      go_wp2
      go_ret2
      exact ⟨ret_pair (by unfold readS; rw [HR.out]; rfl) (by unfold readE; rw [HR.out]; rfl), HX.out⟩
  · have HR := Lib.hid (show hasS b.length at_ = false by unfold hasS; simp; omega)
    go_enter Tryz.func134, Tryz.ntmps134
    go_wp2
    go_ret2
    exact ⟨ret_pair (by unfold readS; rw [HR.out]; rfl) (by unfold readE; rw [HR.out]; rfl), HX.out⟩
end Go.Proofs.YtjbfopnkeclfgaaGreat
namespace Go.Proofs.YtjbfopnkeclfgaaGreat
set_option maxRecDepth 20000
open Go.RowKit Go.Shelf
attribute [local go_sem] Oper.semAt_some

theorem lastW_none (l : List Wr) (at_ : Int) (s : ByteArray) (h : ∀ x ∈ l, x.1 ≠ at_) : lastW l at_ s = s := by
  induction l generalizing s with
  | nil => rfl
  | cons x l ih =>
    unfold lastW
    rw [List.foldl_cons, if_neg (h x (by simp))]
    exact ih s (fun y hy => h y (by simp [hy]))
theorem lastW_hit (l : List Wr) (at_ : Int) (s : ByteArray) (q : Nat) (hq : q < l.length) (he : l[q].1 = at_) (hn : ∀ j (hj : j < l.length), q < j → l[j].1 ≠ at_) : lastW l at_ s = l[q].2 := by
  have e : l = l.take (q + 1) ++ l.drop (q + 1) := (List.take_append_drop _ _).symm
  have h1 : lastW l at_ s = lastW (l.drop (q + 1)) at_ (lastW (l.take (q + 1)) at_ s) := by
    conv => lhs; rw [e]
    unfold lastW; rw [List.foldl_append]
  rw [h1, lastW_step l at_ s q hq, if_pos he]
  refine lastW_none _ _ _ fun x hx => ?_
  obtain ⟨j, hj, rfl⟩ := List.getElem_of_mem hx
  rw [List.getElem_drop]
  exact hn _ _ (by omega)
theorem backK_mem (l : List Wr) (k : Nat) (hk : k ≤ l.length) (j : Nat) (hj : j < l.length) (h : l.length - 1 - j < k) : ((j : Int), l[j]) ∈ backK l k := by
  unfold backK
  rw [List.mem_map]
  refine ⟨l.length - 1 - j, by simpa using h, ?_⟩
  have e : l.length - 1 - (l.length - 1 - j) = j := by omega
  rw [e]
  simp [hj]
  omega

theorem box2_own {β : Type} (k : Nat) (a b : β → Value) : Own (fun s W => Box2 W k (a s) (b s)) := fun s X Y row hs hg hrow => by
  obtain ⟨t, h⟩ := hs
  refine ⟨t, (hg.block k (Array.getElem?_eq_some_iff.1 h).1 (fun e => ?_)).trans h⟩
  obtain ⟨o, ho, hc⟩ := hrow k e.symm
  rw [h] at ho
  cases ho
  cases hc

theorem boxed_ext {w w' : World} {k : Nat} {t : TypeId} {v : Value} (h : Boxed w k t v) (hx : Ext w w') : Boxed w' k t v := (hx.block k h.lt).trans h
theorem read_boxes (w : World) (a b c d e f : Value) (t0 t1 t2 t3 t4 : TypeId) : ∀ W, W = ((((w.alloc (.cells #[a, b] t0)).alloc (.cells #[c] t1)).alloc (.cells #[d] t2)).alloc (.cells #[e] t3)).alloc (.cells #[f] t4) →
    Ext w W ∧ W.heap.size = w.heap.size + 1 + 1 + 1 + 1 + 1 ∧ Box2 W w.heap.size a b ∧ Boxed W (w.heap.size + 1) t1 c ∧ Boxed W (w.heap.size + 1 + 1) t2 d ∧ Boxed W (w.heap.size + 1 + 1 + 1) t3 e ∧ Boxed W (w.heap.size + 1 + 1 + 1 + 1) t4 f := by
  rintro W rfl
  have b0 := Box2.new w a b t0
  have b1 := Boxed.new (w.alloc (.cells #[a, b] t0)) t1 c
  have b2 := Boxed.new ((w.alloc (.cells #[a, b] t0)).alloc (.cells #[c] t1)) t2 d
  have b3 := Boxed.new (((w.alloc (.cells #[a, b] t0)).alloc (.cells #[c] t1)).alloc (.cells #[d] t2)) t3 e
  have b4 := Boxed.new ((((w.alloc (.cells #[a, b] t0)).alloc (.cells #[c] t1)).alloc (.cells #[d] t2)).alloc (.cells #[e] t3)) t4 f
  simp only [World.size_alloc] at b1 b2 b3 b4
  have z0 := (((((Ext.refl (w.alloc (.cells #[a, b] t0))).alloc (.cells #[c] t1)).alloc (.cells #[d] t2)).alloc (.cells #[e] t3)).alloc (.cells #[f] t4))
  exact ⟨(((((Ext.refl w).alloc _).alloc _).alloc _).alloc _).alloc _, by simp, b0.ext (by simp) z0, (((b1.alloc _).alloc _).alloc _), ((b2.alloc _).alloc _), (b3.alloc _), b4⟩

def noAt (at_ : Int) (pre : List (Int × Wr)) : Prop := ∀ p ∈ pre, p.2.1 ≠ at_
def hitAt (h : Nat) (at_ : Int) (pre : List (Int × Wr)) (W : World) : Prop := ∃ ini last, pre = ini ++ [last] ∧ noAt at_ ini ∧ last.2.1 = at_ ∧ Boxed W (h + 1 + 1) 9 (.string last.2.2) ∧ Boxed W (h + 1 + 1 + 1) 35 (.int .i64 0)
theorem hitAt_own (h : Nat) (at_ : Int) (c : Code) : Own (fun (s : List (Int × Wr)) W => c = .ret ∧ hitAt h at_ s W) := fun s X Y row hs hg hr => by
  obtain ⟨hc, ini, last, e1, e2, e3, e4, e5⟩ := hs
  exact ⟨hc, ini, last, e1, e2, e3, boxed_own _ _ (fun (_ : Unit) => Value.string last.2.2) () X Y row e4 hg hr, boxed_own _ _ (fun (_ : Unit) => Value.int .i64 0) () X Y row e5 hg hr⟩

set_option maxRecDepth 100000 in
set_option maxHeartbeats 4000000 in
theorem readD_in (A A' : Option Addr) (b : List ByteArray) (l : List Wr) (c c' : Nat) (at_ : Int) (w : World) (_hb : b.length ≤ 1000000) (hl : l.length ≤ 1000000) (hA : Cells w A (b.map sv)) (hA' : Cells w A' (wvs l)) (hh : hasS b.length at_ = true) :
    CallsIn Fence.wide 3 Tryz.prog 20 #[.agg #[.slice A b.length c, .slice A' l.length c'], .int .i64 at_] w fun e w' => e = .returned (.tuple #[.string (readS b l at_), .int .i64 (readE b at_)]) ∧ Ext w w' := by
  have HA := Lib.hid hA
  have HA' := Lib.hid hA'
  clear hA hA'
  have HH := Lib.hid (fun W => callsIn_wide (n := 2).2 (has_any A b.length c at_ W))
  · have HZ := Lib.hid hh
    refine callsIn_of_wp_marks Tryz.func20 rfl trivial ?_ rfl
    simp only [Tryz.ntmps20, List.size_toArray, List.length_cons, List.length_nil, Nat.reduceAdd, Nat.reduceSub, Array.replicate_succ, Array.replicate_zero, List.push_toArray, List.append_toArray, List.nil_append, List.cons_append]
    gi_wp2_with (first | (refine ⟨trivial, ?_⟩; gi_at_call 47; refine (HH.out _).mono ?_; rintro e w' ⟨rfl, rfl⟩; rw [HZ.out]) | (refine ⟨trivial, ?_⟩; gi_at_call 48; refine (back_in Fence.wide 2 trivial rfl _ _ _ _).mono ?_; rintro e w' ⟨rfl, rfl⟩))
    obtain ⟨W0, hW0⟩ : ∃ W0, W0 = ((((w.alloc (.cells #[.slice A b.length c, .slice A' l.length c'] 25)).alloc (.cells #[.int .i64 at_] 3)).alloc (.cells #[.string (ByteArray.mk #[])] 9)).alloc (.cells #[.int .i64 0] 35)).alloc (.cells #[.slice A' l.length c'] 23) := ⟨_, rfl⟩
    obtain ⟨hX0, hz0, b0, b1, b2, b3, b4⟩ := read_boxes w _ _ _ _ _ _ _ _ _ _ _ W0 hW0
    rw [← hW0]
    clear hW0
    refine wpIn_rangeFunc_ownH rfl (by omega) (gf := 76) (lb := #[.pointer (some ⟨w.heap.size + 1 + 1 + 1 + 1, 0, none⟩)]) rfl trivial (enters_of Tryz.func76 (by kernel_rfl) rfl)
      (back_stops Fence.wide 2 trivial rfl (by omega) (w.heap.size + 1 + 1 + 1 + 1) W0.heap.size A' c' l hl W0 (by omega) (Nat.le_refl _) b4.cell (WrsAt.of (HA'.out.ext hX0))) belowK_t (belowK_b (Nat.le_refl _)) (Below.refl _ _) (fun _ => rfl)
      (fun pre W => noAt at_ pre ∧ Below W0.heap.size W0 W)
      (fun c pre W => (c = .ret ∧ hitAt w.heap.size at_ pre W) ∧ Below w.heap.size w W)
      (OwnFrom.and (ownFrom_pure _ _) (ownFrom_below (Nat.le_refl _) (Nat.le_refl _)))
      (fun c => OwnFrom.and (Own.from (hitAt_own _ _ c) _) (ownFrom_below (Nat.le_refl _) hX0.size))
      ⟨(fun p hp => by simp at hp), Below.refl _ _⟩
      (fun x a' W => ∃ Bx, W0.heap.size ≤ Bx ∧ Bx < W.heap.size ∧ Box2 W Bx (.int .i64 x.2.1) (.string x.2.2) ∧ a' = { tmps := #[.agg #[.slice A b.length c, .slice A' l.length c'], .int .i64 at_, .pointer (some ⟨w.heap.size, 0, none⟩), .pointer (some ⟨w.heap.size + 1, 0, none⟩), .pointer (some ⟨w.heap.size + 1 + 1, 0, none⟩), .pointer (some ⟨w.heap.size + 1 + 1 + 1, 0, none⟩), undef, .pointer (some ⟨Bx, 0, none⟩), .pointer (some ⟨w.heap.size, 0, none⟩), .slice A b.length c, .int .i64 at_, .bool true, .bool false, .pointer (some ⟨w.heap.size, 1, none⟩), .slice A' l.length c', .func (.func 76) #[] #[.pointer (some ⟨w.heap.size + 1 + 1 + 1 + 1, 0, none⟩)], .int .i64 x.1, .agg #[.int .i64 x.2.1, .string x.2.2], undef, undef, undef, undef, undef, undef, undef, undef, undef, undef, undef], defers := [] })
      (fun x a' _ X Y row hs hg hr => by
        obtain ⟨Bx, h1, h2, h3, h4⟩ := hs
        exact ⟨Bx, h1, Nat.lt_of_lt_of_le h2 hg.size, box2_own Bx (fun (_ : Unit) => Value.int .i64 x.2.1) (fun _ => .string x.2.2) () X Y row h3 hg (fun r e => (hr r e).2), h4⟩)
      ?assign ?body ?done ?stop
    case assign =>
      rintro l2 pre ⟨x1, xa, xs⟩ W K ⟨hp, hB⟩ hK
      gi_wp2
      exact hK _ _ ((KeepsOthers.alloc _ _).from _) ((Below.refl _ W).alloc hB.size _) ⟨hp, hB.alloc hB.size _⟩ ⟨W.heap.size, hB.size, by simp, Box2.new W _ _ _, rfl⟩
    case body =>
      rintro l2 pre ⟨x1, xa, xs⟩ a' W hl2 ⟨r, hr⟩ ⟨hp, hB⟩ ⟨Bx, hBx, hBx2, bX, rfl⟩ hlt
      have hAt := (boxed_ext b1 hB).cell
      have bS := boxed_ext b2 hB
      have bE := boxed_ext b3 hB
      have cS := bS.cell
      have fS := bS.frozen
      have cE := bE.cell
      have fE := bE.frozen
      obtain ⟨cX0, cX1, _, _⟩ := bX.read
      rcases Decidable.em (xa = at_) with he | he
      · have hz : (xa == at_) = true := by simpa using he
        have HE := Lib.hid he
        clear he
        gi_wp2
        exact ⟨((KeepsOthers.setCell _ _ _).from _).trans ((KeepsOthers.setCell _ _ _).from _), ⟨rfl, pre, (x1, xa, xs), rfl, hp, HE.out, (bS.set _).other (by omega) _, (bE.other (by omega) _).set _⟩, ((hX0.trans hB).set (p := ⟨w.heap.size + 1 + 1, 0, none⟩) (by simp; omega) _).set (p := ⟨w.heap.size + 1 + 1 + 1, 0, none⟩) (by simp; omega) _⟩
      · have hz : (xa == at_) = false := by simpa using he
        have HE := Lib.hid he
        clear he
        gi_wp2
        exact ⟨KeepsFrom.refl _ _, Below.refl _ _, fun p hp' => (List.mem_append.1 hp').elim (hp p) (fun e => by simp at e; subst e; exact HE.out), by rw [← hz0]; exact hB⟩
    case done =>
      rintro D ys W hD rfl ⟨hne, hB⟩ hK
      obtain ⟨m, rfl⟩ : ∃ m : Nat, at_ = m := by
        unfold hasS at hh
        simp at hh
        exact ⟨at_.toNat, by omega⟩
      have hm : m < b.length := by
        unfold hasS at hh
        simp at hh
        omega
      have hmi : (m : Int) < (b.length : Int) := by omega
      have hAt := (boxed_ext b1 hB).cell
      have bS := boxed_ext b2 hB
      have bE := boxed_ext b3 hB
      have cS := bS.cell
      have fS := bS.frozen
      have cE := bE.cell
      have fE := bE.frozen
      obtain ⟨cD0, cD1, _, _⟩ := (b0.ext (by omega) hB).read
      obtain ⟨bb, off, rfl, _, hcb⟩ := (HA.out.ext (hX0.trans hB)).str hm
      have hcm := hcb m hm
      have hR : readS b l (m : Int) = b[m] := by
        unfold readS
        rw [HZ.out, if_pos rfl, Int.toNat_natCast, lastW_none]
        · simp [hm]
        · intro x hx
          obtain ⟨j, hj, rfl⟩ := List.getElem_of_mem hx
          exact hne _ (backK_mem l l.length (Nat.le_refl _) j hj (by omega))
      have hE : readE b (m : Int) = 0 := by unfold readE; rw [HZ.out]; rfl
      have HR := Lib.hid hR
      have HE := Lib.hid hE
      have HK := Lib.hid hK
      have HB := Lib.hid (hX0.trans hB)
      have HBS := Lib.hid bS
      have HBE := Lib.hid bE
      clear hcb hR hE hne hK hB bS bE b0 b1 b2 b3 b4
      generalize hq : b[m] = q at *
      clear hq
      gi_wp2
      have hK' := (KeepsOthers.setCell (W.setCell ⟨w.heap.size + 1 + 1, 0, none⟩ (.string q)) ⟨w.heap.size + 1 + 1 + 1, 0, none⟩ (.int .i64 0)).same D _ ((KeepsOthers.setCell W ⟨w.heap.size + 1 + 1, 0, none⟩ (.string q)).same D _ HK.out rfl) rfl
      refine ⟨by simp, .inl ⟨_, _, rfl, run_takeDeferred hK', ?_⟩⟩
      have b5 := ((HBS.out.set (.string q)).other (B' := w.heap.size + 1 + 1 + 1) (by omega) (.int .i64 0))
      have b6 := ((HBE.out.other (B' := w.heap.size + 1 + 1) (by omega) (.string q)).set (.int .i64 0))
      have c5 := cell_kept b5.cell (grownBy_putObj' _ D (.deferred none)) (fun r e => by cases e; exact ⟨_, hK', rfl⟩)
      have c6 := cell_kept b6.cell (grownBy_putObj' _ D (.deferred none)) (fun r e => by cases e; exact ⟨_, hK', rfl⟩)
      refine ⟨.tuple #[.string q, .int .i64 0], ?_, by rw [HR.out, HE.out], Below.trans ((HB.out.set (p := ⟨w.heap.size + 1 + 1, 0, none⟩) (by simp; omega) _).set (p := ⟨w.heap.size + 1 + 1 + 1, 0, none⟩) (by simp; omega) _) (belowK_b (w := w) (Nat.le_refl _) _ D _ _ (by have := hX0.size; omega) hK' rfl rfl)⟩
      simp [results, Tryz.f20, go_sem, c5, c6]
    case stop =>
      rintro D c pre W hD ⟨k, hk, rfl⟩ ⟨⟨rfl, ini, last, e1, e2, e3, bS, bE⟩, hB⟩ hK
      gi_wp2
      refine ⟨by simp, .inl ⟨_, _, rfl, run_takeDeferred hK, ?_⟩⟩
      have c5 := cell_kept bS.cell (grownBy_putObj' _ D (.deferred none)) (fun r e => by cases e; exact ⟨_, hK, rfl⟩)
      have c6 := cell_kept bE.cell (grownBy_putObj' _ D (.deferred none)) (fun r e => by cases e; exact ⟨_, hK, rfl⟩)
      obtain ⟨k', rfl⟩ : ∃ k', k = k' + 1 := by
        cases k with
        | zero => simp [backK] at e1
        | succ k' => exact ⟨k', rfl⟩
      rw [backK_succ] at e1
      obtain ⟨rfl, e5⟩ := List.append_inj' e1 rfl
      have hql : l.length - 1 - k' < l.length := by omega
      obtain ⟨rfl⟩ : (((l.length : Int) - 1 - k', l[l.length - 1 - k']) = last) := by simpa [hql] using e5
      have hR : readS b l at_ = l[l.length - 1 - k'].2 := by
        unfold readS
        rw [HZ.out, if_pos rfl]
        refine lastW_hit l at_ _ _ hql e3 fun j hj hlt => e2 _ (backK_mem l k' (by omega) j hj (by omega))
      have hE : readE b at_ = 0 := by unfold readE; rw [HZ.out]; rfl
      refine ⟨.tuple #[.string l[l.length - 1 - k'].2, .int .i64 0], ?_, by rw [hR, hE], Below.trans hB (belowK_b (w := w) (Nat.le_refl _) W D _ _ (by have := hX0.size; omega) hK rfl rfl)⟩
      simp [results, Tryz.f20, go_sem, c5, c6]

set_option maxHeartbeats 1000000 in
theorem readD_any (A A' : Option Addr) (b : List ByteArray) (l : List Wr) (c c' : Nat) (at_ : Int) (w : World) (hb : b.length ≤ 1000000) (hl : l.length ≤ 1000000) (hA : Cells w A (b.map sv)) (hA' : Cells w A' (wvs l)) :
    Calls Tryz.prog 20 #[.agg #[.slice A b.length c, .slice A' l.length c'], .int .i64 at_] w fun e w' => e = .returned (.tuple #[.string (readS b l at_), .int .i64 (readE b at_)]) ∧ Ext w w' := by
  cases hh : hasS b.length at_
  · have HZ := Lib.hid hh
    have HR := Lib.hid (show readS b l at_ = ByteArray.mk #[] by unfold readS; rw [hh]; rfl)
    have HE := Lib.hid (show readE b at_ = 1 by unfold readE; rw [hh]; rfl)
    have HX := Lib.hid (fun v u => ((((Ext.refl w).alloc (.cells #[.slice A b.length c, .slice A' l.length c'] 25)).alloc (.cells #[.int .i64 at_] 3)).alloc (.cells #[v] 9)).alloc (.cells #[u] 35))
    clear hA hA' hh
    go_enter Tryz.func20, Tryz.ntmps20
    go_wp2_with (go_at_call 47; refine (has_any _ _ _ _ _).mono ?_; rintro e w' ⟨rfl, rfl⟩; rw [HZ.out])
    refine bodyPost_ret (v := .tuple #[.string (ByteArray.mk #[]), .int .i64 1]) (by simp [results, Tryz.results20, go_sem]) rfl ?_
    rw [HR.out, HE.out]
    exact ⟨rfl, HX.out _ _⟩
  · exact callsIn_wide.1 (readD_in A A' b l c c' at_ w hb hl hA hA' hh)
end Go.Proofs.YtjbfopnkeclfgaaGreat
namespace Go.Proofs.YtjbfopnkeclfgaaGreat
set_option maxRecDepth 20000
open Go.RowKit Go.Shelf
attribute [local go_sem] Oper.semAt_some
attribute [local go_sem ↓] Go.wp_at_zero Go.wp_at_succ

/-- How many steps of a plan are asked for. -/
def planLen (n : Nat) (stop : Int) : Nat := if 0 ≤ stop ∧ stop < n then stop.toNat else n
theorem planLen_le (n : Nat) (stop : Int) : planLen n stop ≤ n := by unfold planLen; split <;> omega

/-- P2.4: a plan that is done as far as it can be. -/
def doS : List ByteArray → List Wr → List Wr → (List ByteArray × List Wr) × Nat
  | b, l, [] => ((b, l), 0)
  | b, l, x :: p => match step1 b l x with
    | none => ((b, l), 0)
    | some s => ((doS s.1 s.2 p).1, (doS s.1 s.2 p).2 + 1)
def stepsS : List ByteArray → List Wr → List Wr → Option (List ByteArray × List Wr)
  | b, l, [] => some (b, l)
  | b, l, x :: p => match step1 b l x with
    | none => none
    | some s => stepsS s.1 s.2 p
theorem stepsS_snoc (p : List Wr) (x : Wr) : ∀ b l, stepsS b l (p ++ [x]) = (stepsS b l p).bind fun s => step1 s.1 s.2 x := by
  induction p with
  | nil =>
    intro b l
    simp only [List.nil_append, stepsS, Option.bind_some]
    cases step1 b l x <;> rfl
  | cons y p ih =>
    intro b l
    simp only [List.cons_append, stepsS]
    cases step1 b l y with
    | none => rfl
    | some s => exact ih s.1 s.2
theorem doS_all (p : List Wr) : ∀ b l s, stepsS b l p = some s → doS b l p = (s, p.length) := by
  induction p with
  | nil => intro b l s h; simp [stepsS] at h; simp [doS, h]
  | cons y p ih =>
    intro b l s h
    simp only [stepsS] at h
    simp only [doS]
    cases hq : step1 b l y with
    | none => rw [hq] at h; cases h
    | some t =>
      rw [hq] at h
      have := ih t.1 t.2 s h
      simp [this]
theorem doS_cut (p : List Wr) (x : Wr) (r : List Wr) : ∀ b l s, stepsS b l p = some s → step1 s.1 s.2 x = none → doS b l (p ++ x :: r) = (s, p.length) := by
  induction p with
  | nil => intro b l s h h2; simp [stepsS] at h; subst h; simp [doS, h2]
  | cons y p ih =>
    intro b l s h h2
    simp only [stepsS] at h
    simp only [doS, List.cons_append]
    cases hq : step1 b l y with
    | none => rw [hq] at h; cases h
    | some t =>
      rw [hq] at h
      have := ih t.1 t.2 s h h2
      simp [this]
theorem step1_lengths {b : List ByteArray} {l : List Wr} {x : Wr} {s : List ByteArray × List Wr} (h : step1 b l x = some s) : s.1.length = b.length ∧ s.2.length ≤ l.length + 1 := by
  unfold step1 at h
  split at h
  · cases h; exact ⟨writeL_length _ _, by simp⟩
  · split at h
    · cases h; exact ⟨rfl, by simp⟩
    · cases h
theorem stepsS_lengths (p : List Wr) : ∀ b l s, stepsS b l p = some s → s.1.length = b.length ∧ s.2.length ≤ l.length + p.length := by
  induction p with
  | nil => intro b l s h; simp [stepsS] at h; subst h; simp
  | cons y p ih =>
    intro b l s h
    simp only [stepsS] at h
    cases hq : step1 b l y with
    | none => rw [hq] at h; cases h
    | some t =>
      rw [hq] at h
      obtain ⟨h1, h2⟩ := step1_lengths hq
      obtain ⟨h3, h4⟩ := ih t.1 t.2 s h
      exact ⟨h3.trans h1, by simp; omega⟩
theorem step1_all {b : List ByteArray} {l : List Wr} {x : Wr} {s : List ByteArray × List Wr} (hl : l.all (takesS b.length) = true) (h : step1 b l x = some s) : s.2.all (takesS s.1.length) = true := by
  unfold step1 at h
  split at h
  · cases h; rfl
  · split at h
    · cases h
      rw [List.all_append, hl]
      simpa using ‹takesS b.length x = true›
    · cases h

theorem box_store {w : World} {k : Nat} {a b : Value} {t : TypeId} (h : w.heap[k]? = some (.cells #[a, b] t (0, 0))) (x y : Value) : ((w.setCell ⟨k, 0, none⟩ x).setCell ⟨k, 1, none⟩ y).heap[k]? = some (.cells #[x, y] t (0, 0)) :=
  heap_setCell_same _ k 1 _ t y (heap_setCell_same w k 0 #[a, b] t x h)
theorem Keeps3.from {W W' : World} (h : Keeps3 W W') (B : Nat) : KeepsFrom B W W' := ⟨h.1, fun k o _ hk ho => h.2 k o hk (fun cs t fr e => by subst e; cases ho)⟩
theorem Sl.putObj {W : World} {A : Option Addr} {n c : Nat} {xs : List Value} (h : Sl W A n c xs) {D : Nat} {ob : Obj} (hK : W.heap[D]? = some ob) (hob : ob.isCells = false) (o' : Obj) : Sl (W.putObj D o') A n c xs :=
  h.grown (grownBy_putObj' W D o') (fun hx p hp e => by
    obtain ⟨b, off, e', _, hc⟩ := h.cells hx
    rw [hp] at e'
    cases e'
    cases e
    cases xs with
    | nil => exact hx rfl
    | cons u r =>
      obtain ⟨o, ho, hcc⟩ := cells_of_cell (hc 0 u rfl)
      rw [show W.heap[(⟨b, off + 0, none⟩ : Addr).block]? = W.heap[b]? from rfl, hK] at ho
      cases ho
      rw [hob] at hcc
      cases hcc)

theorem WrsAt.take {n₀ : Nat} {W : World} {A : Option Addr} {l : List Wr} (h : WrsAt n₀ W A l) (k : Nat) : WrsAt n₀ W A (l.take k) := fun hne => by
  obtain ⟨b, off, e, hb, hc⟩ := h (by intro e; subst e; simp at hne)
  refine ⟨b, off, e, hb, fun j hj => ?_⟩
  have hj' : j < l.length := by simp at hj; omega
  have e : (l.take k)[j] = l[j] := List.getElem_take
  rw [e]
  exact hc j hj'
theorem WrsAt.mono {n₀ n₁ : Nat} {W : World} {A : Option Addr} {l : List Wr} (h : WrsAt n₀ W A l) (hn : n₀ ≤ n₁) : WrsAt n₁ W A l := fun hne => by
  obtain ⟨b, off, e, hb, hc⟩ := h hne
  exact ⟨b, off, e, Nat.lt_of_lt_of_le hb hn, hc⟩

end Go.Proofs.YtjbfopnkeclfgaaGreat
