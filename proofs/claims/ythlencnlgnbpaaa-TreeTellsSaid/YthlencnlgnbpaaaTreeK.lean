/- Walks of used, next and Need of package tree. -/
import Derived.Test.YthlencnlgnbpaaaTreeE
import Derived.Test.YthlencnlgnbpaaaTreeW6a
namespace Go.Proofs.Ythlencnlgnbpaaa
open Go.RowKit

/-- Where each cell's node stands. -/
def Lie (w : World) (R : Option Addr) (l : List HC) (A : Nat → Option Addr) (C : Nat → Nat) : Prop := ∀ k (hk : k < l.length), ∃ b off, R = some ⟨b, off, none⟩ ∧ b < w.heap.size ∧
  (w.cell? ⟨b, off + k * 4, none⟩ = some (.int .i64 l[k].ref) ∧ w.cell? ⟨b, off + k * 4 + 2, none⟩ = some (.bool l[k].leaf) ∧ w.cell? ⟨b, off + k * 4 + 3, none⟩ = some (.slice (A k) l[k].it.length (C k))) ∧ Sl w (A k) l[k].it.length (C k) (ivs l[k].it)
theorem lie_ex {w : World} {R : Option Addr} {n q : Nat} {l : List HC} (h : HcSl w R n q l) : ∃ A C, Lie w R l A C := by
  have hc := fun k (hk : k < l.length) => h.cell hk
  refine ⟨fun k => if hk : k < l.length then (hc k hk).choose_spec.choose_spec.2.2.choose else none, fun k => if hk : k < l.length then (hc k hk).choose_spec.choose_spec.2.2.choose_spec.choose else 0, fun k hk => ?_⟩
  simp only [dif_pos hk]
  have h1 := (hc k hk).choose_spec.choose_spec
  have h2 := h1.2.2.choose_spec.choose_spec
  exact ⟨_, _, h1.1, h1.2.1, ⟨h2.1, h2.2.2.1, h2.2.2.2.1⟩, h2.2.2.2.2⟩
theorem Lie.ext {w w' : World} {R : Option Addr} {l : List HC} {A : Nat → Option Addr} {C : Nat → Nat} (h : Lie w R l A C) (hx : Ext w w') : Lie w' R l A C := fun k hk => by
  obtain ⟨b, off, e, hb, ⟨h1, h2, h3⟩, h4⟩ := h k hk
  exact ⟨b, off, e, Nat.lt_of_lt_of_le hb hx.size, ⟨(hx.cell (p := ⟨b, off + k * 4, none⟩) hb).trans h1, (hx.cell (p := ⟨b, off + k * 4 + 2, none⟩) hb).trans h2, (hx.cell (p := ⟨b, off + k * 4 + 3, none⟩) hb).trans h3⟩, h4.ext hx⟩
def NV (l : List HC) (A : Nat → Option Addr) (C : Nat → Nat) (p : Int) : Value := .agg #[.bool (cellT l p).leaf, .slice (A p.toNat) (cellT l p).it.length (C p.toNat)]
def usedV (l : List HC) (A : Nat → Option Addr) (C : Nat → Nat) (p : Int) : Value := if usedC l p then NV l A C p else .agg #[.bool false, .slice none 0 0]
set_option maxRecDepth 100000 in
set_option maxHeartbeats 800000 in
theorem treeUsed_any (R : Option Addr) (l : List HC) (n q : Nat) (keep p : Int) (A : Nat → Option Addr) (C : Nat → Nat) (w : World) (hl : AllR l) (hn : n = l.length) (hA : Lie w R l A C) :
    Calls Try.prog 32 #[.agg #[.slice R n q, .int .i64 keep], .int .i64 p] w fun e w' => e = .returned (.tuple #[usedV l A C p, .bool (usedC l p)]) ∧ Ext w w' := by
  obtain ⟨W, hW⟩ : ∃ W, (w.alloc (.cells #[.slice R n q, .int .i64 keep] 24)).alloc (.cells #[.bool false, .slice none 0 0] 53) = W := ⟨_, rfl⟩
  obtain ⟨hx, hb0, hb1⟩ := allocs2 hW
  have HX := Lib.hid hx
  have HB0 := Lib.hid hb0
  have HB1 := Lib.hid hb1
  obtain ⟨b0, b1, b2⟩ := hb0.read2
  obtain ⟨f0, f1⟩ := hb1.free2
  obtain ⟨c0, c1, fl⟩ := hb1.read2
  have HN := Lib.hid hn
  have HXS := Lib.hid (fun x y => (hx.set (p := ⟨w.heap.size + 1, 0, none⟩) (by show w.heap.size ≤ w.heap.size + 1; omega) x).set (p := ⟨w.heap.size + 1, 1, none⟩) (by show w.heap.size ≤ w.heap.size + 1; omega) y)
  clear hx hb0 hb1
  by_cases hp : p < 0
  · have d0 : decide (p < 0) = true := decide_eq_true hp
    have HU := Lib.hid (usedC_neg (l := l) hp)
    clear hn hp hl hA
    go_enter Try.func32, Try.ntmps32
    go_wp2
    refine ret2_cell (k := w.heap.size + 1) (x := .bool false) (y := .slice none 0 0) (v := .tuple #[.agg #[.bool false, .slice none 0 0], .bool false]) ?hb1 (fun r0 r1 => by simp [results, Try.results32, go_sem, r0, r1]) rfl ?hx1
    case hb1 => exact HB1.out.set2 _ _
    case hx1 => exact ⟨by unfold usedV; rw [HU.out]; rfl, HXS.out _ _⟩
  obtain ⟨k, rfl⟩ := Int.eq_ofNat_of_zero_le (show 0 ≤ p by omega)
  have d0 : decide ((k : Int) < 0) = false := decide_eq_false hp
  rcases Nat.lt_or_ge k n with hk | hk
  rotate_left
  · have d1 : decide ((n : Int) ≤ (k : Int)) = true := decide_eq_true (by omega)
    have d3 : decide (n ≤ k) = true := decide_eq_true hk
    have HU := Lib.hid (usedC_big (l := l) (p := (k : Int)) (by omega))
    clear hn hp hl hA hk
    go_enter Try.func32, Try.ntmps32
    go_wp2
    refine ret2_cell (k := w.heap.size + 1) (x := .bool false) (y := .slice none 0 0) (v := .tuple #[.agg #[.bool false, .slice none 0 0], .bool false]) ?hb2 (fun r0 r1 => by simp [results, Try.results32, go_sem, r0, r1]) rfl ?hx2
    case hb2 => exact HB1.out.set2 _ _
    case hx2 => exact ⟨by unfold usedV; rw [HU.out]; rfl, HXS.out _ _⟩
  have d1 : decide ((n : Int) ≤ (k : Int)) = false := decide_eq_false (by omega)
  have d3 : decide (n ≤ k) = false := decide_eq_false (by omega)
  have hkl : k < l.length := by omega
  obtain ⟨b, off, rfl, hbl, ⟨q0, q2, q3⟩, hI⟩ := hA k hkl
  have r0 := (HX.out.cell (p := ⟨b, off + k * 4, none⟩) hbl).trans q0
  have r2 := (HX.out.cell (p := ⟨b, off + k * 4 + 2, none⟩) hbl).trans q2
  have r3 := (HX.out.cell (p := ⟨b, off + k * 4 + 3, none⟩) hbl).trans q3
  have HI := Lib.hid (hI.ext HX.out)
  have HQ := Lib.hid (And.intro q0 (And.intro q2 q3))
  have hkn : (k : Int) < (n : Int) := by omega
  by_cases hrf : 0 < l[k].ref
  rotate_left
  · have d2 : decide (l[k].ref ≤ 0) = true := decide_eq_true (by omega)
    have HU := Lib.hid (show usedC l (k : Int) = false from by rw [usedC_at hkl, decide_eq_false hrf])
    generalize l[k] = x at *
    clear hn hp hl hA hk hI hkl q0 q2 q3 hrf
    go_enter Try.func32, Try.ntmps32
    go_wp2
    refine ret2_cell (k := w.heap.size + 1) (x := .bool false) (y := .slice none 0 0) (v := .tuple #[.agg #[.bool false, .slice none 0 0], .bool false]) ?hb3 (fun r0 r1 => by simp [results, Try.results32, go_sem, r0, r1]) rfl ?hx3
    case hb3 => exact HB1.out.set2 _ _
    case hx3 => exact ⟨by unfold usedV; rw [HU.out]; rfl, HXS.out _ _⟩
  have d2 : decide (l[k].ref ≤ 0) = false := decide_eq_false (by omega)
  have HU := Lib.hid (show usedC l (k : Int) = true from by rw [usedC_at hkl, decide_eq_true hrf])
  have HV := Lib.hid (show NV l A C (k : Int) = .agg #[.bool l[k].leaf, .slice (A k) l[k].it.length (C k)] from by unfold NV; rw [cellT_at hkl, Int.toNat_natCast])
  have hnd := (ndR_iff _).2 (cell_ok (hl k hkl) hrf).1
  have HC := Lib.hid (nodeRight_any l[k].leaf (A k) l[k].it l[k].it.length (C k) W rfl HI.out)
  rw [hnd] at HC
  generalize l[k] = x at *
  clear hn hp hl hA hk hI hkl q0 q2 q3 hrf hnd
  go_enter Try.func32, Try.ntmps32
  go_wp2_with (go_at_call 38; refine stop_here ?_)
  refine stop_on ?_
  refine HC.out.mono ?_
  rintro e w1 ⟨rfl, hx1⟩
  have HX1 := Lib.hid (HX.out.trans hx1)
  obtain ⟨b0, b1, b2⟩ := (show Bx W w.heap.size _ from HB0.out).ext hx1 |>.read2
  obtain ⟨f0, f1⟩ := (HB1.out.ext hx1).free2
  obtain ⟨c0, c1, fl⟩ := (HB1.out.ext hx1).read2
  have HB2 := Lib.hid (HB1.out.ext hx1)
  have r0 := (HX1.out.cell (p := ⟨b, off + k * 4, none⟩) hbl).trans HQ.out.1
  have r2 := (HX1.out.cell (p := ⟨b, off + k * 4 + 2, none⟩) hbl).trans HQ.out.2.1
  have r3 := (HX1.out.cell (p := ⟨b, off + k * 4 + 3, none⟩) hbl).trans HQ.out.2.2
  clear hx1
  go_wp2
  refine ret2_cell (k := w.heap.size + 1) (x := .bool x.leaf) (y := .slice (A k) x.it.length (C k)) (v := .tuple #[.agg #[.bool x.leaf, .slice (A k) x.it.length (C k)], .bool true]) ?hb4 (fun r0 r1 => by simp [results, Try.results32, go_sem, r0, r1]) rfl ?hx4
  case hb4 => exact HB2.out.set2 _ _
  case hx4 => exact ⟨by unfold usedV; rw [HU.out, HV.out]; rfl, (HX1.out.set (p := ⟨w.heap.size + 1, 0, none⟩) (by show w.heap.size ≤ w.heap.size + 1; omega) _).set (p := ⟨w.heap.size + 1, 1, none⟩) (by show w.heap.size ≤ w.heap.size + 1; omega) _⟩
set_option maxHeartbeats 400000 in
theorem treeNext_any (A : Option Addr) (it : List It) (n c i : Nat) (e : Int) (w : World) (hn : n = it.length) (hi : i < n) (hA : Sl w A n c (ivs it)) (hn4 : n ≤ 4) :
    Calls Try.prog 33 #[.slice A n c, .int .i64 i, .int .i64 e] w fun r w' => r = .returned (.int .i64 (nextT it i e)) ∧ w' = w := by
  by_cases h : i + 1 < n
  · obtain ⟨b, off, rfl, _, hc⟩ := hA.cells.it (k := i + 1) (by omega)
    have hck := (hc (i + 1) (by omega)).1
    have HE := Lib.hid (show nextT it i e = (it[i + 1]'(by omega)).1 from by unfold nextT; rw [if_pos (by omega), getD_at (by omega)])
    have d0 : decide ((i : Int) + 1 < (n : Int)) = true := decide_eq_true (by omega)
    have d1 : decide (i + 1 < n) = true := decide_eq_true h
    have d2 : ((i + 1 : Nat) : Int) < (n : Int) := by omega
    generalize (it[i + 1]'(by omega)).1 = x at *
    clear hc hn hi hA
    go_enter Try.func33, Try.ntmps33
    go_wp2
    go_ret
    exact ⟨by rw [HE.out]; rfl, rfl⟩
  · have hi4 : i ≤ 4 := by omega
    have HE := Lib.hid (show nextT it i e = e from by unfold nextT; rw [if_neg (by omega)])
    have d0 : decide ((i : Int) + 1 < (n : Int)) = false := decide_eq_false (by omega)
    have d1 : decide (i + 1 < n) = false := decide_eq_false h
    clear hn hi hA
    go_enter Try.func33, Try.ntmps33
    go_wp2
    go_ret
    exact ⟨by rw [HE.out]; rfl, rfl⟩
set_option maxHeartbeats 400000 in
theorem treeNeed_any (x : Int) (w : World) (h0 : 0 ≤ x) (h1 : x ≤ 100000) :
    Calls Try.prog 13 #[.int .i64 x] w fun e w' => e = .returned (.int .i64 (2 * x + 1)) ∧ Ext w w' := by
  go_enter Try.func13, Try.ntmps13
  go_wp2
  go_ret
  exact ⟨rfl, Ext.refl _⟩
end Go.Proofs.Ythlencnlgnbpaaa
