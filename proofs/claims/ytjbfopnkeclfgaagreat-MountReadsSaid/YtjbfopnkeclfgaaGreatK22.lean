/- Walks of isSize, isPlace, isFree, used, hold and settle of package heap. Walks of told, copied and waiting of package heap. Walks of slices.Index, Contains, IndexFunc, ContainsFunc and of the closures of package heap. Walks of New, isRight and Right of package heap. -/
import Derived.Test.YtjbfopnkeclfgaaGreatK11
import Derived.Test.YtjbfopnkeclfgaaGreatK05
namespace Go.Proofs.YtjbfopnkeclfgaaGreat
set_option maxRecDepth 20000
open Go.RowKit
attribute [local go_sem ↓] Go.wp_at_zero Go.wp_at_succ

set_option maxHeartbeats 800000 in
theorem hpIsSize_any (n keep : Int) (w : World) :
    Calls Tryz.prog 52 #[.int .i64 n, .int .i64 keep] w fun e w' => e = .returned (.bool (decide (newOk n keep))) ∧ w = w' := by
  have hc : n < 1 ∨ (1 ≤ n ∧ 2000 < n) ∨ (1 ≤ n ∧ n ≤ 2000 ∧ keep < 0) ∨ (1 ≤ n ∧ n ≤ 2000 ∧ 0 ≤ keep ∧ n < keep) ∨ (1 ≤ n ∧ n ≤ 2000 ∧ 0 ≤ keep ∧ keep ≤ n) := by omega
  rcases hc with h | ⟨h, h1⟩ | ⟨h, h1, h2⟩ | ⟨h, h1, h2, h3⟩ | ⟨h, h1, h2, h3⟩
  · rw [decide_eq_false (by unfold newOk; omega)]
    have d0 : decide (1 ≤ n) = false := decide_eq_false (by omega)
    go_enter Tryz.func52, Tryz.ntmps52
    go_wp2
    go_ret
    exact ⟨rfl, rfl⟩
  · rw [decide_eq_false (by unfold newOk; omega)]
    have d0 : decide (1 ≤ n) = true := decide_eq_true (by omega)
    have d1 : decide (n ≤ 2000) = false := decide_eq_false (by omega)
    go_enter Tryz.func52, Tryz.ntmps52
    go_wp2
    go_ret
    exact ⟨rfl, rfl⟩
  · rw [decide_eq_false (by unfold newOk; omega)]
    have d0 : decide (1 ≤ n) = true := decide_eq_true (by omega)
    have d1 : decide (n ≤ 2000) = true := decide_eq_true (by omega)
    have d2 : decide (0 ≤ keep) = false := decide_eq_false (by omega)
    go_enter Tryz.func52, Tryz.ntmps52
    go_wp2
    go_ret
    exact ⟨rfl, rfl⟩
  · rw [decide_eq_false (by unfold newOk; omega)]
    have d0 : decide (1 ≤ n) = true := decide_eq_true (by omega)
    have d1 : decide (n ≤ 2000) = true := decide_eq_true (by omega)
    have d2 : decide (0 ≤ keep) = true := decide_eq_true (by omega)
    have d3 : decide (keep ≤ n) = false := decide_eq_false (by omega)
    go_enter Tryz.func52, Tryz.ntmps52
    go_wp2
    go_ret
    exact ⟨rfl, rfl⟩
  · rw [decide_eq_true (by unfold newOk; omega)]
    have d0 : decide (1 ≤ n) = true := decide_eq_true (by omega)
    have d1 : decide (n ≤ 2000) = true := decide_eq_true (by omega)
    have d2 : decide (0 ≤ keep) = true := decide_eq_true (by omega)
    have d3 : decide (keep ≤ n) = true := decide_eq_true (by omega)
    go_enter Tryz.func52, Tryz.ntmps52
    go_wp2
    go_ret
    exact ⟨rfl, rfl⟩
def isPl (p n : Int) : Bool := decide (0 ≤ p) && decide (p < n)
set_option maxHeartbeats 800000 in
theorem hpIsPlace_any (p n : Int) (w : World) :
    Calls Tryz.prog 84 #[.int .i64 p, .int .i64 n] w fun e w' => e = .returned (.bool (isPl p n)) ∧ w = w' := by
  unfold isPl
  have hc : p < 0 ∨ (0 ≤ p ∧ n ≤ p) ∨ (0 ≤ p ∧ p < n) := by omega
  rcases hc with h | ⟨h, h1⟩ | ⟨h, h1⟩
  · have d0 : decide (0 ≤ p) = false := decide_eq_false (by omega)
    rw [d0]
    go_enter Tryz.func84, Tryz.ntmps84
    go_wp2
    go_ret
    exact ⟨rfl, rfl⟩
  · have d0 : decide (0 ≤ p) = true := decide_eq_true (by omega)
    have d1 : decide (p < n) = false := decide_eq_false (by omega)
    rw [d0, d1]
    go_enter Tryz.func84, Tryz.ntmps84
    go_wp2
    go_ret
    exact ⟨rfl, rfl⟩
  · have d0 : decide (0 ≤ p) = true := decide_eq_true (by omega)
    have d1 : decide (p < n) = true := decide_eq_true (by omega)
    rw [d0, d1]
    go_enter Tryz.func84, Tryz.ntmps84
    go_wp2
    go_ret
    exact ⟨rfl, rfl⟩
/-- A row of cells of the call's own: it was made behind the world v, in which the nodes of its cells lie. -/
def Own (v w : World) (g cap : Nat) (l : List HC) : Prop := ∃ cs, w.ownsRow v.heap.size 61 4 (.slice (some ⟨g, 0, none⟩) l.length cap) l.length cs ∧ HcAt v cs l ∧ Ext v w
theorem Own.ext {v w w' : World} {g cap : Nat} {l : List HC} (h : Own v w g cap l) (hx : Ext w w') : Own v w' g cap l := by
  obtain ⟨cs, h1, h2, h3⟩ := h
  exact ⟨cs, own_ext h1 hx, h2, h3.trans hx⟩
theorem Own.sl {v w : World} {g cap : Nat} {l : List HC} (h : Own v w g cap l) : HcSl w (some ⟨g, 0, none⟩) l.length cap l := by
  obtain ⟨cs, h1, h2, h3⟩ := h
  exact ⟨rfl, cs, own_sl h1, h2.ext h3⟩
theorem Own.ge {v w : World} {g cap : Nat} {l : List HC} (h : Own v w g cap l) : v.heap.size ≤ g ∧ g < w.heap.size := by
  obtain ⟨cs, h1, h2, h3⟩ := h
  exact h1.lt g rfl
theorem Own.free {v w : World} {g cap : Nat} {l : List HC} (h : Own v w g cap l) (j : Nat) : w.frozen? ⟨g, j, none⟩ = false := by
  obtain ⟨cs, h1, h2, h3⟩ := h
  exact own_free h1 j
theorem Own.cell {v w : World} {g cap : Nat} {l : List HC} (h : Own v w g cap l) {k : Nat} (hk : k < l.length) :
    ∃ A c, w.cell? ⟨g, k * 4, none⟩ = some (.int .i64 l[k].ref) ∧ w.cell? ⟨g, k * 4 + 1, none⟩ = some (.bool l[k].pin) ∧ w.cell? ⟨g, k * 4 + 2, none⟩ = some (.bool l[k].leaf) ∧ w.cell? ⟨g, k * 4 + 3, none⟩ = some (.slice A l[k].it.length c) ∧ Sl v A l[k].it.length c (ivs l[k].it) := by
  obtain ⟨cs, h1, h2, h3⟩ := h
  obtain ⟨A, c, e1, e2, e3, e4, h5⟩ := h2.2 k hk
  have hl := h1.1
  exact ⟨A, c, (h1.cellAt (k * 4) (by omega)).trans e1, (h1.cellAt (k * 4 + 1) (by omega)).trans e2, (h1.cellAt (k * 4 + 2) (by omega)).trans e3, (h1.cellAt (k * 4 + 3) (by omega)).trans e4, h5⟩
theorem set_same {α : Type} {l : List α} {k : Nat} {x : α} (h : l[k]? = some x) : l.set k x = l := by
  obtain ⟨hk, rfl⟩ := List.getElem?_eq_some_iff.1 h
  exact List.set_getElem_self hk
/-- One number of a cell is written. -/
theorem Own.ref {v w : World} {g cap : Nat} {l : List HC} (h : Own v w g cap l) {k : Nat} (hk : k < l.length) (r : Int) :
    Own v (w.setCell ⟨g, k * 4, none⟩ (.int .i64 r)) g cap (l.set k ⟨r, l[k].pin, l[k].leaf, l[k].it⟩) := by
  have hg := h.ge
  obtain ⟨cs, h1, h2, h3⟩ := h
  obtain ⟨A, c, e1, e2, e3, e4, h5⟩ := h2.2 k hk
  have hs := h2.set hk ⟨r, l[k].pin, l[k].leaf, l[k].it⟩ h5
  have hl := h2.1
  simp only at hs
  rw [set_same (l := (((cs.set (k * 4) _).set (k * 4 + 1) _).set (k * 4 + 2) _)) (by rw [List.getElem?_set_ne (by omega), List.getElem?_set_ne (by omega), List.getElem?_set_ne (by omega)]; exact e4)] at hs
  rw [set_same (l := ((cs.set (k * 4) _).set (k * 4 + 1) _)) (by rw [List.getElem?_set_ne (by omega), List.getElem?_set_ne (by omega)]; exact e3)] at hs
  rw [set_same (l := (cs.set (k * 4) _)) (by rw [List.getElem?_set_ne (by omega)]; exact e2)] at hs
  refine ⟨_, ?_, hs, h3.set hg.1 _⟩
  rw [List.length_set]
  exact own_set h1 (by omega) _
theorem Own.pin {v w : World} {g cap : Nat} {l : List HC} (h : Own v w g cap l) {k : Nat} (hk : k < l.length) (b : Bool) :
    Own v (w.setCell ⟨g, k * 4 + 1, none⟩ (.bool b)) g cap (l.set k ⟨l[k].ref, b, l[k].leaf, l[k].it⟩) := by
  have hg := h.ge
  obtain ⟨cs, h1, h2, h3⟩ := h
  obtain ⟨A, c, e1, e2, e3, e4, h5⟩ := h2.2 k hk
  have hs := h2.set hk ⟨l[k].ref, b, l[k].leaf, l[k].it⟩ h5
  have hl := h2.1
  simp only at hs
  rw [set_same (l := (((cs.set (k * 4) _).set (k * 4 + 1) _).set (k * 4 + 2) _)) (by rw [List.getElem?_set_ne (by omega), List.getElem?_set_ne (by omega), List.getElem?_set_ne (by omega)]; exact e4)] at hs
  rw [set_same (l := ((cs.set (k * 4) _).set (k * 4 + 1) _)) (by rw [List.getElem?_set_ne (by omega), List.getElem?_set_ne (by omega)]; exact e3)] at hs
  rw [set_same (l := cs) e1] at hs
  refine ⟨_, ?_, hs, h3.set hg.1 _⟩
  rw [List.length_set]
  exact own_set h1 (by omega) _
/-- A whole cell is written. -/
theorem Own.set {v w : World} {g cap : Nat} {l : List HC} (h : Own v w g cap l) {k : Nat} (hk : k < l.length) (x : HC) {A : Option Addr} {c : Nat} (hs : Sl v A x.it.length c (ivs x.it)) :
    Own v ((((w.setCell ⟨g, k * 4, none⟩ (.int .i64 x.ref)).setCell ⟨g, k * 4 + 1, none⟩ (.bool x.pin)).setCell ⟨g, k * 4 + 2, none⟩ (.bool x.leaf)).setCell ⟨g, k * 4 + 3, none⟩ (.slice A x.it.length c)) g cap (l.set k x) := by
  have hg := h.ge
  obtain ⟨cs, h1, h2, h3⟩ := h
  refine ⟨_, ?_, h2.set hk x hs, (((h3.set hg.1 _).set hg.1 _).set hg.1 _).set hg.1 _⟩
  rw [List.length_set]
  exact own_hc h1 hk _ _ _ _

end Go.Proofs.YtjbfopnkeclfgaaGreat
namespace Go.Proofs.YtjbfopnkeclfgaaGreat
set_option maxRecDepth 20000
open Go.RowKit
attribute [local go_sem ↓] Go.wp_at_zero Go.wp_at_succ

theorem infoI0 : (Tryz.prog.info? 3).map (fun i => (i.zero, i.size, i.bytes)) = some (some (.int .i64 0), 1, 8) := by kernel_rfl
theorem made_zeros (n : Nat) : (madeCells (Value.int .i64 0).cells (n * 1)).toList = List.replicate n (iv 0) := by
  have hz : (Value.int .i64 0).cells = #[.int .i64 0] := by simp [Value.cells]
  rw [hz]
  apply List.ext_getElem?
  intro i
  simp only [madeCells, iv, Nat.mul_one, Array.toList_map, Array.toList_range, List.getElem?_map, List.getElem?_replicate]
  by_cases h : i < n
  · simp [h, Nat.mod_one]
  · simp [h]
/-- A node's places. -/
def toldL (leaf : Bool) (it : List It) : List Int := if leaf then [] else it.map Prod.snd
def toldK (it : List It) (k : Nat) : List Value := (it.take k).map (fun x => iv x.2) ++ List.replicate (it.length - k) (iv 0)
theorem toldK_len (it : List It) (k : Nat) : (toldK it k).length = it.length := by unfold toldK; simp; omega
theorem toldK_zero (it : List It) : toldK it 0 = List.replicate it.length (iv 0) := by unfold toldK; simp
theorem toldK_all (it : List It) : toldK it it.length = (toldL false it).map iv := by unfold toldK toldL; simp
theorem toldK_succ {it : List It} {k : Nat} (hk : k < it.length) : (toldK it k).set k (iv it[k].2) = toldK it (k + 1) := by
  unfold toldK
  have h : (List.map (fun x : It => iv x.2) (it.take k)).length = k := by rw [List.length_map, List.length_take]; omega
  rw [List.take_succ_eq_append_getElem hk, List.map_append, List.set_append, if_neg (by omega), h, Nat.sub_self, List.append_assoc]
  rw [show it.length - k = (it.length - (k + 1)) + 1 by omega, List.replicate_succ]
  rfl
set_option maxRecDepth 100000 in
set_option maxHeartbeats 1600000 in
theorem hpTold_any (leaf : Bool) (A : Option Addr) (it : List It) (m c : Nat) (w : World) (hm : m = it.length) (hb : m ≤ 90000) (hI : Sl w A m c (ivs it)) :
    Calls Tryz.prog 82 #[.agg #[.bool leaf, .slice A m c]] w fun e w' => ∃ S t d, e = .returned (.slice S t d) ∧ t = (toldL leaf it).length ∧ w'.ownsRow w.heap.size 3 1 (.slice S t d) t ((toldL leaf it).map iv) ∧ Ext w w' := by
  obtain ⟨W, hW⟩ : ∃ W, w.alloc (.cells #[.bool leaf, .slice A m c] 59) = W := ⟨_, rfl⟩
  obtain ⟨hx, hb0⟩ := allocs1 hW
  have hsz : W.heap.size = w.heap.size + 1 := by rw [← hW]; simp
  have HX := Lib.hid hx
  have HB0 := Lib.hid hb0
  have HI := Lib.hid hI
  have HSZ := Lib.hid hsz
  have HM := Lib.hid hm
  obtain ⟨p0, p1, p2⟩ := hb0.read2
  clear hx hb0 hI hsz hm
  cases leaf
  rotate_left
  · go_enter Tryz.func82, Tryz.ntmps82
    go_wp2_with fail
    go_ret
    exact ⟨none, 0, 0, rfl, rfl, ⟨rfl, .inl ⟨rfl, rfl⟩⟩, HX.out⟩
  obtain ⟨i0, hi, hz0, hz1, hz2⟩ := info_parts infoI0
  have HIN := Lib.hid hi
  have HZ0 := Lib.hid hz0
  have HZ1 := Lib.hid hz1
  have HZ2 := Lib.hid hz2
  clear hi hz0 hz1 hz2
  subst hW
  go_enter Tryz.func82, Tryz.ntmps82
  go_wp2_with (at_make; refine stop_here ?_)
  refine stop_on ?_
  generalize hW : World.alloc w _ = W at *
  refine wpList_make_cap _ rfl _ _ 76 rfl 3 i0 _ Tryz.underlying76 HIN.out HZ0.out _ _ _ _ m m rfl rfl (by omega) (by omega) (by omega) (by rw [HZ2.out]; omega) (by unfold maxLen; omega) ?_
  rw [HZ1.out, HSZ.out]
  have HO := Lib.hid (show (W.alloc (.cells (madeCells (Value.int .i64 0).cells (m * 1)) 3)).ownsRow w.heap.size 3 1 (.slice (some ⟨w.heap.size + 1, 0, none⟩) m m) m (toldK it 0) from by
    have h := heap_alloc_new W (.cells (madeCells (Value.int .i64 0).cells (m * 1)) 3)
    rw [HSZ.out] at h
    have hs := size_madeCells (Value.int .i64 0).cells (m * 1)
    refine ⟨by rw [toldK_len, ← HM.out]; omega, .inr ⟨w.heap.size + 1, m, _, rfl, by omega, h, Nat.le_refl _, by unfold maxLen; omega, hs, ?_⟩⟩
    rw [made_zeros, toldK_zero, ← HM.out]
    simp)
  have HX1 := Lib.hid (HX.out.alloc (.cells (madeCells (Value.int .i64 0).cells (m * 1)) 3))
  have HXW := Lib.hid ((Ext.refl W).alloc (.cells (madeCells (Value.int .i64 0).cells (m * 1)) 3))
  clear p0 p1 p2
  obtain ⟨p0, p1, p2⟩ := (HB0.out.ext HXW.out).read2
  generalize World.alloc W _ = W1 at *
  go_wp2_with fail
  go_loopw [15] (fun i wr => ∃ k : Nat, k ≤ m ∧ i = .int .i64 k ∧ wr.ownsRow w.heap.size 3 1 (.slice (some ⟨w.heap.size + 1, 0, none⟩) m m) m (toldK it k) ∧ Ext w wr) (fun i _ => m - (intOf i).toNat)
  case atStart => exact ⟨0, Nat.zero_le _, rfl, HO.out, HX1.out⟩
  case round =>
    obtain ⟨k, hk, rfl, ho, hx⟩ := hrel
    have HXR := Lib.hid hx
    rcases Nat.lt_or_ge k m with hlt | hlt
    · have hkl : k < it.length := by rw [← HM.out]; exact hlt
      obtain ⟨bi, oi, rfl, hbi, hc⟩ := (HI.out.ext hx).cells.it hkl
      obtain ⟨c0, c1⟩ := hc k hkl
      have hki : (k : Int) < (m : Int) := by omega
      have HS := Lib.hid (toldK_succ hkl)
      have f0 := own_free ho k
      have hg1 : w.heap.size + 1 < wr.heap.size := (ho.lt _ rfl).2
      obtain ⟨z, hz⟩ : ∃ z, wr.cell? ⟨w.heap.size + 1, k, none⟩ = some z := by
        have := ho.cellAt k (by omega)
        rw [this, List.getElem?_eq_getElem (by rw [toldK_len, ← HM.out]; exact hlt)]
        exact ⟨_, rfl⟩
      have HOK := Lib.hid ho
      clear hx ho hc
      generalize it[k] = x at *
      obtain ⟨K, V⟩ := x
      simp only at c0 c1 HS
      have HO2 := Lib.hid (own_ext (own_set HOK.out (j := k) (by omega) (.int .i64 V)) ((Ext.refl _).alloc (.cells #[.int .i64 K, .int .i64 V] 146)))
      have HX2 := Lib.hid ((HXR.out.set (p := ⟨w.heap.size + 1, k, none⟩) (by simp) (.int .i64 V)).alloc (.cells #[.int .i64 K, .int .i64 V] 146))
      go_wp2_with fail
      go_roundw
      case rel => exact ⟨k + 1, by omega, by go_num, by rw [← HS.out]; exact HO2.out, HX2.out⟩
      case measure => simp [intOf]; omega
    · obtain rfl : k = m := by omega
      have HE := Lib.hid (toldK_all it)
      have ht : k = (toldL false it).length := by unfold toldL; simp; exact HM.out
      have HT := Lib.hid ht
      rw [HM.out, HE.out, ← HM.out] at ho
      have HOK := Lib.hid ho
      clear hx ho hlt ht
      go_wp2_with fail
      go_ret
      exact ⟨_, _, _, rfl, HT.out, HOK.out, HXR.out⟩
end Go.Proofs.YtjbfopnkeclfgaaGreat
namespace Go.Proofs.YtjbfopnkeclfgaaGreat
set_option maxRecDepth 20000
open Go.RowKit
attribute [local go_sem ↓] Go.wp_at_zero Go.wp_at_succ

/-- The first place at which f holds, or -1. -/
def idxBy {α : Type} (f : α → Bool) (l : List α) : Int := if l.any f then (l.findIdx f : Nat) else -1
theorem idx_hit {α : Type} {f : α → Bool} {l : List α} {k : Nat} (hk : k < l.length) (h : f l[k] = true) (hb : ∀ j (hj : j < l.length), j < k → f l[j] = false) : idxBy f l = (k : Int) := by
  unfold idxBy
  rw [if_pos (by rw [List.any_eq_true]; exact ⟨l[k], List.getElem_mem hk, h⟩), (List.findIdx_eq hk).2 ⟨h, fun j hj => hb j (by omega) hj⟩]
theorem idx_none {α : Type} {f : α → Bool} {l : List α} (hb : ∀ j (hj : j < l.length), f l[j] = false) : idxBy f l = -1 := by
  unfold idxBy
  have h : l.any f = false := by
    rw [List.any_eq_false]
    intro y hy
    obtain ⟨i, hi, rfl⟩ := List.mem_iff_getElem.1 hy
    simpa using hb i hi
  rw [h]; rfl
theorem idx_any {α : Type} (f : α → Bool) (l : List α) : decide (0 ≤ idxBy f l) = l.any f := by
  unfold idxBy
  cases h : l.any f
  · rfl
  · simp
set_option maxHeartbeats 800000 in
theorem hpOut_any (p : Int) (kb n : Nat) (w : World) (hb : w.cell? ⟨kb, 0, none⟩ = some (.int .i64 n)) :
    Calls Tryz.prog 83 #[.int .i64 p, .pointer (some ⟨kb, 0, none⟩)] w fun e w' => e = .returned (.bool (!isPl p n)) ∧ w = w' := by
  have HP := Lib.hid (hpIsPlace_any p n w)
  generalize isPl p n = z at *
  go_enter Tryz.func83, Tryz.ntmps83
  go_wp2_with (go_at_call 84; refine HP.out.mono ?_; rintro e w1 ⟨rfl, rfl⟩)
  go_ret
  exact ⟨by first | rfl | simp, rfl⟩
set_option maxRecDepth 100000 in
set_option maxHeartbeats 1600000 in
theorem hpIdxOut_any (f : Int → Bool) (kb : Nat) (S : Option Addr) (l : List Int) (t d : Nat) (w : World) (ht : t = l.length) (hS : Sl w S t d (l.map iv))
    (hF : ∀ p, Calls Tryz.prog 83 #[.int .i64 p, .pointer (some ⟨kb, 0, none⟩)] w fun e w' => e = .returned (.bool (f p)) ∧ w = w') :
    Calls Tryz.prog 126 #[.slice S t d, .func (.func 83) #[] #[.pointer (some ⟨kb, 0, none⟩)]] w fun e w' => e = .returned (.int .i64 (idxBy f l)) ∧ w = w' := by
  have hl := hS.len
  unfold maxLen at hl
  have HT := Lib.hid ht
  have HS := Lib.hid hS.cells
  have HF := Lib.hid hF
  clear ht hS hF
  go_enter Tryz.func126, Tryz.ntmps126
  go_wp2_with fail
  go_loopw [8] (fun i wr => ∃ k : Nat, k ≤ t ∧ i = .int .i64 k ∧ (∀ j (hj : j < l.length), j < k → f l[j] = false) ∧ w = wr) (fun i _ => t - (intOf i).toNat)
  case atStart => exact ⟨0, Nat.zero_le _, rfl, fun _ _ h => by omega, rfl⟩
  case round =>
    obtain ⟨k, hk, rfl, hb, rfl⟩ := hrel
    have HB := Lib.hid hb
    clear hb
    rcases Nat.lt_or_ge k t with hlt | hlt
    · have hkl : k < l.length := by rw [← HT.out]; exact hlt
      obtain ⟨b, off, rfl, hbl, hc⟩ := HS.out.num hkl
      have hck := hc k hkl
      have hki : (k : Int) < (t : Int) := by omega
      have HH := Lib.hid (fun h => idx_hit (f := f) hkl h HB.out)
      have HN := Lib.hid (fun (h : f l[k] = false) => (show ∀ j (hj : j < l.length), j < k + 1 → f l[j] = false from fun j hj hjk => by
        rcases Nat.lt_or_ge j k with h' | h'
        · exact HB.out j hj h'
        · obtain rfl : j = k := by omega
          exact h))
      have HC := Lib.hid (HF.out l[k])
      clear hc HB
      generalize l[k] = y at *
      generalize f y = fy at *
      cases fy
      · have HE := Lib.hid (HN.out rfl)
        clear HH HN
        go_wp2_with (go_at_call 83; refine HC.out.mono ?_; rintro e w1 ⟨rfl, rfl⟩)
        go_roundw
        case rel => exact ⟨k + 1, by omega, by go_num, HE.out, by first | rfl | trivial⟩
        case measure => simp [intOf]; omega
      · have HE := Lib.hid (HH.out rfl)
        clear HH HN
        go_wp2_with (go_at_call 83; refine HC.out.mono ?_; rintro e w1 ⟨rfl, rfl⟩)
        go_ret
        exact ⟨ret_int HE.out.symm, rfl⟩
    · obtain rfl : k = t := by omega
      have HE := Lib.hid (idx_none (f := f) (fun j hj => HB.out j hj (by rw [HT.out]; exact hj)))
      clear hlt
      go_wp2_with fail
      go_ret
      exact ⟨ret_int HE.out.symm, rfl⟩
set_option maxHeartbeats 800000 in
theorem hpHasOut_any (f : Int → Bool) (kb : Nat) (S : Option Addr) (l : List Int) (t d : Nat) (w : World) (ht : t = l.length) (hS : Sl w S t d (l.map iv))
    (hF : ∀ p, Calls Tryz.prog 83 #[.int .i64 p, .pointer (some ⟨kb, 0, none⟩)] w fun e w' => e = .returned (.bool (f p)) ∧ w = w') :
    Calls Tryz.prog 81 #[.slice S t d, .func (.func 83) #[] #[.pointer (some ⟨kb, 0, none⟩)]] w fun e w' => e = .returned (.bool (l.any f)) ∧ w = w' := by
  have HI := Lib.hid (hpIdxOut_any f kb S l t d w ht hS hF)
  rw [← idx_any f l]
  generalize idxBy f l = z at *
  clear ht hS hF
  go_enter Tryz.func81, Tryz.ntmps81
  go_wp2_with (go_at_call 126; refine HI.out.mono ?_; rintro e w1 ⟨rfl, rfl⟩)
  go_ret
  exact ⟨by first | rfl | simp, rfl⟩
end Go.Proofs.YtjbfopnkeclfgaaGreat
namespace Go.Proofs.YtjbfopnkeclfgaaGreat
set_option maxRecDepth 20000
open Go.RowKit
attribute [local go_sem ↓] Go.wp_at_zero Go.wp_at_succ

theorem places_told (n : Nat) (leaf : Bool) (it : List It) : placesC n leaf it = !((toldL leaf it).any (fun p => !isPl p n)) := by
  unfold placesC toldL isPl
  cases leaf
  · simp only [Bool.false_or, Bool.false_eq_true, if_false, List.any_map, Function.comp_def]
    rw [List.all_eq_not_any_not]
  · rfl
set_option maxRecDepth 100000 in
set_option maxHeartbeats 1600000 in
theorem hpIsRight_any (n : Nat) (x : HC) (A : Option Addr) (m c : Nat) (w : World) (hm : m = x.it.length) (hm9 : m ≤ 90000) (hI : Sl w A m c (ivs x.it)) :
    Calls Tryz.prog 51 #[.agg #[.int .i64 x.ref, .bool x.pin, .bool x.leaf, .slice A m c], .int .i64 n] w fun e w' => e = .returned (.bool (cellR n x)) ∧ Ext w w' := by
  obtain ⟨rf, pn, lf, it⟩ := x
  simp only at hm hI ⊢
  obtain ⟨W, hW⟩ : ∃ W, (w.alloc (.cells #[.int .i64 rf, .bool pn, .bool lf, .slice A m c] 61)).alloc (.cells #[.int .i64 n] 3) = W := ⟨_, rfl⟩
  obtain ⟨hx, hb0, hb1⟩ := allocs2 hW
  have HX := Lib.hid hx
  have HB0 := Lib.hid hb0
  have HB1 := Lib.hid hb1
  obtain ⟨p0, p1, p2, p3⟩ := hb0.read4
  have p4 := hb0.lt
  by_cases h0 : rf = 0
  · subst h0
    have HE := Lib.hid (show cellR n ⟨0, pn, lf, it⟩ = (!lf && decide (m = 0)) from by unfold cellR; rw [if_pos rfl, hm])
    clear hx hb0 hb1 hm hI
    rcases Nat.eq_zero_or_pos m with h | h
    · subst h
      subst hW
      cases lf
      · go_enter Tryz.func51, Tryz.ntmps51
        go_wp2_with fail
        go_ret
        exact ⟨ret_bool (by rw [HE.out]; rfl), HX.out⟩
      · go_enter Tryz.func51, Tryz.ntmps51
        go_wp2_with fail
        go_ret
        exact ⟨ret_bool (by rw [HE.out]; rfl), HX.out⟩
    · have d0 : ((m : Int) == 0) = false := beq_eq_false_iff_ne.2 (by omega)
      have d1 : decide ((m : Int) = 0) = false := decide_eq_false (by omega)
      have d2 : decide (m = 0) = false := decide_eq_false (by omega)
      rw [d2, Bool.and_false] at HE
      clear h
      subst hW
      go_enter Tryz.func51, Tryz.ntmps51
      go_wp2_with fail
      go_ret
      exact ⟨ret_bool (by rw [HE.out]), HX.out⟩
  have e0 : (rf == 0) = false := by simpa using h0
  have e0' : decide (rf = 0) = false := decide_eq_false h0
  have hcell : cellR n ⟨rf, pn, lf, it⟩ = (decide (0 < rf) && (decide (rf ≤ 2147483647) && (!pn && (ndR it && placesC n lf it)))) := by unfold cellR; rw [if_neg h0]
  rcases Int.lt_or_le rf 0 with h1 | h1
  · have HE := Lib.hid (show cellR n ⟨rf, pn, lf, it⟩ = false by rw [hcell, decide_eq_false (by omega)]; rfl)
    have d0 : decide (rf < 0) = true := decide_eq_true h1
    clear hx hb0 hb1 hm hI hcell h0 h1
    subst hW
    go_enter Tryz.func51, Tryz.ntmps51
    go_wp2_with fail
    go_ret
    exact ⟨ret_bool HE.out.symm, HX.out⟩
  have d0 : decide (rf < 0) = false := decide_eq_false (by omega)
  rcases Int.lt_or_le 2147483647 rf with h2 | h2
  · have HE := Lib.hid (show cellR n ⟨rf, pn, lf, it⟩ = false by rw [hcell, decide_eq_false (show ¬ rf ≤ 2147483647 by omega)]; simp)
    have d1 : decide (2147483647 < rf) = true := decide_eq_true h2
    clear hx hb0 hb1 hm hI hcell h0 h1 h2
    subst hW
    go_enter Tryz.func51, Tryz.ntmps51
    go_wp2_with fail
    go_ret
    exact ⟨ret_bool HE.out.symm, HX.out⟩
  have d1 : decide (2147483647 < rf) = false := decide_eq_false (by omega)
  rw [decide_eq_true (show 0 < rf by omega), decide_eq_true h2, Bool.true_and, Bool.true_and] at hcell
  cases pn
  rotate_left
  · have HE := Lib.hid (show cellR n ⟨rf, true, lf, it⟩ = false by rw [hcell]; rfl)
    clear hx hb0 hb1 hm hI hcell h0 h1 h2
    subst hW
    go_enter Tryz.func51, Tryz.ntmps51
    go_wp2_with fail
    go_ret
    exact ⟨ret_bool HE.out.symm, HX.out⟩
  rw [Bool.not_false, Bool.true_and] at hcell
  have HR := Lib.hid (nodeRight_any lf A it m c W hm (hI.ext hx))
  obtain ⟨u, hu⟩ : ∃ u, ndR it = u := ⟨_, rfl⟩
  rw [hu] at HR hcell
  clear hu
  cases u
  · have HE := Lib.hid (show cellR n ⟨rf, false, lf, it⟩ = false by rw [hcell]; rfl)
    clear hx hb0 hb1 hm hI hcell h0 h1 h2
    subst hW
    go_enter Tryz.func51, Tryz.ntmps51
    go_wp2_with (go_at_call 80; refine stop_here ?_)
    refine stop_on ?_
    generalize hW : World.alloc (World.alloc w _) _ = W at *
    clear hW
    refine HR.out.mono ?_
    rintro e w1 ⟨rfl, hx⟩
    have HX1 := Lib.hid (HX.out.trans hx)
    clear hx
    go_wp2_with fail
    go_ret
    exact ⟨ret_bool HE.out.symm, HX1.out⟩
  rw [Bool.true_and, places_told] at hcell
  have HE := Lib.hid hcell
  have HTD := Lib.hid (fun w' (hx' : Ext W w') => hpTold_any lf A it m c w' hm hm9 ((hI.ext hx).ext hx'))
  have HCF := Lib.hid (fun S t d w' (hx' : Ext W w') (ht : t = (toldL lf it).length) (hS : Sl w' S t d ((toldL lf it).map iv)) => hpHasOut_any (fun p => !isPl p n) (w.heap.size + 1) S (toldL lf it) t d w' ht hS (fun p => hpOut_any p (w.heap.size + 1) n w' ((HB1.out.ext hx').at 0 _ rfl)))
  generalize List.any _ _ = z at *
  generalize toldL lf it = ps at *
  clear hx hb0 hb1 hm hI hcell h0 h1 h2
  subst hW
  go_enter Tryz.func51, Tryz.ntmps51
  go_wp2_with (go_at_call 80; refine stop_here ?_)
  refine stop_on ?_
  generalize hW : World.alloc (World.alloc w _) _ = W at *
  clear hW
  refine HR.out.mono ?_
  rintro e w1 ⟨rfl, hx⟩
  have HXW := Lib.hid hx
  clear p0 p1 p2 p3
  obtain ⟨p0, p1, p2, p3⟩ := (HB0.out.ext hx).read4
  clear hx
  go_wp2_with (go_at_call 82; refine stop_here ?_)
  refine stop_on ?_
  refine (HTD.out _ HXW.out).mono ?_
  rintro e w2 ⟨S, t, d, rfl, ht, ho, hx⟩
  have HX2 := Lib.hid (HXW.out.trans hx)
  have HC2 := Lib.hid (HCF.out S t d w2 HX2.out ht (own_sl ho))
  clear ht ho hx p0 p1 p2 p3
  go_wp2_with (go_at_call 81; refine HC2.out.mono ?_; rintro e w3 ⟨rfl, rfl⟩)
  go_ret
  exact ⟨ret_bool HE.out.symm, HX.out.trans HX2.out⟩
set_option maxRecDepth 100000 in
set_option maxHeartbeats 1600000 in
theorem heapRight_any (R : Option Addr) (l : List HC) (n q : Nat) (keep : Int) (w : World) (hS : smallH ⟨l, keep⟩ 60 = true) (hA : HcSl w R n q l) :
    Calls Tryz.prog 25 #[.agg #[.slice R n q, .int .i64 keep]] w fun e w' => e = .returned (.bool (rightH ⟨l, keep⟩)) ∧ Ext w w' := by
  have hn := hA.1
  have hsm : n ≤ 60 ∧ ∀ k (hk : k < l.length), l[k].it.length ≤ 10 := by
    unfold smallH at hS
    simp only [Bool.and_eq_true, decide_eq_true_eq, List.all_eq_true] at hS
    exact ⟨by omega, fun k hk => (hS.2 _ (List.getElem_mem hk)).1⟩
  have hn60 := hsm.1
  have HSM := Lib.hid hsm.2
  have HX := Lib.hid ((Ext.refl w).alloc (.cells #[.slice R n q, .int .i64 keep] 30))
  have hb := Bx.new w #[.slice R n q, .int .i64 keep] 30
  have HB := Lib.hid hb
  have HA := Lib.hid (hA.ext HX.out)
  have HN := Lib.hid hn
  obtain ⟨b0, b1, b2⟩ := hb.read2
  clear hA hb hn hS hsm
  go_enter Tryz.func25, Tryz.ntmps25
  go_wp2_with fail
  generalize hW : World.alloc w _ = W at *
  clear hW
  go_loopw [8] (fun i wr => ∃ k : Nat, k ≤ n ∧ i = .int .i64 k ∧ Ext W wr ∧ ∀ j (hj : j < l.length), j < k → cellR n l[j] = true) (fun i _ => n - (intOf i).toNat)
  case atStart => exact ⟨0, Nat.zero_le _, rfl, Ext.refl _, fun j hj h => by omega⟩
  case round =>
    obtain ⟨k, hk, rfl, hx, hne⟩ := hrel
    have HNE := Lib.hid hne
    have HXR := Lib.hid hx
    clear hne b0 b1 b2
    obtain ⟨b0, b1, b2⟩ := (HB.out.ext hx).read2
    rcases Nat.lt_or_ge k n with hlt | hlt
    · have hkl : k < l.length := by rw [← HN.out]; exact hlt
      obtain ⟨b, off, rfl, hbl, A, c, r0, r1, r2, r3, hI⟩ := (HA.out.ext hx).cell hkl
      have hki : (k : Int) < (n : Int) := by omega
      have HF := Lib.hid (fun (h : cellR n l[k] = false) => rightH_bad (keep := keep) hkl (by rw [← HN.out]; exact h))
      have HK := Lib.hid (fun (h : cellR n l[k] = true) => (show ∀ j (hj : j < l.length), j < k + 1 → cellR n l[j] = true from fun j hj hjk => by
        rcases Nat.lt_or_ge j k with h' | h'
        · exact HNE.out j hj h'
        · obtain rfl : j = k := by omega
          exact h))
      have HC := Lib.hid (fun w' (hx : Ext wr w') => hpIsRight_any n l[k] A l[k].it.length c w' rfl (by have := HSM.out k hkl; omega) (hI.ext hx))
      clear HNE hI hx
      obtain ⟨u, hu⟩ : ∃ u, cellR n l[k] = u := ⟨_, rfl⟩
      rw [hu] at HF HK HC
      clear hu
      generalize hq : l[k] = x at *
      clear hq
      obtain ⟨rf, pn, lf, it⟩ := x
      simp only at r0 r1 r2 r3 HC
      generalize it.length = m at *
      have HXA := Lib.hid ((Ext.refl wr).alloc (.cells #[.int .i64 rf, .bool pn, .bool lf, .slice A m c] 61))
      cases u
      · have HE := Lib.hid (HF.out rfl)
        clear HF HK
        go_wp2_with (go_at_call 51; refine (HC.out _ HXA.out).mono ?_; rintro e w1 ⟨rfl, hx⟩; have HX1 := Lib.hid (HXA.out.trans hx); clear hx)
        go_ret
        exact ⟨ret_bool HE.out.symm, HX.out.trans (HXR.out.trans HX1.out)⟩
      · have HE := Lib.hid (HK.out rfl)
        clear HF HK
        go_wp2_with (go_at_call 51; refine (HC.out _ HXA.out).mono ?_; rintro e w1 ⟨rfl, hx⟩; have HX1 := Lib.hid (HXA.out.trans hx); clear hx)
        go_roundw
        case rel => exact ⟨k + 1, by omega, by go_num, HXR.out.trans HX1.out, HE.out⟩
        case measure => simp [intOf]; omega
    · obtain rfl : k = n := by omega
      have HSZ := Lib.hid (hpIsSize_any k keep wr)
      have HE := Lib.hid (show rightH ⟨l, keep⟩ = decide (newOk k keep) by
        by_cases h : newOk k keep
        · rw [decide_eq_true h]
          exact rightH_yes (l := l) (keep := keep) (by rw [← HN.out]; unfold newOk at h; omega) (fun j hj => by rw [← HN.out]; exact HNE.out j hj (by rw [HN.out]; exact hj))
        · rw [decide_eq_false h]
          exact rightH_no (l := l) (keep := keep) (by rw [← HN.out]; unfold newOk at h; omega))
      generalize decide (newOk k keep) = z at *
      clear hlt hx
      go_wp2_with (go_at_call 52; refine HSZ.out.mono ?_; rintro e w1 ⟨rfl, rfl⟩)
      go_ret
      exact ⟨ret_bool HE.out.symm, HX.out.trans HXR.out⟩
end Go.Proofs.YtjbfopnkeclfgaaGreat
