/- Walks of isSize, isPlace, isFree, used, hold and settle of package heap. Walks of told, copied and waiting of package heap. Walks of slices.Index, Contains, IndexFunc, ContainsFunc and of the closures of package heap. -/
import Derived.Test.YtbfbpddfcakieaaGreatK06
namespace Go.Proofs.YtbfbpddfcakieaaGreat
open Go.RowKit
attribute [local go_sem ↓] Go.wp_at_zero Go.wp_at_succ

def isPl (p n : Int) : Bool := decide (0 ≤ p) && decide (p < n)
set_option maxHeartbeats 800000 in
theorem hpIsPlace_any (p n : Int) (w : World) :
    Calls Tryz.prog 106 #[.int .i64 p, .int .i64 n] w fun e w' => e = .returned (.bool (isPl p n)) ∧ w = w' := by
  unfold isPl
  have hc : p < 0 ∨ (0 ≤ p ∧ n ≤ p) ∨ (0 ≤ p ∧ p < n) := by omega
  rcases hc with h | ⟨h, h1⟩ | ⟨h, h1⟩
  · have d0 : decide (0 ≤ p) = false := decide_eq_false (by omega)
    rw [d0]
    go_enter Tryz.func106, Tryz.ntmps106
    go_wp2
    go_ret
    exact ⟨rfl, rfl⟩
  · have d0 : decide (0 ≤ p) = true := decide_eq_true (by omega)
    have d1 : decide (p < n) = false := decide_eq_false (by omega)
    rw [d0, d1]
    go_enter Tryz.func106, Tryz.ntmps106
    go_wp2
    go_ret
    exact ⟨rfl, rfl⟩
  · have d0 : decide (0 ≤ p) = true := decide_eq_true (by omega)
    have d1 : decide (p < n) = true := decide_eq_true (by omega)
    rw [d0, d1]
    go_enter Tryz.func106, Tryz.ntmps106
    go_wp2
    go_ret
    exact ⟨rfl, rfl⟩
set_option maxHeartbeats 800000 in
theorem hpIsFree_any (r : Int) (pn lf : Bool) (A : Option Addr) (m c : Nat) (it : List It) (w : World) :
    Calls Tryz.prog 69 #[.agg #[.int .i64 r, .bool pn, .bool lf, .slice A m c]] w fun e w' => e = .returned (.bool (freeC ⟨r, pn, lf, it⟩)) ∧ Ext w w' := by
  have HX := Lib.hid ((Ext.refl w).alloc (.cells #[.int .i64 r, .bool pn, .bool lf, .slice A m c] 53))
  have hb := Bx.new w #[.int .i64 r, .bool pn, .bool lf, .slice A m c] 53
  obtain ⟨p0, p1, p2, p3⟩ := hb.read4
  clear hb
  unfold freeC
  by_cases h : r = 0
  · subst h
    cases pn
    · go_enter Tryz.func69, Tryz.ntmps69
      go_wp2
      go_ret
      exact ⟨by first | rfl | simp, HX.out⟩
    · go_enter Tryz.func69, Tryz.ntmps69
      go_wp2
      go_ret
      exact ⟨by first | rfl | simp, HX.out⟩
  · have d0 : decide (r = 0) = false := decide_eq_false h
    rw [d0]
    go_enter Tryz.func69, Tryz.ntmps69
    go_wp2
    go_ret
    exact ⟨by first | rfl | simp, HX.out⟩
set_option maxHeartbeats 800000 in
theorem hpUsed_any (R : Option Addr) (l : List HC) (n q : Nat) (p : Int) (w : World) (hA : HcSl w R n q l) :
    Calls Tryz.prog 84 #[.slice R n q, .int .i64 p] w fun e w' => e = .returned (.bool (usedC l p)) ∧ w = w' := by
  have hn := hA.1
  have HP := Lib.hid (hpIsPlace_any p n w)
  rcases Int.lt_or_le p 0 with h0 | h0
  · rw [usedC_neg h0]
    rw [show isPl p n = false by unfold isPl; rw [decide_eq_false (by omega)]; rfl] at HP
    clear hA hn
    go_enter Tryz.func84, Tryz.ntmps84
    go_wp2_with (go_at_call 106; refine HP.out.mono ?_; rintro e w1 ⟨rfl, rfl⟩)
    go_ret
    exact ⟨rfl, rfl⟩
  rcases Int.lt_or_le p n with h1 | h1
  · obtain ⟨k, rfl⟩ := Int.eq_ofNat_of_zero_le h0
    have hk : k < l.length := by omega
    rw [usedC_at hk]
    rw [show isPl (k : Int) n = true by unfold isPl; rw [decide_eq_true h0, decide_eq_true h1]; rfl] at HP
    obtain ⟨b, off, rfl, hbl, A, c, r0, r1, r2, r3, _⟩ := hA.cell hk
    have hki : (k : Int) < (n : Int) := h1
    clear hA hn h0 r1 r2 r3
    generalize l[k].ref = rf at *
    rcases Int.lt_or_le 0 rf with h | h
    · have d0 : decide (0 < rf) = true := decide_eq_true h
      rw [d0]
      go_enter Tryz.func84, Tryz.ntmps84
      go_wp2_with (go_at_call 106; refine HP.out.mono ?_; rintro e w1 ⟨rfl, rfl⟩)
      go_ret
      exact ⟨rfl, rfl⟩
    · have d0 : decide (0 < rf) = false := decide_eq_false (by omega)
      rw [d0]
      go_enter Tryz.func84, Tryz.ntmps84
      go_wp2_with (go_at_call 106; refine HP.out.mono ?_; rintro e w1 ⟨rfl, rfl⟩)
      go_ret
      exact ⟨rfl, rfl⟩
  · rw [usedC_big (by omega)]
    rw [show isPl p n = false by unfold isPl; rw [decide_eq_false (show ¬ p < n by omega)]; simp] at HP
    clear hA hn
    go_enter Tryz.func84, Tryz.ntmps84
    go_wp2_with (go_at_call 106; refine HP.out.mono ?_; rintro e w1 ⟨rfl, rfl⟩)
    go_ret
    exact ⟨rfl, rfl⟩

/-- A row of cells of the call's own: it was made behind the world v, in which the nodes of its cells lie. -/
def Own (v w : World) (g cap : Nat) (l : List HC) : Prop := ∃ cs, w.ownsRow v.heap.size 53 4 (.slice (some ⟨g, 0, none⟩) l.length cap) l.length cs ∧ HcAt v cs l ∧ Ext v w
theorem Own.ext {v w w' : World} {g cap : Nat} {l : List HC} (h : Own v w g cap l) (hx : Ext w w') : Own v w' g cap l := by
  obtain ⟨cs, h1, h2, h3⟩ := h
  exact ⟨cs, own_ext h1 hx, h2, h3.trans hx⟩
theorem Own.sl {v w : World} {g cap : Nat} {l : List HC} (h : Own v w g cap l) : HcSl w (some ⟨g, 0, none⟩) l.length cap l := by
  obtain ⟨cs, h1, h2, h3⟩ := h
  exact ⟨rfl, cs, own_sl h1, h2.ext h3⟩
theorem Own.ge {v w : World} {g cap : Nat} {l : List HC} (h : Own v w g cap l) : v.heap.size ≤ g ∧ g < w.heap.size := by
  obtain ⟨cs, h1, h2, h3⟩ := h
  exact h1.lt g rfl
theorem Own.free {v w : World} {g cap : Nat} {l : List HC} (h : Own v w g cap l) (j : Nat) : w.frozen? ⟨g, j, none⟩ = false := by
  obtain ⟨cs, h1, h2, h3⟩ := h
  exact own_free h1 j
theorem Own.cell {v w : World} {g cap : Nat} {l : List HC} (h : Own v w g cap l) {k : Nat} (hk : k < l.length) :
    ∃ A c, w.cell? ⟨g, k * 4, none⟩ = some (.int .i64 l[k].ref) ∧ w.cell? ⟨g, k * 4 + 1, none⟩ = some (.bool l[k].pin) ∧ w.cell? ⟨g, k * 4 + 2, none⟩ = some (.bool l[k].leaf) ∧ w.cell? ⟨g, k * 4 + 3, none⟩ = some (.slice A l[k].it.length c) ∧ Sl v A l[k].it.length c (ivs l[k].it) := by
  obtain ⟨cs, h1, h2, h3⟩ := h
  obtain ⟨A, c, e1, e2, e3, e4, h5⟩ := h2.2 k hk
  have hl := h1.1
  exact ⟨A, c, (h1.cellAt (k * 4) (by omega)).trans e1, (h1.cellAt (k * 4 + 1) (by omega)).trans e2, (h1.cellAt (k * 4 + 2) (by omega)).trans e3, (h1.cellAt (k * 4 + 3) (by omega)).trans e4, h5⟩
theorem set_same {α : Type} {l : List α} {k : Nat} {x : α} (h : l[k]? = some x) : l.set k x = l := by
  obtain ⟨hk, rfl⟩ := List.getElem?_eq_some_iff.1 h
  exact List.set_getElem_self hk
/-- One number of a cell is written. -/
theorem Own.ref {v w : World} {g cap : Nat} {l : List HC} (h : Own v w g cap l) {k : Nat} (hk : k < l.length) (r : Int) :
    Own v (w.setCell ⟨g, k * 4, none⟩ (.int .i64 r)) g cap (l.set k ⟨r, l[k].pin, l[k].leaf, l[k].it⟩) := by
  have hg := h.ge
  obtain ⟨cs, h1, h2, h3⟩ := h
  obtain ⟨A, c, e1, e2, e3, e4, h5⟩ := h2.2 k hk
  have hs := h2.set hk ⟨r, l[k].pin, l[k].leaf, l[k].it⟩ h5
  have hl := h2.1
  simp only at hs
  rw [set_same (l := (((cs.set (k * 4) _).set (k * 4 + 1) _).set (k * 4 + 2) _)) (by rw [List.getElem?_set_ne (by omega), List.getElem?_set_ne (by omega), List.getElem?_set_ne (by omega)]; exact e4)] at hs
  rw [set_same (l := ((cs.set (k * 4) _).set (k * 4 + 1) _)) (by rw [List.getElem?_set_ne (by omega), List.getElem?_set_ne (by omega)]; exact e3)] at hs
  rw [set_same (l := (cs.set (k * 4) _)) (by rw [List.getElem?_set_ne (by omega)]; exact e2)] at hs
  refine ⟨_, ?_, hs, h3.set hg.1 _⟩
  rw [List.length_set]
  exact own_set h1 (by omega) _
theorem Own.pin {v w : World} {g cap : Nat} {l : List HC} (h : Own v w g cap l) {k : Nat} (hk : k < l.length) (b : Bool) :
    Own v (w.setCell ⟨g, k * 4 + 1, none⟩ (.bool b)) g cap (l.set k ⟨l[k].ref, b, l[k].leaf, l[k].it⟩) := by
  have hg := h.ge
  obtain ⟨cs, h1, h2, h3⟩ := h
  obtain ⟨A, c, e1, e2, e3, e4, h5⟩ := h2.2 k hk
  have hs := h2.set hk ⟨l[k].ref, b, l[k].leaf, l[k].it⟩ h5
  have hl := h2.1
  simp only at hs
  rw [set_same (l := (((cs.set (k * 4) _).set (k * 4 + 1) _).set (k * 4 + 2) _)) (by rw [List.getElem?_set_ne (by omega), List.getElem?_set_ne (by omega), List.getElem?_set_ne (by omega)]; exact e4)] at hs
  rw [set_same (l := ((cs.set (k * 4) _).set (k * 4 + 1) _)) (by rw [List.getElem?_set_ne (by omega), List.getElem?_set_ne (by omega)]; exact e3)] at hs
  rw [set_same (l := cs) e1] at hs
  refine ⟨_, ?_, hs, h3.set hg.1 _⟩
  rw [List.length_set]
  exact own_set h1 (by omega) _
/-- A whole cell is written. -/
theorem Own.set {v w : World} {g cap : Nat} {l : List HC} (h : Own v w g cap l) {k : Nat} (hk : k < l.length) (x : HC) {A : Option Addr} {c : Nat} (hs : Sl v A x.it.length c (ivs x.it)) :
    Own v ((((w.setCell ⟨g, k * 4, none⟩ (.int .i64 x.ref)).setCell ⟨g, k * 4 + 1, none⟩ (.bool x.pin)).setCell ⟨g, k * 4 + 2, none⟩ (.bool x.leaf)).setCell ⟨g, k * 4 + 3, none⟩ (.slice A x.it.length c)) g cap (l.set k x) := by
  have hg := h.ge
  obtain ⟨cs, h1, h2, h3⟩ := h
  refine ⟨_, ?_, h2.set hk x hs, (((h3.set hg.1 _).set hg.1 _).set hg.1 _).set hg.1 _⟩
  rw [List.length_set]
  exact own_hc h1 hk _ _ _ _

theorem grown_set (w : World) (g j : Nat) (u : Value) : w.grownBy (w.setCell ⟨g, j, none⟩ u) (some g) :=
  ⟨rfl, rfl, rfl, by simp [World.setCell], fun i _ hi => Below.heap_setCell _ _ _ _ (by simpa using hi)⟩
set_option maxRecDepth 100000 in
set_option maxHeartbeats 800000 in
theorem hpHold_at (v : World) (g cap k : Nat) (l : List HC) (n : Nat) (w : World) (hn : n = l.length) (hk : k < l.length) (hr : -9000000000000000000 ≤ l[k].ref ∧ l[k].ref ≤ 9000000000000000000) (hO : Own v w g cap l) :
    Calls Tryz.prog 58 #[.slice (some ⟨g, 0, none⟩) n cap, .int .i64 k] w fun e w' => e = .returned (.tuple #[]) ∧ Own v w' g cap (l.set k l[k].more) ∧ w.grownBy w' (some g) := by
  subst hn
  obtain ⟨A, c, r0, r1, r2, r3, _⟩ := hO.cell hk
  have f0 := hO.free (k * 4)
  have HO := Lib.hid (hO.ref hk (l[k].ref + 1))
  have hki : (k : Int) < (l.length : Int) := by omega
  clear hO
  unfold HC.more
  generalize l.set k _ = l' at *
  generalize l[k].ref = rf at *
  go_enter Tryz.func58, Tryz.ntmps58
  go_wp2_with fail
  go_end0
  exact ⟨rfl, HO.out, grown_set _ _ _ _⟩
end Go.Proofs.YtbfbpddfcakieaaGreat
namespace Go.Proofs.YtbfbpddfcakieaaGreat
open Go.RowKit
attribute [local go_sem ↓] Go.wp_at_zero Go.wp_at_succ

theorem infoI0 : (Tryz.prog.info? 3).map (fun i => (i.zero, i.size, i.bytes)) = some (some (.int .i64 0), 1, 8) := by kernel_rfl
theorem made_zeros (n : Nat) : (madeCells (Value.int .i64 0).cells (n * 1)).toList = List.replicate n (iv 0) := by
  have hz : (Value.int .i64 0).cells = #[.int .i64 0] := by simp [Value.cells]
  rw [hz]
  apply List.ext_getElem?
  intro i
  simp only [madeCells, iv, Nat.mul_one, Array.toList_map, Array.toList_range, List.getElem?_map, List.getElem?_replicate]
  by_cases h : i < n
  · simp [h, Nat.mod_one]
  · simp [h]
/-- A node's places. -/
def toldL (leaf : Bool) (it : List It) : List Int := if leaf then [] else it.map Prod.snd
def toldK (it : List It) (k : Nat) : List Value := (it.take k).map (fun x => iv x.2) ++ List.replicate (it.length - k) (iv 0)
theorem toldK_len (it : List It) (k : Nat) : (toldK it k).length = it.length := by unfold toldK; simp; omega
theorem toldK_zero (it : List It) : toldK it 0 = List.replicate it.length (iv 0) := by unfold toldK; simp
theorem toldK_all (it : List It) : toldK it it.length = (toldL false it).map iv := by unfold toldK toldL; simp
theorem toldK_succ {it : List It} {k : Nat} (hk : k < it.length) : (toldK it k).set k (iv it[k].2) = toldK it (k + 1) := by
  unfold toldK
  have h : (List.map (fun x : It => iv x.2) (it.take k)).length = k := by rw [List.length_map, List.length_take]; omega
  rw [List.take_succ_eq_append_getElem hk, List.map_append, List.set_append, if_neg (by omega), h, Nat.sub_self, List.append_assoc]
  rw [show it.length - k = (it.length - (k + 1)) + 1 by omega, List.replicate_succ]
  rfl
set_option maxRecDepth 100000 in
set_option maxHeartbeats 1600000 in
theorem hpTold_any (leaf : Bool) (A : Option Addr) (it : List It) (m c : Nat) (w : World) (hm : m = it.length) (hb : m ≤ 90000) (hI : Sl w A m c (ivs it)) :
    Calls Tryz.prog 79 #[.agg #[.bool leaf, .slice A m c]] w fun e w' => ∃ S t d, e = .returned (.slice S t d) ∧ t = (toldL leaf it).length ∧ w'.ownsRow w.heap.size 3 1 (.slice S t d) t ((toldL leaf it).map iv) ∧ Ext w w' := by
  obtain ⟨W, hW⟩ : ∃ W, w.alloc (.cells #[.bool leaf, .slice A m c] 51) = W := ⟨_, rfl⟩
  obtain ⟨hx, hb0⟩ := allocs1 hW
  have hsz : W.heap.size = w.heap.size + 1 := by rw [← hW]; simp
  have HX := Lib.hid hx
  have HB0 := Lib.hid hb0
  have HI := Lib.hid hI
  have HSZ := Lib.hid hsz
  have HM := Lib.hid hm
  obtain ⟨p0, p1, p2⟩ := hb0.read2
  clear hx hb0 hI hsz hm
  cases leaf
  rotate_left
  · go_enter Tryz.func79, Tryz.ntmps79
    go_wp2_with fail
    go_ret
    exact ⟨none, 0, 0, rfl, rfl, ⟨rfl, .inl ⟨rfl, rfl⟩⟩, HX.out⟩
  obtain ⟨i0, hi, hz0, hz1, hz2⟩ := info_parts infoI0
  have HIN := Lib.hid hi
  have HZ0 := Lib.hid hz0
  have HZ1 := Lib.hid hz1
  have HZ2 := Lib.hid hz2
  clear hi hz0 hz1 hz2
  subst hW
  go_enter Tryz.func79, Tryz.ntmps79
  go_wp2_with (at_make; refine stop_here ?_)
  refine stop_on ?_
  generalize hW : World.alloc w _ = W at *
  refine wpList_make_cap _ rfl _ _ 38 rfl 3 i0 _ Tryz.underlying38 HIN.out HZ0.out _ _ _ _ m m rfl rfl (by omega) (by omega) (by omega) (by rw [HZ2.out]; omega) (by unfold maxLen; omega) ?_
  rw [HZ1.out, HSZ.out]
  have HO := Lib.hid (show (W.alloc (.cells (madeCells (Value.int .i64 0).cells (m * 1)) 3)).ownsRow w.heap.size 3 1 (.slice (some ⟨w.heap.size + 1, 0, none⟩) m m) m (toldK it 0) from by
    have h := heap_alloc_new W (.cells (madeCells (Value.int .i64 0).cells (m * 1)) 3)
    rw [HSZ.out] at h
    have hs := size_madeCells (Value.int .i64 0).cells (m * 1)
    refine ⟨by rw [toldK_len, ← HM.out]; omega, .inr ⟨w.heap.size + 1, m, _, rfl, by omega, h, Nat.le_refl _, by unfold maxLen; omega, hs, ?_⟩⟩
    rw [made_zeros, toldK_zero, ← HM.out]
    simp)
  have HX1 := Lib.hid (HX.out.alloc (.cells (madeCells (Value.int .i64 0).cells (m * 1)) 3))
  have HXW := Lib.hid ((Ext.refl W).alloc (.cells (madeCells (Value.int .i64 0).cells (m * 1)) 3))
  clear p0 p1 p2
  obtain ⟨p0, p1, p2⟩ := (HB0.out.ext HXW.out).read2
  generalize World.alloc W _ = W1 at *
  go_wp2_with fail
  go_loopw [15] (fun i wr => ∃ k : Nat, k ≤ m ∧ i = .int .i64 k ∧ wr.ownsRow w.heap.size 3 1 (.slice (some ⟨w.heap.size + 1, 0, none⟩) m m) m (toldK it k) ∧ Ext w wr) (fun i _ => m - (intOf i).toNat)
  case atStart => exact ⟨0, Nat.zero_le _, rfl, HO.out, HX1.out⟩
  case round =>
    obtain ⟨k, hk, rfl, ho, hx⟩ := hrel
    have HXR := Lib.hid hx
    rcases Nat.lt_or_ge k m with hlt | hlt
    · have hkl : k < it.length := by rw [← HM.out]; exact hlt
      obtain ⟨bi, oi, rfl, hbi, hc⟩ := (HI.out.ext hx).cells.it hkl
      obtain ⟨c0, c1⟩ := hc k hkl
      have hki : (k : Int) < (m : Int) := by omega
      have HS := Lib.hid (toldK_succ hkl)
      have f0 := own_free ho k
      have hg1 : w.heap.size + 1 < wr.heap.size := (ho.lt _ rfl).2
      obtain ⟨z, hz⟩ : ∃ z, wr.cell? ⟨w.heap.size + 1, k, none⟩ = some z := by
        have := ho.cellAt k (by omega)
        rw [this, List.getElem?_eq_getElem (by rw [toldK_len, ← HM.out]; exact hlt)]
        exact ⟨_, rfl⟩
      have HOK := Lib.hid ho
      clear hx ho hc
      generalize it[k] = x at *
      obtain ⟨K, V⟩ := x
      simp only at c0 c1 HS
      have HO2 := Lib.hid (own_ext (own_set HOK.out (j := k) (by omega) (.int .i64 V)) ((Ext.refl _).alloc (.cells #[.int .i64 K, .int .i64 V] 46)))
      have HX2 := Lib.hid ((HXR.out.set (p := ⟨w.heap.size + 1, k, none⟩) (by simp) (.int .i64 V)).alloc (.cells #[.int .i64 K, .int .i64 V] 46))
      go_wp2_with fail
      go_roundw
      case rel => exact ⟨k + 1, by omega, by go_num, by rw [← HS.out]; exact HO2.out, HX2.out⟩
      case measure => simp [intOf]; omega
    · obtain rfl : k = m := by omega
      have HE := Lib.hid (toldK_all it)
      have ht : k = (toldL false it).length := by unfold toldL; simp; exact HM.out
      have HT := Lib.hid ht
      rw [HM.out, HE.out, ← HM.out] at ho
      have HOK := Lib.hid ho
      clear hx ho hlt ht
      go_wp2_with fail
      go_ret
      exact ⟨_, _, _, rfl, HT.out, HOK.out, HXR.out⟩
theorem hpl_lit' {w : World} {z : Nat} (hz : z = w.heap.size) (e n : Nat) (xs : List Value) (hn : n ≤ maxLen) : Sl (w.alloc (.cells xs.toArray e)) (some ⟨z, 0, none⟩) n n xs := by subst hz; exact sl_lit w e n xs hn
theorem hpv_one (l : List Int) : ∀ u ∈ l.map iv, u.oneCell' = true := by
  intro u hu
  obtain ⟨_, _, rfl⟩ := List.mem_map.1 hu
  rfl
set_option maxHeartbeats 1000000 in
set_option maxRecDepth 20000 in
theorem hpCopiedI_any (A : Option Addr) (it : List It) (m c : Nat) (w : World) (hm : m = it.length) (hb : m ≤ 90000) (hI : Sl w A m c (ivs it)) :
    Calls Tryz.prog 83 #[.slice A m c] w fun e w' => ∃ S d, e = .returned (.slice S m d) ∧ w'.ownsRow w.heap.size 46 2 (.slice S m d) m (ivs it) ∧ Ext w w' := by
  have HM := Lib.hid hm
  have HN := Lib.hid hI.1
  have HA := Lib.hid hI.cells
  have hi9 := ivs_length it
  rw [← hm] at hi9
  have HL := Lib.hid hi9
  clear hI hm hi9
  obtain ⟨i0, hi, hz0, hz1, hz2⟩ := info_parts infoIt
  have HI := Lib.hid hi
  have HZ0 := Lib.hid hz0
  have HZ1 := Lib.hid hz1
  have HZ2 := Lib.hid hz2
  clear hi hz0 hz1 hz2
  go_enter Tryz.func83, Tryz.ntmps83
  go_wp2_with (at_make; refine stop_here ?_)
  refine stop_on ?_
  refine wpList_make_cap _ rfl _ _ 47 rfl 46 i0 _ Tryz.underlying47 HI.out HZ0.out _ _ _ _ m m rfl rfl (by omega) (by omega) (by omega) (by rw [HZ2.out]; omega) (by unfold maxLen; omega) ?_
  rw [HZ1.out]
  obtain ⟨cur, hcur⟩ : ∃ cur, cur = madeCells (Value.agg #[.int .i64 0, .int .i64 0]).cells (m * 2) := ⟨_, rfl⟩
  have hsz : cur.size = m * 2 := by rw [hcur]; exact size_madeCells _ _
  rw [← hcur]
  clear hcur
  have HS := Lib.hid hsz
  clear hsz
  have HO := Lib.hid (own_copied w m m 2 46 cur (ivs it) (by unfold maxLen; omega) (Nat.le_refl _) HS.out HL.out)
  have hrun := run_copy_head (P := Tryz.prog) (w.alloc (.cells cur 46)) 47 47 3 46 i0 Tryz.underlying47 HI.out w.heap.size m m c A cur 46 (heap_alloc_new w _) (ivs it) (by rw [HZ1.out]; exact HL.out) HN.out (HA.out.ext ((Ext.refl w).alloc _)) (by rw [HS.out, HL.out]; omega) (ivs_oneCell it) (fun h => by have := (HA.out).len_none h; rw [HL.out] at this; omega)
  obtain ⟨w1, hw1⟩ : ∃ w1, w1 = (w.alloc (.cells cur 46)).setRow w.heap.size (ivs it ++ cur.toList.drop (ivs it).length).toArray := ⟨_, rfl⟩
  rw [← hw1] at HO hrun
  clear hw1
  go_wp2
  go_ret
  exact ⟨_, _, rfl, HO.out.1, HO.out.2⟩
set_option maxHeartbeats 1000000 in
set_option maxRecDepth 20000 in
theorem hpCopiedC_cs (R : Option Addr) (l : List HC) (n q : Nat) (w : World) (cs : List Value) (hn : n = l.length) (hb : n ≤ 90000) (hsl : Sl w R n q cs) (hat : HcAt w cs l) :
    Calls Tryz.prog 102 #[.slice R n q] w fun e w' => ∃ g, e = .returned (.slice (some ⟨g, 0, none⟩) n n) ∧ w'.ownsRow w.heap.size 53 4 (.slice (some ⟨g, 0, none⟩) l.length n) l.length cs ∧ Ext w w' := by
  have HM := Lib.hid hn
  have HN := Lib.hid hsl.1
  have HA := Lib.hid hsl.cells
  have H1 := Lib.hid (hc_one hat)
  have hl9 := hat.1
  rw [← hn] at hl9
  have HL := Lib.hid hl9
  clear hsl hat hl9 hn
  obtain ⟨i0, hi, hz0, hz1, hz2⟩ := info_parts infoHc
  have HI := Lib.hid hi
  have HZ0 := Lib.hid hz0
  have HZ1 := Lib.hid hz1
  have HZ2 := Lib.hid hz2
  clear hi hz0 hz1 hz2
  go_enter Tryz.func102, Tryz.ntmps102
  go_wp2_with (at_make; refine stop_here ?_)
  refine stop_on ?_
  refine wpList_make_cap _ rfl _ _ 22 rfl 53 i0 _ Tryz.underlying22 HI.out HZ0.out _ _ _ _ n n rfl rfl (by omega) (by omega) (by omega) (by rw [HZ2.out]; omega) (by unfold maxLen; omega) ?_
  rw [HZ1.out]
  obtain ⟨cur, hcur⟩ : ∃ cur, cur = madeCells (Value.agg #[.int .i64 0, .bool false, .bool false, .slice none 0 0]).cells (n * 4) := ⟨_, rfl⟩
  have hsz : cur.size = n * 4 := by rw [hcur]; exact size_madeCells _ _
  rw [← hcur]
  clear hcur
  have HS := Lib.hid hsz
  clear hsz
  have HO := Lib.hid (own_copied w n n 4 53 cur cs (by unfold maxLen; omega) (Nat.le_refl _) HS.out HL.out)
  have hrun := run_copy_head (P := Tryz.prog) (w.alloc (.cells cur 53)) 22 22 3 53 i0 Tryz.underlying22 HI.out w.heap.size n n q R cur 53 (heap_alloc_new w _) cs (by rw [HZ1.out]; exact HL.out) HN.out (HA.out.ext ((Ext.refl w).alloc _)) (by rw [HS.out, HL.out]; omega) H1.out (fun h => by have := (HA.out).len_none h; rw [HL.out] at this; omega)
  obtain ⟨w1, hw1⟩ : ∃ w1, w1 = (w.alloc (.cells cur 53)).setRow w.heap.size (cs ++ cur.toList.drop cs.length).toArray := ⟨_, rfl⟩
  rw [← hw1] at HO hrun
  clear hw1
  go_wp2
  go_ret
  exact ⟨w.heap.size, rfl, by rw [← HM.out]; exact HO.out.1, HO.out.2⟩

/-- The places of cells with a Pin. -/
def waitK (l : List HC) (k : Nat) : List Int := ((List.range k).filter (fun j => (l.getD j HC.none).pin)).map Int.ofNat
theorem waitK_succ {l : List HC} {k : Nat} (hk : k < l.length) : waitK l (k + 1) = waitK l k ++ (if l[k].pin then [(k : Int)] else []) := by
  unfold waitK
  rw [List.range_succ, List.filter_append, List.map_append]
  congr 1
  rw [List.filter_cons, List.getD_eq_getElem?_getD, List.getElem?_eq_getElem hk, Option.getD_some]
  cases l[k].pin <;> rfl
theorem waitK_len (l : List HC) (k : Nat) : (waitK l k).length ≤ k := by
  unfold waitK
  rw [List.length_map]
  have := List.length_filter_le (fun j => (l.getD j HC.none).pin) (List.range k)
  simpa using this
end Go.Proofs.YtbfbpddfcakieaaGreat
namespace Go.Proofs.YtbfbpddfcakieaaGreat
open Go.RowKit
attribute [local go_sem ↓] Go.wp_at_zero Go.wp_at_succ

/-- The first place at which f holds, or -1. -/
def idxBy {α : Type} (f : α → Bool) (l : List α) : Int := if l.any f then (l.findIdx f : Nat) else -1
theorem idx_hit {α : Type} {f : α → Bool} {l : List α} {k : Nat} (hk : k < l.length) (h : f l[k] = true) (hb : ∀ j (hj : j < l.length), j < k → f l[j] = false) : idxBy f l = (k : Int) := by
  unfold idxBy
  rw [if_pos (by rw [List.any_eq_true]; exact ⟨l[k], List.getElem_mem hk, h⟩), (List.findIdx_eq hk).2 ⟨h, fun j hj => hb j (by omega) hj⟩]
theorem idx_none {α : Type} {f : α → Bool} {l : List α} (hb : ∀ j (hj : j < l.length), f l[j] = false) : idxBy f l = -1 := by
  unfold idxBy
  have h : l.any f = false := by
    rw [List.any_eq_false]
    intro y hy
    obtain ⟨i, hi, rfl⟩ := List.mem_iff_getElem.1 hy
    simpa using hb i hi
  rw [h]; rfl
theorem idx_any {α : Type} (f : α → Bool) (l : List α) : decide (0 ≤ idxBy f l) = l.any f := by
  unfold idxBy
  cases h : l.any f
  · rfl
  · simp
set_option maxRecDepth 100000 in
set_option maxHeartbeats 1600000 in
theorem hpIndex_any (S : Option Addr) (l : List Int) (t d : Nat) (x : Int) (w : World) (ht : t = l.length) (hS : Sl w S t d (l.map iv)) :
    Calls Tryz.prog 109 #[.slice S t d, .int .i64 x] w fun e w' => e = .returned (.int .i64 (idxBy (fun y => decide (y = x)) l)) ∧ w = w' := by
  have hl := hS.len
  unfold maxLen at hl
  have HT := Lib.hid ht
  have HS := Lib.hid hS.cells
  clear ht hS
  go_enter Tryz.func109, Tryz.ntmps109
  go_wp2_with fail
  go_loopw [8] (fun i wr => ∃ k : Nat, k ≤ t ∧ i = .int .i64 k ∧ (∀ j (hj : j < l.length), j < k → decide (l[j] = x) = false) ∧ w = wr) (fun i _ => t - (intOf i).toNat)
  case atStart => exact ⟨0, Nat.zero_le _, rfl, fun _ _ h => by omega, rfl⟩
  case round =>
    obtain ⟨k, hk, rfl, hb, rfl⟩ := hrel
    have HB := Lib.hid hb
    clear hb
    rcases Nat.lt_or_ge k t with hlt | hlt
    · have hkl : k < l.length := by rw [← HT.out]; exact hlt
      obtain ⟨b, off, rfl, hbl, hc⟩ := HS.out.num hkl
      have hck := hc k hkl
      have hki : (k : Int) < (t : Int) := by omega
      have HH := Lib.hid (fun h => idx_hit (f := fun y => decide (y = x)) hkl h HB.out)
      have HN := Lib.hid (fun (h : decide (l[k] = x) = false) => (show ∀ j (hj : j < l.length), j < k + 1 → decide (l[j] = x) = false from fun j hj hjk => by
        rcases Nat.lt_or_ge j k with h' | h'
        · exact HB.out j hj h'
        · obtain rfl : j = k := by omega
          exact h))
      clear hc HB
      generalize l[k] = y at *
      by_cases he : y = x
      · have HE := Lib.hid (HH.out (by simpa using he))
        have d0 : decide (x = y) = true := decide_eq_true he.symm
        have d1 : (x == y) = true := by simpa using he.symm
        clear he HH HN
        go_wp2_with fail
        go_ret
        exact ⟨ret_int HE.out.symm, rfl⟩
      · have HE := Lib.hid (HN.out (decide_eq_false he))
        have d0 : decide (x = y) = false := decide_eq_false (fun h => he h.symm)
        have d1 : (x == y) = false := by simpa using (fun h : x = y => he h.symm)
        clear he HH HN
        go_wp2_with fail
        go_roundw
        case rel => exact ⟨k + 1, by omega, by go_num, HE.out, by first | rfl | trivial⟩
        case measure => simp [intOf]; omega
    · obtain rfl : k = t := by omega
      have HE := Lib.hid (idx_none (f := fun y => decide (y = x)) (fun j hj => HB.out j hj (by rw [HT.out]; exact hj)))
      clear hlt
      go_wp2_with fail
      go_ret
      exact ⟨ret_int HE.out.symm, rfl⟩
set_option maxHeartbeats 800000 in
theorem hpContains_any (S : Option Addr) (l : List Int) (t d : Nat) (x : Int) (w : World) (ht : t = l.length) (hS : Sl w S t d (l.map iv)) :
    Calls Tryz.prog 105 #[.slice S t d, .int .i64 x] w fun e w' => e = .returned (.bool (inL l x)) ∧ w = w' := by
  have HI := Lib.hid (hpIndex_any S l t d x w ht hS)
  have he := idx_any (fun y => decide (y = x)) l
  rw [show inL l x = l.any (fun y => decide (y = x)) from rfl, ← he]
  generalize idxBy (fun y => decide (y = x)) l = z at *
  clear he ht hS
  go_enter Tryz.func105, Tryz.ntmps105
  go_wp2_with (go_at_call 109; refine HI.out.mono ?_; rintro e w1 ⟨rfl, rfl⟩)
  go_ret
  exact ⟨by first | rfl | simp, rfl⟩
set_option maxHeartbeats 800000 in
theorem hpUnused_any (p : Int) (kb : Nat) (R : Option Addr) (l : List HC) (n q : Nat) (w : World) (hb : w.cell? ⟨kb, 0, none⟩ = some (.slice R n q)) (hA : HcSl w R n q l) :
    Calls Tryz.prog 101 #[.int .i64 p, .pointer (some ⟨kb, 0, none⟩)] w fun e w' => e = .returned (.bool (!usedC l p)) ∧ w = w' := by
  have HP := Lib.hid (hpUsed_any R l n q p w hA)
  generalize usedC l p = z at *
  clear hA
  go_enter Tryz.func101, Tryz.ntmps101
  go_wp2_with (go_at_call 84; refine HP.out.mono ?_; rintro e w1 ⟨rfl, rfl⟩)
  go_ret
  exact ⟨by first | rfl | simp, rfl⟩
set_option maxHeartbeats 800000 in
theorem hpGone_any (p : Int) (kb : Nat) (S : Option Addr) (l : List Int) (t d : Nat) (w : World) (hb : w.cell? ⟨kb, 0, none⟩ = some (.slice S t d)) (ht : t = l.length) (hS : Sl w S t d (l.map iv)) :
    Calls Tryz.prog 104 #[.int .i64 p, .pointer (some ⟨kb, 0, none⟩)] w fun e w' => e = .returned (.bool (inL l p)) ∧ w = w' := by
  have HP := Lib.hid (hpContains_any S l t d p w ht hS)
  generalize inL l p = z at *
  clear hS ht
  go_enter Tryz.func104, Tryz.ntmps104
  go_wp2_with (go_at_call 105; refine HP.out.mono ?_; rintro e w1 ⟨rfl, rfl⟩)
  go_ret
  exact ⟨rfl, rfl⟩
set_option maxRecDepth 100000 in
set_option maxHeartbeats 1600000 in
theorem hpIdxUnused_any (f : Int → Bool) (kb : Nat) (S : Option Addr) (l : List Int) (t d : Nat) (w : World) (ht : t = l.length) (hS : Sl w S t d (l.map iv))
    (hF : ∀ p, Calls Tryz.prog 101 #[.int .i64 p, .pointer (some ⟨kb, 0, none⟩)] w fun e w' => e = .returned (.bool (f p)) ∧ w = w') :
    Calls Tryz.prog 108 #[.slice S t d, .func (.func 101) #[] #[.pointer (some ⟨kb, 0, none⟩)]] w fun e w' => e = .returned (.int .i64 (idxBy f l)) ∧ w = w' := by
  have hl := hS.len
  unfold maxLen at hl
  have HT := Lib.hid ht
  have HS := Lib.hid hS.cells
  have HF := Lib.hid hF
  clear ht hS hF
  go_enter Tryz.func108, Tryz.ntmps108
  go_wp2_with fail
  go_loopw [8] (fun i wr => ∃ k : Nat, k ≤ t ∧ i = .int .i64 k ∧ (∀ j (hj : j < l.length), j < k → f l[j] = false) ∧ w = wr) (fun i _ => t - (intOf i).toNat)
  case atStart => exact ⟨0, Nat.zero_le _, rfl, fun _ _ h => by omega, rfl⟩
  case round =>
    obtain ⟨k, hk, rfl, hb, rfl⟩ := hrel
    have HB := Lib.hid hb
    clear hb
    rcases Nat.lt_or_ge k t with hlt | hlt
    · have hkl : k < l.length := by rw [← HT.out]; exact hlt
      obtain ⟨b, off, rfl, hbl, hc⟩ := HS.out.num hkl
      have hck := hc k hkl
      have hki : (k : Int) < (t : Int) := by omega
      have HH := Lib.hid (fun h => idx_hit (f := f) hkl h HB.out)
      have HN := Lib.hid (fun (h : f l[k] = false) => (show ∀ j (hj : j < l.length), j < k + 1 → f l[j] = false from fun j hj hjk => by
        rcases Nat.lt_or_ge j k with h' | h'
        · exact HB.out j hj h'
        · obtain rfl : j = k := by omega
          exact h))
      have HC := Lib.hid (HF.out l[k])
      clear hc HB
      generalize l[k] = y at *
      generalize f y = fy at *
      cases fy
      · have HE := Lib.hid (HN.out rfl)
        clear HH HN
        go_wp2_with (go_at_call 101; refine HC.out.mono ?_; rintro e w1 ⟨rfl, rfl⟩)
        go_roundw
        case rel => exact ⟨k + 1, by omega, by go_num, HE.out, by first | rfl | trivial⟩
        case measure => simp [intOf]; omega
      · have HE := Lib.hid (HH.out rfl)
        clear HH HN
        go_wp2_with (go_at_call 101; refine HC.out.mono ?_; rintro e w1 ⟨rfl, rfl⟩)
        go_ret
        exact ⟨ret_int HE.out.symm, rfl⟩
    · obtain rfl : k = t := by omega
      have HE := Lib.hid (idx_none (f := f) (fun j hj => HB.out j hj (by rw [HT.out]; exact hj)))
      clear hlt
      go_wp2_with fail
      go_ret
      exact ⟨ret_int HE.out.symm, rfl⟩
set_option maxHeartbeats 800000 in
theorem hpHasUnused_any (f : Int → Bool) (kb : Nat) (S : Option Addr) (l : List Int) (t d : Nat) (w : World) (ht : t = l.length) (hS : Sl w S t d (l.map iv))
    (hF : ∀ p, Calls Tryz.prog 101 #[.int .i64 p, .pointer (some ⟨kb, 0, none⟩)] w fun e w' => e = .returned (.bool (f p)) ∧ w = w') :
    Calls Tryz.prog 100 #[.slice S t d, .func (.func 101) #[] #[.pointer (some ⟨kb, 0, none⟩)]] w fun e w' => e = .returned (.bool (l.any f)) ∧ w = w' := by
  have HI := Lib.hid (hpIdxUnused_any f kb S l t d w ht hS hF)
  rw [← idx_any f l]
  generalize idxBy f l = z at *
  clear ht hS hF
  go_enter Tryz.func100, Tryz.ntmps100
  go_wp2_with (go_at_call 108; refine HI.out.mono ?_; rintro e w1 ⟨rfl, rfl⟩)
  go_ret
  exact ⟨by first | rfl | simp, rfl⟩
set_option maxRecDepth 100000 in
set_option maxHeartbeats 1600000 in
theorem hpIdxGone_any (f : Int → Bool) (kb : Nat) (S : Option Addr) (l : List Int) (t d : Nat) (w : World) (ht : t = l.length) (hS : Sl w S t d (l.map iv))
    (hF : ∀ p, Calls Tryz.prog 104 #[.int .i64 p, .pointer (some ⟨kb, 0, none⟩)] w fun e w' => e = .returned (.bool (f p)) ∧ w = w') :
    Calls Tryz.prog 108 #[.slice S t d, .func (.func 104) #[] #[.pointer (some ⟨kb, 0, none⟩)]] w fun e w' => e = .returned (.int .i64 (idxBy f l)) ∧ w = w' := by
  have hl := hS.len
  unfold maxLen at hl
  have HT := Lib.hid ht
  have HS := Lib.hid hS.cells
  have HF := Lib.hid hF
  clear ht hS hF
  go_enter Tryz.func108, Tryz.ntmps108
  go_wp2_with fail
  go_loopw [8] (fun i wr => ∃ k : Nat, k ≤ t ∧ i = .int .i64 k ∧ (∀ j (hj : j < l.length), j < k → f l[j] = false) ∧ w = wr) (fun i _ => t - (intOf i).toNat)
  case atStart => exact ⟨0, Nat.zero_le _, rfl, fun _ _ h => by omega, rfl⟩
  case round =>
    obtain ⟨k, hk, rfl, hb, rfl⟩ := hrel
    have HB := Lib.hid hb
    clear hb
    rcases Nat.lt_or_ge k t with hlt | hlt
    · have hkl : k < l.length := by rw [← HT.out]; exact hlt
      obtain ⟨b, off, rfl, hbl, hc⟩ := HS.out.num hkl
      have hck := hc k hkl
      have hki : (k : Int) < (t : Int) := by omega
      have HH := Lib.hid (fun h => idx_hit (f := f) hkl h HB.out)
      have HN := Lib.hid (fun (h : f l[k] = false) => (show ∀ j (hj : j < l.length), j < k + 1 → f l[j] = false from fun j hj hjk => by
        rcases Nat.lt_or_ge j k with h' | h'
        · exact HB.out j hj h'
        · obtain rfl : j = k := by omega
          exact h))
      have HC := Lib.hid (HF.out l[k])
      clear hc HB
      generalize l[k] = y at *
      generalize f y = fy at *
      cases fy
      · have HE := Lib.hid (HN.out rfl)
        clear HH HN
        go_wp2_with (go_at_call 104; refine HC.out.mono ?_; rintro e w1 ⟨rfl, rfl⟩)
        go_roundw
        case rel => exact ⟨k + 1, by omega, by go_num, HE.out, by first | rfl | trivial⟩
        case measure => simp [intOf]; omega
      · have HE := Lib.hid (HH.out rfl)
        clear HH HN
        go_wp2_with (go_at_call 104; refine HC.out.mono ?_; rintro e w1 ⟨rfl, rfl⟩)
        go_ret
        exact ⟨ret_int HE.out.symm, rfl⟩
    · obtain rfl : k = t := by omega
      have HE := Lib.hid (idx_none (f := f) (fun j hj => HB.out j hj (by rw [HT.out]; exact hj)))
      clear hlt
      go_wp2_with fail
      go_ret
      exact ⟨ret_int HE.out.symm, rfl⟩
set_option maxHeartbeats 800000 in
theorem hpAllUsed_any (R : Option Addr) (l : List HC) (n q : Nat) (S : Option Addr) (ps : List Int) (t d : Nat) (w : World) (hA : HcSl w R n q l) (ht : t = ps.length) (hS : Sl w S t d (ps.map iv)) :
    Calls Tryz.prog 78 #[.slice R n q, .slice S t d] w fun e w' => e = .returned (.bool (ps.all (usedC l))) ∧ Ext w w' := by
  have hx := (Ext.refl w).alloc (.cells #[.slice R n q] 91)
  have HX := Lib.hid hx
  have hb := Bx.new w #[.slice R n q] 91
  have HI := Lib.hid (hpHasUnused_any (fun p => !usedC l p) w.heap.size S ps t d _ ht (hS.ext hx) (fun p => hpUnused_any p w.heap.size R l n q _ (hb.at 0 _ rfl) (hA.ext hx)))
  have he : ps.all (usedC l) = !(ps.any (fun p => !usedC l p)) := by rw [List.all_eq_not_any_not]
  rw [he]
  generalize ps.any _ = z at *
  clear he ht hS hA hb hx
  go_enter Tryz.func78, Tryz.ntmps78
  go_wp2_with (go_at_call 100; refine HI.out.mono ?_; rintro e w1 ⟨rfl, rfl⟩)
  go_ret
  exact ⟨by first | rfl | simp, HX.out⟩
end Go.Proofs.YtbfbpddfcakieaaGreat
