/- Walks of isSize, isPlace, isFree, used, hold and settle of package heap. Walks of told, copied and waiting of package heap. Walks of slices.Index, Contains, IndexFunc, ContainsFunc and of the closures of package heap. The walk of loose of package heap. Walks of changed and changedUsed of package heap, at each thing that is done. -/
import Derived.Test.YtlbhcakjcklmgaaK03
namespace Go.Proofs.Ytlbhcakjcklmgaa
open Go.RowKit
attribute [local go_sem ↓] Go.wp_at_zero Go.wp_at_succ

def isPl (p n : Int) : Bool := decide (0 ≤ p) && decide (p < n)
set_option maxHeartbeats 800000 in
theorem hpIsPlace_any (p n : Int) (w : World) :
    Calls Try.prog 55 #[.int .i64 p, .int .i64 n] w fun e w' => e = .returned (.bool (isPl p n)) ∧ w = w' := by
  unfold isPl
  have hc : p < 0 ∨ (0 ≤ p ∧ n ≤ p) ∨ (0 ≤ p ∧ p < n) := by omega
  rcases hc with h | ⟨h, h1⟩ | ⟨h, h1⟩
  · have d0 : decide (0 ≤ p) = false := decide_eq_false (by omega)
    rw [d0]
    go_enter Try.func55, Try.ntmps55
    go_wp2
    go_ret
    exact ⟨rfl, rfl⟩
  · have d0 : decide (0 ≤ p) = true := decide_eq_true (by omega)
    have d1 : decide (p < n) = false := decide_eq_false (by omega)
    rw [d0, d1]
    go_enter Try.func55, Try.ntmps55
    go_wp2
    go_ret
    exact ⟨rfl, rfl⟩
  · have d0 : decide (0 ≤ p) = true := decide_eq_true (by omega)
    have d1 : decide (p < n) = true := decide_eq_true (by omega)
    rw [d0, d1]
    go_enter Try.func55, Try.ntmps55
    go_wp2
    go_ret
    exact ⟨rfl, rfl⟩
set_option maxHeartbeats 800000 in
theorem hpUsed_any (R : Option Addr) (l : List HC) (n q : Nat) (p : Int) (w : World) (hA : HcSl w R n q l) :
    Calls Try.prog 52 #[.slice R n q, .int .i64 p] w fun e w' => e = .returned (.bool (usedC l p)) ∧ w = w' := by
  have hn := hA.1
  have HP := Lib.hid (hpIsPlace_any p n w)
  rcases Int.lt_or_le p 0 with h0 | h0
  · rw [usedC_neg h0]
    rw [show isPl p n = false by unfold isPl; rw [decide_eq_false (by omega)]; rfl] at HP
    clear hA hn
    go_enter Try.func52, Try.ntmps52
    go_wp2_with (go_at_call 55; refine HP.out.mono ?_; rintro e w1 ⟨rfl, rfl⟩)
    go_ret
    exact ⟨rfl, rfl⟩
  rcases Int.lt_or_le p n with h1 | h1
  · obtain ⟨k, rfl⟩ := Int.eq_ofNat_of_zero_le h0
    have hk : k < l.length := by omega
    rw [usedC_at hk]
    rw [show isPl (k : Int) n = true by unfold isPl; rw [decide_eq_true h0, decide_eq_true h1]; rfl] at HP
    obtain ⟨b, off, rfl, hbl, A, c, r0, r1, r2, r3, _⟩ := hA.cell hk
    have hki : (k : Int) < (n : Int) := h1
    clear hA hn h0 r1 r2 r3
    generalize l[k].ref = rf at *
    rcases Int.lt_or_le 0 rf with h | h
    · have d0 : decide (0 < rf) = true := decide_eq_true h
      rw [d0]
      go_enter Try.func52, Try.ntmps52
      go_wp2_with (go_at_call 55; refine HP.out.mono ?_; rintro e w1 ⟨rfl, rfl⟩)
      go_ret
      exact ⟨rfl, rfl⟩
    · have d0 : decide (0 < rf) = false := decide_eq_false (by omega)
      rw [d0]
      go_enter Try.func52, Try.ntmps52
      go_wp2_with (go_at_call 55; refine HP.out.mono ?_; rintro e w1 ⟨rfl, rfl⟩)
      go_ret
      exact ⟨rfl, rfl⟩
  · rw [usedC_big (by omega)]
    rw [show isPl p n = false by unfold isPl; rw [decide_eq_false (show ¬ p < n by omega)]; simp] at HP
    clear hA hn
    go_enter Try.func52, Try.ntmps52
    go_wp2_with (go_at_call 55; refine HP.out.mono ?_; rintro e w1 ⟨rfl, rfl⟩)
    go_ret
    exact ⟨rfl, rfl⟩

/-- A row of cells of the call's own: it was made behind the world v, in which the nodes of its cells lie. -/
def Own (v w : World) (g cap : Nat) (l : List HC) : Prop := ∃ cs, w.ownsRow v.heap.size 38 4 (.slice (some ⟨g, 0, none⟩) l.length cap) l.length cs ∧ HcAt v cs l ∧ Ext v w
theorem Own.ext {v w w' : World} {g cap : Nat} {l : List HC} (h : Own v w g cap l) (hx : Ext w w') : Own v w' g cap l := by
  obtain ⟨cs, h1, h2, h3⟩ := h
  exact ⟨cs, own_ext h1 hx, h2, h3.trans hx⟩
theorem Own.sl {v w : World} {g cap : Nat} {l : List HC} (h : Own v w g cap l) : HcSl w (some ⟨g, 0, none⟩) l.length cap l := by
  obtain ⟨cs, h1, h2, h3⟩ := h
  exact ⟨rfl, cs, own_sl h1, h2.ext h3⟩
theorem Own.ge {v w : World} {g cap : Nat} {l : List HC} (h : Own v w g cap l) : v.heap.size ≤ g ∧ g < w.heap.size := by
  obtain ⟨cs, h1, h2, h3⟩ := h
  exact h1.lt g rfl
theorem Own.free {v w : World} {g cap : Nat} {l : List HC} (h : Own v w g cap l) (j : Nat) : w.frozen? ⟨g, j, none⟩ = false := by
  obtain ⟨cs, h1, h2, h3⟩ := h
  exact own_free h1 j
theorem Own.cell {v w : World} {g cap : Nat} {l : List HC} (h : Own v w g cap l) {k : Nat} (hk : k < l.length) :
    ∃ A c, w.cell? ⟨g, k * 4, none⟩ = some (.int .i64 l[k].ref) ∧ w.cell? ⟨g, k * 4 + 1, none⟩ = some (.bool l[k].pin) ∧ w.cell? ⟨g, k * 4 + 2, none⟩ = some (.bool l[k].leaf) ∧ w.cell? ⟨g, k * 4 + 3, none⟩ = some (.slice A l[k].it.length c) ∧ Sl v A l[k].it.length c (ivs l[k].it) := by
  obtain ⟨cs, h1, h2, h3⟩ := h
  obtain ⟨A, c, e1, e2, e3, e4, h5⟩ := h2.2 k hk
  have hl := h1.1
  exact ⟨A, c, (h1.cellAt (k * 4) (by omega)).trans e1, (h1.cellAt (k * 4 + 1) (by omega)).trans e2, (h1.cellAt (k * 4 + 2) (by omega)).trans e3, (h1.cellAt (k * 4 + 3) (by omega)).trans e4, h5⟩
theorem set_same {α : Type} {l : List α} {k : Nat} {x : α} (h : l[k]? = some x) : l.set k x = l := by
  obtain ⟨hk, rfl⟩ := List.getElem?_eq_some_iff.1 h
  exact List.set_getElem_self hk
/-- One number of a cell is written. -/
theorem Own.ref {v w : World} {g cap : Nat} {l : List HC} (h : Own v w g cap l) {k : Nat} (hk : k < l.length) (r : Int) :
    Own v (w.setCell ⟨g, k * 4, none⟩ (.int .i64 r)) g cap (l.set k ⟨r, l[k].pin, l[k].leaf, l[k].it⟩) := by
  have hg := h.ge
  obtain ⟨cs, h1, h2, h3⟩ := h
  obtain ⟨A, c, e1, e2, e3, e4, h5⟩ := h2.2 k hk
  have hs := h2.set hk ⟨r, l[k].pin, l[k].leaf, l[k].it⟩ h5
  have hl := h2.1
  simp only at hs
  rw [set_same (l := (((cs.set (k * 4) _).set (k * 4 + 1) _).set (k * 4 + 2) _)) (by rw [List.getElem?_set_ne (by omega), List.getElem?_set_ne (by omega), List.getElem?_set_ne (by omega)]; exact e4)] at hs
  rw [set_same (l := ((cs.set (k * 4) _).set (k * 4 + 1) _)) (by rw [List.getElem?_set_ne (by omega), List.getElem?_set_ne (by omega)]; exact e3)] at hs
  rw [set_same (l := (cs.set (k * 4) _)) (by rw [List.getElem?_set_ne (by omega)]; exact e2)] at hs
  refine ⟨_, ?_, hs, h3.set hg.1 _⟩
  rw [List.length_set]
  exact own_set h1 (by omega) _
theorem Own.pin {v w : World} {g cap : Nat} {l : List HC} (h : Own v w g cap l) {k : Nat} (hk : k < l.length) (b : Bool) :
    Own v (w.setCell ⟨g, k * 4 + 1, none⟩ (.bool b)) g cap (l.set k ⟨l[k].ref, b, l[k].leaf, l[k].it⟩) := by
  have hg := h.ge
  obtain ⟨cs, h1, h2, h3⟩ := h
  obtain ⟨A, c, e1, e2, e3, e4, h5⟩ := h2.2 k hk
  have hs := h2.set hk ⟨l[k].ref, b, l[k].leaf, l[k].it⟩ h5
  have hl := h2.1
  simp only at hs
  rw [set_same (l := (((cs.set (k * 4) _).set (k * 4 + 1) _).set (k * 4 + 2) _)) (by rw [List.getElem?_set_ne (by omega), List.getElem?_set_ne (by omega), List.getElem?_set_ne (by omega)]; exact e4)] at hs
  rw [set_same (l := ((cs.set (k * 4) _).set (k * 4 + 1) _)) (by rw [List.getElem?_set_ne (by omega), List.getElem?_set_ne (by omega)]; exact e3)] at hs
  rw [set_same (l := cs) e1] at hs
  refine ⟨_, ?_, hs, h3.set hg.1 _⟩
  rw [List.length_set]
  exact own_set h1 (by omega) _
/-- A whole cell is written. -/
theorem Own.set {v w : World} {g cap : Nat} {l : List HC} (h : Own v w g cap l) {k : Nat} (hk : k < l.length) (x : HC) {A : Option Addr} {c : Nat} (hs : Sl v A x.it.length c (ivs x.it)) :
    Own v ((((w.setCell ⟨g, k * 4, none⟩ (.int .i64 x.ref)).setCell ⟨g, k * 4 + 1, none⟩ (.bool x.pin)).setCell ⟨g, k * 4 + 2, none⟩ (.bool x.leaf)).setCell ⟨g, k * 4 + 3, none⟩ (.slice A x.it.length c)) g cap (l.set k x) := by
  have hg := h.ge
  obtain ⟨cs, h1, h2, h3⟩ := h
  refine ⟨_, ?_, h2.set hk x hs, (((h3.set hg.1 _).set hg.1 _).set hg.1 _).set hg.1 _⟩
  rw [List.length_set]
  exact own_hc h1 hk _ _ _ _

theorem grown_set (w : World) (g j : Nat) (u : Value) : w.grownBy (w.setCell ⟨g, j, none⟩ u) (some g) :=
  ⟨rfl, rfl, rfl, by simp [World.setCell], fun i _ hi => Below.heap_setCell _ _ _ _ (by simpa using hi)⟩
end Go.Proofs.Ytlbhcakjcklmgaa
namespace Go.Proofs.Ytlbhcakjcklmgaa
open Go.RowKit
attribute [local go_sem ↓] Go.wp_at_zero Go.wp_at_succ

theorem infoI0 : (Try.prog.info? 3).map (fun i => (i.zero, i.size, i.bytes)) = some (some (.int .i64 0), 1, 8) := by kernel_rfl
theorem made_zeros (n : Nat) : (madeCells (Value.int .i64 0).cells (n * 1)).toList = List.replicate n (iv 0) := by
  have hz : (Value.int .i64 0).cells = #[.int .i64 0] := by simp [Value.cells]
  rw [hz]
  apply List.ext_getElem?
  intro i
  simp only [madeCells, iv, Nat.mul_one, Array.toList_map, Array.toList_range, List.getElem?_map, List.getElem?_replicate]
  by_cases h : i < n
  · simp [h, Nat.mod_one]
  · simp [h]
/-- A node's places. -/
def toldL (leaf : Bool) (it : List It) : List Int := if leaf then [] else it.map Prod.snd
def toldK (it : List It) (k : Nat) : List Value := (it.take k).map (fun x => iv x.2) ++ List.replicate (it.length - k) (iv 0)
theorem toldK_len (it : List It) (k : Nat) : (toldK it k).length = it.length := by unfold toldK; simp; omega
theorem toldK_zero (it : List It) : toldK it 0 = List.replicate it.length (iv 0) := by unfold toldK; simp
theorem toldK_all (it : List It) : toldK it it.length = (toldL false it).map iv := by unfold toldK toldL; simp
theorem toldK_succ {it : List It} {k : Nat} (hk : k < it.length) : (toldK it k).set k (iv it[k].2) = toldK it (k + 1) := by
  unfold toldK
  have h : (List.map (fun x : It => iv x.2) (it.take k)).length = k := by rw [List.length_map, List.length_take]; omega
  rw [List.take_succ_eq_append_getElem hk, List.map_append, List.set_append, if_neg (by omega), h, Nat.sub_self, List.append_assoc]
  rw [show it.length - k = (it.length - (k + 1)) + 1 by omega, List.replicate_succ]
  rfl
set_option maxRecDepth 100000 in
set_option maxHeartbeats 1600000 in
theorem hpTold_any (leaf : Bool) (A : Option Addr) (it : List It) (m c : Nat) (w : World) (hm : m = it.length) (hb : m ≤ 90000) (hI : Sl w A m c (ivs it)) :
    Calls Try.prog 54 #[.agg #[.bool leaf, .slice A m c]] w fun e w' => ∃ S t d, e = .returned (.slice S t d) ∧ t = (toldL leaf it).length ∧ w'.ownsRow w.heap.size 3 1 (.slice S t d) t ((toldL leaf it).map iv) ∧ Ext w w' := by
  obtain ⟨W, hW⟩ : ∃ W, w.alloc (.cells #[.bool leaf, .slice A m c] 36) = W := ⟨_, rfl⟩
  obtain ⟨hx, hb0⟩ := allocs1 hW
  have hsz : W.heap.size = w.heap.size + 1 := by rw [← hW]; simp
  have HX := Lib.hid hx
  have HB0 := Lib.hid hb0
  have HI := Lib.hid hI
  have HSZ := Lib.hid hsz
  have HM := Lib.hid hm
  obtain ⟨p0, p1, p2⟩ := hb0.read2
  clear hx hb0 hI hsz hm
  cases leaf
  rotate_left
  · go_enter Try.func54, Try.ntmps54
    go_wp2_with fail
    go_ret
    exact ⟨none, 0, 0, rfl, rfl, ⟨rfl, .inl ⟨rfl, rfl⟩⟩, HX.out⟩
  obtain ⟨i0, hi, hz0, hz1, hz2⟩ := info_parts infoI0
  have HIN := Lib.hid hi
  have HZ0 := Lib.hid hz0
  have HZ1 := Lib.hid hz1
  have HZ2 := Lib.hid hz2
  clear hi hz0 hz1 hz2
  subst hW
  go_enter Try.func54, Try.ntmps54
  go_wp2_with (at_make; refine stop_here ?_)
  refine stop_on ?_
  generalize hW : World.alloc w _ = W at *
  refine wpList_make_cap _ rfl _ _ 25 rfl 3 i0 _ Try.underlying25 HIN.out HZ0.out _ _ _ _ m m rfl rfl (by omega) (by omega) (by omega) (by rw [HZ2.out]; omega) (by unfold maxLen; omega) ?_
  rw [HZ1.out, HSZ.out]
  have HO := Lib.hid (show (W.alloc (.cells (madeCells (Value.int .i64 0).cells (m * 1)) 3)).ownsRow w.heap.size 3 1 (.slice (some ⟨w.heap.size + 1, 0, none⟩) m m) m (toldK it 0) from by
    have h := heap_alloc_new W (.cells (madeCells (Value.int .i64 0).cells (m * 1)) 3)
    rw [HSZ.out] at h
    have hs := size_madeCells (Value.int .i64 0).cells (m * 1)
    refine ⟨by rw [toldK_len, ← HM.out]; omega, .inr ⟨w.heap.size + 1, m, _, rfl, by omega, h, Nat.le_refl _, by unfold maxLen; omega, hs, ?_⟩⟩
    rw [made_zeros, toldK_zero, ← HM.out]
    simp)
  have HX1 := Lib.hid (HX.out.alloc (.cells (madeCells (Value.int .i64 0).cells (m * 1)) 3))
  have HXW := Lib.hid ((Ext.refl W).alloc (.cells (madeCells (Value.int .i64 0).cells (m * 1)) 3))
  clear p0 p1 p2
  obtain ⟨p0, p1, p2⟩ := (HB0.out.ext HXW.out).read2
  generalize World.alloc W _ = W1 at *
  go_wp2_with fail
  go_loopw [15] (fun i wr => ∃ k : Nat, k ≤ m ∧ i = .int .i64 k ∧ wr.ownsRow w.heap.size 3 1 (.slice (some ⟨w.heap.size + 1, 0, none⟩) m m) m (toldK it k) ∧ Ext w wr) (fun i _ => m - (intOf i).toNat)
  case atStart => exact ⟨0, Nat.zero_le _, rfl, HO.out, HX1.out⟩
  case round =>
    obtain ⟨k, hk, rfl, ho, hx⟩ := hrel
    have HXR := Lib.hid hx
    rcases Nat.lt_or_ge k m with hlt | hlt
    · have hkl : k < it.length := by rw [← HM.out]; exact hlt
      obtain ⟨bi, oi, rfl, hbi, hc⟩ := (HI.out.ext hx).cells.it hkl
      obtain ⟨c0, c1⟩ := hc k hkl
      have hki : (k : Int) < (m : Int) := by omega
      have HS := Lib.hid (toldK_succ hkl)
      have f0 := own_free ho k
      have hg1 : w.heap.size + 1 < wr.heap.size := (ho.lt _ rfl).2
      obtain ⟨z, hz⟩ : ∃ z, wr.cell? ⟨w.heap.size + 1, k, none⟩ = some z := by
        have := ho.cellAt k (by omega)
        rw [this, List.getElem?_eq_getElem (by rw [toldK_len, ← HM.out]; exact hlt)]
        exact ⟨_, rfl⟩
      have HOK := Lib.hid ho
      clear hx ho hc
      generalize it[k] = x at *
      obtain ⟨K, V⟩ := x
      simp only at c0 c1 HS
      have HO2 := Lib.hid (own_ext (own_set HOK.out (j := k) (by omega) (.int .i64 V)) ((Ext.refl _).alloc (.cells #[.int .i64 K, .int .i64 V] 46)))
      have HX2 := Lib.hid ((HXR.out.set (p := ⟨w.heap.size + 1, k, none⟩) (by simp) (.int .i64 V)).alloc (.cells #[.int .i64 K, .int .i64 V] 46))
      go_wp2_with fail
      go_roundw
      case rel => exact ⟨k + 1, by omega, by go_num, by rw [← HS.out]; exact HO2.out, HX2.out⟩
      case measure => simp [intOf]; omega
    · obtain rfl : k = m := by omega
      have HE := Lib.hid (toldK_all it)
      have ht : k = (toldL false it).length := by unfold toldL; simp; exact HM.out
      have HT := Lib.hid ht
      rw [HM.out, HE.out, ← HM.out] at ho
      have HOK := Lib.hid ho
      clear hx ho hlt ht
      go_wp2_with fail
      go_ret
      exact ⟨_, _, _, rfl, HT.out, HOK.out, HXR.out⟩
theorem hpl_lit' {w : World} {z : Nat} (hz : z = w.heap.size) (e n : Nat) (xs : List Value) (hn : n ≤ maxLen) : Sl (w.alloc (.cells xs.toArray e)) (some ⟨z, 0, none⟩) n n xs := by subst hz; exact sl_lit w e n xs hn
theorem hpv_one (l : List Int) : ∀ u ∈ l.map iv, u.oneCell' = true := by
  intro u hu
  obtain ⟨_, _, rfl⟩ := List.mem_map.1 hu
  rfl
set_option maxHeartbeats 1000000 in
set_option maxRecDepth 20000 in
theorem hpCopiedC_cs (R : Option Addr) (l : List HC) (n q : Nat) (w : World) (cs : List Value) (hn : n = l.length) (hb : n ≤ 90000) (hsl : Sl w R n q cs) (hat : HcAt w cs l) :
    Calls Try.prog 56 #[.slice R n q] w fun e w' => ∃ g, e = .returned (.slice (some ⟨g, 0, none⟩) n n) ∧ w'.ownsRow w.heap.size 38 4 (.slice (some ⟨g, 0, none⟩) l.length n) l.length cs ∧ Ext w w' := by
  have HM := Lib.hid hn
  have HN := Lib.hid hsl.1
  have HA := Lib.hid hsl.cells
  have H1 := Lib.hid (hc_one hat)
  have hl9 := hat.1
  rw [← hn] at hl9
  have HL := Lib.hid hl9
  clear hsl hat hl9 hn
  obtain ⟨i0, hi, hz0, hz1, hz2⟩ := info_parts infoHc
  have HI := Lib.hid hi
  have HZ0 := Lib.hid hz0
  have HZ1 := Lib.hid hz1
  have HZ2 := Lib.hid hz2
  clear hi hz0 hz1 hz2
  go_enter Try.func56, Try.ntmps56
  go_wp2_with (at_make; refine stop_here ?_)
  refine stop_on ?_
  refine wpList_make_cap _ rfl _ _ 22 rfl 38 i0 _ Try.underlying22 HI.out HZ0.out _ _ _ _ n n rfl rfl (by omega) (by omega) (by omega) (by rw [HZ2.out]; omega) (by unfold maxLen; omega) ?_
  rw [HZ1.out]
  obtain ⟨cur, hcur⟩ : ∃ cur, cur = madeCells (Value.agg #[.int .i64 0, .bool false, .bool false, .slice none 0 0]).cells (n * 4) := ⟨_, rfl⟩
  have hsz : cur.size = n * 4 := by rw [hcur]; exact size_madeCells _ _
  rw [← hcur]
  clear hcur
  have HS := Lib.hid hsz
  clear hsz
  have HO := Lib.hid (own_copied w n n 4 38 cur cs (by unfold maxLen; omega) (Nat.le_refl _) HS.out HL.out)
  have hrun := run_copy_head (P := Try.prog) (w.alloc (.cells cur 38)) 22 22 3 38 i0 Try.underlying22 HI.out w.heap.size n n q R cur 38 (heap_alloc_new w _) cs (by rw [HZ1.out]; exact HL.out) HN.out (HA.out.ext ((Ext.refl w).alloc _)) (by rw [HS.out, HL.out]; omega) H1.out (fun h => by have := (HA.out).len_none h; rw [HL.out] at this; omega)
  obtain ⟨w1, hw1⟩ : ∃ w1, w1 = (w.alloc (.cells cur 38)).setRow w.heap.size (cs ++ cur.toList.drop cs.length).toArray := ⟨_, rfl⟩
  rw [← hw1] at HO hrun
  clear hw1
  go_wp2
  go_ret
  exact ⟨w.heap.size, rfl, by rw [← HM.out]; exact HO.out.1, HO.out.2⟩

/-- The places of cells with a Pin. -/
def waitK (l : List HC) (k : Nat) : List Int := ((List.range k).filter (fun j => (l.getD j HC.none).pin)).map Int.ofNat
theorem waitK_succ {l : List HC} {k : Nat} (hk : k < l.length) : waitK l (k + 1) = waitK l k ++ (if l[k].pin then [(k : Int)] else []) := by
  unfold waitK
  rw [List.range_succ, List.filter_append, List.map_append]
  congr 1
  rw [List.filter_cons, List.getD_eq_getElem?_getD, List.getElem?_eq_getElem hk, Option.getD_some]
  cases l[k].pin <;> rfl
theorem waitK_len (l : List HC) (k : Nat) : (waitK l k).length ≤ k := by
  unfold waitK
  rw [List.length_map]
  have := List.length_filter_le (fun j => (l.getD j HC.none).pin) (List.range k)
  simpa using this
end Go.Proofs.Ytlbhcakjcklmgaa
namespace Go.Proofs.Ytlbhcakjcklmgaa
open Go.RowKit
attribute [local go_sem ↓] Go.wp_at_zero Go.wp_at_succ

/-- The first place at which f holds, or -1. -/
def idxBy {α : Type} (f : α → Bool) (l : List α) : Int := if l.any f then (l.findIdx f : Nat) else -1
theorem idx_hit {α : Type} {f : α → Bool} {l : List α} {k : Nat} (hk : k < l.length) (h : f l[k] = true) (hb : ∀ j (hj : j < l.length), j < k → f l[j] = false) : idxBy f l = (k : Int) := by
  unfold idxBy
  rw [if_pos (by rw [List.any_eq_true]; exact ⟨l[k], List.getElem_mem hk, h⟩), (List.findIdx_eq hk).2 ⟨h, fun j hj => hb j (by omega) hj⟩]
theorem idx_none {α : Type} {f : α → Bool} {l : List α} (hb : ∀ j (hj : j < l.length), f l[j] = false) : idxBy f l = -1 := by
  unfold idxBy
  have h : l.any f = false := by
    rw [List.any_eq_false]
    intro y hy
    obtain ⟨i, hi, rfl⟩ := List.mem_iff_getElem.1 hy
    simpa using hb i hi
  rw [h]; rfl
theorem idx_any {α : Type} (f : α → Bool) (l : List α) : decide (0 ≤ idxBy f l) = l.any f := by
  unfold idxBy
  cases h : l.any f
  · rfl
  · simp
end Go.Proofs.Ytlbhcakjcklmgaa
namespace Go.Proofs.Ytlbhcakjcklmgaa
open Go.RowKit
attribute [local go_sem ↓] Go.wp_at_zero Go.wp_at_succ

theorem grown_ext {w w' : World} (h : Ext w w') (row : Option Nat) : w.grownBy w' row := ⟨h.os, h.tape, h.output, h.size, fun k hk _ => h.block k hk⟩
theorem grown_hc (w : World) (g a b c d : Nat) (x y z t : Value) : w.grownBy ((((w.setCell ⟨g, a, none⟩ x).setCell ⟨g, b, none⟩ y).setCell ⟨g, c, none⟩ z).setCell ⟨g, d, none⟩ t) (some g) :=
  grown_trans (grown_trans (grown_trans (grown_set w g a x) (grown_set _ g b y)) (grown_set _ g c z)) (grown_set _ g d t)
theorem grown_le {w w' : World} {row : Option Nat} (h : w.grownBy w' row) : w.heap.size ≤ w'.heap.size := h.size
/-- A row of numbers that was made behind a block isn't it. -/
theorem own_apart {w : World} {B e s n d g : Nat} {S : Option Addr} {xs : List Value} (h : w.ownsRow B e s (.slice S n d) n xs) (hg : g < B) : xs ≠ [] → ∀ p, S = some p → some g ≠ some p.block := fun hx p hp e9 => by
  rcases h.2 with ⟨e0, h0⟩ | ⟨g', cap', cur, e0, hg', _⟩
  · cases e0; cases hp
  · cases e0; cases hp
    have := Option.some.inj e9
    simp only at this
    omega
def okC (c : HC) : Prop := c.ref ≤ 9000000000000000000 ∧ (0 < c.ref → c.pin = false) ∧ c.it.length ≤ 90000
def OkL (l : List HC) : Prop := ∀ k (hk : k < l.length), okC l[k]
theorem OkL.set {l : List HC} (h : OkL l) (k : Nat) (x : HC) (hx : okC x) : OkL (l.set k x) := fun j hj => by
  rw [List.length_set] at hj
  rw [List.getElem_set]
  split
  · exact hx
  · exact h j hj
theorem okC_zero : okC ⟨0, true, false, []⟩ := ⟨by simp, fun h => by simp at h, by simp⟩
theorem loose_ok : ∀ (f : Nat) (l : List HC) (p : Int), OkL l → OkL (looseL f l p)
  | 0, _, _, h => h
  | f + 1, l, p, hb => by
    cases h : usedC l p
    · rw [looseL_no _ h]; exact hb
    · obtain ⟨k, hk, rfl, _⟩ := usedC_iff h
      rw [looseL_at f hk h]
      split
      · exact hb.set _ _ ⟨by have := (hb k hk).1; simp only; omega, fun _ => rfl, (hb k hk).2.2⟩
      · split
        · exact hb.set _ _ okC_zero
        · exact foldl_inv (P := OkL) (g := fun g (x : It) => looseL f g x.2) (fun b a hb => loose_ok f b a.2 hb) _ _ (hb.set _ _ okC_zero)
theorem right_okL {l : List HC} {keep : Int} (h : rightH ⟨l, keep⟩ = true) : OkL l := fun k hk => by
  have h1 := (rightH_iff h).2 k hk
  unfold cellR at h1
  split at h1
  · rename_i e
    simp only [Bool.and_eq_true, Bool.not_eq_true', decide_eq_true_eq] at h1
    exact ⟨by omega, fun h => by omega, by omega⟩
  · simp only [Bool.and_eq_true, decide_eq_true_eq, Bool.not_eq_true'] at h1
    have h4 := ((ndR_iff _).1 h1.2.2.2.1).1
    exact ⟨by omega, fun _ => h1.2.2.1, by omega⟩
theorem looseL_told {l : List HC} {k : Nat} (f : Nat) (hk : k < l.length) (h : usedC l (k : Int) = true) (h1 : ¬ 1 < l[k].ref) :
    looseL (f + 1) l (k : Int) = (toldL l[k].leaf l[k].it).foldl (looseL f) (l.set k ⟨0, true, false, []⟩) := by
  rw [looseL_at f hk h, if_neg h1]
  unfold toldL
  cases l[k].leaf
  · simp only [Bool.false_eq_true, if_false, List.foldl_map]
  · rfl
theorem foldl_takeI {β : Type} (g : β → Int → β) (b : β) {ps : List Int} {k : Nat} (hk : k < ps.length) : (ps.take (k + 1)).foldl g b = g ((ps.take k).foldl g b) ps[k] := by
  rw [List.take_succ_eq_append_getElem hk, List.foldl_append]; rfl

set_option maxRecDepth 100000 in
set_option maxHeartbeats 3200000 in
theorem hpLoose_at : ∀ (N f : Nat) (v w : World) (g cap : Nat) (l : List HC) (n k : Nat), usedN l ≤ N → N < f → n = l.length → n ≤ 90000 → OkL l → usedC l (k : Int) = true → Own v w g cap l →
    Calls Try.prog 48 #[.slice (some ⟨g, 0, none⟩) n cap, .int .i64 k] w fun e w' => e = .returned (.tuple #[]) ∧ Own v w' g cap (looseL f l (k : Int)) ∧ w.grownBy w' (some g) := by
  intro N
  induction N using Nat.strongRecOn with
  | ind N ih =>
  intro f v w g cap l n k hN hf hn hb hok hu hO
  obtain ⟨f, rfl⟩ : ∃ f', f = f' + 1 := ⟨f - 1, by omega⟩
  obtain ⟨hk, hpos⟩ : ∃ hk : k < l.length, 0 < l[k].ref := by
    obtain ⟨k', hk', e, hp⟩ := usedC_iff hu
    obtain rfl : k = k' := by omega
    exact ⟨hk', hp⟩
  have hg := hO.ge
  obtain ⟨A, c, r0, r1, r2, r3, hI⟩ := hO.cell hk
  have f0 := hO.free (k * 4)
  have hkb := (hok k hk).1
  have hki : (k : Int) < (n : Int) := by omega
  by_cases h1 : 1 < l[k].ref
  · have e1 := looseL_at f hk hu
    rw [if_pos h1] at e1
    have hO1 := hO.ref hk (l[k].ref - 1)
    rw [(hok k hk).2.1 hpos, ← e1] at hO1
    have HO1 := Lib.hid hO1
    have d0 : decide (0 < l[k].ref - 1) = true := decide_eq_true (by omega)
    have d1 : decide (1 < l[k].ref) = true := decide_eq_true h1
    have hr1 : -9223372036854775808 ≤ l[k].ref - 1 := by omega
    have HG := Lib.hid (grown_set w g (k * 4) (.int .i64 (l[k].ref - 1)))
    clear hO hO1 ih hok hu e1 hI h1 hpos
    generalize looseL (f + 1) l (k : Int) = l' at *
    generalize l[k].ref = rf at *
    subst hn
    go_enter Try.func48, Try.ntmps48
    go_wp2_with fail
    refine bodyPost_ret (results_none rfl _ _ _) rfl ?_
    exact ⟨rfl, HO1.out, HG.out⟩
  have hr1 : l[k].ref = 1 := by omega
  have e1 := looseL_told f hk hu h1
  rw [e1]
  have hO1 := hO.ref hk 0
  have HO1 := Lib.hid hO1
  obtain ⟨l1, hl1⟩ : ∃ l1, l.set k ⟨0, true, false, []⟩ = l1 := ⟨_, rfl⟩
  rw [hl1]
  have hu1 : usedN l1 + 1 = usedN l := by rw [← hl1]; exact usedN_set hk _ (by simp) hpos
  have hok1 : OkL l1 := by rw [← hl1]; exact hok.set _ _ okC_zero
  have hll1 : l1.length = l.length := by rw [← hl1, List.length_set]
  have HO3 := Lib.hid (fun w' (h : Own v w' g cap (l.set k ⟨0, l[k].pin, l[k].leaf, l[k].it⟩)) => (show Own v ((((w'.setCell ⟨g, k * 4, none⟩ (.int .i64 0)).setCell ⟨g, k * 4 + 1, none⟩ (.bool true)).setCell ⟨g, k * 4 + 2, none⟩ (.bool false)).setCell ⟨g, k * 4 + 3, none⟩ (.slice none 0 0)) g cap l1 from by
    have h2 := h.set (k := k) (by rw [List.length_set]; exact hk) ⟨0, true, false, []⟩ (A := none) (c := 0) (Sl.nil v)
    rw [List.set_set, hl1] at h2
    exact h2))
  have HRD := Lib.hid (fun w' (h : Own v w' g cap (l.set k ⟨0, l[k].pin, l[k].leaf, l[k].it⟩)) => (show (∃ a b c d, (w'.cell? ⟨g, k * 4, none⟩ = some a ∧ w'.cell? ⟨g, k * 4 + 1, none⟩ = some b) ∧ (w'.cell? ⟨g, k * 4 + 2, none⟩ = some c ∧ w'.cell? ⟨g, k * 4 + 3, none⟩ = some d)) ∧ (w'.frozen? ⟨g, k * 4, none⟩ = false ∧ w'.frozen? ⟨g, k * 4 + 1, none⟩ = false) ∧ (w'.frozen? ⟨g, k * 4 + 2, none⟩ = false ∧ w'.frozen? ⟨g, k * 4 + 3, none⟩ = false) from by
    obtain ⟨A, c, r0, r1, r2, r3, _⟩ := h.cell (k := k) (by rw [List.length_set]; exact hk)
    exact ⟨⟨_, _, _, _, ⟨r0, r1⟩, r2, r3⟩, ⟨h.free _, h.free _⟩, h.free _, h.free _⟩))
  have HG1 := Lib.hid (grown_set w g (k * 4) (.int .i64 0))
  have HX := Lib.hid (show Ext v w from by obtain ⟨_, _, _, h⟩ := hO; exact h)
  have HI := Lib.hid hI
  have hm9 := (hok k hk).2.2
  have HIH := Lib.hid (fun w' (l' : List HC) (p : Nat) (h1 : usedN l' ≤ N - 1) (h2 : OkL l') (h3 : n = l'.length) (h4 : usedC l' (p : Int) = true) (h5 : Own v w' g cap l') => ih (N - 1) (by omega) f v w' g cap l' n p h1 (by omega) h3 hb h2 h4 h5)
  have HF := Lib.hid (fun (t : List Int) => (show usedN (t.foldl (looseL f) l1) ≤ N - 1 ∧ OkL (t.foldl (looseL f) l1) ∧ n = (t.foldl (looseL f) l1).length from
    ⟨foldl_inv (P := fun g => usedN g ≤ N - 1) (g := looseL f) (fun b a hb => Nat.le_trans (loose_used f b a) hb) _ _ (by omega), foldl_inv (P := OkL) (g := looseL f) (fun b a hb => loose_ok f b a hb) _ _ hok1, foldl_inv (P := fun g : List HC => n = g.length) (g := looseL f) (fun b a hb => by rw [loose_len]; exact hb) _ _ (by omega)⟩))
  rw [hr1] at r0
  clear hO1 hu e1 ih hok hI h1 hr1 hl1 hu1 hok1 hll1 hpos hkb hN hf
  generalize l.set k ⟨0, l[k].pin, l[k].leaf, l[k].it⟩ = l0 at *
  generalize l[k].it = it at *
  generalize l[k].leaf = lf at *
  generalize l[k].pin = pn at *
  obtain ⟨m, hm⟩ : ∃ m, it.length = m := ⟨_, rfl⟩
  rw [hm] at HI r3 hm9
  have HTC := Lib.hid (fun w' (hx : Ext v w') => hpTold_any lf A it m c w' hm.symm hm9 (HI.out.ext hx))
  have HX1 := Lib.hid (HX.out.set (p := ⟨g, k * 4, none⟩) hg.1 (.int .i64 0))
  clear hm hO
  subst hn
  generalize toldL lf it = ps at *
  go_enter Try.func48, Try.ntmps48
  go_wp2_with (go_at_call 54; refine stop_here ?_)
  refine stop_on ?_
  generalize hw1 : World.setCell w _ _ = w1 at *
  have hgw : g < w1.heap.size := by rw [← hw1]; simpa [World.setCell] using hg.2
  clear hw1
  refine (HTC.out _ HX1.out).mono ?_
  rintro e w2 ⟨S, t, d, rfl, ht, ho, hx⟩
  have HT := Lib.hid ht
  have HSL := Lib.hid (own_sl ho)
  have HAP := Lib.hid (own_apart ho hgw)
  have HO2 := Lib.hid (HO1.out.ext hx)
  obtain ⟨⟨v0, v1, v2, v3, ⟨z0, z1⟩, z2, z3⟩, ⟨q0, q1⟩, q2, q3⟩ := HRD.out w2 HO2.out
  have HG2 := Lib.hid (grown_trans HG1.out (grown_ext hx (some g)))
  have HO4 := Lib.hid (HO3.out w2 HO2.out)
  have HGW := Lib.hid (grown_hc w2 g (k * 4) (k * 4 + 1) (k * 4 + 2) (k * 4 + 3) (.int .i64 0) (.bool true) (.bool false) (.slice none 0 0))
  clear ho ht hx r0 r1 r2 r3 f0
  go_wp2_with fail
  have HS3 := Lib.hid (HSL.out.grown HGW.out HAP.out)
  have HG3 := Lib.hid (grown_trans HG2.out HGW.out)
  generalize World.setCell (World.setCell (World.setCell (World.setCell w2 _ _) _ _) _ _) _ _ = w3 at *
  have htl := HSL.out.len
  unfold maxLen at htl
  clear z0 z1 z2 z3 q0 q1 q2 q3
  go_loopw [33] (fun i wr => ∃ j : Nat, j ≤ t ∧ i = .int .i64 j ∧ Own v wr g cap ((ps.take j).foldl (looseL f) l1) ∧ w3.grownBy wr (some g)) (fun i _ => t - (intOf i).toNat)
  case atStart => exact ⟨0, Nat.zero_le _, rfl, HO4.out, World.grownBy.refl _ _⟩
  case round =>
    obtain ⟨j, hj, rfl, ho, hgr⟩ := hrel
    have HO := Lib.hid ho
    have HGR := Lib.hid hgr
    rcases Nat.lt_or_ge j t with hlt | hlt
    · have hjl : j < ps.length := by rw [← HT.out]; exact hlt
      obtain ⟨bi, oi, rfl, hbi, hc⟩ := (HS3.out.grown hgr HAP.out).cells.num hjl
      have hcj := hc j hjl
      have hji : (j : Int) < (t : Int) := by omega
      have HST := Lib.hid (foldl_takeI (looseL f) l1 hjl)
      obtain ⟨h6, h7, h8⟩ := HF.out (ps.take j)
      obtain ⟨lj, hlj⟩ : ∃ lj, (ps.take j).foldl (looseL f) l1 = lj := ⟨_, rfl⟩
      rw [hlj] at HO HST h6 h7 h8 ho
      have H6 := Lib.hid h6
      have H7 := Lib.hid h7
      have H8 := Lib.hid h8
      have hsl := ho.sl
      rw [← h8] at hsl
      have HU := Lib.hid (hpUsed_any (some ⟨g, 0, none⟩) lj l.length cap ps[j] wr hsl)
      clear hc ho hgr h6 h7 h8 hsl hlj
      generalize hp : ps[j] = p at *
      clear hp
      obtain ⟨u, hu⟩ : ∃ u, usedC lj p = u := ⟨_, rfl⟩
      rw [hu] at HU
      cases u
      · rw [looseL_no _ hu] at HST
        clear hu
        go_wp2_with (go_at_call 52; refine HU.out.mono ?_; rintro e w4 ⟨rfl, rfl⟩)
        go_roundw
        case rel => exact ⟨j + 1, by omega, by go_num, by rw [HST.out]; exact HO.out, HGR.out⟩
        case measure => simp [intOf]; omega
      · obtain ⟨k', hk', rfl, _⟩ := usedC_iff hu
        have HC := Lib.hid (HIH.out wr lj k' H6.out H7.out H8.out hu HO.out)
        clear hu
        go_wp2_with (first | (go_at_call 52; with_reducible refine HU.out.mono ?_; rintro e w4 ⟨rfl, rfl⟩) | (go_at_call 48; refine stop_here ?_))
        refine stop_on ?_
        refine HC.out.mono ?_
        rintro e w4 ⟨rfl, ho4, hg4⟩
        have HO5 := Lib.hid ho4
        have HG5 := Lib.hid (grown_trans HGR.out hg4)
        clear ho4 hg4
        go_wp2_with fail
        go_roundw
        case rel => exact ⟨j + 1, by omega, by go_num, by rw [HST.out]; exact HO5.out, HG5.out⟩
        case measure => simp [intOf]; omega
    · obtain rfl : j = t := by omega
      have hE : ps.take j = ps := by rw [HT.out, List.take_length]
      rw [hE] at HO
      have HG5 := Lib.hid (grown_trans HG3.out HGR.out)
      clear ho hgr hlt hE
      go_wp2_with fail
      go_end0
      exact ⟨rfl, HO.out, HG5.out⟩
end Go.Proofs.Ytlbhcakjcklmgaa
namespace Go.Proofs.Ytlbhcakjcklmgaa
open Go.RowKit
attribute [local go_sem ↓] Go.wp_at_zero Go.wp_at_succ

theorem own_base {w : World} {B B' e s n : Nat} {v : Value} {xs : List Value} (h : w.ownsRow B e s v n xs) (hb : B' ≤ B) : w.ownsRow B' e s v n xs := by
  refine ⟨h.1, ?_⟩
  rcases h.2 with h0 | ⟨g, cap, cur, e0, hg, h1⟩
  · exact .inl h0
  · exact .inr ⟨g, cap, cur, e0, Nat.le_trans hb hg, h1⟩
theorem Own.other {v w : World} {g cap : Nat} {l : List HC} (h : Own v w g cap l) {p : Addr} (hp : p.block ≠ g) (hv : v.heap.size ≤ p.block) (u : Value) : Own v (w.setCell p u) g cap l := by
  obtain ⟨cs, h1, h2, h3⟩ := h
  exact ⟨cs, ownsRow_setCell_other h1 (by simpa [Value.ownBlock] using Ne.symm hp) u, h2, h3.set hv u⟩
theorem Own.grown {v w w' : World} {g cap : Nat} {l : List HC} {row : Option Nat} (h : Own v w g cap l) (hg : w.grownBy w' row) (hne : row ≠ some g) (hx : Ext v w') : Own v w' g cap l := by
  obtain ⟨cs, h1, h2, h3⟩ := h
  exact ⟨cs, h1.kept hg (by simpa [Value.ownBlock] using fun e => hne e.symm), h2, hx⟩
/-- copied, told over an elder world in which the cells lie. -/
theorem hpCopied_v (v : World) (R : Option Addr) (l : List HC) (n q : Nat) (w : World) (hx : Ext v w) (hb : n ≤ 90000) (hA : HcSl v R n q l) :
    Calls Try.prog 56 #[.slice R n q] w fun e w' => ∃ g, e = .returned (.slice (some ⟨g, 0, none⟩) n n) ∧ w.heap.size ≤ g ∧ Own v w' g n l ∧ Ext w w' := by
  obtain ⟨hn, cs, hsl, hat⟩ := hA
  refine (hpCopiedC_cs R l n q w cs hn hb (hsl.ext hx) (hat.ext hx)).mono ?_
  rintro e w' ⟨g, rfl, h1, h2⟩
  exact ⟨g, rfl, (h1.lt g rfl).1, ⟨cs, own_base h1 hx.size, hat, hx.trans h2⟩, h2⟩
set_option maxRecDepth 100000 in
set_option maxHeartbeats 3200000 in
theorem hpChangedLoose_any (v : World) (R : Option Addr) (l : List HC) (n q : Nat) (keep : Int) (S : Option Addr) (ps : List Int) (t d : Nat) (F : List HC → Int → List HC) (w : World) (hx : Ext v w) (hb : n ≤ 90000) (hA : HcSl v R n q l) (ht : t = ps.length) (hS : Sl w S t d (ps.map iv))
    (hD : ∀ (lj : List HC) (j : Nat) (hj : j < ps.length) (g : Nat) (wr : World), lj = (ps.take j).foldl F l → Own v wr g n lj → Calls Try.prog 48 #[.slice (some ⟨g, 0, none⟩) n n, .int .i64 ps[j]] wr fun e w' => e = .returned (.tuple #[]) ∧ Own v w' g n (F lj ps[j]) ∧ wr.grownBy w' (some g)) :
    Calls Try.prog 53 #[.agg #[.slice R n q, .int .i64 keep], .func (.func 48) #[] #[], .slice S t d] w fun e w' => ∃ g, e = .returned (.agg #[.slice (some ⟨g, 0, none⟩) n n, .int .i64 keep]) ∧ w.heap.size ≤ g ∧ Own v w' g n (ps.foldl F l) ∧ Ext w w' := by
  obtain ⟨W, hW⟩ : ∃ W, (w.alloc (.cells #[.slice R n q, .int .i64 keep] 24)).alloc (.cells #[.slice none 0 0, .int .i64 0] 24) = W := ⟨_, rfl⟩
  obtain ⟨hx0, hb0, hb1⟩ := allocs2 hW
  have hsz : W.heap.size = w.heap.size + 1 + 1 := by rw [← hW]; simp
  have HX := Lib.hid hx0
  have HXV := Lib.hid hx
  have HB0 := Lib.hid hb0
  have HB1 := Lib.hid hb1
  have HSZ := Lib.hid hsz
  have HT := Lib.hid ht
  have HS := Lib.hid hS
  have HD := Lib.hid hD
  have HC := Lib.hid (hpCopied_v v R l n q W (hx.trans hx0) hb hA)
  have htl := hS.len
  unfold maxLen at htl
  obtain ⟨p0, p1, p2⟩ := hb0.read2
  clear hx hx0 hb0 hb1 hsz hA ht hS hD
  subst hW
  go_enter Try.func53, Try.ntmps53
  go_wp2_with (go_at_call 56; refine stop_here ?_)
  refine stop_on ?_
  generalize hW : World.alloc (World.alloc w _) _ = W at *
  clear hW
  refine HC.out.mono ?_
  rintro e w1 ⟨g, rfl, hg, ho, hx1⟩
  have hgw : w.heap.size + 1 + 1 ≤ g := by have := HSZ.out; omega
  have HO := Lib.hid ho
  have HX1 := Lib.hid (HX.out.trans hx1)
  have HC0 := Lib.hid (HB0.out.ext hx1)
  have HC1 := Lib.hid (HB1.out.ext hx1)
  have HS1 := Lib.hid (HS.out.ext HX1.out)
  have HAP := Lib.hid (HS.out.cells.apart (g := g) (by omega))
  clear ho hx1 p0 p1 p2 hg
  go_wp2_with fail
  go_loopw [15] (fun i wr => ∃ j : Nat, j ≤ t ∧ i = .int .i64 j ∧ Own v wr g n ((ps.take j).foldl F l) ∧ w1.grownBy wr (some g)) (fun i _ => t - (intOf i).toNat)
  case atStart => exact ⟨0, Nat.zero_le _, rfl, HO.out, World.grownBy.refl _ _⟩
  case round =>
    obtain ⟨j, hj, rfl, ho, hgr⟩ := hrel
    have HOR := Lib.hid ho
    have HGR := Lib.hid hgr
    rcases Nat.lt_or_ge j t with hlt | hlt
    · have hjl : j < ps.length := by rw [← HT.out]; exact hlt
      obtain ⟨bi, oi, rfl, hbi, hc⟩ := (HS1.out.grown hgr HAP.out).cells.num hjl
      have hcj := hc j hjl
      have hji : (j : Int) < (t : Int) := by omega
      have HST := Lib.hid (foldl_takeI F l hjl)
      have HCL := Lib.hid (HD.out _ j hjl g wr rfl ho)
      rw [← HST.out] at HCL
      clear hc ho hgr
      generalize ps[j] = p at *
      go_wp2_with (go_at_call 48; refine stop_here ?_)
      refine stop_on ?_
      refine HCL.out.mono ?_
      rintro e w4 ⟨rfl, ho4, hg4⟩
      have HO5 := Lib.hid ho4
      have HG5 := Lib.hid (grown_trans HGR.out hg4)
      clear ho4 hg4
      go_wp2_with fail
      go_roundw
      case rel => exact ⟨j + 1, by omega, by go_num, HO5.out, HG5.out⟩
      case measure => simp [intOf]; omega
    · obtain rfl : j = t := by omega
      have hE : ps.take j = ps := by rw [HT.out, List.take_length]
      rw [hE] at HOR
      have HE0 := Lib.hid (HC0.out.grown hgr (fun e => by have := Option.some.inj e; omega))
      have HE1 := Lib.hid (HC1.out.grown hgr (fun e => by have := Option.some.inj e; omega))
      have HXR := Lib.hid (Ext.row' HX1.out hgr (by omega))
      have hvs := HXV.out.size
      obtain ⟨t0, t1, t2⟩ := HE0.out.read2
      obtain ⟨y0, y1⟩ := HE0.out.free2
      obtain ⟨s0, s1, s2⟩ := HE1.out.read2
      obtain ⟨x0, x1⟩ := HE1.out.free2
      clear ho hgr hlt hE
      have HF1 := Lib.hid (HE1.out.set_other (p := ⟨w.heap.size, 0, none⟩) (by simp) (.slice (some ⟨g, 0, none⟩) n n))
      have HF2 := Lib.hid (HF1.out.set2 (.slice (some ⟨g, 0, none⟩) n n) (.int .i64 keep))
      have HFO := Lib.hid (((HOR.out.other (p := ⟨w.heap.size, 0, none⟩) (by simp; omega) (by simpa using hvs) (.slice (some ⟨g, 0, none⟩) n n)).other (p := ⟨w.heap.size + 1, 0, none⟩) (by simp; omega) (by simp; omega) (.slice (some ⟨g, 0, none⟩) n n)).other (p := ⟨w.heap.size + 1, 1, none⟩) (by simp; omega) (by simp; omega) (.int .i64 keep))
      have HFX := Lib.hid (((HXR.out.set (p := ⟨w.heap.size, 0, none⟩) (by simp) (.slice (some ⟨g, 0, none⟩) n n)).set (p := ⟨w.heap.size + 1, 0, none⟩) (by simp) (.slice (some ⟨g, 0, none⟩) n n)).set (p := ⟨w.heap.size + 1, 1, none⟩) (by simp) (.int .i64 keep))
      go_wp2_with fail
      refine ret2_cell (k := w.heap.size + 1) (x := .slice (some ⟨g, 0, none⟩) n n) (y := .int .i64 keep) (v := .agg #[.slice (some ⟨g, 0, none⟩) n n, .int .i64 keep]) ?hb4 (fun r0 r1 => by simp [results, Try.results53, go_sem, r0, r1]) rfl ?hx4
      case hb4 => exact HF2.out
      case hx4 => exact ⟨g, rfl, by omega, HFO.out, HFX.out⟩
set_option maxRecDepth 100000 in
set_option maxHeartbeats 3200000 in
theorem hpUsedNoLoose_any (R : Option Addr) (l : List HC) (n q : Nat) (keep p : Int) (w : World) (hu : usedC l p = false) (hA : HcSl w R n q l) :
    Calls Try.prog 47 #[.agg #[.slice R n q, .int .i64 keep], .func (.func 48) #[] #[], .int .i64 p] w fun e w' => e = .returned (.tuple #[.agg #[.slice R n q, .int .i64 keep], .int .i64 4]) ∧ Ext w w' := by
  obtain ⟨W, hW⟩ : ∃ W, (w.alloc (.cells #[.slice R n q, .int .i64 keep] 24)).alloc (.cells #[.slice none 0 0, .int .i64 0] 24) = W := ⟨_, rfl⟩
  obtain ⟨hx0, hb0, hb1⟩ := allocs2 hW
  have HX := Lib.hid hx0
  have HB1 := Lib.hid hb1
  have HU := Lib.hid (hpUsed_any R l n q p W (hA.ext hx0))
  rw [hu] at HU
  obtain ⟨p0, p1, p2⟩ := hb0.read2
  obtain ⟨t0, t1, t2⟩ := hb1.read2
  obtain ⟨y0, y1⟩ := hb1.free2
  clear hx0 hb0 hb1 hA hu
  subst hW
  go_enter Try.func47, Try.ntmps47
  go_wp2_with (go_at_call 52; refine stop_here ?_)
  refine stop_on ?_
  generalize hW : World.alloc (World.alloc w _) _ = W at *
  clear hW
  refine HU.out.mono ?_
  rintro e w4 ⟨rfl, rfl⟩
  go_wp2_with fail
  refine ret2_cell (k := w.heap.size + 1) (x := .slice R n q) (y := .int .i64 keep) (v := .tuple #[.agg #[.slice R n q, .int .i64 keep], .int .i64 4]) ?hb4 (fun r0 r1 => by simp [results, Try.results47, go_sem, r0, r1]) rfl ?hx4
  case hb4 => exact HB1.out.set2 _ _
  case hx4 => exact ⟨rfl, HX.out.store2 (by omega) _ _⟩
set_option maxRecDepth 100000 in
set_option maxHeartbeats 3200000 in
theorem hpUsedYesLoose_any (v : World) (R : Option Addr) (l : List HC) (n q : Nat) (keep p : Int) (l' : List HC) (w : World) (hx : Ext v w) (hb : n ≤ 90000) (hu : usedC l p = true) (hA : HcSl v R n q l)
    (hD : ∀ (g : Nat) (wr : World), Own v wr g n l → Calls Try.prog 48 #[.slice (some ⟨g, 0, none⟩) n n, .int .i64 p] wr fun e w' => e = .returned (.tuple #[]) ∧ Own v w' g n l' ∧ wr.grownBy w' (some g)) :
    Calls Try.prog 47 #[.agg #[.slice R n q, .int .i64 keep], .func (.func 48) #[] #[], .int .i64 p] w fun e w' => ∃ g, e = .returned (.tuple #[.agg #[.slice (some ⟨g, 0, none⟩) n n, .int .i64 keep], .int .i64 0]) ∧ w.heap.size ≤ g ∧ Own v w' g n l' ∧ Ext w w' := by
  obtain ⟨W, hW⟩ : ∃ W, (w.alloc (.cells #[.slice R n q, .int .i64 keep] 24)).alloc (.cells #[.slice none 0 0, .int .i64 0] 24) = W := ⟨_, rfl⟩
  obtain ⟨hx0, hb0, hb1⟩ := allocs2 hW
  have hsz : W.heap.size = w.heap.size + 1 + 1 := by rw [← hW]; simp
  have HX := Lib.hid hx0
  have HXV := Lib.hid hx
  have HB1 := Lib.hid hb1
  have HSZ := Lib.hid hsz
  have HU := Lib.hid (hpUsed_any R l n q p W (hA.ext (hx.trans hx0)))
  rw [hu] at HU
  have HC := Lib.hid (fun w' S (hx' : Ext v w') (hS : Sl w' S 1 1 ([p].map iv)) => hpChangedLoose_any v R l n q keep S [p] 1 1 (fun _ _ => l') w' hx' hb hA rfl hS (fun lj j hj g wr e ho => by
    have hj0 : j = 0 := by simpa using hj
    subst hj0
    subst e
    exact hD g wr ho))
  obtain ⟨p0, p1, p2⟩ := hb0.read2
  clear hx hx0 hb0 hb1 hA hu hsz hD
  subst hW
  go_enter Try.func47, Try.ntmps47
  go_wp2_with (first | (go_at_call 52; with_reducible refine HU.out.mono ?_; rintro e w4 ⟨rfl, rfl⟩) | (go_at_call 53; refine stop_here ?_))
  refine stop_on ?_
  generalize hW : World.alloc (World.alloc w _) _ = W at *
  clear hW
  refine (HC.out _ _ ((HXV.out.trans HX.out).alloc _) ?hsl).mono ?_
  case hsl => exact hpl_lit' (by rw [HSZ.out]) _ 1 _ (by unfold maxLen; omega)
  rintro e w5 ⟨g, rfl, hg, ho, hx5⟩
  have hsz := HSZ.out
  have hgw : w.heap.size + 1 + 1 < g := by simp at hg; omega
  have hx6 : Ext W w5 := ((Ext.refl W).alloc _).trans hx5
  have HX6 := Lib.hid (HX.out.trans hx6)
  have hc1 := HB1.out.ext hx6
  have HC1 := Lib.hid hc1
  have hvs := HXV.out.size
  have HFO := Lib.hid ((ho.other (p := ⟨w.heap.size + 1, 0, none⟩) (by simp; omega) (by simp; omega) (.slice (some ⟨g, 0, none⟩) n n)).other (p := ⟨w.heap.size + 1, 1, none⟩) (by simp; omega) (by simp; omega) (.int .i64 keep))
  clear p0 p1 p2 hg ho hx5 hx6
  obtain ⟨t0, t1, t2⟩ := hc1.read2
  obtain ⟨y0, y1⟩ := hc1.free2
  clear hc1 hsz
  go_wp2_with fail
  refine ret2_cell (k := w.heap.size + 1) (x := .slice (some ⟨g, 0, none⟩) n n) (y := .int .i64 keep) (v := .tuple #[.agg #[.slice (some ⟨g, 0, none⟩) n n, .int .i64 keep], .int .i64 0]) ?hb4 (fun r0 r1 => by simp [results, Try.results47, go_sem, r0, r1]) rfl ?hx4
  case hb4 => exact HC1.out.set2 _ _
  case hx4 => exact ⟨g, rfl, by omega, HFO.out, HX6.out.store2 (by omega) _ _⟩
end Go.Proofs.Ytlbhcakjcklmgaa
