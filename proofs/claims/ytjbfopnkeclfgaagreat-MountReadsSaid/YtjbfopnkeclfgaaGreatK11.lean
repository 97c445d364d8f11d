/- Walks of New and Settle of the reference. Loosing on plain lists; the walk of Loose of the reference. The walk of Loose of the reference. The walk of Alloc of the reference. The walk of Alloc of the reference, where the node may be laid. -/
import Derived.Test.YtjbfopnkeclfgaaGreatK06
namespace Go.Proofs.YtjbfopnkeclfgaaGreat
set_option maxRecDepth 20000
open Go.RowKit
attribute [local go_sem ↓] Go.wp_at_zero Go.wp_at_succ

def newOk (n keep : Int) : Prop := (1 ≤ n ∧ n ≤ 2000) ∧ 0 ≤ keep ∧ keep ≤ n
instance (n keep : Int) : Decidable (newOk n keep) := by unfold newOk; infer_instance
def newH (n keep : Int) : Hp := if newOk n keep then ⟨List.replicate n.toNat HC.none, keep⟩ else ⟨[], 0⟩
def newHE (n keep : Int) : Int := if newOk n keep then 0 else 1
theorem hc_zeros (w : World) (n : Nat) : HcAt w (madeCells (Value.agg #[.int .i64 0, .bool false, .bool false, .slice none 0 0]).cells (n * 4)).toList (List.replicate n HC.none) := by
  have hz : (Value.agg #[.int .i64 0, .bool false, .bool false, .slice none 0 0]).cells = #[.int .i64 0, .bool false, .bool false, .slice none 0 0] := by simp [Value.cells]
  rw [hz]
  refine ⟨by simp [size_madeCells], fun i hi => ?_⟩
  simp only [List.length_replicate] at hi
  have hg : ∀ j, j < n * 4 → (madeCells #[.int .i64 0, .bool false, .bool false, .slice none 0 0] (n * 4)).toList[j]? = some ((#[.int .i64 0, .bool false, .bool false, .slice none 0 0] : Array Value)[j % 4]!) := fun j hj => by
    simp [madeCells, hj]
  refine ⟨none, 0, ?_, ?_, ?_, ?_, ?_⟩
  · rw [hg _ (by omega), show i * 4 % 4 = 0 by omega]; simp [HC.none]
  · rw [hg _ (by omega), show (i * 4 + 1) % 4 = 1 by omega]; simp [HC.none]
  · rw [hg _ (by omega), show (i * 4 + 2) % 4 = 2 by omega]; simp [HC.none]
  · rw [hg _ (by omega), show (i * 4 + 3) % 4 = 3 by omega]; simp [HC.none]
  · simp only [List.getElem_replicate]
    exact Sl.nil _
set_option maxRecDepth 100000 in
set_option maxHeartbeats 1600000 in
theorem ref05New_any (n keep : Int) (w : World) :
    Calls Tryz.prog 61 #[.int .i64 n, .int .i64 keep] w fun e w' => ∃ S d, e = .returned (.tuple #[.agg #[.slice S (newH n keep).c.length d, .int .i64 (newH n keep).keep], .int .i64 (newHE n keep)]) ∧ HcSl w' S (newH n keep).c.length d (newH n keep).c ∧ Ext w w' := by
  have hb := Bx.new w #[.slice none 0 0, .int .i64 0] 30
  have HB := Lib.hid hb
  have HX := Lib.hid ((Ext.refl w).alloc (.cells #[.slice none 0 0, .int .i64 0] 30))
  obtain ⟨t0, t1, t2⟩ := hb.read2
  obtain ⟨y0, y1⟩ := hb.free2
  clear hb
  by_cases hok : newOk n keep
  rotate_left
  · have e1 : newH n keep = ⟨[], 0⟩ := by unfold newH; rw [if_neg hok]
    have e2 : newHE n keep = 1 := by unfold newHE; rw [if_neg hok]
    rw [e1, e2]
    clear e1 e2
    unfold newOk at hok
    have hc : n < 1 ∨ (1 ≤ n ∧ 2000 < n) ∨ (1 ≤ n ∧ n ≤ 2000 ∧ keep < 0) ∨ (1 ≤ n ∧ n ≤ 2000 ∧ 0 ≤ keep ∧ n < keep) := by omega
    clear hok
    rcases hc with h | ⟨h, h1⟩ | ⟨h, h1, h2⟩ | ⟨h, h1, h2, h3⟩
    · have d0 : decide (n < 1) = true := decide_eq_true h
      go_enter Tryz.func61, Tryz.ntmps61
      go_wp2_with fail
      refine ret2_cell (k := w.heap.size) (x := .slice none 0 0) (y := .int .i64 0) (v := .tuple #[.agg #[.slice none 0 0, .int .i64 0], .int .i64 1]) HB.out (fun r0 r1 => by simp [results, Tryz.results61, go_sem, r0, r1]) rfl ⟨none, 0, rfl, ⟨rfl, [], Sl.nil _, HcAt.nil _⟩, HX.out⟩
    · have d0 : decide (n < 1) = false := decide_eq_false (by omega)
      have d1 : decide (2000 < n) = true := decide_eq_true h1
      go_enter Tryz.func61, Tryz.ntmps61
      go_wp2_with fail
      refine ret2_cell (k := w.heap.size) (x := .slice none 0 0) (y := .int .i64 0) (v := .tuple #[.agg #[.slice none 0 0, .int .i64 0], .int .i64 1]) HB.out (fun r0 r1 => by simp [results, Tryz.results61, go_sem, r0, r1]) rfl ⟨none, 0, rfl, ⟨rfl, [], Sl.nil _, HcAt.nil _⟩, HX.out⟩
    · have d0 : decide (n < 1) = false := decide_eq_false (by omega)
      have d1 : decide (2000 < n) = false := decide_eq_false (by omega)
      have d2 : decide (keep < 0) = true := decide_eq_true h2
      go_enter Tryz.func61, Tryz.ntmps61
      go_wp2_with fail
      refine ret2_cell (k := w.heap.size) (x := .slice none 0 0) (y := .int .i64 0) (v := .tuple #[.agg #[.slice none 0 0, .int .i64 0], .int .i64 1]) HB.out (fun r0 r1 => by simp [results, Tryz.results61, go_sem, r0, r1]) rfl ⟨none, 0, rfl, ⟨rfl, [], Sl.nil _, HcAt.nil _⟩, HX.out⟩
    · have d0 : decide (n < 1) = false := decide_eq_false (by omega)
      have d1 : decide (2000 < n) = false := decide_eq_false (by omega)
      have d2 : decide (keep < 0) = false := decide_eq_false (by omega)
      have d3 : decide (n < keep) = true := decide_eq_true h3
      go_enter Tryz.func61, Tryz.ntmps61
      go_wp2_with fail
      refine ret2_cell (k := w.heap.size) (x := .slice none 0 0) (y := .int .i64 0) (v := .tuple #[.agg #[.slice none 0 0, .int .i64 0], .int .i64 1]) HB.out (fun r0 r1 => by simp [results, Tryz.results61, go_sem, r0, r1]) rfl ⟨none, 0, rfl, ⟨rfl, [], Sl.nil _, HcAt.nil _⟩, HX.out⟩
  · have e1 : newH n keep = ⟨List.replicate n.toNat HC.none, keep⟩ := by unfold newH; rw [if_pos hok]
    have e2 : newHE n keep = 0 := by unfold newHE; rw [if_pos hok]
    rw [e1, e2]
    clear e1 e2
    obtain ⟨⟨h0, h1⟩, h2, h3⟩ := hok
    obtain ⟨m, rfl⟩ := Int.eq_ofNat_of_zero_le (show 0 ≤ n by omega)
    simp only [Int.toNat_natCast, List.length_replicate]
    have d0 : decide ((m : Int) < 1) = false := decide_eq_false (by omega)
    have d0' : decide (m < 1) = false := decide_eq_false (by omega)
    have d0'' : decide (m = 0) = false := decide_eq_false (by omega)
    have d1 : decide ((2000 : Int) < (m : Int)) = false := decide_eq_false (by omega)
    have d1' : decide (2000 < m) = false := decide_eq_false (by omega)
    have d2 : decide (keep < 0) = false := decide_eq_false (by omega)
    have d3 : decide ((m : Int) < keep) = false := decide_eq_false (by omega)
    obtain ⟨i0, hi, hz0, hz1, hz2⟩ := info_parts infoHc
    have HI := Lib.hid hi
    have HZ0 := Lib.hid hz0
    have HZ1 := Lib.hid hz1
    have HZ2 := Lib.hid hz2
    clear hi hz0 hz1 hz2
    have hm : m ≤ 2000 := by omega
    go_enter Tryz.func61, Tryz.ntmps61
    go_wp2_with (at_make; refine stop_here ?_)
    refine stop_on ?_
    refine wpList_make_cap _ rfl _ _ 28 rfl 61 i0 _ Tryz.underlying28 HI.out HZ0.out _ _ _ _ m m rfl rfl (by omega) (by omega) (by omega) (by rw [HZ2.out]; omega) (by unfold maxLen; omega) ?_
    rw [HZ1.out]
    have HZ := Lib.hid (fun w' => hc_zeros w' m)
    have hcs : (madeCells (Value.agg #[.int .i64 0, .bool false, .bool false, .slice none 0 0]).cells (m * 4)).size = m * 4 := size_madeCells _ _
    have HCS := Lib.hid hcs
    generalize madeCells (Value.agg #[.int .i64 0, .bool false, .bool false, .slice none 0 0]).cells (m * 4) = cs at *
    clear hcs
    have hsl := sl_lit (w.alloc (.cells #[.slice (some ⟨w.heap.size + 1, 0, none⟩) m m, .int .i64 keep] 30)) 61 m cs.toList (by unfold maxLen; omega)
    rw [Array.toArray_toList, show (w.alloc (.cells #[.slice (some ⟨w.heap.size + 1, 0, none⟩) m m, .int .i64 keep] 30)).heap.size = w.heap.size + 1 by simp] at hsl
    have HSL := Lib.hid (show HcSl ((w.alloc (.cells #[.slice (some ⟨w.heap.size + 1, 0, none⟩) m m, .int .i64 keep] 30)).alloc (.cells cs 61)) (some ⟨w.heap.size + 1, 0, none⟩) m m (List.replicate m HC.none) from ⟨by simp, _, hsl, HZ.out _⟩)
    clear hsl
    go_wp2_with fail
    refine ret2_cell (k := w.heap.size) (x := .slice (some ⟨w.heap.size + 1, 0, none⟩) m m) (y := .int .i64 keep) (v := .tuple #[.agg #[.slice (some ⟨w.heap.size + 1, 0, none⟩) m m, .int .i64 keep], .int .i64 0]) ?hb4 (fun r0 r1 => by simp [results, Tryz.results61, go_sem, r0, r1]) rfl ?hx4
    case hb4 => exact (Bx.new w _ _).ext ((Ext.refl _).alloc _)
    case hx4 => exact ⟨_, _, rfl, HSL.out, ((Ext.refl w).alloc _).alloc _⟩

def stC (c : HC) : HC := ⟨c.ref, false, c.leaf, c.it⟩
def stK (l : List HC) (k : Nat) : List HC := (l.take k).map stC ++ l.drop k
theorem stK_len (l : List HC) (k : Nat) : (stK l k).length = l.length := by unfold stK; simp; omega
theorem stK_at {l : List HC} {k : Nat} (hk : k < l.length) : (stK l k)[k]'(by rw [stK_len]; exact hk) = l[k] := by
  unfold stK
  rw [List.getElem_append_right (by rw [List.length_map, List.length_take]; omega)]
  simp [Nat.min_eq_left (Nat.le_of_lt hk)]
theorem stK_succ {l : List HC} {k : Nat} (hk : k < l.length) : stK l (k + 1) = (stK l k).set k (stC l[k]) := by
  unfold stK
  have h : (List.map stC (l.take k)).length = k := by rw [List.length_map, List.length_take]; omega
  rw [List.take_succ_eq_append_getElem hk, List.map_append, List.set_append, if_neg (by omega), h, Nat.sub_self, List.append_assoc]
  rw [show l.drop k = l[k] :: l.drop (k + 1) from List.drop_eq_getElem_cons hk]
  rfl
theorem stK_zero (l : List HC) : stK l 0 = l := by unfold stK; simp
theorem stK_all (l : List HC) : stK l l.length = l.map stC := by unfold stK; simp
theorem stK_same {l : List HC} {k : Nat} (hk : k < l.length) (h : l[k].pin = false) : stK l (k + 1) = stK l k := by
  rw [stK_succ hk]
  have e : stC l[k] = (stK l k)[k]'(by rw [stK_len]; exact hk) := by rw [stK_at hk]; unfold stC; rw [← h]
  rw [e, List.set_getElem_self]
set_option maxRecDepth 100000 in
set_option maxHeartbeats 1600000 in
theorem ref05Settle_any (R : Option Addr) (l : List HC) (n q : Nat) (keep : Int) (w : World) (hb : n ≤ 90000) (hA : HcSl w R n q l) :
    Calls Tryz.prog 108 #[.agg #[.slice R n q, .int .i64 keep]] w fun e w' => ∃ S d, e = .returned (.agg #[.slice S n d, .int .i64 keep]) ∧ HcSl w' S n d (settleH ⟨l, keep⟩).c ∧ Ext w w' := by
  have hn := hA.1
  have hx := ((Ext.refl w).alloc (.cells #[.slice R n q, .int .i64 keep] 30)).alloc (.cells #[.slice none 0 0, .int .i64 0] 30)
  have HX := Lib.hid hx
  have HB0 := Lib.hid ((Bx.new w #[.slice R n q, .int .i64 keep] 30).ext ((Ext.refl _).alloc (.cells #[.slice none 0 0, .int .i64 0] 30)))
  have hb1 := Bx.new (w.alloc (.cells #[.slice R n q, .int .i64 keep] 30)) #[.slice none 0 0, .int .i64 0] 30
  rw [show (w.alloc (.cells #[.slice R n q, .int .i64 keep] 30)).heap.size = w.heap.size + 1 by simp] at hb1
  have HB1 := Lib.hid hb1
  have HA := Lib.hid (hA.ext hx)
  have HN := Lib.hid hn
  clear hx hb1 hA hn
  go_enter Tryz.func108, Tryz.ntmps108
  go_wp2_with fail
  generalize hW : World.alloc (World.alloc w _) _ = W at *
  clear hW
  go_loopw [3] (fun i wr => ∃ k : Nat, k ≤ n ∧ i = .int .i64 k ∧ ∃ S d, HcSl wr S n d (stK l k) ∧ Ext w wr ∧ Bx wr w.heap.size #[.slice S n d, .int .i64 keep] ∧ Bx wr (w.heap.size + 1) #[.slice none 0 0, .int .i64 0]) (fun i _ => n - (intOf i).toNat)
  case atStart => exact ⟨0, Nat.zero_le _, rfl, R, q, by rw [stK_zero]; exact HA.out, HX.out, HB0.out, HB1.out⟩
  case round =>
    obtain ⟨k, hk, rfl, S, d, hs, hx, hb0, hb1⟩ := hrel
    have HS := Lib.hid hs
    have HXR := Lib.hid hx
    have HC0 := Lib.hid hb0
    have HC1 := Lib.hid hb1
    obtain ⟨p0, p1, p2⟩ := hb0.read2
    rcases Nat.lt_or_ge k n with hlt | hlt
    · have hkl : k < l.length := by rw [← HN.out]; exact hlt
      have hks : k < (stK l k).length := by rw [stK_len]; exact hkl
      obtain ⟨b, off, rfl, hbl, A, c, r0, r1, r2, r3, hI⟩ := hs.cell hks
      have hki : (k : Int) < (n : Int) := by omega
      have HST := Lib.hid (stK_at hkl)
      rw [HST.out] at r0 r1 r2 r3 hI
      have HSET := Lib.hid (show ∀ w', Ext wr w' → Calls Tryz.prog 137 #[.agg #[.slice (some ⟨b, off, none⟩) n d, .int .i64 keep], .int .i64 k, .agg #[.int .i64 l[k].ref, .bool false, .bool l[k].leaf, .slice A l[k].it.length c]] w' fun e w2 => ∃ S d, e = .returned (.agg #[.slice S n d, .int .i64 keep]) ∧ HcSl w2 S n d (stK l (k + 1)) ∧ Ext w' w2 from fun w' hx => by
        rw [stK_succ hkl]
        exact ref05set_any (some ⟨b, off, none⟩) (stK l k) n d k keep (stC l[k]) A l[k].it.length c w' (by omega) hb (HS.out.ext hx) rfl (hI.ext hx))
      have HSAME := Lib.hid (fun h => stK_same hkl h)
      clear hs hx hb0 hb1 hI
      generalize hpn : l[k].pin = pn at *
      generalize l[k].ref = rf at *
      generalize l[k].leaf = lf at *
      generalize l[k].it.length = m at *
      clear hpn
      cases pn
      · have HE := Lib.hid (HSAME.out rfl)
        clear HSET HSAME
        go_wp2_with fail
        go_roundw
        case rel => exact ⟨k + 1, by omega, by go_num, _, _, by rw [HE.out]; exact HS.out, HXR.out, HC0.out, HC1.out⟩
        case measure => simp [intOf]; omega
      · clear HSAME
        go_wp2_with (go_at_call 137; refine stop_here ?_)
        refine stop_on ?_
        refine (HSET.out _ ((Ext.refl wr).alloc _)).mono ?_
        rintro e w1 ⟨S2, d2, rfl, hs2, hx2⟩
        have hx3 : Ext wr w1 := ((Ext.refl wr).alloc _).trans hx2
        have HX3 := Lib.hid (HXR.out.trans hx3)
        have HS2 := Lib.hid hs2
        have HD0 := Lib.hid (HC0.out.ext hx3)
        have HD1 := Lib.hid (HC1.out.ext hx3)
        clear hs2 hx2 hx3 p0 p1 p2 r0 r1 r2 r3
        obtain ⟨p0, p1, p2⟩ := HD0.out.read2
        obtain ⟨y0, y1⟩ := HD0.out.free2
        go_wp2_with fail
        go_roundw
        case rel => exact ⟨k + 1, by omega, by go_num, S2, d2, HS2.out.boxed2 HD0.out _ _, HX3.out.store2 (Nat.le_refl _) _ _, HD0.out.set2 _ _, (HD1.out.set_other (p := ⟨w.heap.size, 0, none⟩) (by simp) _).set_other (p := ⟨w.heap.size, 1, none⟩) (by simp) _⟩
        case measure => simp [intOf]; omega
    · obtain rfl : k = n := by omega
      have HE := Lib.hid (show stK l k = (settleH ⟨l, keep⟩).c by rw [HN.out, stK_all]; rfl)
      obtain ⟨t0, t1, t2⟩ := hb1.read2
      obtain ⟨y0, y1⟩ := hb1.free2
      clear hs hx hb0 hb1 hlt
      go_wp2_with fail
      refine ret2_cell (k := w.heap.size + 1) (x := .slice S k d) (y := .int .i64 keep) (v := .agg #[.slice S k d, .int .i64 keep]) ?hb4 (fun r0 r1 => by simp [results, Tryz.results108, go_sem, r0, r1]) rfl ?hx4
      case hb4 => exact HC1.out.set2 _ _
      case hx4 => exact ⟨S, d, rfl, by rw [← HE.out]; exact HS.out.boxed2 HC1.out _ _, HXR.out.store2 (by omega) _ _⟩
end Go.Proofs.YtjbfopnkeclfgaaGreat
namespace Go.Proofs.YtjbfopnkeclfgaaGreat
set_option maxRecDepth 20000
open Go.RowKit
attribute [local go_sem ↓] Go.wp_at_zero Go.wp_at_succ

def Bd (l : List HC) : Prop := ∀ k (hk : k < l.length), l[k].ref ≤ 9000000000000000000
theorem Bd.set {l : List HC} (h : Bd l) (k : Nat) (x : HC) (hx : x.ref ≤ 9000000000000000000) : Bd (l.set k x) := fun j hj => by
  rw [List.length_set] at hj
  rw [List.getElem_set]
  split
  · exact hx
  · exact h j hj
end Go.Proofs.YtjbfopnkeclfgaaGreat
namespace Go.Proofs.YtjbfopnkeclfgaaGreat
set_option maxRecDepth 20000
open Go.RowKit
attribute [local go_sem ↓] Go.wp_at_zero Go.wp_at_succ

end Go.Proofs.YtjbfopnkeclfgaaGreat
namespace Go.Proofs.YtjbfopnkeclfgaaGreat
set_option maxRecDepth 20000
open Go.RowKit
attribute [local go_sem ↓] Go.wp_at_zero Go.wp_at_succ

/-- Refs of the same cells, up to so many more. -/
def Up (l g : List HC) (j : Nat) : Prop := g.length = l.length ∧ ∀ k (hk : k < l.length) (hg : k < g.length), l[k].ref ≤ g[k].ref ∧ g[k].ref ≤ l[k].ref + j
theorem Up.refl (l : List HC) : Up l l 0 := ⟨rfl, fun k hk hg => by omega⟩
theorem Up.keep {l g : List HC} {j : Nat} (h : Up l g j) : Up l g (j + 1) := ⟨h.1, fun k hk hg => by have := h.2 k hk hg; omega⟩
theorem Up.more {l g : List HC} {j k : Nat} (h : Up l g j) (hk : k < g.length) : Up l (g.set k g[k].more) (j + 1) := by
  refine ⟨by rw [List.length_set]; exact h.1, fun i hi hg => ?_⟩
  rw [List.length_set] at hg
  have h1 := h.2 i hi hg
  rw [List.getElem_set]
  split
  · rename_i e; subst e; unfold HC.more; simp only; omega
  · omega
end Go.Proofs.YtjbfopnkeclfgaaGreat
namespace Go.Proofs.YtjbfopnkeclfgaaGreat
set_option maxRecDepth 20000
open Go.RowKit
attribute [local go_sem ↓] Go.wp_at_zero Go.wp_at_succ

end Go.Proofs.YtjbfopnkeclfgaaGreat
