/- Walks of New, isRight and Right of package heap. Walks of Free, Fits and Same of package heap, and of slices.EqualFunc and IndexFunc over cells. Walks of Hold, Loose and Settle of package heap. Package commit on new states: what serves whatever its Do looks like. Format of the reference of layer 15. What Format answers where it ends well: the plain facts; and what package commit is to answer. -/
import Derived.Test.YtnlkakbpcdfgfaaGreatK24
import Derived.Test.YtnlkakbpcdfgfaaGreatK13
import Derived.Test.YtnlkakbpcdfgfaaGreatK23
import Derived.Test.YtnlkakbpcdfgfaaGreatK08
import Derived.Test.YtnlkakbpcdfgfaaGreatK14
namespace Go.Proofs.YtnlkakbpcdfgfaaGreat
set_option maxRecDepth 20000
open Go.RowKit
attribute [local go_sem ↓] Go.wp_at_zero Go.wp_at_succ

set_option maxRecDepth 100000 in
set_option maxHeartbeats 1600000 in
theorem heapNew_any (n keep : Int) (w : World) :
    Calls Tryz.prog 30 #[.int .i64 n, .int .i64 keep] w fun e w' => ∃ S d, e = .returned (.tuple #[.agg #[.slice S (newH n keep).c.length d, .int .i64 (newH n keep).keep], .int .i64 (newHE n keep)]) ∧ HcSl w' S (newH n keep).c.length d (newH n keep).c ∧ Ext w w' := by
  obtain ⟨W, hW⟩ : ∃ W, w.alloc (.cells #[.slice none 0 0, .int .i64 0] 29) = W := ⟨_, rfl⟩
  obtain ⟨hx, hb⟩ := allocs1 hW
  have hsz : W.heap.size = w.heap.size + 1 := by rw [← hW]; simp
  have HB := Lib.hid hb
  have HX := Lib.hid hx
  have HSZ := Lib.hid hsz
  have HS := Lib.hid (hpIsSize_any n keep W)
  obtain ⟨t0, t1, t2⟩ := hb.read2
  obtain ⟨y0, y1⟩ := hb.free2
  clear hb hx hsz
  by_cases hok : newOk n keep
  rotate_left
  · have e1 : newH n keep = ⟨[], 0⟩ := by unfold newH; rw [if_neg hok]
    have e2 : newHE n keep = 1 := by unfold newHE; rw [if_neg hok]
    rw [e1, e2]
    rw [decide_eq_false hok] at HS
    clear e1 e2 hok
    subst hW
    go_enter Tryz.func30, Tryz.ntmps30
    go_wp2_with (go_at_call 51; refine stop_here ?_)
    refine stop_on ?_
    generalize hW : World.alloc w _ = W at *
    clear hW
    refine HS.out.mono ?_
    rintro e w1 ⟨rfl, rfl⟩
    go_wp2_with fail
    refine ret2_cell (k := w.heap.size) (x := .slice none 0 0) (y := .int .i64 0) (v := .tuple #[.agg #[.slice none 0 0, .int .i64 0], .int .i64 1]) ?hb4 (fun r0 r1 => by simp [results, Tryz.results30, go_sem, r0, r1]) rfl ?hx4
    case hb4 => exact HB.out.set2 _ _
    case hx4 => exact ⟨none, 0, rfl, ⟨rfl, [], Sl.nil _, HcAt.nil _⟩, HX.out.store2 (by omega) _ _⟩
  · have e1 : newH n keep = ⟨List.replicate n.toNat HC.none, keep⟩ := by unfold newH; rw [if_pos hok]
    have e2 : newHE n keep = 0 := by unfold newHE; rw [if_pos hok]
    rw [e1, e2]
    rw [decide_eq_true hok] at HS
    clear e1 e2
    obtain ⟨⟨h0, h1⟩, h2, h3⟩ := hok
    obtain ⟨m, rfl⟩ := Int.eq_ofNat_of_zero_le (show 0 ≤ n by omega)
    simp only [Int.toNat_natCast, List.length_replicate]
    obtain ⟨i0, hi, hz0, hz1, hz2⟩ := info_parts infoHc
    have HI := Lib.hid hi
    have HZ0 := Lib.hid hz0
    have HZ1 := Lib.hid hz1
    have HZ2 := Lib.hid hz2
    clear hi hz0 hz1 hz2
    have hm : m ≤ 2000 := by omega
    subst hW
    go_enter Tryz.func30, Tryz.ntmps30
    go_wp2_with (go_at_call 51; refine stop_here ?_)
    refine stop_on ?_
    generalize hW : World.alloc w _ = W at *
    clear hW
    refine HS.out.mono ?_
    rintro e w1 ⟨rfl, rfl⟩
    go_wp2_with (at_make; refine stop_here ?_)
    refine stop_on ?_
    refine wpList_make_cap _ rfl _ _ 27 rfl 72 i0 _ Tryz.underlying27 HI.out HZ0.out _ _ _ _ m m rfl rfl (by omega) (by omega) (by omega) (by rw [HZ2.out]; omega) (by unfold maxLen; omega) ?_
    rw [HZ1.out, HSZ.out]
    have HZ := Lib.hid (fun w' => hc_zeros w' m)
    have hcs : (madeCells (Value.agg #[.int .i64 0, .bool false, .bool false, .slice none 0 0]).cells (m * 4)).size = m * 4 := size_madeCells _ _
    generalize madeCells (Value.agg #[.int .i64 0, .bool false, .bool false, .slice none 0 0]).cells (m * 4) = cs at *
    have hsl := hpl_lit' (w := W) (z := w.heap.size + 1) HSZ.out.symm 72 m cs.toList (by unfold maxLen; omega)
    rw [Array.toArray_toList] at hsl
    have HSL := Lib.hid (show HcSl (W.alloc (.cells cs 72)) (some ⟨w.heap.size + 1, 0, none⟩) m m (List.replicate m HC.none) from ⟨by simp, _, hsl, HZ.out _⟩)
    have hbx := HB.out.ext ((Ext.refl W).alloc (.cells cs 72))
    have HBX := Lib.hid hbx
    have HX2 := Lib.hid (HX.out.alloc (.cells cs 72))
    clear hsl hcs t0 t1 t2 y0 y1
    obtain ⟨t0, t1, t2⟩ := hbx.read2
    obtain ⟨y0, y1⟩ := hbx.free2
    clear hbx
    generalize World.alloc W _ = W2 at *
    go_wp2_with fail
    refine ret2_cell (k := w.heap.size) (x := .slice (some ⟨w.heap.size + 1, 0, none⟩) m m) (y := .int .i64 keep) (v := .tuple #[.agg #[.slice (some ⟨w.heap.size + 1, 0, none⟩) m m, .int .i64 keep], .int .i64 0]) ?hb4 (fun r0 r1 => by simp [results, Tryz.results30, go_sem, r0, r1]) rfl ?hx4
    case hb4 => exact HBX.out.set2 _ _
    case hx4 => exact ⟨_, _, rfl, HSL.out.boxed2 HBX.out _ _, HX2.out.store2 (by omega) _ _⟩

theorem places_told (n : Nat) (leaf : Bool) (it : List It) : placesC n leaf it = !((toldL leaf it).any (fun p => !isPl p n)) := by
  unfold placesC toldL isPl
  cases leaf
  · simp only [Bool.false_or, Bool.false_eq_true, if_false, List.any_map, Function.comp_def]
    rw [List.all_eq_not_any_not]
  · rfl
end Go.Proofs.YtnlkakbpcdfgfaaGreat
namespace Go.Proofs.YtnlkakbpcdfgfaaGreat
set_option maxRecDepth 20000
open Go.RowKit
attribute [local go_sem ↓] Go.wp_at_zero Go.wp_at_succ

theorem hc_eta (x : HC) : (⟨x.ref, x.pin, x.leaf, x.it⟩ : HC) = x := rfl
/-- Same of nodes, right or not. -/
theorem nodeSame_all (f g : Bool) (A B : Option Addr) (a b : List It) (n m c c' : Nat) (w : World) (hn : n = a.length) (hm : m = b.length) (hA : Sl w A n c (ivs a)) (hB : Sl w B m c' (ivs b)) :
    Calls Tryz.prog 44 #[.agg #[.bool f, .slice A n c], .agg #[.bool g, .slice B m c']] w fun e w' => e = .returned (.bool (sameN f a g b)) ∧ Ext w w' := by
  obtain ⟨W, hW⟩ : ∃ W, (w.alloc (.cells #[.bool f, .slice A n c] 70)).alloc (.cells #[.bool g, .slice B m c'] 70) = W := ⟨_, rfl⟩
  obtain ⟨hx, hb0, hb1⟩ := allocs2 hW
  have HX := Lib.hid hx
  have HI := Lib.hid (equalI_any A B a b n m c c' W hn hm (hA.ext hx) (hB.ext hx))
  obtain ⟨p0, p1, p2⟩ := hb0.read2
  obtain ⟨q0, q1, q2⟩ := hb1.read2
  clear hA hB hn hm hx hb0 hb1
  unfold sameN
  cases f <;> cases g
  all_goals
    go_enter Tryz.func44, Tryz.ntmps44
    go_wp2_with ((go_at_call 76; refine HI.out.mono ?_; rintro e w1 ⟨rfl, hx⟩; have HX := Lib.hid (HX.out.trans hx); clear hx))
    go_ret
    exact ⟨ret_bool (by simp), HX.out⟩
theorem hc_eq (r s : Int) (p t f g : Bool) (a b : List It) : decide ((⟨r, p, f, a⟩ : HC) = ⟨s, t, g, b⟩) = (decide (r = s) && (decide (p = t) && sameN f a g b)) := by
  unfold sameN sameI
  rw [Bool.eq_iff_iff]
  simp
end Go.Proofs.YtnlkakbpcdfgfaaGreat
namespace Go.Proofs.YtnlkakbpcdfgfaaGreat
set_option maxRecDepth 20000
open Go.RowKit
attribute [local go_sem ↓] Go.wp_at_zero Go.wp_at_succ

theorem Own.hsl {v w : World} {g n : Nat} {l : List HC} (h : Own v w g n l) (hn : n = l.length) : HcSl w (some ⟨g, 0, none⟩) n n l := by
  have h1 := h.sl
  rwa [← hn] at h1
theorem Own.ex {v w : World} {g cap : Nat} {l : List HC} (h : Own v w g cap l) : Ext v w := by obtain ⟨_, _, _, h⟩ := h; exact h
def settS (g : List HC) (p : Int) : List HC := g.set p.toNat (stC (g.getD p.toNat HC.none))
theorem wait_mem {l : List HC} {n j : Nat} (hj : j < (waitK l n).length) : ∃ k, k < n ∧ (waitK l n)[j] = (k : Int) := by
  have h := List.getElem_mem hj
  unfold waitK at h
  obtain ⟨k, hk, e⟩ := List.mem_map.1 h
  have h2 := (List.mem_filter.1 hk).1
  exact ⟨k, List.mem_range.1 h2, e.symm⟩
theorem wait_fold (l : List HC) : ∀ k, k ≤ l.length → (waitK l k).foldl settS l = stK l k
  | 0, _ => by rw [stK_zero]; rfl
  | k + 1, h => by
    rw [waitK_succ (by omega), List.foldl_append, wait_fold l k (by omega)]
    cases hp : l[k].pin
    · rw [stK_same (by omega) hp]; rfl
    · simp only [if_true, List.foldl_cons, List.foldl_nil]
      unfold settS
      rw [Int.toNat_natCast, List.getD_eq_getElem?_getD, List.getElem?_eq_getElem (by rw [stK_len]; omega), Option.getD_some, stK_at (by omega), stK_succ (by omega)]
theorem sett_len (ps : List Int) (l : List HC) : (ps.foldl settS l).length = l.length :=
  foldl_inv (P := fun g : List HC => g.length = l.length) (g := settS) (fun b a hb => by unfold settS; rw [List.length_set]; exact hb) _ _ rfl
set_option maxRecDepth 100000 in
set_option maxHeartbeats 3200000 in
theorem heapSettle_all (R : Option Addr) (l : List HC) (n q : Nat) (keep : Int) (w : World) (hb : n ≤ 90000) (hA : HcSl w R n q l) :
    Calls Tryz.prog 43 #[.agg #[.slice R n q, .int .i64 keep]] w fun e w' => ∃ S d, e = .returned (.agg #[.slice S n d, .int .i64 keep]) ∧ HcSl w' S n d (settleH ⟨l, keep⟩).c ∧ Ext w w' := by
  have hn := hA.1
  obtain ⟨W, hW⟩ : ∃ W, (w.alloc (.cells #[.slice R n q, .int .i64 keep] 29)).alloc (.cells #[.slice none 0 0, .int .i64 0] 29) = W := ⟨_, rfl⟩
  obtain ⟨hx0, hb0, hb1⟩ := allocs2 hW
  have hsz : W.heap.size = w.heap.size + 1 + 1 := by rw [← hW]; simp
  have HX := Lib.hid hx0
  have HB0 := Lib.hid hb0
  have HB1 := Lib.hid hb1
  have HSZ := Lib.hid hsz
  have HWT := Lib.hid (fun w' (hx : Ext w w') => hpWaiting_any R l n q w' hb (hA.ext hx))
  have HCH := Lib.hid (fun S t d w' (hx : Ext w w') (ht : t = (waitK l n).length) (hS : Sl w' S t d ((waitK l n).map iv)) => hpChangedSettle_any w R l n q keep S (waitK l n) t d settS w' hx hb hA ht hS (fun lj j hj g wr e ho => by
    obtain ⟨k, hk, ek⟩ := wait_mem hj
    rw [ek]
    have hlj : lj.length = l.length := by rw [e]; exact sett_len _ _
    have h := hpSettle_at w g n k lj n wr (by omega) (by omega) ho
    unfold settS
    rw [Int.toNat_natCast, List.getD_eq_getElem?_getD, List.getElem?_eq_getElem (by omega), Option.getD_some]
    exact h))
  have hfin : (waitK l n).foldl settS l = (settleH ⟨l, keep⟩).c := by rw [wait_fold l n (by omega), hn, stK_all]; rfl
  have hlen : n = (settleH ⟨l, keep⟩).c.length := by unfold settleH; simp [hn]
  rw [hfin] at HCH
  have HLEN := Lib.hid hlen
  obtain ⟨p0, p1, p2⟩ := hb0.read2
  clear hx0 hb0 hb1 hA hsz hfin hlen hn
  generalize waitK l n = ps at *
  generalize (settleH ⟨l, keep⟩).c = l' at *
  subst hW
  go_enter Tryz.func43, Tryz.ntmps43
  go_wp2_with fail
  generalize hW : World.alloc (World.alloc w _) _ = W at *
  clear hW
  go_region_law
    (first
      | ((go_simp
          go_at_call 75
          refine (HWT.out _ ?_).mono ?_
          (first | exact HX.out.drew | exact HX.out)
          rintro e w1 ⟨S, t, d, rfl, ht, hs, hx⟩
          have HX1 := Lib.hid (show Ext W w1 from by first | exact (Ext.refl _).drew.trans hx | exact hx)
          have HT := Lib.hid ht
          have HS := Lib.hid hs
          obtain ⟨c0, c1, c2⟩ := (HB0.out.ext HX1.out).read2
          clear ht hs hx))
      | ((go_simp
          go_at_call 73
          refine (HCH.out _ _ _ _ (HX.out.trans HX1.out) HT.out HS.out).mono ?_
          rintro e w2 ⟨g, rfl, hg, ho, hx⟩
          have HX2 := Lib.hid (HX1.out.trans hx)
          have HO := Lib.hid ho
          have hgw : w.heap.size + 1 < g := by have h1 := HSZ.out; have h2 := HX1.out.size; omega
          have hb2 := HB1.out.ext HX2.out
          have HB2 := Lib.hid hb2
          obtain ⟨t0, t1, t2⟩ := hb2.read2
          obtain ⟨y0, y1⟩ := hb2.free2
          clear hg ho hx hb2)))
  all_goals
    go_wp2_with fail
    refine ret2_cell (k := w.heap.size + 1) (x := .slice (some ⟨g, 0, none⟩) n n) (y := .int .i64 keep) (v := .agg #[.slice (some ⟨g, 0, none⟩) n n, .int .i64 keep]) ?hb4 (fun r0 r1 => by simp [results, Tryz.results43, go_sem, r0, r1]) rfl ?hx4
    case hb4 => exact HB2.out.set2 _ _
    case hx4 =>
      have hfo := (HO.out.other (p := ⟨w.heap.size + 1, 0, none⟩) (by simp; omega) (by simp) (.slice (some ⟨g, 0, none⟩) n n)).other (p := ⟨w.heap.size + 1, 1, none⟩) (by simp; omega) (by simp) (.int .i64 keep)
      exact ⟨_, _, rfl, hfo.hsl HLEN.out, hfo.ex⟩
theorem heapSettle_any (R : Option Addr) (l : List HC) (n q : Nat) (keep : Int) (w : World) (hM : mayH ⟨l, keep⟩ 60 = true) (hA : HcSl w R n q l) :
    Calls Tryz.prog 43 #[.agg #[.slice R n q, .int .i64 keep]] w fun e w' => ∃ S d, e = .returned (.agg #[.slice S n d, .int .i64 keep]) ∧ HcSl w' S n d (settleH ⟨l, keep⟩).c ∧ Ext w w' := by
  refine heapSettle_all R l n q keep w ?_ hA
  have hn := hA.1
  unfold mayH at hM
  simp only [Bool.and_eq_true] at hM
  have := (rightH_iff hM.2).1
  omega
end Go.Proofs.YtnlkakbpcdfgfaaGreat
namespace Go.Proofs.YtnlkakbpcdfgfaaGreat
set_option maxRecDepth 20000
open Go.RowKit

/-- A box that holds neither texts nor flags. -/
def NoSB (cs : Array Value) : Prop := ∀ (i : Nat) (v : Value), cs[i]? = some v → (∀ s, v ≠ .string s) ∧ (∀ b, v ≠ .bool b)
theorem nosb6 (A1 A2 A3 : Option Addr) (n1 c1 n2 c2 n3 c3 : Nat) (x y z : Int) : NoSB #[.slice A1 n1 c1, .int .i64 x, .slice A2 n2 c2, .slice A3 n3 c3, .int .i64 y, .int .i64 z] := fun i v hi => by
  rcases i with _ | _ | _ | _ | _ | _ | i <;> simp at hi <;> subst hi <;> exact ⟨fun _ e => (by cases e), fun _ e => (by cases e)⟩
theorem str_off {w : World} {A : Option Addr} {n c : Nat} {xs : List Value} (h : Sl w A n c xs) (hs : xs ≠ [] → ∃ (i : Nat) (s : ByteArray), xs[i]? = some (Value.string s)) {k : Nat} {cs : Array Value} (hb : Bx w k cs) (hn : NoSB cs) : xs ≠ [] → ∀ p, A = some p → some k ≠ some p.block := fun hx p hp e => by
  obtain ⟨b, off, e', _, hc⟩ := h.cells hx
  rw [hp] at e'
  cases e'
  obtain ⟨i, s, hi⟩ := hs hx
  have h1 := hc _ _ hi
  obtain rfl : k = b := Option.some.inj e
  exact (hn _ _ (hb.get h1)).1 _ rfl
theorem hcs_store1 {w : World} {R : Option Addr} {m q : Nat} {l : List HC} (hit : ∀ y ∈ l, y.it = []) (h : HcSl w R m q l) {k : Nat} {bs : Array Value} (hb : Bx w k bs) (hn : NoSB bs) (j : Nat) (u : Value) : HcSl (w.setCell ⟨k, j, none⟩ u) R m q l := by
  obtain ⟨h1, cs, h2, h3⟩ := h
  refine ⟨h1, cs, ?_, h3.1, fun i hi => ?_⟩
  · refine h2.grown (grown_set w k j u) (fun hx p hp e => ?_)
    obtain ⟨b, off, e', hlt, hc⟩ := h2.cells hx
    rw [hp] at e'
    cases e'
    have hl := h3.1
    have hpos : 0 < l.length := by
      rcases Nat.eq_zero_or_pos l.length with h0 | h0
      · rw [h0] at hl; exact absurd (List.eq_nil_of_length_eq_zero hl) hx
      · exact h0
    obtain ⟨A, c, e1, e2, _⟩ := h3.2 0 hpos
    have g0 := hc _ _ e2
    obtain rfl : k = b := Option.some.inj e
    exact (hn _ _ (hb.get g0)).2 _ rfl
  · obtain ⟨A, c, e1, e2, e3, e4, h5⟩ := h3.2 i hi
    have hn := hit _ (List.getElem_mem hi)
    refine ⟨A, c, e1, e2, e3, e4, h5.1, h5.2.1, h5.2.2.1, ?_⟩
    rw [hn]
    exact Cells.nil _ _
theorem DoK.st1 {w V : World} {k X : Nat} {x0 x1 x2 x3 x4 x5 : Value} {D1 D2 : Option Addr} {d1 d2 : Nat} {rb : List ByteArray} {rl : List Wr} {A1 A2 : Option Addr} {n1 c1 n2 c2 : Nat} {R : Option Addr} {n q : Nat} {l : List HC} (hit : ∀ y ∈ l, y.it = []) (h : DoK w V k X x0 x1 x2 x3 x4 x5 D1 D2 d1 d2 rb rl A1 A2 n1 c1 n2 c2 R n q l) (hn : NoSB #[x0, x1, x2, x3, x4, x5]) (j : Nat) (u : Value)
    {y0 y1 y2 y3 y4 y5 : Value} (hy : (#[x0, x1, x2, x3, x4, x5] : Array Value).setIfInBounds j u = #[y0, y1, y2, y3, y4, y5]) : DoK w (V.setCell ⟨k + 1, j, none⟩ u) k X y0 y1 y2 y3 y4 y5 D1 D2 d1 d2 rb rl A1 A2 n1 c1 n2 c2 R n q l :=
  ⟨by rw [← hy]; exact h.st.set j u, h.bx.set_other (p := ⟨k + 1, j, none⟩) (by have := h.hX; show k + 1 ≠ X; omega) u, h.r2.set_other (p := ⟨k + 1, j, none⟩) (by show k + 1 ≠ k + 1 + 1; omega) u, h.r3.set_other (p := ⟨k + 1, j, none⟩) (by show k + 1 ≠ k + 1 + 1 + 1; omega) u, h.s1.grown (grown_set V (k + 1) j u) (str_off h.s1 svs_str h.st hn), h.s2.grown (grown_set V (k + 1) j u) (str_off h.s2 wvs_str h.st hn), hcs_store1 hit h.hc h.st hn j u, h.hx.set (p := ⟨k + 1, j, none⟩) (by have := h.hk; show w.heap.size ≤ k + 1; omega) u, h.hX, h.hk⟩
theorem settle_new (n : Nat) (keep : Int) : (settleH ⟨List.replicate n HC.none, keep⟩).c = List.replicate n HC.none := by
  unfold settleH
  simp only [List.map_replicate]
  rfl
set_option maxHeartbeats 1600000 in
theorem cellsC_int (i kb : Nat) (b : Int) (w : World) (hi : i < 5000) (hk : w.cell? ⟨kb, 0, none⟩ = some (.int .i64 b)) :
    Calls Tryz.prog 32 #[.int .i64 i, .pointer (some ⟨kb, 0, none⟩)] w fun e w' => e = .returned (.bool (decide (b < ((baseP (i + 1) + i + 1 : Nat) : Int)))) ∧ Ext w w' := by
  have hl := World.block_lt_of_cell? _ _ hk
  have HK := Lib.hid hk
  have HA := Lib.hid (fun w' => layBlocks_any (i + 1) w' (by omega))
  have hb2 : baseP (i + 1) ≤ 30000 := by unfold baseP areaP; omega
  rw [show baseP (i + 1) + i + 1 = baseP (i + 1) + (i + 1) by omega]
  generalize baseP (i + 1) = a at *
  obtain ⟨m, hm⟩ : ∃ m, a + (i + 1) = m := ⟨_, rfl⟩
  rw [hm] at HA ⊢
  have e1 : IntKind.i64.wrap ((i : Int) + 1) = ((i + 1 : Nat) : Int) := by rw [IntKind.wrap_i64]; omega
  have HX := Lib.hid (Ext.refl w)
  clear hm
  go_enter Tryz.func32, Tryz.ntmps32
  go_wp2_with fail
  go_region_with (go_at_call 33; refine (HA.out _).mono ?_; rintro e w2 ⟨rfl, hx⟩; have p0 := (((Ext.refl _).drew.trans hx).cell (p := ⟨kb, 0, none⟩) hl).trans HK.out; have HX2 := Lib.hid ((HX.out.drew).trans hx); clear hx)
  all_goals go_wp2_with fail
  all_goals go_ret
  all_goals exact ⟨by first | rfl | (simp only [Int.ofNat_lt]) | (congr 2; simp), HX2.out⟩
set_option maxHeartbeats 1600000 in
theorem planCells_int (b : Int) (w : World) :
    Calls Tryz.prog 16 #[.int .i64 b] w fun e w' => e = .returned (.int .i64 (cellsP b.toNat : Nat)) ∧ Ext w w' := by
  have hb := Bx.new w #[.int .i64 b] 3
  have hx := (Ext.refl w).alloc (.cells #[.int .i64 b] 3)
  obtain ⟨W, hW⟩ : ∃ W, w.alloc (.cells #[.int .i64 b] 3) = W := ⟨_, rfl⟩
  rw [hW] at hb hx
  have HS : Calls Tryz.prog 31 #[.int .i64 2000, .func (.func 32) #[] #[.pointer (some ⟨w.heap.size, 0, none⟩)]] W fun e w' => e = .returned (.int .i64 (cellsP b.toNat : Nat)) ∧ Ext W w' := by
    have HF := Lib.hid (fun i (w' : World) (hy : Ext W w') (hi : i < 2000) => cellsC_int i w.heap.size b w' (by omega) ((hb.ext hy).at 0 _ rfl))
    obtain ⟨c1, c2, c3⟩ := cells_facts b.toNat
    have C1 := Lib.hid (fun i (h : i < cellsP b.toNat) => cells_lt h)
    have C2 := Lib.hid (fun i (h : cellsP b.toNat ≤ i) (hi : i < 2000) => cells_ge h hi)
    clear c2 c3 hb hx hW
    generalize cellsP b.toNat = c at *
    go_enter Tryz.func31, Tryz.ntmps31
    go_wp2
    go_loopw [5, 6] (fun s5 s6 wr => ∃ lo hi : Nat, s5 = .int .i64 lo ∧ s6 = .int .i64 hi ∧ lo ≤ c ∧ c ≤ hi ∧ hi ≤ 2000 ∧ Ext W wr) (fun s5 s6 _ => (intOf s6 - intOf s5).toNat)
    case atStart => exact ⟨0, 2000, rfl, rfl, Nat.zero_le _, c1, Nat.le_refl _, Ext.refl _⟩
    case round =>
      obtain ⟨lo, hi, rfl, rfl, hlh, hch, hin, hy⟩ := hrel
      have HY := Lib.hid hy
      by_cases hlt : lo < hi
      · have hc := HF.out ((lo + hi) / 2) wr hy (by omega)
        rw [show (((lo + hi) / 2 : Nat) : Int) = ((lo : Int) + (hi : Int)) / 2 by omega] at hc
        obtain ⟨m, hm⟩ : ∃ m, (lo + hi) / 2 = m := ⟨_, rfl⟩
        have hmI : ((lo : Int) + (hi : Int)) / 2 = (m : Int) := by omega
        have hm2 : m < 2000 := by omega
        have K1 := Lib.hid (C1.out m)
        have K2 := Lib.hid (fun h => C2.out m h hm2)
        rw [hm] at hc
        obtain ⟨t, ht⟩ : ∃ t, decide (b < ((baseP (m + 1) + m + 1 : Nat) : Int)) = t := ⟨_, rfl⟩
        rw [ht] at hc
        have HT := Lib.hid ht
        have HM := Lib.hid hm
        have HMI := Lib.hid hmI
        have HC := Lib.hid hc
        clear ht hc hy hm hmI
        cases t
        · go_wp2_with (go_at_call 32; refine HC.out.mono ?_; rintro e w' ⟨rfl, hz⟩; have HZ := Lib.hid (HY.out.trans hz); clear hz)
          go_roundw
          case measure => have h1 := HM.out; simp [intOf]; omega
          case rel =>
            have h1 := HM.out
            have hmc : m < c := by
              rcases Nat.lt_or_ge m c with g | g
              · exact g
              · have h2 := K2.out g; have h3 := of_decide_eq_false HT.out; omega
            exact ⟨m + 1, hi, by rw [HMI.out]; first | rfl | (congr 1; omega), rfl, by omega, hch, hin, HZ.out⟩
        · go_wp2_with (go_at_call 32; refine HC.out.mono ?_; rintro e w' ⟨rfl, hz⟩; have HZ := Lib.hid (HY.out.trans hz); clear hz)
          go_roundw
          case measure => have h1 := HM.out; simp [intOf]; omega
          case rel =>
            have h1 := HM.out
            have hmc : c ≤ m := by
              rcases Nat.lt_or_ge m c with g | g
              · have h2 := K1.out g; have h3 := of_decide_eq_true HT.out; omega
              · exact g
            exact ⟨lo, m, rfl, by rw [HMI.out], hlh, hmc, by omega, HZ.out⟩
      · obtain rfl : hi = lo := by omega
        obtain rfl : c = hi := by omega
        go_wp2
        go_ret
        exact ⟨rfl, HY.out⟩
  have HS := Lib.hid HS
  have HX := Lib.hid hx
  have HW := Lib.hid hW
  clear hb hx hW
  go_enter Tryz.func16, Tryz.ntmps16
  go_wp2_with (go_at_call 31; rw [HW.out]; refine HS.out.mono ?_; rintro e w1 ⟨rfl, hz⟩; have HZ := Lib.hid (HX.out.trans hz); clear hz)
  go_ret
  exact ⟨rfl, HZ.out⟩
end Go.Proofs.YtnlkakbpcdfgfaaGreat
namespace Go.Proofs.YtnlkakbpcdfgfaaGreat
set_option maxRecDepth 20000
open Go.RowKit
attribute [local go_sem ↓] Go.wp_at_zero Go.wp_at_succ

/-- P15.2: may there be such a disk? -/
def fmtOk (blocks keep : Int) : Prop := (1 ≤ blocks ∧ blocks ≤ 4000) ∧ newOk (cellsP blocks.toNat : Nat) keep
instance (blocks keep : Int) : Decidable (fmtOk blocks keep) := by unfold fmtOk; infer_instance
def fmtP (blocks keep : Int) : List Wr := planW (newB blocks) [] (cellsP blocks.toNat) keep.toNat 1 0
def fmtR (blocks keep : Int) : (List ByteArray × List Wr) × Nat := doS (newB blocks) [] (fmtP blocks keep)
/-- What Format answers: blocks, writes, cells, Keep, Next, Gen, the error. -/
structure Fmt where
  b : List ByteArray
  l : List Wr
  n : Nat
  keep : Int
  next : Int
  gen : Int
  e : Int
def fmtS (blocks keep : Int) : Fmt :=
  if fmtOk blocks keep then
    ⟨(fmtR blocks keep).1.1, (fmtR blocks keep).1.2, cellsP blocks.toNat, keep, 1, if (fmtR blocks keep).2 < (fmtP blocks keep).length then 0 else 1, if (fmtR blocks keep).2 < (fmtP blocks keep).length then 8 else 0⟩
  else ⟨[], [], 0, 0, 0, 0, 1⟩
/-- What a call of Format leaves. -/
def FmtAns (f : Fmt) (w : World) (e : Ending) (w' : World) : Prop :=
  ∃ D S d, e = .returned (.tuple #[D, .agg #[.slice S f.n d, .int .i64 f.keep, .slice none 0 0, .slice none 0 0, .int .i64 f.next, .int .i64 f.gen], .int .i64 f.e]) ∧ IsDisk w' D f.b f.l ∧ HcSl w' S f.n d (List.replicate f.n HC.none) ∧ Ext w w'
theorem asks_le (b : List ByteArray) (dl : List Wr) (base : Nat) (L : List ByteArray) : ∀ k, (asks b dl base L k).length ≤ k
  | 0 => Nat.le_refl _
  | k + 1 => by
    have h := asks_le b dl base L k
    show (askW _ _ _ _ _).length ≤ _
    unfold askW
    split
    · omega
    · rw [List.length_append, List.length_singleton]; omega
theorem bookP_lenCmG (keep next n : Nat) : (bookP next keep (List.replicate n 0)).length = 11 + 2 * n := by
  rw [← bookR_end (refs := List.replicate n 0) (n := n) (by simp)]
  unfold bookR bookH
  simp [putL_length]
  omega
theorem planW_le (b : List ByteArray) (dl : List Wr) (n keep next gen : Nat) : (planW b dl n keep next gen).length ≤ 14 + 2 * n := by
  unfold planW
  simp only [List.length_append, List.length_singleton]
  have h := asks_le b dl (2 + (gen + 1) % 2 * areaP n) (chB (bookP next keep (List.replicate n 0))) (chB (bookP next keep (List.replicate n 0))).length
  have h2 := chunks_le (bookP next keep (List.replicate n 0))
  rw [bookP_lenCmG, ← chB_len] at h2
  omega
theorem zero_hit (n : Nat) : ∀ y ∈ List.replicate n HC.none, y.it = [] := by
  intro y hy; obtain ⟨_, rfl⟩ := List.mem_replicate.1 hy; rfl
/-- Both results are stored. -/
theorem fmt_fin {w V : World} {k n d : Nat} {b : List ByteArray} {l : List Wr} {D1 D2 S : Option Addr} {d1 d2 : Nat} (hk : w.heap.size ≤ k) (h2 : Bx V k #[.slice none 0 0, .slice none 0 0]) (h6 : Bx V (k + 1) #[.slice none 0 0, .int .i64 0, .slice none 0 0, .slice none 0 0, .int .i64 0, .int .i64 0])
    (s1 : Sl V D1 b.length d1 (b.map sv)) (s2 : Sl V D2 l.length d2 (wvs l)) (hc : HcSl V S n d (List.replicate n HC.none)) (hx : Ext w V) (x0 x1 x2 x3 x4 x5 : Value) :
    ∃ W, W = ((((((((V.setCell ⟨k, 0, none⟩ (.slice D1 b.length d1)).setCell ⟨k, 1, none⟩ (.slice D2 l.length d2)).setCell ⟨k + 1, 0, none⟩ x0).setCell ⟨k + 1, 1, none⟩ x1).setCell ⟨k + 1, 2, none⟩ x2).setCell ⟨k + 1, 3, none⟩ x3).setCell ⟨k + 1, 4, none⟩ x4).setCell ⟨k + 1, 5, none⟩ x5) ∧
      Bx W k #[.slice D1 b.length d1, .slice D2 l.length d2] ∧ Bx W (k + 1) #[x0, x1, x2, x3, x4, x5] ∧ IsDisk W (.agg #[.slice D1 b.length d1, .slice D2 l.length d2]) b l ∧ HcSl W S n d (List.replicate n HC.none) ∧ Ext w W :=
  ⟨_, rfl, bx_other6 (h2.set2 _ _) (by omega) _ _ _ _ _ _, st_set6 (bx_other2 h6 (by omega) _ _) _ _ _ _ _ _,
    ⟨D1, d1, D2, d2, rfl, (s1.store2 (flat_svs _) h2 _ _).store6 svs_str (bx_other2 h6 (by omega) _ _) _ _ _ _ _ _, (s2.store2 (flat_wvs _) h2 _ _).store6 wvs_str (bx_other2 h6 (by omega) _ _) _ _ _ _ _ _⟩,
    hcs_boxed6 (zero_hit n) (hcs_boxed22 (zero_hit n) hc h2 _ _) (bx_other2 h6 (by omega) _ _) _ _ _ _ _ _, ext_store6 (hx.store2 hk _ _) (by omega) _ _ _ _ _ _⟩
set_option maxRecDepth 100000 in
set_option maxHeartbeats 1600000 in
theorem ref15Format_any (blocks keep : Int) (w : World) :
    Calls Tryz.prog 6 #[.int .i64 blocks, .int .i64 keep] w (FmtAns (fmtS blocks keep) w) := by
  have hb1 := (Bx.new w #[.slice none 0 0, .slice none 0 0] 26).ext ((Ext.refl _).alloc (.cells #[.slice none 0 0, .int .i64 0, .slice none 0 0, .slice none 0 0, .int .i64 0, .int .i64 0] 33))
  have hb2 := Bx.new (w.alloc (.cells #[.slice none 0 0, .slice none 0 0] 26)) #[.slice none 0 0, .int .i64 0, .slice none 0 0, .slice none 0 0, .int .i64 0, .int .i64 0] 33
  rw [World.size_alloc] at hb2
  have hx := ((Ext.refl w).alloc (.cells #[.slice none 0 0, .slice none 0 0] 26)).alloc (.cells #[.slice none 0 0, .int .i64 0, .slice none 0 0, .slice none 0 0, .int .i64 0, .int .i64 0] 33)
  generalize hW : ((w.alloc _).alloc _) = W1 at hb1 hb2 hx
  have HB1 := Lib.hid hb1
  have HB2 := Lib.hid hb2
  have HX := Lib.hid hx
  clear hb1 hb2 hx
  have RN := Lib.hid (fun w' => newR_any blocks w')
  by_cases h1 : 1 ≤ blocks ∧ blocks ≤ 4000
  rotate_left
  · have HF := Lib.hid (show fmtS blocks keep = ⟨[], [], 0, 0, 0, 0, 1⟩ from by unfold fmtS; exact if_neg (fun h => h1 h.1))
    rw [show newE blocks = 1 by unfold newE; rw [if_neg h1], show newB blocks = [] by unfold newB; rw [if_neg h1]] at RN
    clear h1
    generalize fmtS blocks keep = F at *
    go_enter Tryz.func6, Tryz.ntmps6
    go_wp2_with (first
      | (go_at_call 18
         with_reducible refine (RN.out _).mono ?_
         rintro e w2 ⟨v, rfl, ⟨D1, d1, D2, d2, rfl, hd1, hd2⟩, hx⟩
         have X2 := Lib.hid hx
         have B1 := Lib.hid (HB1.out.ext X2.out)
         have B2 := Lib.hid (HB2.out.ext X2.out)
         obtain ⟨y0, y1, z2⟩ := B1.out.read2
         obtain ⟨g0, g1⟩ := B1.out.free2
         obtain ⟨f0, f1, f2, f3, f4, f5⟩ := st_free6 B2.out
         obtain ⟨q0, q1, q2, q3, q4, q5⟩ := st_at6 B2.out
         have z3 := B2.out.lt
         clear hd1 hd2 hx))
    obtain ⟨_, rfl, F1, F2, F3, F4, F5⟩ := fmt_fin (w := w) (k := w.heap.size) (n := 0) (d := 0) (b := []) (l := []) (D1 := none) (D2 := none) (S := none) (d1 := 0) (d2 := 0) (Nat.le_refl _) B1.out B2.out (Sl.nil _) (Sl.nil _) ⟨rfl, [], Sl.nil _, HcAt.nil _⟩ (HX.out.trans X2.out) (.slice none 0 0) (.int .i64 0) (.slice none 0 0) (.slice none 0 0) (.int .i64 0) (.int .i64 0)
    refine ret26_cell (k := w.heap.size) (j := w.heap.size + 1) (F1.ext ((Ext.refl _).alloc _)) (F2.ext ((Ext.refl _).alloc _)) (v := .tuple #[.agg #[.slice none 0 0, .slice none 0 0], .agg #[.slice none 0 0, .int .i64 0, .slice none 0 0, .slice none 0 0, .int .i64 0, .int .i64 0], .int .i64 1]) (fun r0 r1 r2 r3 r4 r5 r6 r7 => by simp [results, Tryz.results6, go_sem, r0, r1, r2, r3, r4, r5, r6, r7]) rfl ?_
    rw [HF.out]
    unfold FmtAns
    exact ⟨_, none, 0, rfl, F3.ext ((Ext.refl _).alloc _), F4.ext ((Ext.refl _).alloc _), F5.alloc _⟩
  · obtain ⟨m, rfl⟩ := Int.eq_ofNat_of_zero_le (show 0 ≤ blocks by omega)
    have hm : 1 ≤ m ∧ m ≤ 4000 := by omega
    have HBL := Lib.hid (show newB (m : Int) = List.replicate m zb from by unfold newB; rw [if_pos h1]; simp)
    rw [show newE (m : Int) = 0 by unfold newE; rw [if_pos h1]] at RN
    have RC := Lib.hid (fun w' => ref14Cells_any m w' (by omega))
    have hn2 : cellsP m ≤ 2000 := (cells_facts m).1
    have RS := Lib.hid (fun w' => ref12New_any (cellsP m : Nat) keep w')
    by_cases hok : newOk (cellsP m : Nat) keep
    rotate_left
    · have HF := Lib.hid (show fmtS m keep = ⟨[], [], 0, 0, 0, 0, 1⟩ from by unfold fmtS; exact if_neg (fun h => hok h.2))
      rw [show newHE (cellsP m : Nat) keep = 1 by unfold newHE; rw [if_neg hok], show newH (cellsP m : Nat) keep = ⟨[], 0⟩ by unfold newH; rw [if_neg hok]] at RS
      simp only [List.length_nil] at RS
      clear h1 hok hm
      generalize fmtS m keep = F at *
      generalize newB (m : Int) = b at *
      generalize hbl : b.length = bl at *
      generalize cellsP m = n at *
      go_enter Tryz.func6, Tryz.ntmps6
      go_wp2_with (first
      | (go_at_call 18
         with_reducible refine (RN.out _).mono ?_
         rintro e w2 ⟨v, rfl, ⟨D1, d1, D2, d2, rfl, hd1, hd2⟩, hx⟩
         have X2 := Lib.hid hx
         have B1 := Lib.hid (HB1.out.ext X2.out)
         have B2 := Lib.hid (HB2.out.ext X2.out)

         clear hd1 hd2 hx)
      | (go_at_call 10
         with_reducible refine (RC.out _).mono ?_
         rintro e w4 ⟨rfl, rfl⟩)
      | (go_at_call 19
         with_reducible refine (RS.out _).mono ?_
         rintro e w3 ⟨S, d, rfl, hs, hx⟩
         have X3 := Lib.hid ((X2.out.alloc _).trans hx)
         have B3 := Lib.hid (HB1.out.ext X3.out)
         have B4 := Lib.hid (HB2.out.ext X3.out)
         obtain ⟨y0, y1, z2⟩ := B3.out.read2
         obtain ⟨g0, g1⟩ := B3.out.free2
         obtain ⟨f0, f1, f2, f3, f4, f5⟩ := st_free6 B4.out
         obtain ⟨q0, q1, q2, q3, q4, q5⟩ := st_at6 B4.out
         have z3 := B4.out.lt
         clear hx))
      obtain ⟨_, rfl, F1, F2, F3, F4, F5⟩ := fmt_fin (w := w) (k := w.heap.size) (n := 0) (d := 0) (b := []) (l := []) (D1 := none) (D2 := none) (S := none) (d1 := 0) (d2 := 0) (Nat.le_refl _) B3.out B4.out (Sl.nil _) (Sl.nil _) ⟨rfl, [], Sl.nil _, HcAt.nil _⟩ (HX.out.trans X3.out) (.slice none 0 0) (.int .i64 0) (.slice none 0 0) (.slice none 0 0) (.int .i64 0) (.int .i64 0)
      refine ret26_cell (k := w.heap.size) (j := w.heap.size + 1) (F1.ext ((Ext.refl _).alloc _)) (F2.ext ((Ext.refl _).alloc _)) (v := .tuple #[.agg #[.slice none 0 0, .slice none 0 0], .agg #[.slice none 0 0, .int .i64 0, .slice none 0 0, .slice none 0 0, .int .i64 0, .int .i64 0], .int .i64 1]) (fun r0 r1 r2 r3 r4 r5 r6 r7 => by simp [results, Tryz.results6, go_sem, r0, r1, r2, r3, r4, r5, r6, r7]) rfl ?_
      rw [HF.out]
      unfold FmtAns
      exact ⟨_, none, 0, rfl, F3.ext ((Ext.refl _).alloc _), F4.ext ((Ext.refl _).alloc _), F5.alloc _⟩
    · obtain ⟨kp, rfl⟩ := Int.eq_ofNat_of_zero_le (show 0 ≤ keep from hok.2.1)
      have hkp : kp ≤ 2000 := by have := hok.2.2; omega
      have HF := Lib.hid (show fmtS m kp = ⟨(doS (newB (m : Int)) [] (planW (newB (m : Int)) [] (cellsP m) kp 1 0)).1.1, (doS (newB (m : Int)) [] (planW (newB (m : Int)) [] (cellsP m) kp 1 0)).1.2, cellsP m, kp, 1, if (doS (newB (m : Int)) [] (planW (newB (m : Int)) [] (cellsP m) kp 1 0)).2 < (planW (newB (m : Int)) [] (cellsP m) kp 1 0).length then 0 else 1, if (doS (newB (m : Int)) [] (planW (newB (m : Int)) [] (cellsP m) kp 1 0)).2 < (planW (newB (m : Int)) [] (cellsP m) kp 1 0).length then 8 else 0⟩ from by
        unfold fmtS; exact if_pos ⟨h1, hok⟩)
      rw [show newHE (cellsP m : Nat) kp = 0 by unfold newHE; rw [if_pos hok], show newH (cellsP m : Nat) kp = ⟨List.replicate (cellsP m) HC.none, kp⟩ by unfold newH; rw [if_pos hok, Int.toNat_natCast]] at RS
      simp only [List.length_replicate] at RS
      have hbl : (newB (m : Int)).length = m := by rw [HBL.out, List.length_replicate]
      have hpw := planW_le (newB (m : Int)) [] (cellsP m) kp 1 0
      generalize newB (m : Int) = b at *
      obtain ⟨PW, hPW⟩ : ∃ P, planW b [] (cellsP m) kp 1 0 = P := ⟨_, rfl⟩
      rw [hPW] at HF hpw
      have RD := Lib.hid (fun A c A' c' S d w' (hA : Sl w' A m c (b.map sv)) (hA' : Sl w' A' 0 c' (wvs [])) (hS : HcSl w' S (cellsP m) d (List.replicate (cellsP m) HC.none)) => (show Calls Tryz.prog 20 #[.agg #[.slice A m c, .slice A' 0 c'], .agg #[.slice S (cellsP m) d, .int .i64 kp, .slice none 0 0, .slice none 0 0, .int .i64 1, .int .i64 0], .int .i64 (-1)] w' fun e w'' => ∃ D S d, e = .returned (.tuple #[D, .agg #[.slice S (cellsP m) d, .int .i64 kp, .slice none 0 0, .slice none 0 0, .int .i64 1, .int .i64 (if (doS b [] PW).2 < PW.length then (0 : Int) else (1 : Int))], .int .i64 (if (doS b [] PW).2 < PW.length then 8 else 0)]) ∧ IsDisk w'' D (doS b [] PW).1.1 (doS b [] PW).1.2 ∧ HcSl w'' S (cellsP m) d (List.replicate (cellsP m) HC.none) ∧ Ext w' w'' from by
        have := ref15Do_new A A' S b [] PW (cellsP m) d c c' 1 kp 0 1 w' (by omega) (by omega) (by simp) rfl (by rw [hbl]) hn2 (by omega) (by omega) (by omega) rfl hPW (by omega) (by rw [hbl]; exact hA) hA' hS
        rw [hbl] at this
        exact this))
      generalize (if (doS b [] PW).2 < PW.length then (0 : Int) else 1) = gn at *
      generalize (if (doS b [] PW).2 < PW.length then (8 : Int) else 0) = er at *
      clear hPW HBL hpw
      generalize doS b [] PW = rr at *
      obtain ⟨⟨rb, rl⟩, rc⟩ := rr
      simp only at RD HF
      clear h1 hok hm hkp
      generalize fmtS m kp = F at *
      generalize cellsP m = n at *
      have HBN := Lib.hid hbl
      clear hbl
      go_enter Tryz.func6, Tryz.ntmps6
      go_wp2_with (first
      | (go_at_call 18
         with_reducible refine (RN.out _).mono ?_
         rintro e w2 ⟨v, rfl, ⟨D1, d1, D2, d2, rfl, hd1, hd2⟩, hx⟩
         rw [HBN.out] at hd1 ⊢
         have X2 := Lib.hid hx
         have B1 := Lib.hid (HB1.out.ext X2.out)
         have B2 := Lib.hid (HB2.out.ext X2.out)

         have T1 := Lib.hid hd1
         have T2 := Lib.hid hd2
         clear hd1 hd2 hx)
      | (go_at_call 10
         with_reducible refine (RC.out _).mono ?_
         rintro e w4 ⟨rfl, rfl⟩)
      | (go_at_call 19
         with_reducible refine (RS.out _).mono ?_
         rintro e w3 ⟨S, d, rfl, hs, hx⟩
         have X3 := Lib.hid ((X2.out.alloc _).trans hx)
         have U1 := Lib.hid (T1.out.ext (((Ext.refl _).alloc _).trans hx))
         have U2 := Lib.hid (T2.out.ext (((Ext.refl _).alloc _).trans hx))
         have S3 := Lib.hid hs
         have Y0 := Lib.hid (Bx.new w2 #[.slice D1 m d1, .slice D2 0 d2] 26)
         have Y1 := Lib.hid (Y0.out.ext hx)
         have t0 := Y1.out.at 0 _ rfl
         have t1 := Y1.out.at 1 _ rfl
         have t2 := Y1.out.lt
         clear hs hx)
      | (go_at_call 20
         with_reducible refine (RD.out _ _ _ _ _ _ _ ?_ ?_ ?_).mono ?_
         exact U1.out.ext ((Ext.refl _).alloc _)
         exact U2.out.ext ((Ext.refl _).alloc _)
         exact S3.out.ext ((Ext.refl _).alloc _)
         rintro e w5 ⟨D, S5, d5, rfl, ⟨E1, e1, E2, e2, rfl, he1, he2⟩, hs5, hx⟩
         have X5 := Lib.hid ((X3.out.alloc _).trans hx)
         have B3 := Lib.hid (HB1.out.ext X5.out)
         have B4 := Lib.hid (HB2.out.ext X5.out)
         have V1 := Lib.hid he1
         have V2 := Lib.hid he2
         have S5' := Lib.hid hs5
         clear he1 he2 hs5 hx t0 t1 t2
         obtain ⟨y0, y1, z2⟩ := B3.out.read2
         obtain ⟨g0, g1⟩ := B3.out.free2
         obtain ⟨f0, f1, f2, f3, f4, f5⟩ := st_free6 B4.out
         obtain ⟨q0, q1, q2, q3, q4, q5⟩ := st_at6 B4.out
         have z3 := B4.out.lt))

      obtain ⟨_, rfl, F1, F2, F3, F4, F5⟩ := fmt_fin (w := w) (k := w.heap.size) (Nat.le_refl _) B3.out B4.out V1.out V2.out S5'.out (HX.out.trans X5.out) (.slice S5 n d5) (.int .i64 kp) (.slice none 0 0) (.slice none 0 0) (.int .i64 1) (.int .i64 gn)
      refine ret26_cell (k := w.heap.size) (j := w.heap.size + 1) F1 F2 (v := .tuple #[.agg #[.slice E1 rb.length e1, .slice E2 rl.length e2], .agg #[.slice S5 n d5, .int .i64 kp, .slice none 0 0, .slice none 0 0, .int .i64 1, .int .i64 gn], .int .i64 er]) (fun r0 r1 r2 r3 r4 r5 r6 r7 => by simp [results, Tryz.results6, go_sem, r0, r1, r2, r3, r4, r5, r6, r7]) rfl ?_
      rw [HF.out]
      unfold FmtAns
      exact ⟨_, S5, d5, rfl, F3, F4, F5⟩
end Go.Proofs.YtnlkakbpcdfgfaaGreat
namespace Go.Proofs.YtnlkakbpcdfgfaaGreat
set_option maxRecDepth 20000
open Go.RowKit

theorem cm_takes {n : Nat} {x : Wr} (h : takesS n x = true) : x.2.size = 40 ∧ hasS n x.1 = true := by
  unfold takesS at h
  simp only [Bool.and_eq_true, beq_iff_eq] at h
  exact ⟨by have := h.2; omega, h.1⟩
theorem cm_write1 {b : List ByteArray} {x : Wr} (h : b.all okB = true) (hx : takesS b.length x = true) : (write1 b x).all okB = true := by
  unfold write1
  split
  · rw [List.all_eq_true] at *
    intro y hy
    rcases List.mem_or_eq_of_mem_set hy with h1 | h1
    · exact h y h1
    · subst h1
      unfold okB
      rw [(cm_takes hx).1]
      rfl
  · exact h
theorem cm_writeL : ∀ (l : List Wr) (b : List ByteArray), b.all okB = true → l.all (takesS b.length) = true → (writeL b l).all okB = true
  | [], b, h, _ => h
  | x :: l, b, h, hl => by
    simp only [List.all_cons, Bool.and_eq_true] at hl
    exact cm_writeL l (write1 b x) (cm_write1 h hl.1) (by rw [write1_length]; exact hl.2)
/-- A right disk stays one. -/
def DkR (n : Nat) (s : List ByteArray × List Wr) : Prop := s.1.length = n ∧ s.1.all okB = true ∧ s.2.all (takesS n) = true
theorem DkR.step {n : Nat} {b : List ByteArray} {l : List Wr} {x : Wr} {s : List ByteArray × List Wr} (h : DkR n (b, l)) (hs : step1 b l x = some s) : DkR n s := by
  obtain ⟨h1, h2, h3⟩ := h
  simp only at h1 h2 h3
  subst h1
  unfold step1 at hs
  split at hs
  · cases hs
    exact ⟨writeL_length _ _, cm_writeL l b h2 h3, rfl⟩
  · split at hs
    · cases hs
      refine ⟨rfl, h2, ?_⟩
      rename_i ht
      simp only [List.all_append, List.all_cons, List.all_nil, Bool.and_true, Bool.and_eq_true]
      exact ⟨h3, ht⟩
    · cases hs
theorem DkR.steps {n : Nat} : ∀ (p : List Wr) {b : List ByteArray} {l : List Wr}, DkR n (b, l) → DkR n (doS b l p).1
  | [], _, _, h => h
  | x :: p, b, l, h => by
    rw [doS]
    split
    · exact h
    · rename_i s hs
      exact (h.step hs).steps p
theorem doS_full : ∀ (p : List Wr) (b : List ByteArray) (l : List Wr), ¬ (doS b l p).2 < p.length → stepsS b l p = some (doS b l p).1
  | [], b, l, _ => rfl
  | x :: p, b, l, h => by
    rw [doS] at h ⊢
    rw [stepsS]
    split
    · rename_i hs
      rw [hs] at h
      simp at h
    · rename_i s hs
      rw [hs] at h
      simp only [List.length_cons] at h
      exact doS_full p s.1 s.2 (by omega)
theorem doS_end (b : List ByteArray) (l p : List Wr) (h : ¬ (doS b l (p ++ [(-1, ⟨#[]⟩)])).2 < (p ++ [((-1 : Int), (⟨#[]⟩ : ByteArray))]).length) : (doS b l (p ++ [(-1, ⟨#[]⟩)])).1.2 = [] := by
  have h1 := doS_full _ _ _ h
  rw [stepsS_snoc] at h1
  cases hs : stepsS b l p with
  | none => rw [hs] at h1; cases h1
  | some s =>
    rw [hs] at h1
    have h2 : step1 s.1 s.2 (-1, (⟨#[]⟩ : ByteArray)) = some (writeL s.1 s.2, []) := by unfold step1; rw [if_pos (by decide +kernel)]
    simp only [Option.bind_some] at h1
    rw [h2] at h1
    rw [← Option.some.inj h1]
theorem zb_ok (m : Nat) : (List.replicate m zb).all okB = true := by
  rw [List.all_eq_true]
  intro y hy
  obtain ⟨_, rfl⟩ := List.mem_replicate.1 hy
  decide +kernel
/-- What a format that ends well leaves. -/
theorem fmt_right {blocks keep : Int} (h : (fmtS blocks keep).e = 0) : rightS (fmtS blocks keep).b (fmtS blocks keep).l = true ∧ (fmtS blocks keep).l = [] ∧ (fmtS blocks keep).n = cellsP blocks.toNat ∧ (fmtS blocks keep).gen = 1 ∧ (fmtS blocks keep).next = 1 ∧ 1 ≤ blocks := by
  unfold fmtS at h ⊢
  by_cases hok : fmtOk blocks keep
  · rw [if_pos hok] at h ⊢
    by_cases hd : (fmtR blocks keep).2 < (fmtP blocks keep).length
    · simp only [if_pos hd] at h; cases h
    · simp only [if_neg hd]
      obtain ⟨m, rfl⟩ := Int.eq_ofNat_of_zero_le (show 0 ≤ blocks by have := hok.1; omega)
      have hm := hok.1
      have hb : newB (m : Int) = List.replicate m zb := by unfold newB; rw [if_pos hok.1]; simp
      have hl : (fmtR m keep).1.2 = [] := by
        unfold fmtR fmtP at hd ⊢
        unfold planW at hd ⊢
        exact doS_end _ _ _ hd
      have hr : DkR m (fmtR m keep).1 := by
        unfold fmtR
        rw [hb]
        exact DkR.steps _ ⟨by rw [List.length_replicate], zb_ok m, rfl⟩
      refine ⟨?_, hl, trivial, trivial, trivial, by omega⟩
      unfold rightS
      rw [hl, hr.1, hr.2.1]
      simp
      omega
  · rw [if_neg hok] at h
    cases h
/-- What the law asks of package commit. -/
structure CmOk : Prop where
  shown : ∀ w, Calls Tryz.prog 4 #[] w fun e w' => e = .returned (.bool true) ∧ Ext w w'
  fmt : ∀ (blocks keep : Int) (w : World), blocks ≤ 200 → Calls Tryz.prog 5 #[.int .i64 blocks, .int .i64 keep] w (FmtAns (fmtS blocks keep) w)
end Go.Proofs.YtnlkakbpcdfgfaaGreat
