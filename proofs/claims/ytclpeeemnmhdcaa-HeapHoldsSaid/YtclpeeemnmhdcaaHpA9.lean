/- Walks of Hold, Loose and Settle of package heap. -/
import Derived.Test.YtclpeeemnmhdcaaHpA6
import Derived.Test.YtclpeeemnmhdcaaHpA7
import Derived.Test.YtclpeeemnmhdcaaHpA8
namespace Go.Proofs.Ytclpeeemnmhdcaa
open Go.RowKit
attribute [local go_sem ↓] Go.wp_at_zero Go.wp_at_succ

theorem Own.hsl {v w : World} {g n : Nat} {l : List HC} (h : Own v w g n l) (hn : n = l.length) : HcSl w (some ⟨g, 0, none⟩) n n l := by
  have h1 := h.sl
  rwa [← hn] at h1
theorem Own.ex {v w : World} {g cap : Nat} {l : List HC} (h : Own v w g cap l) : Ext v w := by obtain ⟨_, _, _, h⟩ := h; exact h
set_option maxRecDepth 100000 in
set_option maxHeartbeats 1600000 in
theorem hpHoldNo_any (R : Option Addr) (l : List HC) (n q : Nat) (keep : Int) (w : World) (p : Int) (hu : usedC l p = false) (hA : HcSl w R n q l) :
    Calls Try.prog 24 #[.agg #[.slice R n q, .int .i64 keep], .int .i64 p] w fun e w' => e = .returned (.tuple #[.agg #[.slice R n q, .int .i64 keep], .int .i64 4]) ∧ Ext w w' := by
  obtain ⟨W, hW⟩ : ∃ W, (w.alloc (.cells #[.slice R n q, .int .i64 keep] 24)).alloc (.cells #[.slice none 0 0, .int .i64 0] 24) = W := ⟨_, rfl⟩
  obtain ⟨hx0, hb0, hb1⟩ := allocs2 hW
  have HX := Lib.hid hx0
  have HB1 := Lib.hid hb1
  have HU := Lib.hid (hpUsedNoHold_any R l n q keep p W hu (hA.ext hx0))
  obtain ⟨p0, p1, p2⟩ := hb0.read2
  clear hx0 hb0 hb1 hA hu
  subst hW
  go_enter Try.func24, Try.ntmps24
  go_wp2_with (go_at_call 51; refine stop_here ?_)
  refine stop_on ?_
  generalize hW : World.alloc (World.alloc w _) _ = W at *
  clear hW
  refine HU.out.mono ?_
  rintro e w4 ⟨rfl, hx⟩
  have HX4 := Lib.hid (HX.out.trans hx)
  have hb4 := HB1.out.ext hx
  have HB4 := Lib.hid hb4
  obtain ⟨t0, t1, t2⟩ := hb4.read2
  obtain ⟨y0, y1⟩ := hb4.free2
  clear hx hb4 p0 p1 p2
  go_wp2_with fail
  refine ret2_cell (k := w.heap.size + 1) (x := .slice R n q) (y := .int .i64 keep) (v := .tuple #[.agg #[.slice R n q, .int .i64 keep], .int .i64 4]) ?hb4 (fun r0 r1 => by simp [results, Try.results24, go_sem, r0, r1]) rfl ?hx4
  case hb4 => exact HB4.out.set2 _ _
  case hx4 => exact ⟨rfl, HX4.out.store2 (by omega) _ _⟩
set_option maxRecDepth 100000 in
set_option maxHeartbeats 1600000 in
theorem hpHoldYes_any (R : Option Addr) (l : List HC) (n q : Nat) (keep : Int) (w : World) (p : Int) (l' : List HC) (hb : n ≤ 90000) (hu : usedC l p = true) (hA : HcSl w R n q l)
    (hD : ∀ (g : Nat) (wr : World), Own w wr g n l → Calls Try.prog 45 #[.slice (some ⟨g, 0, none⟩) n n, .int .i64 p] wr fun e w' => e = .returned (.tuple #[]) ∧ Own w w' g n l' ∧ wr.grownBy w' (some g)) :
    Calls Try.prog 24 #[.agg #[.slice R n q, .int .i64 keep], .int .i64 p] w fun e w' => ∃ g, e = .returned (.tuple #[.agg #[.slice (some ⟨g, 0, none⟩) n n, .int .i64 keep], .int .i64 0]) ∧ Own w w' g n l' := by
  obtain ⟨W, hW⟩ : ∃ W, (w.alloc (.cells #[.slice R n q, .int .i64 keep] 24)).alloc (.cells #[.slice none 0 0, .int .i64 0] 24) = W := ⟨_, rfl⟩
  obtain ⟨hx0, hb0, hb1⟩ := allocs2 hW
  have hsz : W.heap.size = w.heap.size + 1 + 1 := by rw [← hW]; simp
  have HX := Lib.hid hx0
  have HB1 := Lib.hid hb1
  have HSZ := Lib.hid hsz
  have HU := Lib.hid (hpUsedYesHold_any w R l n q keep p l' W hx0 hb hu hA hD)
  obtain ⟨p0, p1, p2⟩ := hb0.read2
  clear hx0 hb0 hb1 hA hu hD hsz
  subst hW
  go_enter Try.func24, Try.ntmps24
  go_wp2_with (go_at_call 51; refine stop_here ?_)
  refine stop_on ?_
  generalize hW : World.alloc (World.alloc w _) _ = W at *
  clear hW
  refine HU.out.mono ?_
  rintro e w4 ⟨g, rfl, hg, ho, hx⟩
  have hsz := HSZ.out
  have hb4 := HB1.out.ext hx
  have HB4 := Lib.hid hb4
  have HO := Lib.hid ((ho.other (p := ⟨w.heap.size + 1, 0, none⟩) (by simp; omega) (by simp) (.slice (some ⟨g, 0, none⟩) n n)).other (p := ⟨w.heap.size + 1, 1, none⟩) (by simp; omega) (by simp) (.int .i64 keep))
  obtain ⟨t0, t1, t2⟩ := hb4.read2
  obtain ⟨y0, y1⟩ := hb4.free2
  clear hx hb4 p0 p1 p2 ho hg hsz
  go_wp2_with fail
  refine ret2_cell (k := w.heap.size + 1) (x := .slice (some ⟨g, 0, none⟩) n n) (y := .int .i64 keep) (v := .tuple #[.agg #[.slice (some ⟨g, 0, none⟩) n n, .int .i64 keep], .int .i64 0]) ?hb4 (fun r0 r1 => by simp [results, Try.results24, go_sem, r0, r1]) rfl ?hx4
  case hb4 => exact HB4.out.set2 _ _
  case hx4 => exact ⟨g, rfl, HO.out⟩
set_option maxRecDepth 100000 in
set_option maxHeartbeats 1600000 in
theorem hpLooseNo_any (R : Option Addr) (l : List HC) (n q : Nat) (keep : Int) (w : World) (p : Int) (hu : usedC l p = false) (hA : HcSl w R n q l) :
    Calls Try.prog 26 #[.agg #[.slice R n q, .int .i64 keep], .int .i64 p] w fun e w' => e = .returned (.tuple #[.agg #[.slice R n q, .int .i64 keep], .int .i64 4]) ∧ Ext w w' := by
  obtain ⟨W, hW⟩ : ∃ W, (w.alloc (.cells #[.slice R n q, .int .i64 keep] 24)).alloc (.cells #[.slice none 0 0, .int .i64 0] 24) = W := ⟨_, rfl⟩
  obtain ⟨hx0, hb0, hb1⟩ := allocs2 hW
  have HX := Lib.hid hx0
  have HB1 := Lib.hid hb1
  have HU := Lib.hid (hpUsedNoLoose_any R l n q keep p W hu (hA.ext hx0))
  obtain ⟨p0, p1, p2⟩ := hb0.read2
  clear hx0 hb0 hb1 hA hu
  subst hW
  go_enter Try.func26, Try.ntmps26
  go_wp2_with (go_at_call 51; refine stop_here ?_)
  refine stop_on ?_
  generalize hW : World.alloc (World.alloc w _) _ = W at *
  clear hW
  refine HU.out.mono ?_
  rintro e w4 ⟨rfl, hx⟩
  have HX4 := Lib.hid (HX.out.trans hx)
  have hb4 := HB1.out.ext hx
  have HB4 := Lib.hid hb4
  obtain ⟨t0, t1, t2⟩ := hb4.read2
  obtain ⟨y0, y1⟩ := hb4.free2
  clear hx hb4 p0 p1 p2
  go_wp2_with fail
  refine ret2_cell (k := w.heap.size + 1) (x := .slice R n q) (y := .int .i64 keep) (v := .tuple #[.agg #[.slice R n q, .int .i64 keep], .int .i64 4]) ?hb4 (fun r0 r1 => by simp [results, Try.results26, go_sem, r0, r1]) rfl ?hx4
  case hb4 => exact HB4.out.set2 _ _
  case hx4 => exact ⟨rfl, HX4.out.store2 (by omega) _ _⟩
set_option maxRecDepth 100000 in
set_option maxHeartbeats 1600000 in
theorem hpLooseYes_any (R : Option Addr) (l : List HC) (n q : Nat) (keep : Int) (w : World) (p : Int) (l' : List HC) (hb : n ≤ 90000) (hu : usedC l p = true) (hA : HcSl w R n q l)
    (hD : ∀ (g : Nat) (wr : World), Own w wr g n l → Calls Try.prog 52 #[.slice (some ⟨g, 0, none⟩) n n, .int .i64 p] wr fun e w' => e = .returned (.tuple #[]) ∧ Own w w' g n l' ∧ wr.grownBy w' (some g)) :
    Calls Try.prog 26 #[.agg #[.slice R n q, .int .i64 keep], .int .i64 p] w fun e w' => ∃ g, e = .returned (.tuple #[.agg #[.slice (some ⟨g, 0, none⟩) n n, .int .i64 keep], .int .i64 0]) ∧ Own w w' g n l' := by
  obtain ⟨W, hW⟩ : ∃ W, (w.alloc (.cells #[.slice R n q, .int .i64 keep] 24)).alloc (.cells #[.slice none 0 0, .int .i64 0] 24) = W := ⟨_, rfl⟩
  obtain ⟨hx0, hb0, hb1⟩ := allocs2 hW
  have hsz : W.heap.size = w.heap.size + 1 + 1 := by rw [← hW]; simp
  have HX := Lib.hid hx0
  have HB1 := Lib.hid hb1
  have HSZ := Lib.hid hsz
  have HU := Lib.hid (hpUsedYesLoose_any w R l n q keep p l' W hx0 hb hu hA hD)
  obtain ⟨p0, p1, p2⟩ := hb0.read2
  clear hx0 hb0 hb1 hA hu hD hsz
  subst hW
  go_enter Try.func26, Try.ntmps26
  go_wp2_with (go_at_call 51; refine stop_here ?_)
  refine stop_on ?_
  generalize hW : World.alloc (World.alloc w _) _ = W at *
  clear hW
  refine HU.out.mono ?_
  rintro e w4 ⟨g, rfl, hg, ho, hx⟩
  have hsz := HSZ.out
  have hb4 := HB1.out.ext hx
  have HB4 := Lib.hid hb4
  have HO := Lib.hid ((ho.other (p := ⟨w.heap.size + 1, 0, none⟩) (by simp; omega) (by simp) (.slice (some ⟨g, 0, none⟩) n n)).other (p := ⟨w.heap.size + 1, 1, none⟩) (by simp; omega) (by simp) (.int .i64 keep))
  obtain ⟨t0, t1, t2⟩ := hb4.read2
  obtain ⟨y0, y1⟩ := hb4.free2
  clear hx hb4 p0 p1 p2 ho hg hsz
  go_wp2_with fail
  refine ret2_cell (k := w.heap.size + 1) (x := .slice (some ⟨g, 0, none⟩) n n) (y := .int .i64 keep) (v := .tuple #[.agg #[.slice (some ⟨g, 0, none⟩) n n, .int .i64 keep], .int .i64 0]) ?hb4 (fun r0 r1 => by simp [results, Try.results26, go_sem, r0, r1]) rfl ?hx4
  case hb4 => exact HB4.out.set2 _ _
  case hx4 => exact ⟨g, rfl, HO.out⟩
theorem heapHold_any (R : Option Addr) (l : List HC) (n q : Nat) (keep : Int) (w : World) (p : Int) (hM : rightH ⟨l, keep⟩ = true) (hbd : Bd l) (hA : HcSl w R n q l) :
    Calls Try.prog 24 #[.agg #[.slice R n q, .int .i64 keep], .int .i64 p] w fun e w' => ∃ S d, e = .returned (.tuple #[.agg #[.slice S n d, .int .i64 keep], .int .i64 (holdE ⟨l, keep⟩ p)]) ∧ HcSl w' S n d (holdH ⟨l, keep⟩ p).c ∧ Ext w w' := by
  have hn := hA.1
  have hn2 := (rightH_iff hM).1.1.2
  cases hu : usedC l p
  · obtain ⟨e1, e2⟩ := holdH_no (keep := keep) hu
    rw [e1, e2]
    refine (hpHoldNo_any R l n q keep w p hu hA).mono ?_
    rintro e w' ⟨rfl, hx⟩
    exact ⟨R, q, rfl, hA.ext hx, hx⟩
  · obtain ⟨k, hk, rfl, hp⟩ := usedC_iff hu
    obtain ⟨e1, e2⟩ := holdH_at (keep := keep) hk hu
    rw [e1, e2]
    refine (hpHoldYes_any R l n q keep w k (l.set k l[k].more) (by omega) hu hA (fun g wr ho => hpHold_at w g n k l n wr hn hk ⟨by omega, hbd k hk⟩ ho)).mono ?_
    rintro e w' ⟨g, rfl, ho⟩
    exact ⟨_, _, rfl, ho.hsl (by rw [List.length_set]; exact hn), ho.ex⟩
theorem heapLoose_any (R : Option Addr) (l : List HC) (n q : Nat) (keep : Int) (w : World) (p : Int) (hM : rightH ⟨l, keep⟩ = true) (_hbd : Bd l) (hA : HcSl w R n q l) :
    Calls Try.prog 26 #[.agg #[.slice R n q, .int .i64 keep], .int .i64 p] w fun e w' => ∃ S d cs, e = .returned (.tuple #[.agg #[.slice S n d, .int .i64 keep], .int .i64 (looseE ⟨l, keep⟩ p)]) ∧ (looseE ⟨l, keep⟩ p = 0 → w'.ownsRow w.heap.size 54 4 (.slice S n d) n cs) ∧ Sl w' S n d cs ∧ HcAt w' cs (looseL (l.length + 1) l p) ∧ Ext w w' := by
  have hn := hA.1
  have hn2 := (rightH_iff hM).1.1.2
  have hul : usedN l ≤ l.length := List.countP_le_length
  cases hu : usedC l p
  · have e2 : looseE ⟨l, keep⟩ p = 4 := by unfold looseE usedH; simp only [hu]; rfl
    rw [e2, looseL_no _ hu]
    refine (hpLooseNo_any R l n q keep w p hu hA).mono ?_
    rintro e w' ⟨rfl, hx⟩
    obtain ⟨_, cs, hs, ha⟩ := hA
    exact ⟨R, q, cs, rfl, (fun h => by simp at h), hs.ext hx, ha.ext hx, hx⟩
  · obtain ⟨k, hk, rfl, hp⟩ := usedC_iff hu
    have e2 : looseE ⟨l, keep⟩ (k : Int) = 0 := by unfold looseE usedH; simp only [hu]; rfl
    rw [e2]
    refine (hpLooseYes_any R l n q keep w k (looseL (l.length + 1) l (k : Int)) (by omega) hu hA (fun g wr ho => hpLoose_at (usedN l) (l.length + 1) w wr g n l n k (Nat.le_refl _) (by omega) hn (by omega) (right_okL hM) hu ho)).mono ?_
    rintro e w' ⟨g, rfl, ho⟩
    obtain ⟨cs, h1, h2, h3⟩ := ho
    rw [loose_len, ← hn] at h1
    exact ⟨_, _, cs, rfl, fun _ => h1, own_sl h1, h2.ext h3, h3⟩

def settS (g : List HC) (p : Int) : List HC := g.set p.toNat (stC (g.getD p.toNat HC.none))
theorem wait_mem {l : List HC} {n j : Nat} (hj : j < (waitK l n).length) : ∃ k, k < n ∧ (waitK l n)[j] = (k : Int) := by
  have h := List.getElem_mem hj
  unfold waitK at h
  obtain ⟨k, hk, e⟩ := List.mem_map.1 h
  have h2 := (List.mem_filter.1 hk).1
  exact ⟨k, List.mem_range.1 h2, e.symm⟩
theorem wait_fold (l : List HC) : ∀ k, k ≤ l.length → (waitK l k).foldl settS l = stK l k
  | 0, _ => by rw [stK_zero]; rfl
  | k + 1, h => by
    rw [waitK_succ (by omega), List.foldl_append, wait_fold l k (by omega)]
    cases hp : l[k].pin
    · rw [stK_same (by omega) hp]; rfl
    · simp only [if_true, List.foldl_cons, List.foldl_nil]
      unfold settS
      rw [Int.toNat_natCast, List.getD_eq_getElem?_getD, List.getElem?_eq_getElem (by rw [stK_len]; omega), Option.getD_some, stK_at (by omega), stK_succ (by omega)]
theorem sett_len (ps : List Int) (l : List HC) : (ps.foldl settS l).length = l.length :=
  foldl_inv (P := fun g : List HC => g.length = l.length) (g := settS) (fun b a hb => by unfold settS; rw [List.length_set]; exact hb) _ _ rfl
set_option maxRecDepth 100000 in
set_option maxHeartbeats 3200000 in
theorem heapSettle_all (R : Option Addr) (l : List HC) (n q : Nat) (keep : Int) (w : World) (hb : n ≤ 90000) (hA : HcSl w R n q l) :
    Calls Try.prog 28 #[.agg #[.slice R n q, .int .i64 keep]] w fun e w' => ∃ S d, e = .returned (.agg #[.slice S n d, .int .i64 keep]) ∧ HcSl w' S n d (settleH ⟨l, keep⟩).c ∧ Ext w w' := by
  have hn := hA.1
  obtain ⟨W, hW⟩ : ∃ W, (w.alloc (.cells #[.slice R n q, .int .i64 keep] 24)).alloc (.cells #[.slice none 0 0, .int .i64 0] 24) = W := ⟨_, rfl⟩
  obtain ⟨hx0, hb0, hb1⟩ := allocs2 hW
  have hsz : W.heap.size = w.heap.size + 1 + 1 := by rw [← hW]; simp
  have HX := Lib.hid hx0
  have HB0 := Lib.hid hb0
  have HB1 := Lib.hid hb1
  have HSZ := Lib.hid hsz
  have HWT := Lib.hid (fun w' (hx : Ext w w') => hpWaiting_any R l n q w' hb (hA.ext hx))
  have HCH := Lib.hid (fun S t d w' (hx : Ext w w') (ht : t = (waitK l n).length) (hS : Sl w' S t d ((waitK l n).map iv)) => hpChangedSettle_any w R l n q keep S (waitK l n) t d settS w' hx hb hA ht hS (fun lj j hj g wr e ho => by
    obtain ⟨k, hk, ek⟩ := wait_mem hj
    rw [ek]
    have hlj : lj.length = l.length := by rw [e]; exact sett_len _ _
    have h := hpSettle_at w g n k lj n wr (by omega) (by omega) ho
    unfold settS
    rw [Int.toNat_natCast, List.getD_eq_getElem?_getD, List.getElem?_eq_getElem (by omega), Option.getD_some]
    exact h))
  have hfin : (waitK l n).foldl settS l = (settleH ⟨l, keep⟩).c := by rw [wait_fold l n (by omega), hn, stK_all]; rfl
  have hlen : n = (settleH ⟨l, keep⟩).c.length := by unfold settleH; simp [hn]
  rw [hfin] at HCH
  have HLEN := Lib.hid hlen
  obtain ⟨p0, p1, p2⟩ := hb0.read2
  clear hx0 hb0 hb1 hA hsz hfin hlen hn
  generalize waitK l n = ps at *
  generalize (settleH ⟨l, keep⟩).c = l' at *
  subst hW
  go_enter Try.func28, Try.ntmps28
  go_wp2_with fail
  generalize hW : World.alloc (World.alloc w _) _ = W at *
  clear hW
  go_region_law
    (first
      | ((go_simp
          go_at_call 54
          refine (HWT.out _ ?_).mono ?_
          (first | exact HX.out.drew | exact HX.out)
          rintro e w1 ⟨S, t, d, rfl, ht, hs, hx⟩
          have HX1 := Lib.hid (show Ext W w1 from by first | exact (Ext.refl _).drew.trans hx | exact hx)
          have HT := Lib.hid ht
          have HS := Lib.hid hs
          obtain ⟨c0, c1, c2⟩ := (HB0.out.ext HX1.out).read2
          clear ht hs hx))
      | ((go_simp
          go_at_call 44
          refine (HCH.out _ _ _ _ (HX.out.trans HX1.out) HT.out HS.out).mono ?_
          rintro e w2 ⟨g, rfl, hg, ho, hx⟩
          have HX2 := Lib.hid (HX1.out.trans hx)
          have HO := Lib.hid ho
          have hgw : w.heap.size + 1 < g := by have h1 := HSZ.out; have h2 := HX1.out.size; omega
          have hb2 := HB1.out.ext HX2.out
          have HB2 := Lib.hid hb2
          obtain ⟨t0, t1, t2⟩ := hb2.read2
          obtain ⟨y0, y1⟩ := hb2.free2
          clear hg ho hx hb2)))
  all_goals
    go_wp2_with fail
    refine ret2_cell (k := w.heap.size + 1) (x := .slice (some ⟨g, 0, none⟩) n n) (y := .int .i64 keep) (v := .agg #[.slice (some ⟨g, 0, none⟩) n n, .int .i64 keep]) ?hb4 (fun r0 r1 => by simp [results, Try.results28, go_sem, r0, r1]) rfl ?hx4
    case hb4 => exact HB2.out.set2 _ _
    case hx4 =>
      have hfo := (HO.out.other (p := ⟨w.heap.size + 1, 0, none⟩) (by simp; omega) (by simp) (.slice (some ⟨g, 0, none⟩) n n)).other (p := ⟨w.heap.size + 1, 1, none⟩) (by simp; omega) (by simp) (.int .i64 keep)
      exact ⟨_, _, rfl, hfo.hsl HLEN.out, hfo.ex⟩
theorem heapSettle_any (R : Option Addr) (l : List HC) (n q : Nat) (keep : Int) (w : World) (hM : mayH ⟨l, keep⟩ 60 = true) (hA : HcSl w R n q l) :
    Calls Try.prog 28 #[.agg #[.slice R n q, .int .i64 keep]] w fun e w' => ∃ S d, e = .returned (.agg #[.slice S n d, .int .i64 keep]) ∧ HcSl w' S n d (settleH ⟨l, keep⟩).c ∧ Ext w w' := by
  refine heapSettle_all R l n q keep w ?_ hA
  have hn := hA.1
  unfold mayH at hM
  simp only [Bool.and_eq_true] at hM
  have := (rightH_iff hM.2).1
  omega
end Go.Proofs.Ytclpeeemnmhdcaa
