/- The walk of Alloc of the reference. -/
import Derived.Test.YtclpeeemnmhdcaaHeapW8
namespace Go.Proofs.Ytclpeeemnmhdcaa
open Go.RowKit
attribute [local go_sem ↓] Go.wp_at_zero Go.wp_at_succ

/-- Refs of the same cells, up to so many more. -/
def Up (l g : List HC) (j : Nat) : Prop := g.length = l.length ∧ ∀ k (hk : k < l.length) (hg : k < g.length), l[k].ref ≤ g[k].ref ∧ g[k].ref ≤ l[k].ref + j
theorem Up.refl (l : List HC) : Up l l 0 := ⟨rfl, fun k hk hg => by omega⟩
theorem Up.keep {l g : List HC} {j : Nat} (h : Up l g j) : Up l g (j + 1) := ⟨h.1, fun k hk hg => by have := h.2 k hk hg; omega⟩
theorem Up.more {l g : List HC} {j k : Nat} (h : Up l g j) (hk : k < g.length) : Up l (g.set k g[k].more) (j + 1) := by
  refine ⟨by rw [List.length_set]; exact h.1, fun i hi hg => ?_⟩
  rw [List.length_set] at hg
  have h1 := h.2 i hi hg
  rw [List.getElem_set]
  split
  · rename_i e; subst e; unfold HC.more; simp only; omega
  · omega
theorem first_at {l : List HC} {k : Nat} (hk : k < l.length) (h : ∀ j (hj : j < l.length), j < k → stopC l[j] = false) (h1 : stopC l[k] = true) : firstF l = k := by
  unfold firstF
  rw [List.findIdx_eq hk]
  exact ⟨h1, fun j hj => h j (by omega) hj⟩
theorem first_no {l : List HC} (h : ∀ j (hj : j < l.length), stopC l[j] = false) : firstF l = l.length := by
  unfold firstF
  rw [List.findIdx_eq_length]
  intro x hx
  obtain ⟨j, hj, rfl⟩ := List.mem_iff_getElem.1 hx
  exact h j hj
theorem alloc_bad {l : List HC} {leaf : Bool} {it : List It} {held : List Int} (h : (ndR it && leadsC l leaf it) = false) : allocE l leaf it = 1 ∧ allocP l leaf it = 0 ∧ allocL l leaf it held = l := by
  have e : allocE l leaf it = 1 := by unfold allocE; rw [h]; rfl
  exact ⟨e, by unfold allocP; rw [e]; rfl, by unfold allocL; rw [e]; rfl⟩
theorem alloc_full {l : List HC} {leaf : Bool} {it : List It} {held : List Int} (h : (ndR it && leadsC l leaf it) = true) (h2 : firstF l = l.length) : allocE l leaf it = 3 ∧ allocP l leaf it = 0 ∧ allocL l leaf it held = l := by
  have e : allocE l leaf it = 3 := by unfold allocE; rw [h, if_pos rfl, if_neg (by omega)]
  exact ⟨e, by unfold allocP; rw [e]; rfl, by unfold allocL; rw [e]; rfl⟩
theorem alloc_ok {l : List HC} {leaf : Bool} {it : List It} {held : List Int} {k : Nat} (h : (ndR it && leadsC l leaf it) = true) (hk : k < l.length) (h2 : firstF l = k) : allocE l leaf it = 0 ∧ allocP l leaf it = k ∧ allocL l leaf it held = (if leaf then l else moreL held l it).set k ⟨1, false, leaf, it⟩ := by
  have e : allocE l leaf it = 0 := by unfold allocE; rw [h, if_pos rfl, if_pos (by omega)]
  exact ⟨e, by unfold allocP; rw [e, h2]; rfl, by unfold allocL; rw [e, h2]; rfl⟩
theorem leads_used {l : List HC} {it : List It} (h : leadsC l false it = true) {j : Nat} (hj : j < it.length) : usedC l it[j].2 = true := by
  unfold leadsC at h
  simp only [Bool.false_or, List.all_eq_true] at h
  exact h _ (List.getElem_mem hj)
def moreS (held : List Int) (g : List HC) (x : It) : List HC := if inL held x.2 then g else g.set x.2.toNat (g.getD x.2.toNat HC.none).more
theorem moreL_eq (held : List Int) (l : List HC) (it : List It) : moreL held l it = it.foldl (moreS held) l := rfl

set_option maxRecDepth 100000 in
set_option maxHeartbeats 1600000 in
theorem ref05Alloc_no (R : Option Addr) (l : List HC) (n q : Nat) (keep : Int) (leaf : Bool) (A : Option Addr) (it : List It) (m c : Nat) (H : Option Addr) (_held : List Int) (t d : Nat) (w : World) (hbad : (ndR it && leadsC l leaf it) = false) (hA : HcSl w R n q l) (hm : m = it.length) (hI : Sl w A m c (ivs it)) :
    Calls Try.prog 23 #[.agg #[.slice R n q, .int .i64 keep], .agg #[.bool leaf, .slice A m c], .slice H t d] w fun e w' => ∃ S d, e = .returned (.tuple #[.agg #[.slice S n d, .int .i64 keep], .int .i64 0, .int .i64 1]) ∧ HcSl w' S n d l ∧ Ext w w' := by
  have hx0 := (((Ext.refl w).alloc (.cells #[.slice R n q, .int .i64 keep] 24)).alloc (.cells #[.bool leaf, .slice A m c] 41)).alloc (.cells #[.slice none 0 0, .int .i64 0] 24)
  obtain ⟨W, hW⟩ : ∃ W, W = (((w.alloc (.cells #[.slice R n q, .int .i64 keep] 24)).alloc (.cells #[.bool leaf, .slice A m c] 41)).alloc (.cells #[.slice none 0 0, .int .i64 0] 24)) := ⟨_, rfl⟩
  obtain ⟨hx, hb0, hb1, hb2⟩ := allocs3 hW.symm
  clear hx0
  have HX := Lib.hid hx
  have HB0 := Lib.hid hb0
  have HB1 := Lib.hid hb1
  have HB2 := Lib.hid hb2
  have HA := Lib.hid (hA.ext hx)
  have HR := Lib.hid (fun w' (hx2 : Ext W w') => ref04Right_any leaf A it m c w' hm ((hI.ext hx).ext hx2))
  have HL := Lib.hid (fun w' (hx2 : Ext W w') => ref05leads_any R l n q keep leaf A it m c w' ((hA.ext hx).ext hx2) hm ((hI.ext hx).ext hx2))
  clear hx hA hm hI
  subst hW
  obtain ⟨p0, p1, p2⟩ := hb0.read2
  obtain ⟨q0, q1, q2⟩ := hb1.read2
  clear hb0 hb1 hb2
  cases hr : ndR it
  · rw [hr] at HR
    clear HL hbad hr
    go_enter Try.func23, Try.ntmps23
    go_wp2_with (go_at_call 32; refine stop_here ?_)
    refine stop_on ?_
    generalize hW : World.alloc (World.alloc (World.alloc w _) _) _ = W at *
    clear hW
    refine (HR.out _ (Ext.refl _)).mono ?_
    rintro e w1 ⟨rfl, hx⟩
    have HX1 := Lib.hid (HX.out.trans hx)
    have HA1 := Lib.hid (HA.out.ext hx)
    have HC2 := Lib.hid (HB2.out.ext hx)
    clear p0 p1 p2 q0 q1 q2
    obtain ⟨p0, p1, p2⟩ := (HB0.out.ext hx).read2
    obtain ⟨q0, q1, q2⟩ := (HB1.out.ext hx).read2
    obtain ⟨t0, t1, t2⟩ := HC2.out.read2
    obtain ⟨y0, y1⟩ := HC2.out.free2
    clear hx
    go_wp2_with fail
    refine ret2_cell (k := w.heap.size + 1 + 1) (x := .slice R n q) (y := .int .i64 keep) (v := .tuple #[.agg #[.slice R n q, .int .i64 keep], .int .i64 0, .int .i64 1]) ?hb4 (fun r0 r1 => by simp [results, Try.results23, go_sem, r0, r1]) rfl ?hx4
    case hb4 => exact HC2.out.set2 _ _
    case hx4 => exact ⟨R, q, rfl, HA1.out.boxed2 HC2.out _ _, HX1.out.store2 (by omega) _ _⟩
  · rw [hr] at HR hbad
    rw [Bool.true_and] at hbad
    rw [hbad] at HL
    clear hbad hr
    go_enter Try.func23, Try.ntmps23
    go_wp2_with (go_at_call 32; refine stop_here ?_)
    refine stop_on ?_
    generalize hW : World.alloc (World.alloc (World.alloc w _) _) _ = W at *
    clear hW
    refine (HR.out _ (Ext.refl _)).mono ?_
    rintro e w1 ⟨rfl, hx⟩
    have HXW := Lib.hid hx
    clear p0 p1 p2 q0 q1 q2
    obtain ⟨p0, p1, p2⟩ := (HB0.out.ext hx).read2
    obtain ⟨q0, q1, q2⟩ := (HB1.out.ext hx).read2
    clear hx
    go_wp2_with (go_at_call 48; refine stop_here ?_)
    refine stop_on ?_
    refine (HL.out _ HXW.out).mono ?_
    rintro e w2 ⟨rfl, hx2⟩
    have hx := HXW.out.trans hx2
    have HX1 := Lib.hid (HX.out.trans hx)
    have HA1 := Lib.hid (HA.out.ext hx)
    have HC2 := Lib.hid (HB2.out.ext hx)
    clear p0 p1 p2 q0 q1 q2
    obtain ⟨p0, p1, p2⟩ := (HB0.out.ext hx).read2
    obtain ⟨q0, q1, q2⟩ := (HB1.out.ext hx).read2
    obtain ⟨t0, t1, t2⟩ := HC2.out.read2
    obtain ⟨y0, y1⟩ := HC2.out.free2
    clear hx hx2
    go_wp2_with fail
    refine ret2_cell (k := w.heap.size + 1 + 1) (x := .slice R n q) (y := .int .i64 keep) (v := .tuple #[.agg #[.slice R n q, .int .i64 keep], .int .i64 0, .int .i64 1]) ?hb4 (fun r0 r1 => by simp [results, Try.results23, go_sem, r0, r1]) rfl ?hx4
    case hb4 => exact HC2.out.set2 _ _
    case hx4 => exact ⟨R, q, rfl, HA1.out.boxed2 HC2.out _ _, HX1.out.store2 (by omega) _ _⟩
end Go.Proofs.Ytclpeeemnmhdcaa
