/- The walks of step and steps. Walks of the functions that look through a disk: Short, Small, and both Right. Walks of what compares disks: slices.Equal at both kinds, and both Same. Walks of both Same. The walk of the reference's Read. -/
import Derived.Test.YtnlkakbpcdfgfaaGreatK05
import Derived.StillTailTactics
import Derived.Test.YtnlkakbpcdfgfaaGreatK02
import Derived.Deep.QuietTactic
import Derived.BigQuiet
import Derived.Test.YtnlkakbpcdfgfaaGreatK04
namespace Go.Proofs.YtnlkakbpcdfgfaaGreat
set_option maxRecDepth 20000
open Go.RowKit
attribute [local go_sem ↓] Go.wp_at_zero Go.wp_at_succ

/-- P2.4: one step of a plan, if it can be done. -/
def step1 (b : List ByteArray) (l : List Wr) (x : Wr) : Option (List ByteArray × List Wr) :=
  if isFl x then some (writeL b l, []) else if takesS b.length x then some (b, l ++ [x]) else none

/-- What is neither a text's, nor a write's, nor a disk's block lies as it lay. -/
def Keeps3 (W W' : World) : Prop := W.heap.size ≤ W'.heap.size ∧ ∀ (k : Nat) (o : Obj), W.heap[k]? = some o → (∀ cs t fr, o = .cells cs t fr → t ≠ 9 ∧ t ≠ 58 ∧ t ≠ 26) → W'.heap[k]? = some o
theorem Keeps3.refl (W : World) : Keeps3 W W := ⟨Nat.le_refl _, fun _ _ h _ => h⟩
theorem Keeps3.trans {A B C : World} (h : Keeps3 A B) (k : Keeps3 B C) : Keeps3 A C := ⟨Nat.le_trans h.1 k.1, fun i o hi ho => k.2 i o (h.2 i o hi ho) ho⟩
theorem Keeps3.ext {A B : World} (h : Ext A B) : Keeps3 A B := ⟨h.size, fun i _ hi _ => (h.block i (Array.getElem?_eq_some_iff.1 hi).1).trans hi⟩
theorem Keeps3.grown {A B : World} {g : Nat} {cs : Array Value} {t : TypeId} {fr : Nat × Nat} (h : A.grownBy B (some g)) (hg : A.heap[g]? = some (.cells cs t fr)) (ht : t = 9 ∨ t = 58 ∨ t = 26) : Keeps3 A B :=
  ⟨h.size, fun i o hi ho => (h.block i (Array.getElem?_eq_some_iff.1 hi).1 (fun e => by
    cases e
    rw [hg] at hi
    cases hi
    obtain ⟨h1, h2, h3⟩ := ho _ _ _ rfl
    rcases ht with h | h | h <;> contradiction)).trans hi⟩
theorem Keeps3.grownN {A B : World} (h : A.grownBy B none) : Keeps3 A B := ⟨h.size, fun i o hi _ => (h.block i (Array.getElem?_eq_some_iff.1 hi).1 (by simp)).trans hi⟩
theorem own_obj {w : World} {B e size n g cap : Nat} {xs : List Value} (h : w.ownsRow B e size (.slice (some ⟨g, 0, none⟩) n cap) n xs) : ∃ cur, w.heap[g]? = some (.cells cur e (0, 0)) := by
  rcases h.2 with ⟨h', _⟩ | ⟨g', cap', cur, h', _, hg, _⟩
  · cases h'
  · cases h'; exact ⟨cur, hg⟩
/-- Whatever the own row is: its block has its type, or there is none. -/
theorem own_type {w : World} {B e size n : Nat} {v : Value} {xs : List Value} (h : w.ownsRow B e size v n xs) : v.ownBlock = none ∨ ∃ g cur, v.ownBlock = some g ∧ w.heap[g]? = some (.cells cur e (0, 0)) := by
  rcases h.2 with ⟨rfl, _⟩ | ⟨g', cap', cur, rfl, _, hg, _⟩
  · exact .inl rfl
  · exact .inr ⟨g', cur, rfl, hg⟩
theorem Keeps3.row {A B : World} {C e size n : Nat} {v : Value} {xs : List Value} (h : A.grownBy B v.ownBlock) (ho : A.ownsRow C e size v n xs) (ht : e = 9 ∨ e = 58 ∨ e = 26) : Keeps3 A B := by
  rcases own_type ho with hn | ⟨g, cur, hs, hg⟩
  · rw [hn] at h; exact Keeps3.grownN h
  · rw [hs] at h; exact Keeps3.grown h hg ht

/-- A disk in the making: its box, and its two rows, all made from B0 on. -/
def DoSt (B0 : Nat) (W : World) (X : Nat) (b : List ByteArray) (l : List Wr) : Prop :=
  ∃ g cb A' cl, W.heap[X]? = some (.cells #[.slice (some ⟨g, 0, none⟩) b.length cb, .slice A' l.length cl] 26 (0, 0)) ∧
    W.ownsRow B0 9 1 (.slice (some ⟨g, 0, none⟩) b.length cb) b.length (b.map sv) ∧ W.ownsRow B0 58 2 (.slice A' l.length cl) l.length (wvs l) ∧ B0 ≤ X

theorem DoSt.ext {B0 : Nat} {W W' : World} {X : Nat} {b : List ByteArray} {l : List Wr} (h : DoSt B0 W X b l) (hx : Ext W W') : DoSt B0 W' X b l := by
  obtain ⟨g, cb, A', cl, h1, h2, h3, h4⟩ := h
  exact ⟨g, cb, A', cl, (hx.block X (Array.getElem?_eq_some_iff.1 h1).1).trans h1, own_ext h2 hx, own_ext h3 hx, h4⟩
theorem ne_of_type {w : World} {g k : Nat} {cs cs' : Array Value} {t t' : TypeId} {fr fr' : Nat × Nat} (h : w.heap[g]? = some (.cells cs t fr)) (h' : w.heap[k]? = some (.cells cs' t' fr')) (ht : t ≠ t') : g ≠ k := by
  intro e; subst e; rw [h] at h'; cases h'; exact ht rfl
theorem own_ne {w : World} {B e size n k : Nat} {v : Value} {xs : List Value} {cs' : Array Value} {t' : TypeId} {fr' : Nat × Nat} (h : w.ownsRow B e size v n xs) (h' : w.heap[k]? = some (.cells cs' t' fr')) (ht : e ≠ t') : v.ownBlock ≠ some k := by
  rcases own_type h with hn | ⟨g, cur, hs, hg⟩
  · rw [hn]; simp
  · rw [hs]; intro e; cases e; exact ne_of_type hg h' ht rfl
theorem box_read {w : World} {k : Nat} {a b : Value} {t : TypeId} (h : w.heap[k]? = some (.cells #[a, b] t (0, 0))) : w.cell? ⟨k, 0, none⟩ = some a ∧ w.cell? ⟨k, 1, none⟩ = some b ∧ w.frozen? ⟨k, 0, none⟩ = false ∧ w.frozen? ⟨k, 1, none⟩ = false := Box2.read ⟨t, h⟩

theorem Keeps3.set {W : World} {X j : Nat} {cs : Array Value} {t : TypeId} {fr : Nat × Nat} (h : W.heap[X]? = some (.cells cs t fr)) (ht : t = 9 ∨ t = 58 ∨ t = 26) (u : Value) : Keeps3 W (W.setCell ⟨X, j, none⟩ u) :=
  Keeps3.grown (g := X) ⟨rfl, rfl, rfl, by simp [World.setCell], fun k _ hk => Below.heap_setCell _ _ _ _ (by simpa using hk)⟩ h ht

/-- What a step leaves. -/
def StepPost (B0 : Nat) (W : World) (X : Nat) (b : List ByteArray) (l : List Wr) (x : Wr) (e : Ending) (W' : World) : Prop :=
  Below B0 W W' ∧ Keeps3 W W' ∧ match step1 b l x with
    | some s => e = .returned (.bool true) ∧ DoSt B0 W' X s.1 s.2
    | none => e = .returned (.bool false) ∧ DoSt B0 W' X b l

set_option maxRecDepth 100000 in
set_option maxHeartbeats 4000000 in
theorem step_any (B0 X : Nat) (b : List ByteArray) (l : List Wr) (xa : Int) (xs : ByteArray) (w : World) (hb : b.length ≤ 1000000) (hl : l.length ≤ 900000) (hB : B0 ≤ w.heap.size) (hS : DoSt B0 w X b l) :
    Calls Tryz.prog 72 #[.pointer (some ⟨X, 0, none⟩), .agg #[.int .i64 xa, .string xs]] w fun e w' => StepPost B0 w X b l (xa, xs) e w' := by
  have HX := Lib.hid ((Ext.refl w).alloc (.cells #[.int .i64 xa, .string xs] 58))
  obtain ⟨g, cb, A', cl, p1, p2, p3, h4⟩ := hS
  have hXw := (Array.getElem?_eq_some_iff.1 p1).1
  have HLT := Lib.hid (fun q (hq : (Value.slice A' l.length cl).ownBlock = some q) => (p3.lt q hq).2)
  have HS := Lib.hid (fun W (hx : Ext (w.alloc (.cells #[.int .i64 xa, .string xs] 58)) W) => (show W.heap[X]? = some (.cells #[.slice (some ⟨g, 0, none⟩) b.length cb, .slice A' l.length cl] 26 (0, 0)) ∧
    W.ownsRow B0 9 1 (.slice (some ⟨g, 0, none⟩) b.length cb) b.length (b.map sv) ∧ W.ownsRow B0 58 2 (.slice A' l.length cl) l.length (wvs l) from
      ⟨((HX.out.trans hx).block X hXw).trans p1, own_ext p2 (HX.out.trans hx), own_ext p3 (HX.out.trans hx)⟩))
  have HI := Lib.hid (isFlush_any xa xs (w.alloc (.cells #[.int .i64 xa, .string xs] 58)))
  have hb0 := Box2.new w (.int .i64 xa) (.string xs) 58
  have HB0 := Lib.hid hb0
  clear p1 p2 p3 hb0
  cases hf : isFl (xa, xs)
  · have HF := Lib.hid hf
    clear hf
    go_enter Tryz.func72, Tryz.ntmps72
    go_wp2_with (go_at_call 106; refine stop_here ?_)
    refine stop_on ?_
    refine HI.out.mono ?_
    clear HI
    rintro e w2 ⟨rfl, hx2⟩
    rw [HF.out]
    have hz2 := hx2.size
    simp only [World.size_alloc] at hz2
    obtain ⟨h1, h2, h3⟩ := HS.out _ hx2
    obtain ⟨c0, c1, f0, f1⟩ := box_read h1
    have hb0 := HB0.out.ext (by simp) hx2
    obtain ⟨d0, d1, _, _⟩ := hb0.read
    have HXd := Lib.hid (HX.out.trans hx2)
    have HB0 := Lib.hid hb0
    have H1 := Lib.hid h1
    have H2 := Lib.hid h2
    have H3 := Lib.hid h3
    clear h1 h2 h3 hx2 hb0
    cases ht : takesS b.length (xa, xs)
    · have HST := Lib.hid (show step1 b l (xa, xs) = none by unfold step1; rw [HF.out, ht]; rfl)
      have HT := Lib.hid ht
      clear ht
      go_wp2_with fail
      go_still_tail 5, (by kernel_rfl)
      change wpList _ _ _ _ _ w2.drew
      go_wp2_with (go_at_call 107; refine stop_here ?_)
      refine stop_on ?_
      refine (takes_any (some ⟨g, 0, none⟩) b.length cb xa xs w2.drew).mono ?_
      rintro e w3 ⟨rfl, hx3⟩
      rw [HT.out]
      have HX3 := Lib.hid (HXd.out.drew.trans hx3)
      have HS3 := Lib.hid (DoSt.ext ⟨g, cb, A', cl, H1.out, H2.out, H3.out, h4⟩ ((Ext.refl w2).drew.trans hx3))
      clear hx3
      go_wp2
      go_ret
      refine ⟨Below.mono HX3.out hB, Keeps3.ext HX3.out, ?_⟩
      rw [HST.out]
      exact ⟨rfl, HS3.out⟩
    · have HST := Lib.hid (show step1 b l (xa, xs) = some (b, l ++ [(xa, xs)]) by unfold step1; rw [HF.out, ht]; rfl)
      have HT := Lib.hid ht
      clear ht
      go_wp2_with fail
      go_still_tail 5, (by kernel_rfl)
      change wpList _ _ _ _ _ w2.drew
      go_wp2_with (go_at_call 107; refine stop_here ?_)
      refine stop_on ?_
      refine (takes_any (some ⟨g, 0, none⟩) b.length cb xa xs w2.drew).mono ?_
      rintro e w3 ⟨rfl, hx3⟩
      rw [HT.out]
      have hx23 := (Ext.refl w2).drew.trans hx3
      have hz3 := hx23.size
      have HX3 := Lib.hid (HXd.out.trans hx23)
      have h1 : w3.heap[X]? = _ := (hx23.block X (Array.getElem?_eq_some_iff.1 H1.out).1).trans H1.out
      have H2' := Lib.hid (own_ext H2.out hx23)
      have H3' := Lib.hid (own_ext H3.out hx23)
      have hb0 := HB0.out.ext (by omega) hx23
      clear hx3 hx23 c0 c1 f0 f1 d0 d1
      obtain ⟨c0, c1, f0, f1⟩ := box_read h1
      obtain ⟨d0, d1, _, _⟩ := hb0.read
      have H1' := Lib.hid h1
      have HML := Lib.hid (show l.length + 1 ≤ maxLen by unfold maxLen; omega)
      have HSL := Lib.hid (fun wx : World => sl_lit wx 58 1 [.int .i64 xa, .string xs] (by unfold maxLen; omega))
      have HFL := Lib.hid (show ∀ u ∈ [Value.int .i64 xa, .string xs], u.oneCell' = true by intro u hu; simp at hu; rcases hu with rfl | rfl <;> rfl)
      have hXz := (Array.getElem?_eq_some_iff.1 h1).1
      obtain ⟨cur9, hg9⟩ := own_obj H2'.out
      have Hg9 := Lib.hid hg9
      have HKS := Lib.hid (fun w' (hx : Ext w3 w') => (show w'.cell? ⟨w.heap.size, 0, none⟩ = some (.int .i64 xa) ∧ w'.cell? ⟨w.heap.size, 1, none⟩ = some (.string xs) from ⟨(hb0.ext (by omega) hx).read.1, (hb0.ext (by omega) hx).read.2.1⟩))
      have HBX := Lib.hid hb0
      clear hg9
      clear h1 hb0
      go_wp2_with fail
      go_region_law
        (first
          | ((refine step_app_sl ?_ ?_ ?_ 24 ?_ ?_ 58 (.agg #[.int .i64 0, .string (ByteArray.mk #[])]) 2 24 Tryz.underlying24 infoW rfl Nat.two_pos ?_ l.length (wvs l) ?_ ?_ ?_ 1 1 [.int .i64 xa, .string xs] ?_ rfl ?_ ?_ ?_ ?_ ?_ ?_
              rfl
              rotate_left 2
              rfl
              rotate_left 2
              rfl
              (exact (H3'.out.alloc _).drew)
              rotate_left 1
              rfl
              (exact (HSL.out w3).ext (Ext.refl _).drew)
              exact HFL.out
              exact HML.out
              omega
              (first | omega | (simp; omega))
              intro A5 q5 w5 hoA hgA
              have hX5 : w5.heap[X]? = _ := (hgA.block X (by simp; omega) (fun e => own_ne ((H3'.out.alloc (.cells #[.int .i64 xa, .string xs] 58)).drew) (k := X) ((Below.heap_alloc w3 _ X hXz).trans H1'.out) (by decide) e.symm)).trans ((Below.heap_alloc w3 _ X hXz).trans H1'.out)
              have hz5 := hgA.size
              have hK5 := (Keeps3.ext ((Ext.refl w3).alloc (.cells #[.int .i64 xa, .string xs] 58)).drew).trans (Keeps3.row hgA ((H3'.out.alloc _).drew) (.inr (.inl rfl)))
              have hB5 : Below B0 w w5 := ((Below.mono HX3.out hB).alloc (Nat.le_trans hB HX3.out.size) _).drew.grown hgA (by simp; have := HX3.out.size; omega) (fun q hq => (H3'.out.lt q hq).1)
              have h25 := ((H2'.out.alloc (.cells #[.int .i64 xa, .string xs] 58)).drew).kept hgA (.inr (fun e => own_ne ((H3'.out.alloc (.cells #[.int .i64 xa, .string xs] 58)).drew) ((Below.heap_alloc w3 _ g (Array.getElem?_eq_some_iff.1 Hg9.out).1).trans Hg9.out) (by decide) e.symm))
              obtain ⟨r0, r1, s0, s1⟩ := box_read hX5
              have HX5 := Lib.hid hX5
              have HK35 := Lib.hid hK5
              have HB5 := Lib.hid hB5
              have H25 := Lib.hid h25
              have H35 := Lib.hid hoA
              have hgg : ∀ q, (Value.slice A' l.length cl).ownBlock = some q → q < w.heap.size := HLT.out
              have hbx5 : Box2 w5 w.heap.size (.int .i64 xa) (.string xs) := by
                obtain ⟨t, h⟩ := HBX.out
                exact ⟨t, (hgA.block w.heap.size (by simp; omega) (fun e => Nat.lt_irrefl _ (hgg _ e.symm))).trans ((Below.heap_alloc w3 _ _ (by omega)).trans h)⟩
              have HK5 := Lib.hid (show w5.cell? ⟨w.heap.size, 0, none⟩ = some (.int .i64 xa) ∧ w5.cell? ⟨w.heap.size, 1, none⟩ = some (.string xs) from ⟨hbx5.read.1, hbx5.read.2.1⟩)
              have HK6 := Lib.hid (fun u => (show (w5.setCell ⟨X, 1, none⟩ u).cell? ⟨w.heap.size, 0, none⟩ = some (.int .i64 xa) ∧ (w5.setCell ⟨X, 1, none⟩ u).cell? ⟨w.heap.size, 1, none⟩ = some (.string xs) from
                ⟨(World.cell?_setCell_other _ _ _ _ (by simp <;> omega)).trans hbx5.read.1, (World.cell?_setCell_other _ _ _ _ (by simp <;> omega)).trans hbx5.read.2.1⟩))
              clear hX5 hz5 hK5 hB5 h25 hoA hgA hgg hbx5)))
      all_goals
        go_wp2
        go_ret
        refine ⟨HB5.out.setCell (p := ⟨X, 1, none⟩) h4 _, ((Keeps3.ext HX3.out).trans HK35.out).trans (Keeps3.set HX5.out (.inr (.inr rfl)) _), ?_⟩
        rw [HST.out]
        have hgX := ne_of_type ((own_obj H25.out).choose_spec) HX5.out (by decide)
        refine ⟨rfl, g, cb, A5, q5, ?_, ?_, ?_, h4⟩
        · rw [List.length_append]
          exact heap_setCell_same _ _ 1 _ _ _ HX5.out
        · exact ownsRow_setCell_other H25.out (a := ⟨X, 1, none⟩) (by simpa [Value.ownBlock] using hgX) _
        · rw [List.length_append, wvs_append]
          exact ownsRow_setCell_other H35.out (a := ⟨X, 1, none⟩) (own_ne H35.out HX5.out (by decide)) _
  · have HF := Lib.hid hf
    have HST := Lib.hid (show step1 b l (xa, xs) = some (writeL b l, []) by unfold step1; rw [if_pos hf])
    clear hf
    go_enter Tryz.func72, Tryz.ntmps72
    go_wp2_with (go_at_call 106; refine stop_here ?_)
    refine stop_on ?_
    refine HI.out.mono ?_
    clear HI
    rintro e w2 ⟨rfl, hx2⟩
    rw [HF.out]
    obtain ⟨h1, h2, h3⟩ := HS.out _ hx2
    obtain ⟨c0, c1, f0, f1⟩ := box_read h1
    obtain ⟨cur, hg9⟩ := own_obj h2
    have hgX := ne_of_type hg9 h1 (by decide)
    have HXd := Lib.hid (HX.out.trans hx2)
    have hlA := h3.1
    have HW := Lib.hid (write_any B0 g b.length cb b A' l cl w2.drew hb (by unfold maxLen; omega) h2.drew (own_sl h3).cells (fun _ p hp e => by
      subst hp
      rcases h3.2 with ⟨h', _⟩ | ⟨g', cap', cur', h', _, hg', _⟩
      · cases h'
      · cases h'
        cases e
        exact ne_of_type hg9 hg' (by decide) rfl))
    have HG9 := Lib.hid hg9
    have H1 := Lib.hid h1
    have H2 := Lib.hid h2
    clear h1 h2 h3 hg9 hx2
    go_wp2_with fail
    go_still_tail 8, (by kernel_rfl)
    change wpList _ _ _ _ _ w2.drew
    go_wp2_with (go_at_call 97; refine stop_here ?_)
    refine stop_on ?_
    refine HW.out.mono ?_
    clear HW
    rintro e w3 ⟨rfl, ho, hg⟩
    have h1 : w3.heap[X]? = _ := (hg.block X (Array.getElem?_eq_some_iff.1 H1.out).1 (by simp; exact fun e => hgX e.symm)).trans H1.out
    clear c0 c1 f0 f1
    obtain ⟨c0, c1, f0, f1⟩ := box_read h1
    have HO := Lib.hid ho
    have HG := Lib.hid hg
    have H1' := Lib.hid h1
    clear h1 ho hg
    go_wp2
    go_ret
    have hgB := (H2.out.lt g rfl).1
    refine ⟨(((Below.mono HXd.out hB).drew).grown HG.out (Nat.le_trans hB HXd.out.size) (by intro k hk; cases hk; exact hgB)).setCell (p := ⟨X, 1, none⟩) h4 _, (((Keeps3.ext HXd.out.drew).trans (Keeps3.grown HG.out HG9.out (.inl rfl))).trans (Keeps3.set H1'.out (.inr (.inr rfl)) _)), ?_⟩
    rw [HST.out]
    refine ⟨rfl, g, cb, none, 0, ?_, ?_, World.ownsRow_nil _ _ _ _, h4⟩
    · simp only [writeL_length]
      exact heap_setCell_same _ _ 1 _ _ _ H1'.out
    · simp only [writeL_length]
      exact ownsRow_setCell_other HO.out (a := ⟨X, 1, none⟩) (by simpa [Value.ownBlock] using hgX) _
end Go.Proofs.YtnlkakbpcdfgfaaGreat
namespace Go.Proofs.YtnlkakbpcdfgfaaGreat
set_option maxRecDepth 20000
open Go.RowKit

theorem all_false {α : Type} {p : α → Bool} {l : List α} (k : Nat) (h : k < l.length) (hp : p l[k] = false) : l.all p = false := by
  rw [List.all_eq_false]
  exact ⟨l[k], List.getElem_mem h, by simp [hp]⟩
theorem all_step {α : Type} {p : α → Bool} {l : List α} (k : Nat) (h : k < l.length) (h0 : (l.take k).all p = true) (hp : p l[k] = true) : (l.take (k + 1)).all p = true := by
  rw [List.take_succ_eq_append_getElem h, List.all_append, h0]; simp [hp]
theorem all_end {α : Type} {p : α → Bool} {l : List α} (h0 : (l.take l.length).all p = true) : l.all p = true := by
  rw [List.take_length] at h0; exact h0


def fewB (s : ByteArray) : Bool := decide ((s.size : Int) ≤ 100)
def fewW (x : Wr) : Bool := decide ((x.2.size : Int) ≤ 100)
def shortS (l : List Wr) (most : Int) : Bool := decide ((l.length : Int) ≤ most) && l.all fewW
def smallS (b : List ByteArray) (l : List Wr) (most : Int) : Bool := decide ((b.length : Int) ≤ most) && (b.all fewB && shortS l most)

def okB (s : ByteArray) : Bool := (s.size : Int) == 40
def rightS (b : List ByteArray) (l : List Wr) : Bool := decide (1 ≤ (b.length : Int)) && (decide ((b.length : Int) ≤ 4000) && (b.all okB && l.all (takesS b.length)))

set_option maxHeartbeats 2000000 in
set_option maxRecDepth 100000 in
theorem rightR_any (A A' : Option Addr) (b : List ByteArray) (l : List Wr) (c c' : Nat) (w : World) (hb : b.length ≤ maxLen) (hl : l.length ≤ maxLen) (hA : Cells w A (b.map sv)) (hA' : Cells w A' (wvs l)) :
    Calls Tryz.prog 9 #[.agg #[.slice A b.length c, .slice A' l.length c']] w fun e w' => e = .returned (.bool (rightS b l)) ∧ Ext w w' := by
  unfold maxLen at hl hb
  unfold rightS
  have HX := Lib.hid ((Ext.refl w).alloc (.cells #[.slice A b.length c, .slice A' l.length c'] 26))
  have HA := Lib.hid (hA.ext HX.out)
  have HA' := Lib.hid (hA'.ext HX.out)
  clear hA hA'
  by_cases h0 : (1 : Int) ≤ b.length
  · by_cases h1 : (b.length : Int) ≤ 4000
    · go_enter Tryz.func9, Tryz.ntmps9
      go_wp2
      go_loop [3] (fun i => ∃ k : Nat, k ≤ b.length ∧ i = .int .i64 k ∧ (b.take k).all okB = true) (fun i => b.length - (intOf i).toNat)
      case atStart => exact ⟨0, Nat.zero_le _, rfl, rfl⟩
      case round =>
        obtain ⟨k, hk, rfl, hal⟩ := hrel
        have HL := Lib.hid hal
        clear hal
        by_cases hlt : k < b.length
        · obtain ⟨bb, off, rfl, _, hc⟩ := HA.out.str hlt
          have hck := hc k hlt
          have HF := Lib.hid (all_false (p := okB) k hlt)
          have HS := Lib.hid (all_step (p := okB) k hlt HL.out)
          have HW := Lib.hid (show okB b[k] = ((b[k].size : Int) == 40) from rfl)
          clear hc HL
          generalize hq : b[k] = qs at *
          clear hq
          by_cases hz : ((qs.size : Int) != 40) = true
          · go_wp2
            go_ret
            exact ⟨ret_bool (by simp only [HF.out (by rw [HW.out]; simpa using hz), Bool.false_and]), HX.out⟩
          · have hz' : ((qs.size : Int) != 40) = false := by simpa using hz
            go_wp2
            go_round
            case rel => exact ⟨k + 1, by omega, by go_num, HS.out (by rw [HW.out]; simpa using hz')⟩
            case measure => simp [intOf]; omega
        · obtain rfl : k = b.length := by omega
          have HE := Lib.hid (all_end HL.out)
          clear HL
          go_wp2
          go_loopw [4] (fun i wr => ∃ k : Nat, k ≤ l.length ∧ i = .int .i64 k ∧ (l.take k).all (takesS b.length) = true ∧ Ext (w.alloc (.cells #[.slice A b.length c, .slice A' l.length c'] 26)) wr) (fun i _ => l.length - (intOf i).toNat)
          case atStart => exact ⟨0, Nat.zero_le _, rfl, rfl, Ext.refl _⟩
          case round =>
            obtain ⟨k, hk, rfl, hal, hX⟩ := hrel
            have HL := Lib.hid hal
            have HXr := Lib.hid (Ext.trans HX.out hX)
            have hc0 := hX.cell (p := ⟨w.heap.size, 0, none⟩) (by simp)
            have hc1 := hX.cell (p := ⟨w.heap.size, 1, none⟩) (by simp)
            simp only [cell_new0, cell_new1] at hc0 hc1
            clear hal
            by_cases hlt : k < l.length
            · obtain ⟨bb, off, rfl, _, hc⟩ := (HA'.out.ext hX).wr hlt
              obtain ⟨hck, hcs⟩ := hc k hlt
              have HF := Lib.hid (all_false (p := takesS b.length) k hlt)
              have HS := Lib.hid (all_step (p := takesS b.length) k hlt HL.out)
              have HXr0 := Lib.hid hX
              clear hc HL hX
              generalize hq : l[k] = q at *
              clear hq
              obtain ⟨qa, qs⟩ := q
              have HM := Lib.hid (may_any A (some ⟨bb, off, none⟩) b.length c l.length c' qa qs)
              cases ht : takesS b.length (qa, qs)
              · have HZ := Lib.hid ht
                go_wp2_with fail
                go_still_tail 13, (by kernel_rfl)
                change wpList _ _ _ _ _ wr.drew
                go_wp2_with (go_at_call 24; refine (HM.out wr.drew).mono ?_; rintro e w2 ⟨rfl, hX2⟩; rw [HZ.out]; have HX2 := Lib.hid hX2; clear hX2)
                go_ret
                exact ⟨ret_bool (by simp only [HF.out HZ.out, Bool.and_false]), HXr.out.drew.trans HX2.out⟩
              · have HZ := Lib.hid ht
                go_wp2_with fail
                go_still_tail 13, (by kernel_rfl)
                change wpList _ _ _ _ _ wr.drew
                go_wp2_with (go_at_call 24; refine (HM.out wr.drew).mono ?_; rintro e w2 ⟨rfl, hX2⟩; rw [HZ.out]; have HX2 := Lib.hid hX2; clear hX2)
                go_roundw
                case rel => exact ⟨k + 1, by omega, by go_num, HS.out HZ.out, HXr0.out.drew.trans HX2.out⟩
                case measure => simp [intOf]; omega
            · obtain rfl : k = l.length := by omega
              have HE2 := Lib.hid (all_end HL.out)
              clear HL hX
              go_wp2
              go_ret
              exact ⟨ret_bool (by simp only [HE.out, HE2.out, decide_eq_true h0, decide_eq_true h1, Bool.and_true]), HXr.out⟩
    · go_enter Tryz.func9, Tryz.ntmps9
      go_wp2
      go_ret
      exact ⟨ret_bool (by rw [decide_eq_false (p := (b.length : Int) ≤ 4000) (by omega)]; simp), HX.out⟩
  · go_enter Tryz.func9, Tryz.ntmps9
    go_wp2
    go_ret
    exact ⟨ret_bool (by rw [decide_eq_false (by omega)]; rfl), HX.out⟩

end Go.Proofs.YtnlkakbpcdfgfaaGreat
namespace Go.Proofs.YtnlkakbpcdfgfaaGreat
set_option maxRecDepth 20000
open Go.RowKit

theorem bytes_inj (a b : ByteArray) (h : a.toList = b.toList) : a = b := by
  rw [ByteArray.toList_eq, ByteArray.toList_eq] at h
  obtain ⟨⟨l⟩⟩ := a
  obtain ⟨⟨m⟩⟩ := b
  simp only at h
  rw [h]
theorem bytes_same (a b : ByteArray) : (a.toList == b.toList) = decide (a = b) := by
  by_cases h : a = b
  · subst h; simp
  · rw [decide_eq_false h]
    simp only [beq_eq_false_iff_ne, ne_eq]
    exact fun e => h (bytes_inj a b e)

/-- How two writes are compared. -/
theorem eq_wr (a c : Int) (s t : ByteArray) (w : World) : (Op.equalIn 10000 58 (.agg #[.int .i64 a, .string s]) (.agg #[.int .i64 c, .string t])).run Tryz.prog w = .ok (decide ((a, s) = (c, t))) w := by
  have u3 := Tryz.underlying3
  have a3 := Tryz.isAgg3
  have z3 := Tryz.sizeOf3
  have u9 := Tryz.underlying9
  have a9 := Tryz.isAgg9
  have z9 := Tryz.sizeOf9
  have hS : Tryz.prog.underlying 58 = some (.struct (Tryz.prog.fieldsOf 58)) := by kernel_rfl
  have hp : Tryz.prog.stoodInHeld 58 = false := by kernel_rfl
  rw [show (10000 : Nat) = 9999 + 1 from rfl, run_equalIn_agg w 9999 58 _ _ hS hp]
  simp only [Program.fieldsOf, Tryz.underlying58]
  go_simp
  by_cases h1 : a = c <;> by_cases h2 : s = t
  · subst h2; simp [h1]
  · have h3 : ¬ s.toList = t.toList := fun e => h2 (bytes_inj s t e)
    simp [h1, h2, h3]
  · simp [h1]
  · simp [h1]

def sameB (a b : List ByteArray) : Bool := decide (a = b)
def sameW (a b : List Wr) : Bool := decide (a = b)

end Go.Proofs.YtnlkakbpcdfgfaaGreat
namespace Go.Proofs.YtnlkakbpcdfgfaaGreat
set_option maxRecDepth 20000
open Go.RowKit

def sameD (b : List ByteArray) (l : List Wr) (b' : List ByteArray) (l' : List Wr) : Bool := sameB b b' && sameW l l'

/-- A disk as it lies in two boxes, one behind the other. -/
theorem two_boxes (w : World) (a b c d : Value) (t : TypeId) : ∀ wr, Ext ((w.alloc (.cells #[a, b] t)).alloc (.cells #[c, d] t)) wr →
    Ext w wr ∧ w.heap.size + 1 < wr.heap.size ∧ wr.cell? ⟨w.heap.size, 0, none⟩ = some a ∧ wr.cell? ⟨w.heap.size, 1, none⟩ = some b ∧ wr.cell? ⟨w.heap.size + 1, 0, none⟩ = some c ∧ wr.cell? ⟨w.heap.size + 1, 1, none⟩ = some d := by
  intro wr h
  have hs := h.size
  simp only [World.size_alloc] at hs
  have e1 := cell_new0 (w.alloc (.cells #[a, b] t)) c d t
  have e2 := cell_new1 (w.alloc (.cells #[a, b] t)) c d t
  rw [World.size_alloc] at e1 e2
  have f := (Ext.refl (w.alloc (.cells #[a, b] t))).alloc (.cells #[c, d] t)
  refine ⟨(((Ext.refl w).alloc _).alloc _).trans h, by omega, ?_, ?_, ?_, ?_⟩
  · rw [h.cell (p := ⟨w.heap.size, 0, none⟩) (by simp; omega), f.cell (p := ⟨w.heap.size, 0, none⟩) (by simp)]; exact cell_new0 _ _ _ _
  · rw [h.cell (p := ⟨w.heap.size, 1, none⟩) (by simp; omega), f.cell (p := ⟨w.heap.size, 1, none⟩) (by simp)]; exact cell_new1 _ _ _ _
  · rw [h.cell (p := ⟨w.heap.size + 1, 0, none⟩) (by simp)]; exact e1
  · rw [h.cell (p := ⟨w.heap.size + 1, 1, none⟩) (by simp)]; exact e2

set_option maxHeartbeats 4000000 in
set_option maxRecDepth 100000 in
theorem sameR_any (A A' B B' : Option Addr) (a b : List ByteArray) (l m : List Wr) (c c' d d' : Nat) (w : World) (ha : a.length ≤ maxLen) (_hb : b.length ≤ maxLen) (_hl : l.length ≤ maxLen) (hm : m.length ≤ maxLen)
    (hA : Cells w A (a.map sv)) (hB : Cells w B (b.map sv)) (hA' : Cells w A' (wvs l)) (hB' : Cells w B' (wvs m)) :
    Calls Tryz.prog 7 #[.agg #[.slice A a.length c, .slice A' l.length c'], .agg #[.slice B b.length d, .slice B' m.length d']] w fun e w' => e = .returned (.bool (sameD a l b m)) ∧ Ext w w' := by
  unfold sameD sameB sameW
  unfold maxLen at ha hm
  have HT := Lib.hid (two_boxes w (.slice A a.length c) (.slice A' l.length c') (.slice B b.length d) (.slice B' m.length d') 26)
  have HA := Lib.hid hA
  have HB := Lib.hid hB
  have HA' := Lib.hid hA'
  have HB' := Lib.hid hB'
  clear hA hB hA' hB'
  obtain ⟨X0, _, _⟩ := HT.out _ (Ext.refl _)
  have HX0 := Lib.hid X0
  clear X0
  by_cases hla : a.length = b.length
  · by_cases hlm : l.length = m.length
    · have HL := Lib.hid hla
      have HM := Lib.hid hlm
      have hl1 : ((a.length : Int) != (b.length : Int)) = false := by simp [hla]
      have hm1 : ((l.length : Int) != (m.length : Int)) = false := by simp [hlm]
      have hl2 : a.length ≤ b.length := by omega
      have hl3 : b.length ≤ a.length := by omega
      have hm2 : l.length ≤ m.length := by omega
      have hm3 : m.length ≤ l.length := by omega
      clear hla hlm
      go_enter Tryz.func7, Tryz.ntmps7
      go_wp2
      go_loopw [5] (fun i wr => ∃ k : Nat, k ≤ a.length ∧ i = .int .i64 k ∧ a.take k = b.take k ∧ Ext ((w.alloc (.cells #[.slice A a.length c, .slice A' l.length c'] 26)).alloc (.cells #[.slice B b.length d, .slice B' m.length d'] 26)) wr) (fun i _ => a.length - (intOf i).toNat)
      case atStart => exact ⟨0, Nat.zero_le _, rfl, rfl, Ext.refl _⟩
      case round =>
        obtain ⟨k, hk, rfl, hal, hX⟩ := hrel
        obtain ⟨X, hsz, h00, h01, h10, h11⟩ := HT.out _ hX
        have HK := Lib.hid hal
        have HX := Lib.hid hX
        have HXw := Lib.hid X
        clear hal
        by_cases hlt : k < a.length
        · have hlt2 : k < b.length := by omega
          obtain ⟨ba, offa, rfl, _, hca⟩ := (HA.out.ext X).str hlt
          obtain ⟨bb, offb, rfl, _, hcb⟩ := (HB.out.ext X).str hlt2
          have hcka := hca k hlt
          have hckb := hcb k hlt2
          have hki : (k : Int) < (a.length : Int) := by omega
          have hki2 : (k : Int) < (b.length : Int) := by omega
          have HF := Lib.hid (ne_at (a := a) (b := b) k hlt hlt2)
          have HS := Lib.hid (eq_step (a := a) (b := b) k hlt hlt2 HK.out)
          clear hca hcb HK hX X
          generalize hq : a[k] = qa at *
          generalize hq2 : b[k] = qb at *
          clear hq hq2
          have HQ := bytes_same qa qb
          rcases Decidable.em (qa = qb) with he | he
          rotate_left
          · have HZ := Lib.hid he
            have hz : (qa.toList == qb.toList) = false := by rw [HQ, decide_eq_false he]
            have hz' : (qa.toList != qb.toList) = true := by simp only [bne, hz]; rfl
            clear HQ he
            go_wp2_with fail
            go_quiet (fail)
            go_wp2
            go_ret
            exact ⟨ret_bool (by rw [decide_eq_false (HF.out HZ.out)]; rfl), HXw.out.drewN _⟩
          · have HZ := Lib.hid he
            have hz : (qa.toList == qb.toList) = true := by rw [HQ, decide_eq_true he]
            have hz' : (qa.toList != qb.toList) = false := by simp only [bne, hz]; rfl
            clear HQ he
            go_wp2_with fail
            go_quiet (fail)
            go_wp2
            go_roundw
            case rel => exact ⟨k + 1, by omega, by go_num, HS.out HZ.out, HX.out.drewN _⟩
            case measure => simp [intOf]; omega
        · obtain rfl : k = a.length := by omega
          have HE := Lib.hid (eq_end HL.out HK.out)
          clear HK hX X
          go_wp2
          go_loopw [6] (fun i wr => ∃ k : Nat, k ≤ l.length ∧ i = .int .i64 k ∧ l.take k = m.take k ∧ Ext ((w.alloc (.cells #[.slice A a.length c, .slice A' l.length c'] 26)).alloc (.cells #[.slice B b.length d, .slice B' m.length d'] 26)) wr) (fun i _ => l.length - (intOf i).toNat)
          case atStart => exact ⟨0, Nat.zero_le _, rfl, rfl, HX.out⟩
          case round =>
            clear hsz h00 h01 h10 h11 HX HXw
            obtain ⟨k, hk, rfl, hal, hX⟩ := hrel
            obtain ⟨X, hsz, h00, h01, h10, h11⟩ := HT.out _ hX
            have HK := Lib.hid hal
            have HX := Lib.hid hX
            have HXw := Lib.hid X
            clear hal
            by_cases hlt : k < l.length
            · have hlt2 : k < m.length := by omega
              obtain ⟨ba, offa, rfl, _, hca⟩ := (HA'.out.ext X).wr hlt
              obtain ⟨bb, offb, rfl, _, hcb⟩ := (HB'.out.ext X).wr hlt2
              obtain ⟨hcka, hckas⟩ := hca k hlt
              obtain ⟨hckb, hckbs⟩ := hcb k hlt2
              have hki : (k : Int) < (l.length : Int) := by omega
              have hki2 : (k : Int) < (m.length : Int) := by omega
              have HF := Lib.hid (ne_at (a := l) (b := m) k hlt hlt2)
              have HS := Lib.hid (eq_step (a := l) (b := m) k hlt hlt2 HK.out)
              clear hca hcb HK hX X
              generalize hq : l[k] = qa at *
              generalize hq2 : m[k] = qb at *
              clear hq hq2
              obtain ⟨qaa, qas⟩ := qa
              obtain ⟨qba, qbs⟩ := qb
              simp only at hcka hckas hckb hckbs
              have HQ := eq_wr qaa qba qas qbs
              rcases Decidable.em ((qaa, qas) = (qba, qbs)) with he | he
              rotate_left
              · have HZ := Lib.hid he
                rw [decide_eq_false he] at HQ
                clear he
                go_wp2_with fail
                go_quiet (fail)
                go_wp2
                go_ret
                exact ⟨ret_bool (by rw [decide_eq_false (HF.out HZ.out), Bool.and_false]), HXw.out.drewN _⟩
              · have HZ := Lib.hid he
                rw [decide_eq_true he] at HQ
                clear he
                go_wp2_with fail
                go_quiet (fail)
                go_wp2
                go_roundw
                case rel => exact ⟨k + 1, by omega, by go_num, HS.out HZ.out, HX.out.drewN _⟩
                case measure => simp [intOf]; omega
            · obtain rfl : k = l.length := by omega
              have HE2 := Lib.hid (eq_end HM.out HK.out)
              clear HK hX X
              go_wp2
              go_ret
              exact ⟨ret_bool (by rw [decide_eq_true HE.out, decide_eq_true HE2.out]; rfl), HXw.out⟩
    · have HL := Lib.hid (show ¬ l = m from fun e => hlm (by rw [e]))
      have hl1 : ((a.length : Int) != (b.length : Int)) = false := by simp [hla]
      have hm1 : ((l.length : Int) != (m.length : Int)) = true := by simp; omega
      clear hla hlm
      go_enter Tryz.func7, Tryz.ntmps7
      go_wp2
      go_ret
      exact ⟨ret_bool (by rw [decide_eq_false HL.out, Bool.and_false]), HX0.out⟩
  · have HL := Lib.hid (show ¬ a = b from fun e => hla (by rw [e]))
    have hl1 : ((a.length : Int) != (b.length : Int)) = true := by simp; omega
    clear hla
    go_enter Tryz.func7, Tryz.ntmps7
    go_wp2
    go_ret
    exact ⟨ret_bool (by rw [decide_eq_false HL.out]; rfl), HX0.out⟩
end Go.Proofs.YtnlkakbpcdfgfaaGreat
namespace Go.Proofs.YtnlkakbpcdfgfaaGreat
set_option maxRecDepth 20000
open Go.RowKit

/-- What the last write to a block says, or s. -/
def lastW (l : List Wr) (at_ : Int) (s : ByteArray) : ByteArray := l.foldl (fun s x => if x.1 = at_ then x.2 else s) s
theorem lastW_step (l : List Wr) (at_ : Int) (s : ByteArray) (k : Nat) (h : k < l.length) : lastW (l.take (k + 1)) at_ s = if l[k].1 = at_ then l[k].2 else lastW (l.take k) at_ s := by
  unfold lastW; rw [List.take_succ_eq_append_getElem h, List.foldl_append]; rfl
/-- P2.2: what stands in a block. -/
def readS (b : List ByteArray) (l : List Wr) (at_ : Int) : ByteArray := if hasS b.length at_ then lastW l at_ (b[at_.toNat]?.getD (ByteArray.mk #[])) else ByteArray.mk #[]
def readE (b : List ByteArray) (at_ : Int) : Int := if hasS b.length at_ then 0 else 1

theorem ret_pair {a a' : ByteArray} {k : IntKind} {b b' : Int} (h : a = a') (h' : b = b') : Ending.returned (.tuple #[.string a, .int k b]) = .returned (.tuple #[.string a', .int k b']) := by rw [h, h']

set_option maxHeartbeats 2000000 in
theorem readR_any (A A' : Option Addr) (b : List ByteArray) (l : List Wr) (c c' : Nat) (at_ : Int) (w : World) (_hb : b.length ≤ maxLen) (hl : l.length ≤ maxLen) (hA : Cells w A (b.map sv)) (hA' : Cells w A' (wvs l)) :
    Calls Tryz.prog 87 #[.agg #[.slice A b.length c, .slice A' l.length c'], .int .i64 at_] w fun e w' => e = .returned (.tuple #[.string (readS b l at_), .int .i64 (readE b at_)]) ∧ Ext w w' := by
  unfold maxLen at hl
  have HX := Lib.hid ((Ext.refl w).alloc (.cells #[.slice A b.length c, .slice A' l.length c'] 26))
  have HA := Lib.hid (hA.ext HX.out)
  have HA' := Lib.hid (hA'.ext HX.out)
  clear hA hA'
  by_cases h0 : 0 ≤ at_
  · obtain ⟨n, rfl⟩ := Int.eq_ofNat_of_zero_le h0
    by_cases h1 : n < b.length
    · have HR := Lib.hid (show hasS b.length n = true by unfold hasS; simp; omega)
      have h2 : (n : Int) < (b.length : Int) := by omega
      obtain ⟨bb, off, rfl, _, hc⟩ := HA.out.str h1
      have hcb := hc n h1
      have HQ := Lib.hid (show b[n]?.getD (ByteArray.mk #[]) = b[n] by simp [h1])
      clear hc
      generalize hq : b[n] = q at *
      clear hq
      have fin : ∀ s, s = lastW l n q → Ending.returned (.tuple #[.string s, .int .i64 0]) = .returned (.tuple #[.string (readS b l n), .int .i64 (readE b n)]) := by
        intro s hs
        refine ret_pair ?_ ?_
        · unfold readS; rw [HR.out, Int.toNat_natCast, HQ.out, hs]; rfl
        · unfold readE; rw [HR.out]; rfl
      have FIN := Lib.hid fin
      clear fin
      generalize readS b l n = rS at *
      generalize readE b n = rE at *
      go_enter Tryz.func87, Tryz.ntmps87
      go_wp2
      go_loop [6, 7] (fun s i => ∃ k : Nat, k ≤ l.length ∧ i = .int .i64 k ∧ s = .string (lastW (l.take k) n q)) (fun _ i => l.length - (intOf i).toNat)
      case atStart => exact ⟨0, Nat.zero_le _, rfl, rfl⟩
      case round =>
        obtain ⟨k, hk, rfl, rfl⟩ := hrel
        by_cases hlt : k < l.length
        · obtain ⟨b2, off2, rfl, _, hc⟩ := HA'.out.wr hlt
          obtain ⟨hck, hcs⟩ := hc k hlt
          have HS := Lib.hid (lastW_step l n q k hlt)
          clear hc
          generalize hq : l[k] = x at *
          clear hq
          obtain ⟨xa, xs⟩ := x
          simp only at hck hcs
          generalize lastW (l.take k) n q = s0 at *
          rcases Decidable.em (xa = (n : Int)) with he | he
          · have hz : (xa == (n : Int)) = true := by simpa using he
            have HZ := Lib.hid he
            clear he
            go_wp2
            go_round
            case rel => exact ⟨k + 1, by omega, by go_num, by rw [HS.out, if_pos HZ.out]⟩
            case measure => simp [intOf]; omega
          · have hz : (xa == (n : Int)) = false := by simpa using he
            have HZ := Lib.hid he
            clear he
            go_wp2
            go_round
            case rel => exact ⟨k + 1, by omega, by go_num, by rw [HS.out, if_neg HZ.out]⟩
            case measure => simp [intOf]; omega
        · obtain rfl : k = l.length := by omega
          rw [List.take_length]
          go_wp2
          go_ret2
          exact ⟨FIN.out _ rfl, HX.out⟩
    · have HR := Lib.hid (show hasS b.length n = false by unfold hasS; simp; omega)
      have h2 : (b.length : Int) ≤ (n : Int) := by omega
      go_enter Tryz.func87, Tryz.ntmps87
      go_wp2
      go_ret2
      exact ⟨ret_pair (by unfold readS; rw [HR.out]; rfl) (by unfold readE; rw [HR.out]; rfl), HX.out⟩
  · have HR := Lib.hid (show hasS b.length at_ = false by unfold hasS; simp; omega)
    go_enter Tryz.func87, Tryz.ntmps87
    go_wp2
    go_ret2
    exact ⟨ret_pair (by unfold readS; rw [HR.out]; rfl) (by unfold readE; rw [HR.out]; rfl), HX.out⟩
end Go.Proofs.YtnlkakbpcdfgfaaGreat
