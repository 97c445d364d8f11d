/- The walks of step and steps. -/
import Derived.Test.YtikdicnpmobidaaDiskW11
import Derived.Test.YtikdicnpmobidaaDiskW7
import Derived.Test.YtikdicnpmobidaaDiskI1
import Derived.StillTailTactics
namespace Go.Proofs.Ytikdicnpmobidaa
open Go.RowKit
attribute [local go_sem ↓] Go.wp_at_zero Go.wp_at_succ

/-- P2.4: one step of a plan, if it can be done. -/
def step1 (b : List ByteArray) (l : List Wr) (x : Wr) : Option (List ByteArray × List Wr) :=
  if isFl x then some (writeL b l, []) else if takesS b.length x then some (b, l ++ [x]) else none

/-- What is neither a text's, nor a write's, nor a disk's block lies as it lay. -/
def Keeps3 (W W' : World) : Prop := W.heap.size ≤ W'.heap.size ∧ ∀ (k : Nat) (o : Obj), W.heap[k]? = some o → (∀ cs t fr, o = .cells cs t fr → t ≠ 9 ∧ t ≠ 43 ∧ t ≠ 25) → W'.heap[k]? = some o
theorem Keeps3.refl (W : World) : Keeps3 W W := ⟨Nat.le_refl _, fun _ _ h _ => h⟩
theorem Keeps3.trans {A B C : World} (h : Keeps3 A B) (k : Keeps3 B C) : Keeps3 A C := ⟨Nat.le_trans h.1 k.1, fun i o hi ho => k.2 i o (h.2 i o hi ho) ho⟩
theorem Keeps3.ext {A B : World} (h : Ext A B) : Keeps3 A B := ⟨h.size, fun i _ hi _ => (h.block i (Array.getElem?_eq_some_iff.1 hi).1).trans hi⟩
theorem Keeps3.grown {A B : World} {g : Nat} {cs : Array Value} {t : TypeId} {fr : Nat × Nat} (h : A.grownBy B (some g)) (hg : A.heap[g]? = some (.cells cs t fr)) (ht : t = 9 ∨ t = 43 ∨ t = 25) : Keeps3 A B :=
  ⟨h.size, fun i o hi ho => (h.block i (Array.getElem?_eq_some_iff.1 hi).1 (fun e => by
    cases e
    rw [hg] at hi
    cases hi
    obtain ⟨h1, h2, h3⟩ := ho _ _ _ rfl
    rcases ht with h | h | h <;> contradiction)).trans hi⟩
theorem Keeps3.grownN {A B : World} (h : A.grownBy B none) : Keeps3 A B := ⟨h.size, fun i o hi _ => (h.block i (Array.getElem?_eq_some_iff.1 hi).1 (by simp)).trans hi⟩
theorem own_obj {w : World} {B e size n g cap : Nat} {xs : List Value} (h : w.ownsRow B e size (.slice (some ⟨g, 0, none⟩) n cap) n xs) : ∃ cur, w.heap[g]? = some (.cells cur e (0, 0)) := by
  rcases h.2 with ⟨h', _⟩ | ⟨g', cap', cur, h', _, hg, _⟩
  · cases h'
  · cases h'; exact ⟨cur, hg⟩
/-- Whatever the own row is: its block has its type, or there is none. -/
theorem own_type {w : World} {B e size n : Nat} {v : Value} {xs : List Value} (h : w.ownsRow B e size v n xs) : v.ownBlock = none ∨ ∃ g cur, v.ownBlock = some g ∧ w.heap[g]? = some (.cells cur e (0, 0)) := by
  rcases h.2 with ⟨rfl, _⟩ | ⟨g', cap', cur, rfl, _, hg, _⟩
  · exact .inl rfl
  · exact .inr ⟨g', cur, rfl, hg⟩
theorem Keeps3.row {A B : World} {C e size n : Nat} {v : Value} {xs : List Value} (h : A.grownBy B v.ownBlock) (ho : A.ownsRow C e size v n xs) (ht : e = 9 ∨ e = 43 ∨ e = 25) : Keeps3 A B := by
  rcases own_type ho with hn | ⟨g, cur, hs, hg⟩
  · rw [hn] at h; exact Keeps3.grownN h
  · rw [hs] at h; exact Keeps3.grown h hg ht

/-- A disk in the making: its box, and its two rows, all made from B0 on. -/
def DoSt (B0 : Nat) (W : World) (X : Nat) (b : List ByteArray) (l : List Wr) : Prop :=
  ∃ g cb A' cl, W.heap[X]? = some (.cells #[.slice (some ⟨g, 0, none⟩) b.length cb, .slice A' l.length cl] 25 (0, 0)) ∧
    W.ownsRow B0 9 1 (.slice (some ⟨g, 0, none⟩) b.length cb) b.length (b.map sv) ∧ W.ownsRow B0 43 2 (.slice A' l.length cl) l.length (wvs l) ∧ B0 ≤ X

theorem DoSt.ext {B0 : Nat} {W W' : World} {X : Nat} {b : List ByteArray} {l : List Wr} (h : DoSt B0 W X b l) (hx : Ext W W') : DoSt B0 W' X b l := by
  obtain ⟨g, cb, A', cl, h1, h2, h3, h4⟩ := h
  exact ⟨g, cb, A', cl, (hx.block X (Array.getElem?_eq_some_iff.1 h1).1).trans h1, own_ext h2 hx, own_ext h3 hx, h4⟩
theorem ne_of_type {w : World} {g k : Nat} {cs cs' : Array Value} {t t' : TypeId} {fr fr' : Nat × Nat} (h : w.heap[g]? = some (.cells cs t fr)) (h' : w.heap[k]? = some (.cells cs' t' fr')) (ht : t ≠ t') : g ≠ k := by
  intro e; subst e; rw [h] at h'; cases h'; exact ht rfl
theorem own_ne {w : World} {B e size n k : Nat} {v : Value} {xs : List Value} {cs' : Array Value} {t' : TypeId} {fr' : Nat × Nat} (h : w.ownsRow B e size v n xs) (h' : w.heap[k]? = some (.cells cs' t' fr')) (ht : e ≠ t') : v.ownBlock ≠ some k := by
  rcases own_type h with hn | ⟨g, cur, hs, hg⟩
  · rw [hn]; simp
  · rw [hs]; intro e; cases e; exact ne_of_type hg h' ht rfl
theorem box_read {w : World} {k : Nat} {a b : Value} {t : TypeId} (h : w.heap[k]? = some (.cells #[a, b] t (0, 0))) : w.cell? ⟨k, 0, none⟩ = some a ∧ w.cell? ⟨k, 1, none⟩ = some b ∧ w.frozen? ⟨k, 0, none⟩ = false ∧ w.frozen? ⟨k, 1, none⟩ = false := Box2.read ⟨t, h⟩

theorem Keeps3.set {W : World} {X j : Nat} {cs : Array Value} {t : TypeId} {fr : Nat × Nat} (h : W.heap[X]? = some (.cells cs t fr)) (ht : t = 9 ∨ t = 43 ∨ t = 25) (u : Value) : Keeps3 W (W.setCell ⟨X, j, none⟩ u) :=
  Keeps3.grown (g := X) ⟨rfl, rfl, rfl, by simp [World.setCell], fun k _ hk => Below.heap_setCell _ _ _ _ (by simpa using hk)⟩ h ht

/-- What a step leaves. -/
def StepPost (B0 : Nat) (W : World) (X : Nat) (b : List ByteArray) (l : List Wr) (x : Wr) (e : Ending) (W' : World) : Prop :=
  Below B0 W W' ∧ Keeps3 W W' ∧ match step1 b l x with
    | some s => e = .returned (.bool true) ∧ DoSt B0 W' X s.1 s.2
    | none => e = .returned (.bool false) ∧ DoSt B0 W' X b l

set_option maxRecDepth 100000 in
set_option maxHeartbeats 4000000 in
theorem step_any (B0 X : Nat) (b : List ByteArray) (l : List Wr) (xa : Int) (xs : ByteArray) (w : World) (hb : b.length ≤ 1000000) (hl : l.length ≤ 900000) (hB : B0 ≤ w.heap.size) (hS : DoSt B0 w X b l) :
    Calls Try.prog 38 #[.pointer (some ⟨X, 0, none⟩), .agg #[.int .i64 xa, .string xs]] w fun e w' => StepPost B0 w X b l (xa, xs) e w' := by
  have HX := Lib.hid ((Ext.refl w).alloc (.cells #[.int .i64 xa, .string xs] 43))
  obtain ⟨g, cb, A', cl, p1, p2, p3, h4⟩ := hS
  have hXw := (Array.getElem?_eq_some_iff.1 p1).1
  have HLT := Lib.hid (fun q (hq : (Value.slice A' l.length cl).ownBlock = some q) => (p3.lt q hq).2)
  have HS := Lib.hid (fun W (hx : Ext (w.alloc (.cells #[.int .i64 xa, .string xs] 43)) W) => (show W.heap[X]? = some (.cells #[.slice (some ⟨g, 0, none⟩) b.length cb, .slice A' l.length cl] 25 (0, 0)) ∧
    W.ownsRow B0 9 1 (.slice (some ⟨g, 0, none⟩) b.length cb) b.length (b.map sv) ∧ W.ownsRow B0 43 2 (.slice A' l.length cl) l.length (wvs l) from
      ⟨((HX.out.trans hx).block X hXw).trans p1, own_ext p2 (HX.out.trans hx), own_ext p3 (HX.out.trans hx)⟩))
  have HI := Lib.hid (isFlush_any xa xs (w.alloc (.cells #[.int .i64 xa, .string xs] 43)))
  have hb0 := Box2.new w (.int .i64 xa) (.string xs) 43
  have HB0 := Lib.hid hb0
  clear p1 p2 p3 hb0
  cases hf : isFl (xa, xs)
  · have HF := Lib.hid hf
    clear hf
    go_enter Try.func38, Try.ntmps38
    go_wp2_with (go_at_call 48; refine stop_here ?_)
    refine stop_on ?_
    refine HI.out.mono ?_
    clear HI
    rintro e w2 ⟨rfl, hx2⟩
    rw [HF.out]
    have hz2 := hx2.size
    simp only [World.size_alloc] at hz2
    obtain ⟨h1, h2, h3⟩ := HS.out _ hx2
    obtain ⟨c0, c1, f0, f1⟩ := box_read h1
    have hb0 := HB0.out.ext (by simp) hx2
    obtain ⟨d0, d1, _, _⟩ := hb0.read
    have HXd := Lib.hid (HX.out.trans hx2)
    have HB0 := Lib.hid hb0
    have H1 := Lib.hid h1
    have H2 := Lib.hid h2
    have H3 := Lib.hid h3
    clear h1 h2 h3 hx2 hb0
    cases ht : takesS b.length (xa, xs)
    · have HST := Lib.hid (show step1 b l (xa, xs) = none by unfold step1; rw [HF.out, ht]; rfl)
      have HT := Lib.hid ht
      clear ht
      go_wp2_with fail
      go_still_tail 5, (by kernel_rfl)
      change wpList _ _ _ _ _ w2.drew
      go_wp2_with (go_at_call 30; refine stop_here ?_)
      refine stop_on ?_
      refine (takes_any (some ⟨g, 0, none⟩) b.length cb xa xs w2.drew).mono ?_
      rintro e w3 ⟨rfl, hx3⟩
      rw [HT.out]
      have HX3 := Lib.hid (HXd.out.drew.trans hx3)
      have HS3 := Lib.hid (DoSt.ext ⟨g, cb, A', cl, H1.out, H2.out, H3.out, h4⟩ ((Ext.refl w2).drew.trans hx3))
      clear hx3
      go_wp2
      go_ret
      refine ⟨Below.mono HX3.out hB, Keeps3.ext HX3.out, ?_⟩
      rw [HST.out]
      exact ⟨rfl, HS3.out⟩
    · have HST := Lib.hid (show step1 b l (xa, xs) = some (b, l ++ [(xa, xs)]) by unfold step1; rw [HF.out, ht]; rfl)
      have HT := Lib.hid ht
      clear ht
      go_wp2_with fail
      go_still_tail 5, (by kernel_rfl)
      change wpList _ _ _ _ _ w2.drew
      go_wp2_with (go_at_call 30; refine stop_here ?_)
      refine stop_on ?_
      refine (takes_any (some ⟨g, 0, none⟩) b.length cb xa xs w2.drew).mono ?_
      rintro e w3 ⟨rfl, hx3⟩
      rw [HT.out]
      have hx23 := (Ext.refl w2).drew.trans hx3
      have hz3 := hx23.size
      have HX3 := Lib.hid (HXd.out.trans hx23)
      have h1 : w3.heap[X]? = _ := (hx23.block X (Array.getElem?_eq_some_iff.1 H1.out).1).trans H1.out
      have H2' := Lib.hid (own_ext H2.out hx23)
      have H3' := Lib.hid (own_ext H3.out hx23)
      have hb0 := HB0.out.ext (by omega) hx23
      clear hx3 hx23 c0 c1 f0 f1 d0 d1
      obtain ⟨c0, c1, f0, f1⟩ := box_read h1
      obtain ⟨d0, d1, _, _⟩ := hb0.read
      have H1' := Lib.hid h1
      have HML := Lib.hid (show l.length + 1 ≤ maxLen by unfold maxLen; omega)
      have HSL := Lib.hid (fun wx : World => sl_lit wx 43 1 [.int .i64 xa, .string xs] (by unfold maxLen; omega))
      have HFL := Lib.hid (show ∀ u ∈ [Value.int .i64 xa, .string xs], u.oneCell' = true by intro u hu; simp at hu; rcases hu with rfl | rfl <;> rfl)
      have hXz := (Array.getElem?_eq_some_iff.1 h1).1
      obtain ⟨cur9, hg9⟩ := own_obj H2'.out
      have Hg9 := Lib.hid hg9
      have HKS := Lib.hid (fun w' (hx : Ext w3 w') => (show w'.cell? ⟨w.heap.size, 0, none⟩ = some (.int .i64 xa) ∧ w'.cell? ⟨w.heap.size, 1, none⟩ = some (.string xs) from ⟨(hb0.ext (by omega) hx).read.1, (hb0.ext (by omega) hx).read.2.1⟩))
      have HBX := Lib.hid hb0
      clear hg9
      clear h1 hb0
      go_wp2_with fail
      go_region_law
        (first
          | ((refine step_app_sl ?_ ?_ ?_ 23 ?_ ?_ 43 (.agg #[.int .i64 0, .string (ByteArray.mk #[])]) 2 24 Try.underlying23 infoW rfl Nat.two_pos ?_ l.length (wvs l) ?_ ?_ ?_ 1 1 [.int .i64 xa, .string xs] ?_ rfl ?_ ?_ ?_ ?_ ?_ ?_
              rfl
              rotate_left 2
              rfl
              rotate_left 2
              rfl
              (exact (H3'.out.alloc _).drew)
              rotate_left 1
              rfl
              (exact (HSL.out w3).ext (Ext.refl _).drew)
              exact HFL.out
              exact HML.out
              omega
              (first | omega | (simp; omega))
              intro A5 q5 w5 hoA hgA
              have hX5 : w5.heap[X]? = _ := (hgA.block X (by simp; omega) (fun e => own_ne ((H3'.out.alloc (.cells #[.int .i64 xa, .string xs] 43)).drew) (k := X) ((Below.heap_alloc w3 _ X hXz).trans H1'.out) (by decide) e.symm)).trans ((Below.heap_alloc w3 _ X hXz).trans H1'.out)
              have hz5 := hgA.size
              have hK5 := (Keeps3.ext ((Ext.refl w3).alloc (.cells #[.int .i64 xa, .string xs] 43)).drew).trans (Keeps3.row hgA ((H3'.out.alloc _).drew) (.inr (.inl rfl)))
              have hB5 : Below B0 w w5 := ((Below.mono HX3.out hB).alloc (Nat.le_trans hB HX3.out.size) _).drew.grown hgA (by simp; have := HX3.out.size; omega) (fun q hq => (H3'.out.lt q hq).1)
              have h25 := ((H2'.out.alloc (.cells #[.int .i64 xa, .string xs] 43)).drew).kept hgA (.inr (fun e => own_ne ((H3'.out.alloc (.cells #[.int .i64 xa, .string xs] 43)).drew) ((Below.heap_alloc w3 _ g (Array.getElem?_eq_some_iff.1 Hg9.out).1).trans Hg9.out) (by decide) e.symm))
              obtain ⟨r0, r1, s0, s1⟩ := box_read hX5
              have HX5 := Lib.hid hX5
              have HK35 := Lib.hid hK5
              have HB5 := Lib.hid hB5
              have H25 := Lib.hid h25
              have H35 := Lib.hid hoA
              have hgg : ∀ q, (Value.slice A' l.length cl).ownBlock = some q → q < w.heap.size := HLT.out
              have hbx5 : Box2 w5 w.heap.size (.int .i64 xa) (.string xs) := by
                obtain ⟨t, h⟩ := HBX.out
                exact ⟨t, (hgA.block w.heap.size (by simp; omega) (fun e => Nat.lt_irrefl _ (hgg _ e.symm))).trans ((Below.heap_alloc w3 _ _ (by omega)).trans h)⟩
              have HK5 := Lib.hid (show w5.cell? ⟨w.heap.size, 0, none⟩ = some (.int .i64 xa) ∧ w5.cell? ⟨w.heap.size, 1, none⟩ = some (.string xs) from ⟨hbx5.read.1, hbx5.read.2.1⟩)
              have HK6 := Lib.hid (fun u => (show (w5.setCell ⟨X, 1, none⟩ u).cell? ⟨w.heap.size, 0, none⟩ = some (.int .i64 xa) ∧ (w5.setCell ⟨X, 1, none⟩ u).cell? ⟨w.heap.size, 1, none⟩ = some (.string xs) from
                ⟨(World.cell?_setCell_other _ _ _ _ (by simp <;> omega)).trans hbx5.read.1, (World.cell?_setCell_other _ _ _ _ (by simp <;> omega)).trans hbx5.read.2.1⟩))
              clear hX5 hz5 hK5 hB5 h25 hoA hgA hgg hbx5)))
      all_goals
        go_wp2
        go_ret
        refine ⟨HB5.out.setCell (p := ⟨X, 1, none⟩) h4 _, ((Keeps3.ext HX3.out).trans HK35.out).trans (Keeps3.set HX5.out (.inr (.inr rfl)) _), ?_⟩
        rw [HST.out]
        have hgX := ne_of_type ((own_obj H25.out).choose_spec) HX5.out (by decide)
        refine ⟨rfl, g, cb, A5, q5, ?_, ?_, ?_, h4⟩
        · rw [List.length_append]
          exact heap_setCell_same _ _ 1 _ _ _ HX5.out
        · exact ownsRow_setCell_other H25.out (a := ⟨X, 1, none⟩) (by simpa [Value.ownBlock] using hgX) _
        · rw [List.length_append, wvs_append]
          exact ownsRow_setCell_other H35.out (a := ⟨X, 1, none⟩) (own_ne H35.out HX5.out (by decide)) _
  · have HF := Lib.hid hf
    have HST := Lib.hid (show step1 b l (xa, xs) = some (writeL b l, []) by unfold step1; rw [if_pos hf])
    clear hf
    go_enter Try.func38, Try.ntmps38
    go_wp2_with (go_at_call 48; refine stop_here ?_)
    refine stop_on ?_
    refine HI.out.mono ?_
    clear HI
    rintro e w2 ⟨rfl, hx2⟩
    rw [HF.out]
    obtain ⟨h1, h2, h3⟩ := HS.out _ hx2
    obtain ⟨c0, c1, f0, f1⟩ := box_read h1
    obtain ⟨cur, hg9⟩ := own_obj h2
    have hgX := ne_of_type hg9 h1 (by decide)
    have HXd := Lib.hid (HX.out.trans hx2)
    have hlA := h3.1
    have HW := Lib.hid (write_any B0 g b.length cb b A' l cl w2.drew hb (by unfold maxLen; omega) h2.drew (own_sl h3).cells (fun _ p hp e => by
      subst hp
      rcases h3.2 with ⟨h', _⟩ | ⟨g', cap', cur', h', _, hg', _⟩
      · cases h'
      · cases h'
        cases e
        exact ne_of_type hg9 hg' (by decide) rfl))
    have HG9 := Lib.hid hg9
    have H1 := Lib.hid h1
    have H2 := Lib.hid h2
    clear h1 h2 h3 hg9 hx2
    go_wp2_with fail
    go_still_tail 8, (by kernel_rfl)
    change wpList _ _ _ _ _ w2.drew
    go_wp2_with (go_at_call 39; refine stop_here ?_)
    refine stop_on ?_
    refine HW.out.mono ?_
    clear HW
    rintro e w3 ⟨rfl, ho, hg⟩
    have h1 : w3.heap[X]? = _ := (hg.block X (Array.getElem?_eq_some_iff.1 H1.out).1 (by simp; exact fun e => hgX e.symm)).trans H1.out
    clear c0 c1 f0 f1
    obtain ⟨c0, c1, f0, f1⟩ := box_read h1
    have HO := Lib.hid ho
    have HG := Lib.hid hg
    have H1' := Lib.hid h1
    clear h1 ho hg
    go_wp2
    go_ret
    have hgB := (H2.out.lt g rfl).1
    refine ⟨(((Below.mono HXd.out hB).drew).grown HG.out (Nat.le_trans hB HXd.out.size) (by intro k hk; cases hk; exact hgB)).setCell (p := ⟨X, 1, none⟩) h4 _, (((Keeps3.ext HXd.out.drew).trans (Keeps3.grown HG.out HG9.out (.inl rfl))).trans (Keeps3.set H1'.out (.inr (.inr rfl)) _)), ?_⟩
    rw [HST.out]
    refine ⟨rfl, g, cb, none, 0, ?_, ?_, World.ownsRow_nil _ _ _ _, h4⟩
    · simp only [writeL_length]
      exact heap_setCell_same _ _ 1 _ _ _ H1'.out
    · simp only [writeL_length]
      exact ownsRow_setCell_other HO.out (a := ⟨X, 1, none⟩) (by simpa [Value.ownBlock] using hgX) _
end Go.Proofs.Ytikdicnpmobidaa
