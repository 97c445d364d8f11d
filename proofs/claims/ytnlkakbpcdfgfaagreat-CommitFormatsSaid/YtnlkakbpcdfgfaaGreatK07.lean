/- The walk of Read. -/
import Derived.Test.YtnlkakbpcdfgfaaGreatK05
import Derived.Test.YtnlkakbpcdfgfaaGreatK06
namespace Go.Proofs.YtnlkakbpcdfgfaaGreat
set_option maxRecDepth 20000
open Go.RowKit Go.Shelf
attribute [local go_sem] Oper.semAt_some

theorem lastW_none (l : List Wr) (at_ : Int) (s : ByteArray) (h : ∀ x ∈ l, x.1 ≠ at_) : lastW l at_ s = s := by
  induction l generalizing s with
  | nil => rfl
  | cons x l ih =>
    unfold lastW
    rw [List.foldl_cons, if_neg (h x (by simp))]
    exact ih s (fun y hy => h y (by simp [hy]))
theorem lastW_hit (l : List Wr) (at_ : Int) (s : ByteArray) (q : Nat) (hq : q < l.length) (he : l[q].1 = at_) (hn : ∀ j (hj : j < l.length), q < j → l[j].1 ≠ at_) : lastW l at_ s = l[q].2 := by
  have e : l = l.take (q + 1) ++ l.drop (q + 1) := (List.take_append_drop _ _).symm
  have h1 : lastW l at_ s = lastW (l.drop (q + 1)) at_ (lastW (l.take (q + 1)) at_ s) := by
    conv => lhs; rw [e]
    unfold lastW; rw [List.foldl_append]
  rw [h1, lastW_step l at_ s q hq, if_pos he]
  refine lastW_none _ _ _ fun x hx => ?_
  obtain ⟨j, hj, rfl⟩ := List.getElem_of_mem hx
  rw [List.getElem_drop]
  exact hn _ _ (by omega)
theorem backK_mem (l : List Wr) (k : Nat) (hk : k ≤ l.length) (j : Nat) (hj : j < l.length) (h : l.length - 1 - j < k) : ((j : Int), l[j]) ∈ backK l k := by
  unfold backK
  rw [List.mem_map]
  refine ⟨l.length - 1 - j, by simpa using h, ?_⟩
  have e : l.length - 1 - (l.length - 1 - j) = j := by omega
  rw [e]
  simp [hj]
  omega

theorem box2_own {β : Type} (k : Nat) (a b : β → Value) : Own (fun s W => Box2 W k (a s) (b s)) := fun s X Y row hs hg hrow => by
  obtain ⟨t, h⟩ := hs
  refine ⟨t, (hg.block k (Array.getElem?_eq_some_iff.1 h).1 (fun e => ?_)).trans h⟩
  obtain ⟨o, ho, hc⟩ := hrow k e.symm
  rw [h] at ho
  cases ho
  cases hc

theorem boxed_ext {w w' : World} {k : Nat} {t : TypeId} {v : Value} (h : Boxed w k t v) (hx : Ext w w') : Boxed w' k t v := (hx.block k h.lt).trans h
theorem read_boxes (w : World) (a b c d e f : Value) (t0 t1 t2 t3 t4 : TypeId) : ∀ W, W = ((((w.alloc (.cells #[a, b] t0)).alloc (.cells #[c] t1)).alloc (.cells #[d] t2)).alloc (.cells #[e] t3)).alloc (.cells #[f] t4) →
    Ext w W ∧ W.heap.size = w.heap.size + 1 + 1 + 1 + 1 + 1 ∧ Box2 W w.heap.size a b ∧ Boxed W (w.heap.size + 1) t1 c ∧ Boxed W (w.heap.size + 1 + 1) t2 d ∧ Boxed W (w.heap.size + 1 + 1 + 1) t3 e ∧ Boxed W (w.heap.size + 1 + 1 + 1 + 1) t4 f := by
  rintro W rfl
  have b0 := Box2.new w a b t0
  have b1 := Boxed.new (w.alloc (.cells #[a, b] t0)) t1 c
  have b2 := Boxed.new ((w.alloc (.cells #[a, b] t0)).alloc (.cells #[c] t1)) t2 d
  have b3 := Boxed.new (((w.alloc (.cells #[a, b] t0)).alloc (.cells #[c] t1)).alloc (.cells #[d] t2)) t3 e
  have b4 := Boxed.new ((((w.alloc (.cells #[a, b] t0)).alloc (.cells #[c] t1)).alloc (.cells #[d] t2)).alloc (.cells #[e] t3)) t4 f
  simp only [World.size_alloc] at b1 b2 b3 b4
  have z0 := (((((Ext.refl (w.alloc (.cells #[a, b] t0))).alloc (.cells #[c] t1)).alloc (.cells #[d] t2)).alloc (.cells #[e] t3)).alloc (.cells #[f] t4))
  exact ⟨(((((Ext.refl w).alloc _).alloc _).alloc _).alloc _).alloc _, by simp, b0.ext (by simp) z0, (((b1.alloc _).alloc _).alloc _), ((b2.alloc _).alloc _), (b3.alloc _), b4⟩

def noAt (at_ : Int) (pre : List (Int × Wr)) : Prop := ∀ p ∈ pre, p.2.1 ≠ at_
def hitAt (h : Nat) (at_ : Int) (pre : List (Int × Wr)) (W : World) : Prop := ∃ ini last, pre = ini ++ [last] ∧ noAt at_ ini ∧ last.2.1 = at_ ∧ Boxed W (h + 1 + 1) 9 (.string last.2.2) ∧ Boxed W (h + 1 + 1 + 1) 34 (.int .i64 0)
theorem hitAt_own (h : Nat) (at_ : Int) (c : Code) : Own (fun (s : List (Int × Wr)) W => c = .ret ∧ hitAt h at_ s W) := fun s X Y row hs hg hr => by
  obtain ⟨hc, ini, last, e1, e2, e3, e4, e5⟩ := hs
  exact ⟨hc, ini, last, e1, e2, e3, boxed_own _ _ (fun (_ : Unit) => Value.string last.2.2) () X Y row e4 hg hr, boxed_own _ _ (fun (_ : Unit) => Value.int .i64 0) () X Y row e5 hg hr⟩

set_option maxRecDepth 100000 in
set_option maxHeartbeats 4000000 in
theorem readD_in (A A' : Option Addr) (b : List ByteArray) (l : List Wr) (c c' : Nat) (at_ : Int) (w : World) (_hb : b.length ≤ 1000000) (hl : l.length ≤ 1000000) (hA : Cells w A (b.map sv)) (hA' : Cells w A' (wvs l)) (hh : hasS b.length at_ = true) :
    CallsIn Fence.wide 3 Tryz.prog 66 #[.agg #[.slice A b.length c, .slice A' l.length c'], .int .i64 at_] w fun e w' => e = .returned (.tuple #[.string (readS b l at_), .int .i64 (readE b at_)]) ∧ Ext w w' := by
  have HA := Lib.hid hA
  have HA' := Lib.hid hA'
  clear hA hA'
  have HH := Lib.hid (fun W => callsIn_wide (n := 2).2 (has_any A b.length c at_ W))
  · have HZ := Lib.hid hh
    refine callsIn_of_wp_marks Tryz.func66 rfl trivial ?_ rfl
    simp only [Tryz.ntmps66, List.size_toArray, List.length_cons, List.length_nil, Nat.reduceAdd, Nat.reduceSub, Array.replicate_succ, Array.replicate_zero, List.push_toArray, List.append_toArray, List.nil_append, List.cons_append]
    gi_wp2_with (first | (refine ⟨trivial, ?_⟩; gi_at_call 101; refine (HH.out _).mono ?_; rintro e w' ⟨rfl, rfl⟩; rw [HZ.out]) | (refine ⟨trivial, ?_⟩; gi_at_call 102; refine (back_in Fence.wide 2 trivial rfl _ _ _ _).mono ?_; rintro e w' ⟨rfl, rfl⟩))
    obtain ⟨W0, hW0⟩ : ∃ W0, W0 = ((((w.alloc (.cells #[.slice A b.length c, .slice A' l.length c'] 26)).alloc (.cells #[.int .i64 at_] 3)).alloc (.cells #[.string (ByteArray.mk #[])] 9)).alloc (.cells #[.int .i64 0] 34)).alloc (.cells #[.slice A' l.length c'] 24) := ⟨_, rfl⟩
    obtain ⟨hX0, hz0, b0, b1, b2, b3, b4⟩ := read_boxes w _ _ _ _ _ _ _ _ _ _ _ W0 hW0
    rw [← hW0]
    clear hW0
    refine wpIn_rangeFunc_ownH rfl (by omega) (gf := 125) (lb := #[.pointer (some ⟨w.heap.size + 1 + 1 + 1 + 1, 0, none⟩)]) rfl trivial (enters_of Tryz.func125 (by kernel_rfl) rfl)
      (back_stops Fence.wide 2 trivial rfl (by omega) (w.heap.size + 1 + 1 + 1 + 1) W0.heap.size A' c' l hl W0 (by omega) (Nat.le_refl _) b4.cell (WrsAt.of (HA'.out.ext hX0))) belowK_t (belowK_b (Nat.le_refl _)) (Below.refl _ _) (fun _ => rfl)
      (fun pre W => noAt at_ pre ∧ Below W0.heap.size W0 W)
      (fun c pre W => (c = .ret ∧ hitAt w.heap.size at_ pre W) ∧ Below w.heap.size w W)
      (OwnFrom.and (ownFrom_pure _ _) (ownFrom_below (Nat.le_refl _) (Nat.le_refl _)))
      (fun c => OwnFrom.and (Own.from (hitAt_own _ _ c) _) (ownFrom_below (Nat.le_refl _) hX0.size))
      ⟨(fun p hp => by simp at hp), Below.refl _ _⟩
      (fun x a' W => ∃ Bx, W0.heap.size ≤ Bx ∧ Bx < W.heap.size ∧ Box2 W Bx (.int .i64 x.2.1) (.string x.2.2) ∧ a' = { tmps := #[.agg #[.slice A b.length c, .slice A' l.length c'], .int .i64 at_, .pointer (some ⟨w.heap.size, 0, none⟩), .pointer (some ⟨w.heap.size + 1, 0, none⟩), .pointer (some ⟨w.heap.size + 1 + 1, 0, none⟩), .pointer (some ⟨w.heap.size + 1 + 1 + 1, 0, none⟩), undef, .pointer (some ⟨Bx, 0, none⟩), .pointer (some ⟨w.heap.size, 0, none⟩), .slice A b.length c, .int .i64 at_, .bool true, .bool false, .pointer (some ⟨w.heap.size, 1, none⟩), .slice A' l.length c', .func (.func 125) #[] #[.pointer (some ⟨w.heap.size + 1 + 1 + 1 + 1, 0, none⟩)], .int .i64 x.1, .agg #[.int .i64 x.2.1, .string x.2.2], undef, undef, undef, undef, undef, undef, undef, undef, undef, undef, undef], defers := [] })
      (fun x a' _ X Y row hs hg hr => by
        obtain ⟨Bx, h1, h2, h3, h4⟩ := hs
        exact ⟨Bx, h1, Nat.lt_of_lt_of_le h2 hg.size, box2_own Bx (fun (_ : Unit) => Value.int .i64 x.2.1) (fun _ => .string x.2.2) () X Y row h3 hg (fun r e => (hr r e).2), h4⟩)
      ?assign ?body ?done ?stop
    case assign =>
      rintro l2 pre ⟨x1, xa, xs⟩ W K ⟨hp, hB⟩ hK
      gi_wp2
      exact hK _ _ ((KeepsOthers.alloc _ _).from _) ((Below.refl _ W).alloc hB.size _) ⟨hp, hB.alloc hB.size _⟩ ⟨W.heap.size, hB.size, by simp, Box2.new W _ _ _, rfl⟩
    case body =>
      rintro l2 pre ⟨x1, xa, xs⟩ a' W hl2 ⟨r, hr⟩ ⟨hp, hB⟩ ⟨Bx, hBx, hBx2, bX, rfl⟩ hlt
      have hAt := (boxed_ext b1 hB).cell
      have bS := boxed_ext b2 hB
      have bE := boxed_ext b3 hB
      have cS := bS.cell
      have fS := bS.frozen
      have cE := bE.cell
      have fE := bE.frozen
      obtain ⟨cX0, cX1, _, _⟩ := bX.read
      rcases Decidable.em (xa = at_) with he | he
      · have hz : (xa == at_) = true := by simpa using he
        have HE := Lib.hid he
        clear he
        gi_wp2
        exact ⟨((KeepsOthers.setCell _ _ _).from _).trans ((KeepsOthers.setCell _ _ _).from _), ⟨rfl, pre, (x1, xa, xs), rfl, hp, HE.out, (bS.set _).other (by omega) _, (bE.other (by omega) _).set _⟩, ((hX0.trans hB).set (p := ⟨w.heap.size + 1 + 1, 0, none⟩) (by simp; omega) _).set (p := ⟨w.heap.size + 1 + 1 + 1, 0, none⟩) (by simp; omega) _⟩
      · have hz : (xa == at_) = false := by simpa using he
        have HE := Lib.hid he
        clear he
        gi_wp2
        exact ⟨KeepsFrom.refl _ _, Below.refl _ _, fun p hp' => (List.mem_append.1 hp').elim (hp p) (fun e => by simp at e; subst e; exact HE.out), by rw [← hz0]; exact hB⟩
    case done =>
      rintro D ys W hD rfl ⟨hne, hB⟩ hK
      obtain ⟨m, rfl⟩ : ∃ m : Nat, at_ = m := by
        unfold hasS at hh
        simp at hh
        exact ⟨at_.toNat, by omega⟩
      have hm : m < b.length := by
        unfold hasS at hh
        simp at hh
        omega
      have hmi : (m : Int) < (b.length : Int) := by omega
      have hAt := (boxed_ext b1 hB).cell
      have bS := boxed_ext b2 hB
      have bE := boxed_ext b3 hB
      have cS := bS.cell
      have fS := bS.frozen
      have cE := bE.cell
      have fE := bE.frozen
      obtain ⟨cD0, cD1, _, _⟩ := (b0.ext (by omega) hB).read
      obtain ⟨bb, off, rfl, _, hcb⟩ := (HA.out.ext (hX0.trans hB)).str hm
      have hcm := hcb m hm
      have hR : readS b l (m : Int) = b[m] := by
        unfold readS
        rw [HZ.out, if_pos rfl, Int.toNat_natCast, lastW_none]
        · simp [hm]
        · intro x hx
          obtain ⟨j, hj, rfl⟩ := List.getElem_of_mem hx
          exact hne _ (backK_mem l l.length (Nat.le_refl _) j hj (by omega))
      have hE : readE b (m : Int) = 0 := by unfold readE; rw [HZ.out]; rfl
      have HR := Lib.hid hR
      have HE := Lib.hid hE
      have HK := Lib.hid hK
      have HB := Lib.hid (hX0.trans hB)
      have HBS := Lib.hid bS
      have HBE := Lib.hid bE
      clear hcb hR hE hne hK hB bS bE b0 b1 b2 b3 b4
      generalize hq : b[m] = q at *
      clear hq
      gi_wp2
      have hK' := (KeepsOthers.setCell (W.setCell ⟨w.heap.size + 1 + 1, 0, none⟩ (.string q)) ⟨w.heap.size + 1 + 1 + 1, 0, none⟩ (.int .i64 0)).same D _ ((KeepsOthers.setCell W ⟨w.heap.size + 1 + 1, 0, none⟩ (.string q)).same D _ HK.out rfl) rfl
      refine ⟨by simp, .inl ⟨_, _, rfl, run_takeDeferred hK', ?_⟩⟩
      have b5 := ((HBS.out.set (.string q)).other (B' := w.heap.size + 1 + 1 + 1) (by omega) (.int .i64 0))
      have b6 := ((HBE.out.other (B' := w.heap.size + 1 + 1) (by omega) (.string q)).set (.int .i64 0))
      have c5 := cell_kept b5.cell (grownBy_putObj' _ D (.deferred none)) (fun r e => by cases e; exact ⟨_, hK', rfl⟩)
      have c6 := cell_kept b6.cell (grownBy_putObj' _ D (.deferred none)) (fun r e => by cases e; exact ⟨_, hK', rfl⟩)
      refine ⟨.tuple #[.string q, .int .i64 0], ?_, by rw [HR.out, HE.out], Below.trans ((HB.out.set (p := ⟨w.heap.size + 1 + 1, 0, none⟩) (by simp; omega) _).set (p := ⟨w.heap.size + 1 + 1 + 1, 0, none⟩) (by simp; omega) _) (belowK_b (w := w) (Nat.le_refl _) _ D _ _ (by have := hX0.size; omega) hK' rfl rfl)⟩
      simp [results, Tryz.f66, go_sem, c5, c6]
    case stop =>
      rintro D c pre W hD ⟨k, hk, rfl⟩ ⟨⟨rfl, ini, last, e1, e2, e3, bS, bE⟩, hB⟩ hK
      gi_wp2
      refine ⟨by simp, .inl ⟨_, _, rfl, run_takeDeferred hK, ?_⟩⟩
      have c5 := cell_kept bS.cell (grownBy_putObj' _ D (.deferred none)) (fun r e => by cases e; exact ⟨_, hK, rfl⟩)
      have c6 := cell_kept bE.cell (grownBy_putObj' _ D (.deferred none)) (fun r e => by cases e; exact ⟨_, hK, rfl⟩)
      obtain ⟨k', rfl⟩ : ∃ k', k = k' + 1 := by
        cases k with
        | zero => simp [backK] at e1
        | succ k' => exact ⟨k', rfl⟩
      rw [backK_succ] at e1
      obtain ⟨rfl, e5⟩ := List.append_inj' e1 rfl
      have hql : l.length - 1 - k' < l.length := by omega
      obtain ⟨rfl⟩ : (((l.length : Int) - 1 - k', l[l.length - 1 - k']) = last) := by simpa [hql] using e5
      have hR : readS b l at_ = l[l.length - 1 - k'].2 := by
        unfold readS
        rw [HZ.out, if_pos rfl]
        refine lastW_hit l at_ _ _ hql e3 fun j hj hlt => e2 _ (backK_mem l k' (by omega) j hj (by omega))
      have hE : readE b at_ = 0 := by unfold readE; rw [HZ.out]; rfl
      refine ⟨.tuple #[.string l[l.length - 1 - k'].2, .int .i64 0], ?_, by rw [hR, hE], Below.trans hB (belowK_b (w := w) (Nat.le_refl _) W D _ _ (by have := hX0.size; omega) hK rfl rfl)⟩
      simp [results, Tryz.f66, go_sem, c5, c6]

set_option maxHeartbeats 1000000 in
theorem readD_any (A A' : Option Addr) (b : List ByteArray) (l : List Wr) (c c' : Nat) (at_ : Int) (w : World) (hb : b.length ≤ 1000000) (hl : l.length ≤ 1000000) (hA : Cells w A (b.map sv)) (hA' : Cells w A' (wvs l)) :
    Calls Tryz.prog 66 #[.agg #[.slice A b.length c, .slice A' l.length c'], .int .i64 at_] w fun e w' => e = .returned (.tuple #[.string (readS b l at_), .int .i64 (readE b at_)]) ∧ Ext w w' := by
  cases hh : hasS b.length at_
  · have HZ := Lib.hid hh
    have HR := Lib.hid (show readS b l at_ = ByteArray.mk #[] by unfold readS; rw [hh]; rfl)
    have HE := Lib.hid (show readE b at_ = 1 by unfold readE; rw [hh]; rfl)
    have HX := Lib.hid (fun v u => ((((Ext.refl w).alloc (.cells #[.slice A b.length c, .slice A' l.length c'] 26)).alloc (.cells #[.int .i64 at_] 3)).alloc (.cells #[v] 9)).alloc (.cells #[u] 34))
    clear hA hA' hh
    go_enter Tryz.func66, Tryz.ntmps66
    go_wp2_with (go_at_call 101; refine (has_any _ _ _ _ _).mono ?_; rintro e w' ⟨rfl, rfl⟩; rw [HZ.out])
    refine bodyPost_ret (v := .tuple #[.string (ByteArray.mk #[]), .int .i64 1]) (by simp [results, Tryz.results66, go_sem]) rfl ?_
    rw [HR.out, HE.out]
    exact ⟨rfl, HX.out _ _⟩
  · exact callsIn_wide.1 (readD_in A A' b l c c' at_ w hb hl hA hA' hh)
end Go.Proofs.YtnlkakbpcdfgfaaGreat
