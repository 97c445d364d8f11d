/- Walks of Right and May of the reference of layer 7 (over the contract of below: TreeW6, which has open cases). What is in a tree behind items that are put, as a row of items alone. The example of chapter 9: 1 to 5, put one by one. Walks of the reference of layer 8, where there are no tasks: Given, Tells, outside. Walks of the reference of layer 8, where there are no tasks: Tells, Refs, Held. The walk of Refs of the reference of layer 8, where there are no tasks. -/
import Derived.Test.YtkoomcbiddanfaaGreatK29
import Derived.Test.YtkoomcbiddanfaaGreatK25
import Derived.Test.YtkoomcbiddanfaaGreatK04
import Derived.Test.YtkoomcbiddanfaaGreatK21
namespace Go.Proofs.YtkoomcbiddanfaaGreat
open Go.RowKit
attribute [local go_sem ↓] Go.wp_at_zero Go.wp_at_succ

set_option maxRecDepth 100000 in
set_option maxHeartbeats 1600000 in
theorem ref07Right_any (R : Option Addr) (l : List HC) (n q : Nat) (keep p : Int) (w : World) (hl : AllR l) (hn : l.length ≤ 2000) (hA : HcSl w R n q l) :
    Calls Tryz.prog 18 #[.agg #[.slice R n q, .int .i64 keep], .int .i64 p] w fun e w' => e = .returned (.bool (rightR ⟨l, keep⟩ p)) ∧ Ext w w' := by
  have HX := Lib.hid ((Ext.refl w).alloc (.cells #[.slice R n q, .int .i64 keep] 24))
  have hb := Bx.new w #[.slice R n q, .int .i64 keep] 24
  have HB := Lib.hid hb
  have HU := Lib.hid (fun w' (hx : Ext w w') => ref05Used_any R l n q keep p w' (hA.ext hx))
  obtain ⟨b0, b1, b2⟩ := hb.read2
  clear hb
  by_cases h1 : p = -1
  · have HE := Lib.hid (show rightR ⟨l, keep⟩ p = true by unfold rightR; rw [decide_eq_true h1]; rfl)
    subst h1
    clear hA
    go_enter Tryz.func18, Tryz.ntmps18
    go_wp2
    go_ret
    exact ⟨ret_bool HE.out.symm, HX.out⟩
  have d0 : (p == -1) = false := by rw [beq_eq_false_iff_ne]; exact h1
  have d1 : decide (p = -1) = false := decide_eq_false h1
  have hrr : rightR ⟨l, keep⟩ p = (usedC l p && (bel l 20 p).is) := by unfold rightR; rw [d1]; rfl
  cases hu : usedC l p
  · rw [hu] at HU hrr
    have HE := Lib.hid (show rightR ⟨l, keep⟩ p = false from hrr)
    clear hA hrr hu
    go_enter Tryz.func18, Tryz.ntmps18
    go_wp2_with (go_at_call 39; refine (HU.out _ HX.out).mono ?_; rintro e w1 ⟨rfl, hx⟩; have HX1 := Lib.hid (HX.out.trans hx); clear b0 b1 b2; obtain ⟨b0, b1, b2⟩ := (HB.out.ext hx).read2; clear hx)
    go_ret
    exact ⟨ret_bool HE.out.symm, HX1.out⟩
  · rw [hu] at HU hrr
    obtain ⟨k, hk, hpk, _⟩ := usedC_iff hu
    have HBL := Lib.hid (fun w' (hx : Ext w w') => ref07below_any l hl hn 19 p R n q keep w' (by omega) (by omega) (by omega) (hA.ext hx))
    have HE := Lib.hid (show rightR ⟨l, keep⟩ p = (bel l 20 p).is from hrr)
    unfold gv at HBL
    generalize bel l (19 + 1) p = g at *
    generalize rightR ⟨l, keep⟩ p = rr at *
    clear hA hrr hu hpk
    go_enter Tryz.func18, Tryz.ntmps18
    go_wp2_with (first
      | (go_at_call 39; refine (HU.out _ HX.out).mono ?_; rintro e w1 ⟨rfl, hx⟩; have HX1 := Lib.hid (HX.out.trans hx); clear b0 b1 b2; obtain ⟨b0, b1, b2⟩ := (HB.out.ext hx).read2; clear hx)
      | (go_at_call 40; refine (HBL.out _ HX1.out).mono ?_; rintro e w2 ⟨rfl, hx⟩; have HX2 := Lib.hid (HX1.out.trans hx); clear hx))
    go_ret
    exact ⟨ret_bool HE.out.symm, HX2.out.alloc _⟩
def mayR (h : Hp) (root most : Int) : Bool := mayH h most && rightR h root
theorem may_all {l : List HC} {keep most : Int} (h : mayH ⟨l, keep⟩ most = true) : AllR l ∧ l.length ≤ 2000 := by
  unfold mayH at h
  rw [Bool.and_eq_true] at h
  have h1 := rightH_iff h.2
  exact ⟨h1.2, h1.1.1.2⟩
set_option maxRecDepth 100000 in
set_option maxHeartbeats 1600000 in
theorem ref07May_any (R : Option Addr) (l : List HC) (n q : Nat) (keep root most : Int) (w : World) (hA : HcSl w R n q l) :
    Calls Tryz.prog 5 #[.agg #[.slice R n q, .int .i64 keep], .int .i64 root, .int .i64 most] w fun e w' => e = .returned (.bool (mayR ⟨l, keep⟩ root most)) ∧ Ext w w' := by
  have HX := Lib.hid ((Ext.refl w).alloc (.cells #[.slice R n q, .int .i64 keep] 24))
  have hb := Bx.new w #[.slice R n q, .int .i64 keep] 24
  have HB := Lib.hid hb
  have HM := Lib.hid (fun w' (hx : Ext w w') => ref05May_any R l n q keep most w' (hA.ext hx))
  have hm : mayR ⟨l, keep⟩ root most = (mayH ⟨l, keep⟩ most && rightR ⟨l, keep⟩ root) := rfl
  obtain ⟨b0, b1, b2⟩ := hb.read2
  clear hb
  cases hu : mayH ⟨l, keep⟩ most
  · rw [hu] at HM hm
    have HE := Lib.hid (show mayR ⟨l, keep⟩ root most = false from hm)
    clear hA hm hu
    go_enter Tryz.func5, Tryz.ntmps5
    go_wp2_with (go_at_call 17; refine (HM.out _ HX.out).mono ?_; rintro e w1 ⟨rfl, hx⟩; have HX1 := Lib.hid (HX.out.trans hx); clear b0 b1 b2; obtain ⟨b0, b1, b2⟩ := (HB.out.ext hx).read2; clear hx)
    go_ret
    exact ⟨ret_bool HE.out.symm, HX1.out⟩
  · obtain ⟨hl, hn⟩ := may_all hu
    rw [hu] at HM hm
    have HR := Lib.hid (fun w' (hx : Ext w w') => ref07Right_any R l n q keep root w' hl hn (hA.ext hx))
    have HE := Lib.hid (show mayR ⟨l, keep⟩ root most = rightR ⟨l, keep⟩ root from hm)
    generalize rightR ⟨l, keep⟩ root = rr at *
    clear hA hm hu hl hn
    go_enter Tryz.func5, Tryz.ntmps5
    go_wp2_with (first
      | (go_at_call 17; refine (HM.out _ HX.out).mono ?_; rintro e w1 ⟨rfl, hx⟩; have HX1 := Lib.hid (HX.out.trans hx); clear b0 b1 b2; obtain ⟨b0, b1, b2⟩ := (HB.out.ext hx).read2; clear hx)
      | (go_at_call 18; refine (HR.out _ HX1.out).mono ?_; rintro e w2 ⟨rfl, hx⟩; have HX2 := Lib.hid (HX1.out.trans hx); clear hx))
    go_ret
    exact ⟨ret_bool HE.out.symm, HX2.out⟩
end Go.Proofs.YtkoomcbiddanfaaGreat
namespace Go.Proofs.YtkoomcbiddanfaaGreat
open Go.RowKit

/-- Rows that rise, with the same items, are the same. -/
theorem asc_ext : ∀ {a b : List It}, Asc a → Asc b → (∀ z, z ∈ a ↔ z ∈ b) → a = b
  | [], [], _, _, _ => rfl
  | [], y :: b, _, _, h => by have := (h y).2 List.mem_cons_self; cases this
  | x :: a, [], _, _, h => by have := (h x).1 List.mem_cons_self; cases this
  | x :: a, y :: b, ha, hb, h => by
    have ha1 := List.pairwise_cons.1 ha
    have hb1 := List.pairwise_cons.1 hb
    have e : x = y := by
      rcases List.mem_cons.1 ((h x).1 List.mem_cons_self) with e | e
      · exact e
      · rcases List.mem_cons.1 ((h y).2 List.mem_cons_self) with e2 | e2
        · exact e2.symm
        · have h1 := hb1.1 x e
          have h2 := ha1.1 y e2
          omega
    subst e
    rw [asc_ext ha1.2 hb1.2 (fun z => ⟨fun hz => by
      rcases List.mem_cons.1 ((h z).1 (List.mem_cons_of_mem _ hz)) with e | e
      · subst e; have := ha1.1 z hz; omega
      · exact e, fun hz => by
      rcases List.mem_cons.1 ((h z).2 (List.mem_cons_of_mem _ hz)) with e | e
      · subst e; have := hb1.1 z hz; omega
      · exact e⟩)]
/-- A row with an item more, instead of the one of its key. -/
def insL (L : List It) (x : It) : List It := L.filter (fun y => decide (y.1 < x.1)) ++ x :: L.filter (fun y => decide (x.1 < y.1))
theorem insL_mem {L : List It} {x z : It} : z ∈ insL L x ↔ z = x ∨ (z ∈ L ∧ z.1 ≠ x.1) := by
  unfold insL
  simp only [List.mem_append, List.mem_cons, List.mem_filter, decide_eq_true_eq]
  constructor
  · rintro (⟨h1, h2⟩ | h | ⟨h1, h2⟩)
    · exact .inr ⟨h1, by omega⟩
    · exact .inl h
    · exact .inr ⟨h1, by omega⟩
  · rintro (h | ⟨h1, h2⟩)
    · exact .inr (.inl h)
    · rcases Int.lt_or_gt_of_ne h2 with h | h
      · exact .inl ⟨h1, h⟩
      · exact .inr (.inr ⟨h1, h⟩)
theorem insL_asc {L : List It} (h : Asc L) (x : It) : Asc (insL L x) := by
  unfold insL Asc
  rw [List.pairwise_append]
  refine ⟨List.Pairwise.filter _ h, List.pairwise_cons.2 ⟨fun y hy => ?_, List.Pairwise.filter _ h⟩, fun a ha b hb => ?_⟩
  · simpa using (List.mem_filter.1 hy).2
  · have h1 : a.1 < x.1 := by simpa using (List.mem_filter.1 ha).2
    rcases List.mem_cons.1 hb with e | e
    · subst e; exact h1
    · have h2 : x.1 < b.1 := by simpa using (List.mem_filter.1 e).2
      omega
theorem insL_len (L : List It) (x : It) : (insL L x).length ≤ L.length + 1 := by
  unfold insL
  rw [List.length_append, List.length_cons]
  have h : ∀ L : List It, (L.filter (fun y => decide (y.1 < x.1))).length + (L.filter (fun y => decide (x.1 < y.1))).length ≤ L.length := by
    intro L
    induction L with
    | nil => simp
    | cons y r ih =>
      rw [List.filter_cons, List.filter_cons]
      by_cases h1 : y.1 < x.1
      · have h2 : ¬ x.1 < y.1 := by omega
        simp [h1, h2]; omega
      · by_cases h2 : x.1 < y.1
        · simp [h1, h2]; omega
        · simp [h1, h2]; omega
  have := h L
  omega
theorem insL_twice {L : List It} {x y : It} (h : Asc L) (e : x.1 = y.1) : insL (insL L x) y = insL L y :=
  asc_ext (insL_asc (insL_asc h x) y) (insL_asc h y) (fun z => by
    rw [insL_mem, insL_mem, insL_mem]
    constructor
    · rintro (h | ⟨h | h, h2⟩)
      · exact .inl h
      · subst h; exact absurd e h2
      · exact .inr ⟨h.1, h2⟩
    · rintro (h | ⟨h, h2⟩)
      · exact .inl h
      · exact .inr ⟨.inr ⟨h, by rw [e]; exact h2⟩, h2⟩)
theorem insL_swap {L : List It} {x y : It} (h : Asc L) (e : x.1 ≠ y.1) : insL (insL L x) y = insL (insL L y) x :=
  asc_ext (insL_asc (insL_asc h x) y) (insL_asc (insL_asc h y) x) (fun z => by
    rw [insL_mem, insL_mem, insL_mem, insL_mem]
    constructor
    · rintro (h | ⟨h | h, h2⟩)
      · subst h; exact .inr ⟨.inl rfl, fun e' => e e'.symm⟩
      · exact .inl h
      · exact .inr ⟨.inr ⟨h.1, h2⟩, h.2⟩
    · rintro (h | ⟨h | h, h2⟩)
      · subst h; exact .inr ⟨.inl rfl, e⟩
      · exact .inl h
      · exact .inr ⟨.inr ⟨h.1, h2⟩, h.2⟩)
theorem insL_len_same {L : List It} {x y : It} (e : x.1 = y.1) : (insL L x).length = (insL L y).length := by
  unfold insL; rw [e, List.length_append, List.length_append, List.length_cons, List.length_cons]
/-- What a key tells in a row. -/
def getF (L : List It) (key : Int) : Option Int := (L.find? (fun x => decide (x.1 = key))).map (·.2)
theorem find_filter {p q : It → Bool} (h : ∀ y, q y = true → p y = true) : ∀ (L : List It), (L.filter p).find? q = L.find? q
  | [] => rfl
  | y :: r => by
    rw [List.filter_cons]
    by_cases hp : p y = true
    · rw [if_pos hp, List.find?_cons, List.find?_cons, find_filter h r]
    · rw [if_neg hp, find_filter h r, List.find?_cons]
      have : q y = false := by cases hq : q y; · rfl
                               · exact absurd (h y hq) hp
      rw [this]
theorem find_none {p q : It → Bool} (h : ∀ y, p y = true → q y = false) : ∀ (L : List It), (L.filter p).find? q = none := by
  intro L
  rw [List.find?_eq_none]
  intro y hy
  rw [h y (List.mem_filter.1 hy).2]
  simp
theorem getF_ins (L : List It) (x : It) (key : Int) : getF (insL L x) key = if x.1 = key then some x.2 else getF L key := by
  unfold getF insL
  rw [List.find?_append, List.find?_cons]
  by_cases h : x.1 = key
  · rw [find_none (fun y hy => by simp only [decide_eq_true_eq] at hy; exact decide_eq_false (by omega))]
    simp [h]
  · rw [if_neg h, decide_eq_false h]
    simp only
    rcases Int.lt_or_gt_of_ne h with h2 | h2
    · rw [find_none (fun y hy => by simp only [decide_eq_true_eq] at hy; exact decide_eq_false (by omega)), Option.none_or, find_filter (fun y hy => by simp only [decide_eq_true_eq] at hy ⊢; omega)]
    · rw [find_filter (fun y hy => by simp only [decide_eq_true_eq] at hy ⊢; omega)]
      cases hf : L.find? (fun x => decide (x.1 = key)) with
      | some z => rfl
      | none =>
        rw [Option.none_or, find_none (fun y hy => by simp only [decide_eq_true_eq] at hy; exact decide_eq_false (by omega))]
theorem getT_F (l : List HC) (root key : Int) : getT l root key = getF (listT l root) key := rfl
/-- The items of a right tree rise. -/
theorem listT_rise {c : List HC} {keep root : Int} (hr : rightH ⟨c, keep⟩ = true) (hb : rightR ⟨c, keep⟩ root = true) : Asc (listT c root) := by
  unfold listT
  rcases rightR_iff hb with h | ⟨h0, h1, h2⟩
  · rw [if_pos h]; exact List.Pairwise.nil
  · rw [if_neg (by omega)]; exact (listB_spans c (allR_of hr) 20 root h0 h1 h2).asc
theorem fine_room {c : List HC} {keep root most : Int} {x : It} {deep : Bool} (hf : fineB ⟨c, keep⟩ root most = true) (h0 : (putR ⟨c, keep⟩ root x deep).2.2 = 0) :
    okIt x ∧ highT c root < 20 ∧ 2 * highT c root + 1 ≤ (c.countP freeC : Nat) ∧ putR ⟨c, keep⟩ root x deep = ((putG c root x).1, (putG c root x).2, 0) := by
  obtain ⟨hx, hh, hn, e⟩ := put_zero h0
  obtain ⟨hm, _, _⟩ := fine_may hf
  have h2 : highT c root ≠ 20 := hh
  have hb : highT c root ≤ 20 := by unfold highT; split; · omega
                                    · exact (bel_high c 20 root).2
  exact ⟨hx, by omega, fits_free (may_keep hm).1 hn, e⟩
/-- What is in the tree behind what is put. -/
theorem put_list {c : List HC} {keep root most : Int} {x : It} {deep : Bool} (hmost : most ≤ 60) (hf : fineB ⟨c, keep⟩ root most = true) (h0 : (putR ⟨c, keep⟩ root x deep).2.2 = 0) :
    fineB ⟨(putR ⟨c, keep⟩ root x deep).1, keep⟩ (putR ⟨c, keep⟩ root x deep).2.1 most = true ∧ listT (putR ⟨c, keep⟩ root x deep).1 (putR ⟨c, keep⟩ root x deep).2.1 = insL (listT c root) x ∧ 0 ≤ (putR ⟨c, keep⟩ root x deep).2.1 := by
  have h1 := fine_next hmost hf h0
  refine ⟨h1, ?_⟩
  obtain ⟨hx, hh, hn, e⟩ := fine_room hf h0
  rw [e] at h1 ⊢
  simp only at h1 ⊢
  obtain ⟨hm, hb, _⟩ := fine_may hf
  obtain ⟨hm2, hb2, _⟩ := fine_may h1
  obtain ⟨a, P, _⟩ := fine_put hmost hf hx hh hn
  have hl : listT (putG c root x).1 (putG c root x).2 = listB (putG c root x).1 20 (putG c root x).2 := by unfold listT; rw [if_neg (by have := P.place.1; omega)]
  refine ⟨asc_ext (listT_rise (may_iff hm2).2.2 hb2) (insL_asc (listT_rise (may_iff hm).2.2 hb) x) (fun z => ?_), P.place.1⟩
  rw [hl, P.mem z, insL_mem]
theorem put_err {h : Hp} {root : Int} {x : It} {deep : Bool} (h0 : (putR h root x deep).2.2 ≠ 0) : (putR h root x deep).1 = h.c ∧ (putR h root x deep).2.1 = root ∧ ((putR h root x deep).2.2 = 1 ∨ (putR h root x deep).2.2 = 3) ∧ (okIt x → (putR h root x deep).2.2 = 3) := by
  unfold putR at h0 ⊢
  split
  · rename_i hok
    rw [if_pos hok] at h0
    split
    · exact ⟨rfl, rfl, .inr rfl, fun _ => rfl⟩
    · rename_i hf
      rw [if_neg hf] at h0
      exact absurd rfl h0
  · rename_i hok
    exact ⟨rfl, rfl, .inl rfl, fun h => absurd h hok⟩
/-- What Fill comes to. -/
theorem fill_fine {keep most : Int} (hmost : most ≤ 60) : ∀ (it : List It) (c : List HC) (root : Int), fineB ⟨c, keep⟩ root most = true →
    fineB ⟨(fillR keep it c root).1, keep⟩ (fillR keep it c root).2.1 most = true ∧ ((fillR keep it c root).2.2 = 0 ∨ (fillR keep it c root).2.2 = 1 ∨ (fillR keep it c root).2.2 = 3) ∧
    ((fillR keep it c root).2.2 = 0 → listT (fillR keep it c root).1 (fillR keep it c root).2.1 = it.foldl insL (listT c root) ∧ (it ≠ [] → 0 ≤ (fillR keep it c root).2.1) ∧ (it = [] → (fillR keep it c root).2.1 = root))
  | [], c, root, hf => ⟨hf, .inl rfl, fun _ => ⟨rfl, fun h => absurd rfl h, fun _ => rfl⟩⟩
  | x :: r, c, root, hf => by
    rw [fillR]
    by_cases h0 : (putR ⟨c, keep⟩ root x false).2.2 = 0
    · rw [if_pos h0]
      obtain ⟨h1, h2, h3⟩ := put_list hmost hf h0
      obtain ⟨i1, i2, i3⟩ := fill_fine hmost r _ _ h1
      refine ⟨i1, i2, fun he => ?_⟩
      obtain ⟨j1, j2, j3⟩ := i3 he
      refine ⟨by rw [j1, h2]; rfl, fun _ => ?_, fun e => by cases e⟩
      by_cases hr : r = []
      · rw [j3 hr]; exact h3
      · exact j2 hr
    · rw [if_neg h0]
      obtain ⟨_, _, h3, _⟩ := put_err h0
      refine ⟨hf, .inr ?_, fun he => absurd he h0⟩
      exact h3
theorem fill_append {keep : Int} : ∀ (a b : List It) (c : List HC) (root : Int), (fillR keep (a ++ b) c root).2.2 = 0 →
    (fillR keep a c root).2.2 = 0 ∧ fillR keep (a ++ b) c root = fillR keep b (fillR keep a c root).1 (fillR keep a c root).2.1
  | [], b, c, root, _ => ⟨rfl, rfl⟩
  | x :: a, b, c, root, h => by
    rw [List.cons_append, fillR] at h ⊢
    rw [fillR]
    by_cases h0 : (putR ⟨c, keep⟩ root x false).2.2 = 0
    · rw [if_pos h0] at h ⊢
      rw [if_pos h0]
      exact fill_append a b _ _ h
    · rw [if_neg h0] at h
      exact absurd h h0
/-- The last one of a key. -/
def lastV (key : Int) (o : Option Int) (l : List It) : Option Int := l.foldl (fun o y => if y.1 = key then some y.2 else o) o
theorem getF_fold (key : Int) : ∀ (l L : List It), getF (l.foldl insL L) key = lastV key (getF L key) l
  | [], L => rfl
  | x :: r, L => by
    rw [List.foldl_cons, getF_fold key r, getF_ins]; rfl
theorem lastV_append (key : Int) (o : Option Int) (a b : List It) : lastV key o (a ++ b) = lastV key (lastV key o a) b := by unfold lastV; rw [List.foldl_append]
theorem lastV_self {l : List It} {i : Nat} (hi : i < l.length) (o : Option Int) : lastV l[i].1 o l = lastV l[i].1 (some l[i].2) (l.drop i) := by
  have h := congrArg (lastV l[i].1 o) (List.take_append_drop i l).symm
  rw [h, lastV_append, List.drop_eq_getElem_cons hi]
  unfold lastV
  rw [List.foldl_cons, List.foldl_cons, if_pos rfl, if_pos rfl]
theorem fold_len : ∀ (l L : List It), (l.foldl insL L).length ≤ L.length + l.length
  | [], L => by simp
  | x :: r, L => by
    rw [List.foldl_cons, List.length_cons]
    have h1 := fold_len r (insL L x)
    have h2 := insL_len L x
    omega
/-- A new heap. -/
theorem new_fine {n : Nat} {most : Int} (h1 : 1 ≤ n) (h2 : (n : Int) ≤ most) (hmost : most ≤ 60) : newH n 0 = ⟨List.replicate n HC.none, 0⟩ ∧ newHE n 0 = 0 ∧ fineB ⟨List.replicate n HC.none, 0⟩ (-1) most = true := by
  have hok : newOk n 0 := ⟨⟨by omega, by omega⟩, by omega, by omega⟩
  refine ⟨by unfold newH; rw [if_pos hok, Int.toNat_natCast], by unfold newHE; rw [if_pos hok], ?_⟩
  have hr : rightH ⟨List.replicate n HC.none, 0⟩ = true := by
    unfold rightH
    rw [Bool.and_eq_true, decide_eq_true_eq]
    refine ⟨⟨⟨by simpa using h1, by simp; omega⟩, by simp, by simp⟩, ?_⟩
    rw [List.all_eq_true]
    intro x hx
    rw [(List.mem_replicate.1 hx).2]
    rfl
  have hin : ∀ k, inn (List.replicate n HC.none) k = 0 := fun k => by
    unfold inn
    rw [List.map_replicate]
    have : (tellC HC.none).count k = 0 := rfl
    rw [this]
    induction n with
    | zero => rfl
    | succ m ih => rw [List.replicate_succ]; simp
  unfold fineB mayT mayH
  simp only [Bool.and_eq_true]
  refine ⟨⟨⟨?_, hr⟩, by unfold rightR; simp⟩, sound_of hr (fun k hk => ?_) (fun k hk h0 => ?_)⟩
  · unfold smallH
    rw [Bool.and_eq_true, decide_eq_true_eq, List.all_eq_true]
    refine ⟨by simpa using h2, fun x hx => ?_⟩
    rw [(List.mem_replicate.1 hx).2]
    rfl
  · rw [hin, List.getElem_replicate]
    unfold rootE
    rw [if_neg (by omega)]
    rfl
  · rw [List.getElem_replicate] at h0
    exact absurd h0 (by decide)
end Go.Proofs.YtkoomcbiddanfaaGreat
namespace Go.Proofs.YtkoomcbiddanfaaGreat
open Go.RowKit

theorem put_leaf {c : List HC} {keep root : Int} {x : It} {deep : Bool} {xs : List It} {rows : List (List It)} (h1 : okIt x) (h2 : ¬ (highT c root = 20 ∨ fitsH ⟨c, keep⟩ (2 * highT c root + 1) deep = false)) (h0 : ¬ root < 0) (hl : (cellT c root).leaf = true)
    (hxs : withS (cellT c root).it (atI true (cellT c root).it x.1).toNat (if atB (cellT c root).it x.1 then 1 else 0) [x] = xs) (hsp : splitS xs = rows) :
    putR ⟨c, keep⟩ root x deep = (looseL (c.length + 1) (topS (layS true [] rows c).1 (layS true [] rows c).2).1 root, (topS (layS true [] rows c).1 (layS true [] rows c).2).2, 0) := by
  have ha : anewS 20 c root x = layS true [] rows c := by
    show anewS (19 + 1) c root x = _
    rw [anewS, if_pos hl, hxs, hsp]
  unfold putR
  rw [if_pos h1]
  simp only
  rw [if_neg h2]
  unfold putG aboveS
  rw [if_neg h0, if_neg h0, ha]
def exN (n : Nat) : List HC := List.replicate n HC.none
def exW : HC := ⟨0, true, false, []⟩
def exL (it : List It) : HC := ⟨1, false, true, it⟩
def ex1 : List HC := exL [(1, 1)] :: exN 19
def ex2 : List HC := exW :: exL [(1, 1), (2, 2)] :: exN 18
def ex3 : List HC := exW :: exW :: exL [(1, 1), (2, 2), (3, 3)] :: exN 17
def ex4 : List HC := exW :: exW :: exW :: exL [(1, 1), (2, 2), (3, 3), (4, 4)] :: exN 16
def ex5 : List HC := exW :: exW :: exW :: exW :: exL [(1, 1), (2, 2), (3, 3)] :: exL [(4, 4), (5, 5)] :: ⟨1, false, false, [(1, 4), (4, 5)]⟩ :: exN 13
set_option maxRecDepth 100000 in
theorem exP1 : putR ⟨exN 20, 0⟩ (-1) (1, 1) false = (ex1, 0, 0) := by rfl
set_option maxRecDepth 100000 in
theorem exP2 : putR ⟨ex1, 0⟩ 0 (2, 2) false = (ex2, 1, 0) := by
  rw [put_leaf (xs := [(1, 1), (2, 2)]) (rows := [[(1, 1), (2, 2)]]) (by decide) (by decide) (by decide) rfl rfl (splitS_few (by simp) (by simp))]
  rfl
set_option maxRecDepth 100000 in
theorem exP3 : putR ⟨ex2, 0⟩ 1 (3, 3) false = (ex3, 2, 0) := by
  rw [put_leaf (xs := [(1, 1), (2, 2), (3, 3)]) (rows := [[(1, 1), (2, 2), (3, 3)]]) (by decide) (by decide) (by decide) rfl rfl (splitS_few (by simp) (by simp))]
  rfl
set_option maxRecDepth 100000 in
theorem exP4 : putR ⟨ex3, 0⟩ 2 (4, 4) false = (ex4, 3, 0) := by
  rw [put_leaf (xs := [(1, 1), (2, 2), (3, 3), (4, 4)]) (rows := [[(1, 1), (2, 2), (3, 3), (4, 4)]]) (by decide) (by decide) (by decide) rfl rfl (splitS_few (by simp) (by simp))]
  rfl
set_option maxRecDepth 100000 in
theorem exP5 : putR ⟨ex4, 0⟩ 3 (5, 5) false = (ex5, 6, 0) := by
  rw [put_leaf (xs := [(1, 1), (2, 2), (3, 3), (4, 4), (5, 5)]) (rows := [[(1, 1), (2, 2), (3, 3)], [(4, 4), (5, 5)]]) (by decide) (by decide) (by decide) rfl rfl (by rw [splitS_more (by simp), splitS_few (by simp) (by simp)]; rfl)]
  rfl
theorem ex_fill : fillR 0 [(1, 1), (2, 2), (3, 3), (4, 4), (5, 5)] (exN 20) (-1) = (ex5, 6, 0) := by
  rw [fillR, exP1, if_pos rfl]
  rw [fillR, exP2, if_pos rfl]
  rw [fillR, exP3, if_pos rfl]
  rw [fillR, exP4, if_pos rfl]
  rw [fillR, exP5, if_pos rfl]
  rfl
theorem ex_arg : putR ⟨exN 20, 0⟩ (-1) (-1, 0) true = (exN 20, -1, 1) := by unfold putR; rw [if_neg (by decide)]
set_option maxRecDepth 100000 in
theorem ex_one : putR ⟨exN 20, 0⟩ (-1) (7, 8) false = (exL [(7, 8)] :: exN 19, 0, 0) := by rfl
set_option maxRecDepth 100000 in
theorem ex_list : listT ex5 6 = [(1, 1), (2, 2), (3, 3), (4, 4), (5, 5)] := by rfl
theorem ex_len : ex5.length = 20 := by rfl
end Go.Proofs.YtkoomcbiddanfaaGreat
namespace Go.Proofs.YtkoomcbiddanfaaGreat
open Go.RowKit

set_option maxHeartbeats 400000 in
theorem ref08Given_nil (p : Int) (w : World) : Calls Tryz.prog 80 #[.slice none 0 0, .int .i64 p] w fun e w' => e = .returned (.int .i64 0) ∧ w = w' := by
  go_enter Tryz.func80, Tryz.ntmps80
  go_wp2
  go_loopw [5, 6] (fun m v wr => m = .int .i64 0 ∧ v = .int .i64 0 ∧ wr = w) (fun _ _ _ => 0)
  case atStart => exact ⟨rfl, rfl, rfl⟩
  case round =>
    obtain ⟨rfl, rfl, rfl⟩ := hrel
    go_wp2
    go_ret
    exact ⟨rfl, rfl⟩
set_option maxHeartbeats 400000 in
theorem ref06Right_nil (n : Int) (w : World) : Calls Tryz.prog 77 #[.slice none 0 0, .int .i64 n] w fun e w' => e = .returned (.bool true) ∧ w = w' := by
  go_enter Tryz.func77, Tryz.ntmps77
  go_wp2
  go_loopw [5] (fun v wr => v = .int .i64 0 ∧ wr = w) (fun _ _ => 0)
  case atStart => exact ⟨rfl, rfl⟩
  case round =>
    obtain ⟨rfl, rfl⟩ := hrel
    go_wp2
    go_ret
    exact ⟨rfl, rfl⟩
def outR (root p : Int) : Int := if root = p then 1 else 0
set_option maxHeartbeats 800000 in
theorem ref08outside_one (A : Option Addr) (c : Nat) (root p : Int) (w : World) (hA : Sl w A 1 c ([root].map iv)) : Calls Tryz.prog 81 #[.slice A 1 c, .slice none 0 0, .int .i64 p] w fun e w' => e = .returned (.int .i64 (outR root p)) ∧ w = w' := by
  obtain ⟨b, off, rfl, _, hc⟩ := Cells.num hA.cells (k := 0) (by simp)
  have h0 := hc 0 (by simp)
  simp only [List.getElem_cons_zero, Nat.add_zero] at h0
  clear hc hA
  go_enter Tryz.func81, Tryz.ntmps81
  go_wp2
  go_loopw [7, 8] (fun m v wr => wr = w ∧ ((v = .int .i64 0 ∧ m = .int .i64 0) ∨ (v = .int .i64 1 ∧ m = .int .i64 (outR root p)))) (fun _ v _ => (1 - intOf v).toNat)
  case atStart => exact ⟨rfl, .inl ⟨rfl, rfl⟩⟩
  case round =>
    obtain ⟨rfl, (⟨rfl, rfl⟩ | ⟨rfl, rfl⟩)⟩ := hrel
    · by_cases h : root = p
      · have t0 : (root == p) = true := by rw [beq_iff_eq]; exact h
        have HO := Lib.hid (show outR root p = 1 from by unfold outR; rw [if_pos h])
        clear h
        go_wp2
        go_roundw
        case rel => exact ⟨trivial, .inr ⟨by go_num, by rw [HO.out]⟩⟩
        case measure => simp [intOf]
      · have t0 : (root == p) = false := by rw [beq_eq_false_iff_ne]; exact h
        have HO := Lib.hid (show outR root p = 0 from by unfold outR; rw [if_neg h])
        clear h
        go_wp2
        go_roundw
        case rel => exact ⟨trivial, .inr ⟨by go_num, by rw [HO.out]⟩⟩
        case measure => simp [intOf]
    · go_wp2
      go_loopw [7, 9] (fun m v wx => m = .int .i64 (outR root p) ∧ v = .int .i64 0 ∧ wx = wr) (fun _ _ _ => 0)
      case atStart => exact ⟨rfl, rfl, rfl⟩
      case round =>
        obtain ⟨rfl, rfl, rfl⟩ := hrel
        go_wp2
        go_ret
        exact ⟨rfl, rfl⟩
end Go.Proofs.YtkoomcbiddanfaaGreat
namespace Go.Proofs.YtkoomcbiddanfaaGreat
open Go.RowKit
attribute [local go_sem ↓] Go.wp_at_zero Go.wp_at_succ

theorem count_take {l : List It} {x : Int} {j : Nat} (hj : j < l.length) : ((l.take (j + 1)).map (·.2)).count x = ((l.take j).map (·.2)).count x + (if l[j].2 = x then 1 else 0) := by
  rw [List.take_succ_eq_append_getElem hj, List.map_append, List.count_append]
  congr 1
  by_cases h : l[j].2 = x
  · rw [if_pos h, List.map_cons, List.map_nil, h, List.count_singleton]; simp
  · rw [if_neg h, List.map_cons, List.map_nil, List.count_eq_zero]; simp; exact fun e => h e.symm
set_option maxRecDepth 100000 in
set_option maxHeartbeats 1600000 in
theorem ref08Tells_nil (l : List HC) (k : Nat) (hk : k < l.length) (hit : l[k].it.length ≤ 90000) (R : Option Addr) (n q : Nat) (keep x : Int) (w : World) (hA : HcSl w R n q l) :
    Calls Tryz.prog 82 #[.agg #[.slice R n q, .int .i64 keep], .slice none 0 0, .int .i64 k, .int .i64 x] w fun e w' => e = .returned (.int .i64 ((tellC l[k]).count x : Nat)) ∧ Ext w w' := by
  have hnl := hA.1
  have hkn : k < n := by omega
  have hx0 := (Ext.refl w).alloc (.cells #[.slice R n q, .int .i64 keep] 24)
  obtain ⟨b, off, rfl, hbl, A, c, r0, r1, r2, r3, hI⟩ := (hA.ext hx0).cell hk
  have hHB := Bx.new w #[.slice (some ⟨b, off, none⟩) n q, .int .i64 keep] 24
  obtain ⟨p0, p1, p2⟩ := hHB.read2
  obtain ⟨⟨rf, pn, lf, it⟩, hcc⟩ : ∃ x, l[k] = x := ⟨_, rfl⟩
  rw [hcc] at r0 r1 r2 r3 hI hit ⊢
  simp only at r0 r1 r2 r3 hI hit
  unfold tellC toldL
  simp only
  obtain ⟨li, hli⟩ : ∃ li, it.length = li := ⟨_, rfl⟩
  rw [hli] at hI r3 hit
  have HLI := Lib.hid hli
  have hst := (Ext.refl (w.alloc (.cells #[.slice (some ⟨b, off, none⟩) n q, .int .i64 keep] 24))).alloc (.cells #[.int .i64 rf, .bool pn, .bool lf, .slice A li c] 50)
  have hbn := Bx.new (w.alloc (.cells #[.slice (some ⟨b, off, none⟩) n q, .int .i64 keep] 24)) #[.int .i64 rf, .bool pn, .bool lf, .slice A li c] 50
  rw [World.size_alloc] at hbn
  obtain ⟨n0, n1, n2, n3⟩ := hbn.read4
  have HX := Lib.hid (hx0.trans hst)
  have HIW := Lib.hid (hI.ext hst)
  clear hcc hk hnl hA hHB hst hx0 hbn hI hli
  by_cases h : 0 < rf ∧ lf = false
  · obtain ⟨h0, rfl⟩ := h
    have d0 : decide (0 < rf) = true := decide_eq_true h0
    rw [if_pos h0]
    simp only [Bool.false_eq_true, if_false]
    go_enter Tryz.func82, Tryz.ntmps82
    go_wp2_with (go_at_call 80; refine (ref08Given_nil _ _).mono ?_; rintro e w1 ⟨rfl, rfl⟩)
    generalize World.alloc (World.alloc w _) _ = W at *
    clear p0 p1 p2 r0 r1 r2 r3 hbl
    go_loopw [10, 11] (fun v i wr => ∃ j : Nat, j ≤ li ∧ i = .int .i64 j ∧ v = .int .i64 (((it.take j).map (·.2)).count x : Nat) ∧ wr = W) (fun _ i _ => li - (intOf i).toNat)
    case atStart => exact ⟨0, Nat.zero_le _, rfl, by simp, rfl⟩
    case round =>
      obtain ⟨j, hj, rfl, rfl, rfl⟩ := hrel
      rcases Nat.lt_or_ge j li with hlt | hlt
      · have hjl : j < it.length := by rw [HLI.out]; exact hlt
        obtain ⟨b2, off2, rfl, hb2, a0, a1⟩ := it_at HIW.out hjl
        have hji : (j : Int) < (li : Int) := by omega
        have hcl : ((it.take j).map (·.2)).count x ≤ j := by
          refine Nat.le_trans List.count_le_length ?_
          rw [List.length_map, List.length_take]; omega
        have HCT := Lib.hid (count_take (x := x) hjl)
        generalize ((it.take j).map (·.2)).count x = u at *
        by_cases hx : it[j].2 = x
        · have t0 : (it[j].2 == x) = true := by rw [beq_iff_eq]; exact hx
          rw [if_pos hx] at HCT
          clear hx a0
          generalize it[j].2 = y at *
          go_wp2
          go_roundw
          case rel => exact ⟨j + 1, by omega, by go_num, by rw [HCT.out]; go_num, trivial⟩
          case measure => simp [intOf]; omega
        · have t0 : (it[j].2 == x) = false := by rw [beq_eq_false_iff_ne]; exact hx
          rw [if_neg hx] at HCT
          clear hx a0
          generalize it[j].2 = y at *
          go_wp2
          go_roundw
          case rel => exact ⟨j + 1, by omega, by go_num, by rw [HCT.out]; rfl, trivial⟩
          case measure => simp [intOf]; omega
      · obtain rfl : li = j := by omega
        have d1 : decide ((li : Int) < (li : Int)) = false := decide_eq_false (by omega)
        have HE := Lib.hid (show it.take li = it by rw [← HLI.out, List.take_length])
        rw [HE.out]
        clear hlt
        go_wp2
        go_ret
        exact ⟨rfl, HX.out⟩
  · have hz : (if 0 < rf then (if lf = true then ([] : List Int) else it.map (·.2)) else []).count x = 0 := by
      by_cases h0 : 0 < rf
      · cases lf with
        | false => exact absurd ⟨h0, rfl⟩ h
        | true => simp
      · rw [if_neg h0, List.count_nil]
    rw [hz]
    have hcase : li = 0 ∨ (0 < li ∧ rf ≤ 0) ∨ (0 < li ∧ 0 < rf ∧ lf = true) := by
      rcases Nat.eq_zero_or_pos li with h1 | h1
      · exact .inl h1
      · rcases Int.lt_or_le 0 rf with h0 | h0
        · cases lf with
          | false => exact absurd ⟨h0, rfl⟩ h
          | true => exact .inr (.inr ⟨h1, h0, rfl⟩)
        · exact .inr (.inl ⟨h1, h0⟩)
    clear hz h
    go_enter Tryz.func82, Tryz.ntmps82
    go_wp2_with (go_at_call 80; refine (ref08Given_nil _ _).mono ?_; rintro e w1 ⟨rfl, rfl⟩)
    generalize World.alloc (World.alloc w _) _ = W at *
    clear p0 p1 p2 r0 r1 r2 r3 hbl
    go_loopw [10, 11] (fun v i wr => i = .int .i64 0 ∧ v = .int .i64 0 ∧ wr = W) (fun _ _ _ => 0)
    case atStart => exact ⟨rfl, rfl, rfl⟩
    case round =>
      obtain ⟨rfl, rfl, rfl⟩ := hrel
      rcases hcase with rfl | ⟨h1, h2⟩ | ⟨h1, h2, rfl⟩
      · go_wp2
        go_ret
        exact ⟨rfl, HX.out⟩
      · have d0 : decide (0 < rf) = false := decide_eq_false (by omega)
        have d1 : decide ((0 : Int) < (li : Int)) = true := decide_eq_true (by omega)
        have d2 : decide (0 < li) = true := decide_eq_true h1
        go_wp2
        go_ret
        exact ⟨rfl, HX.out⟩
      · have d0 : decide (0 < rf) = true := decide_eq_true h2
        have d1 : decide ((0 : Int) < (li : Int)) = true := decide_eq_true (by omega)
        have d2 : decide (0 < li) = true := decide_eq_true h1
        go_wp2
        go_ret
        exact ⟨rfl, HX.out⟩
end Go.Proofs.YtkoomcbiddanfaaGreat
namespace Go.Proofs.YtkoomcbiddanfaaGreat
open Go.RowKit
attribute [local go_sem ↓] Go.wp_at_zero Go.wp_at_succ

theorem inn_take {l : List HC} {j : Nat} (hj : j < l.length) (x : Int) : inn (l.take (j + 1)) x = inn (l.take j) x + (tellC l[j]).count x := by
  unfold inn
  rw [List.take_succ_eq_append_getElem hj, List.map_append, List.sum_append]
  simp
theorem tell_le {c : HC} {b : Nat} (h : c.it.length ≤ b) (x : Int) : (tellC c).count x ≤ b := by
  refine Nat.le_trans List.count_le_length ?_
  unfold tellC toldL
  split
  · split
    · simp
    · simpa using h
  · simp
theorem inn_leB : ∀ {l : List HC} {b : Nat} (_ : ∀ c ∈ l, c.it.length ≤ b) (x : Int), inn l x ≤ l.length * b
  | [], b, _, x => by simp [inn]
  | c :: l, b, h, x => by
    have h1 := inn_leB (l := l) (fun d hd => h d (List.mem_cons_of_mem _ hd)) x
    have h2 := tell_le (h c List.mem_cons_self) x
    have h3 : inn (c :: l) x = (tellC c).count x + inn l x := by simp [inn]
    rw [h3, List.length_cons, Nat.succ_mul]
    omega
def refsL (l : List HC) (root : Int) : List Int := (List.range l.length).map (fun k : Nat => outR root (k : Int) + ((inn l (k : Int) : Nat) : Int))
theorem refs_len (l : List HC) (root : Int) : (refsL l root).length = l.length := by unfold refsL; simp
theorem refs_at {l : List HC} {root : Int} {k : Nat} (hk : k < l.length) : (refsL l root)[k]'(by rw [refs_len]; exact hk) = outR root (k : Int) + ((inn l (k : Int) : Nat) : Int) := by unfold refsL; simp
theorem refs_take {l : List HC} {root : Int} {j : Nat} (hj : j < l.length) : (refsL l root).take (j + 1) = (refsL l root).take j ++ [outR root (j : Int) + ((inn l (j : Int) : Nat) : Int)] := by
  rw [List.take_succ_eq_append_getElem (by rw [refs_len]; exact hj), refs_at hj]
theorem outR_le (root p : Int) : 0 ≤ outR root p ∧ outR root p ≤ 1 := by unfold outR; split <;> omega
set_option maxRecDepth 100000 in
set_option maxHeartbeats 3200000 in
theorem ref08Refs_one (l : List HC) (hit : ∀ c ∈ l, c.it.length ≤ 90000) (hn : l.length ≤ 90000) (R : Option Addr) (n q : Nat) (keep : Int) (A : Option Addr) (c : Nat) (root : Int) (w : World) (hA : HcSl w R n q l) (hR : Sl w A 1 c ([root].map iv)) :
    Calls Tryz.prog 61 #[.agg #[.slice R n q, .int .i64 keep], .slice A 1 c, .slice none 0 0] w fun e w' => ∃ S d, e = .returned (.slice S n d) ∧ Sl w' S n d ((refsL l root).map iv) ∧ Ext w w' := by
  have hnl := hA.1
  have hx0 := (Ext.refl w).alloc (.cells #[.slice R n q, .int .i64 keep] 24)
  have HX := Lib.hid hx0
  have HB := Lib.hid (Bx.new w #[.slice R n q, .int .i64 keep] 24)
  have HA := Lib.hid (hA.ext hx0)
  have HR := Lib.hid (hR.ext hx0)
  have HNL := Lib.hid hnl
  have HIT := Lib.hid hit
  obtain ⟨p0, p1, p2⟩ := HB.out.read2
  have hnn : n ≤ 90000 := by omega
  clear hx0 hA hR hnl hit hn
  go_enter Tryz.func61, Tryz.ntmps61
  go_wp2
  generalize hW : World.alloc w _ = W at *
  have HWS := Lib.hid (show W.heap.size = w.heap.size + 1 by rw [← hW, World.size_alloc])
  clear p0 p1 p2 hW
  go_loopw [7, 8] (fun v i wr => ∃ (j : Nat) (S : Option Addr) (d : Nat), j ≤ n ∧ i = .int .i64 j ∧ v = .slice S j d ∧ wr.ownsRow (w.heap.size + 1) 3 1 (.slice S j d) j (((refsL l root).take j).map iv) ∧ Ext W wr ∧ Bx wr w.heap.size #[.slice R n q, .int .i64 keep]) (fun _ i _ => n - (intOf i).toNat)
  case atStart => exact ⟨0, none, 0, Nat.zero_le _, rfl, rfl, ⟨rfl, .inl ⟨rfl, rfl⟩⟩, Ext.refl _, HB.out⟩
  case round =>
    obtain ⟨j, S, d, hj, rfl, rfl, ho, hx, hb⟩ := hrel
    have HO := Lib.hid ho
    have HXR := Lib.hid hx
    have HBR := Lib.hid hb
    obtain ⟨p0, p1, p2⟩ := hb.read2
    clear ho hx hb
    rcases Nat.lt_or_ge j n with hlt | hlt
    · have hjl : j < l.length := by rw [← HNL.out]; exact hlt
      have hji : (j : Int) < (n : Int) := by omega
      have HRJ := Lib.hid (refs_take (root := root) hjl)
      have HC1 := Lib.hid (ref08outside_one A c root (j : Int) wr (HR.out.ext HXR.out))
      clear hjl
      go_wp2_with (go_at_call 81; refine HC1.out.mono ?_; rintro e w1 ⟨rfl, rfl⟩)
      have hO2 := outR_le root (j : Int)
      have HOR := Lib.hid (show outR root (j : Int) + ((inn (l.take 0) (j : Int) : Nat) : Int) = outR root (j : Int) by simp [inn])
      go_loopw [9, 10] (fun m i wx => ∃ u : Nat, u ≤ n ∧ i = .int .i64 u ∧ m = .int .i64 (outR root (j : Int) + ((inn (l.take u) (j : Int) : Nat) : Int)) ∧ Ext wr wx ∧ Bx wx w.heap.size #[.slice R n q, .int .i64 keep]) (fun _ i _ => n - (intOf i).toNat)
      case atStart => exact ⟨0, Nat.zero_le _, rfl, by rw [HOR.out], Ext.refl _, HBR.out⟩
      case round =>
        obtain ⟨u, hu, rfl, rfl, hx, hb⟩ := hrel
        have HXX := Lib.hid hx
        have HBX := Lib.hid hb
        clear p0 p1 p2
        obtain ⟨p0, p1, p2⟩ := hb.read2
        clear hx hb
        have hle : inn (l.take u) (j : Int) ≤ 8100000000 := Nat.le_trans (inn_leB (b := 90000) (fun c hc => HIT.out c (List.mem_of_mem_take hc)) _) (Nat.le_trans (Nat.mul_le_mul_right _ (Nat.le_trans (by rw [List.length_take]; exact Nat.min_le_left _ _) (Nat.le_trans hu hnn))) (by decide))
        rcases Nat.lt_or_ge u n with hlu | hlu
        · have hul : u < l.length := by rw [← HNL.out]; exact hlu
          have hui : (u : Int) < (n : Int) := by omega
          have HIN := Lib.hid (inn_take hul (j : Int))
          have hct := tell_le (HIT.out l[u] (List.getElem_mem hul)) (j : Int)
          have HTE := Lib.hid (ref08Tells_nil l u hul (HIT.out l[u] (List.getElem_mem hul)) R n q keep (j : Int) wr (HA.out.ext (HXR.out.trans HXX.out)))
          generalize inn (l.take u) (j : Int) = a at *
          generalize (tellC l[u]).count (j : Int) = g at *
          generalize outR root (j : Int) = o at *
          clear hul
          go_wp2_with (go_at_call 82; refine HTE.out.mono ?_; rintro e w2 ⟨rfl, hx2⟩; have HX2 := Lib.hid (HXX.out.trans hx2); have HB2 := Lib.hid (HBX.out.ext hx2); clear hx2 p0 p1 p2)
          go_roundw
          case rel => exact ⟨u + 1, by omega, by go_num, by rw [HIN.out]; go_num, HX2.out, HB2.out⟩
          case measure => simp [intOf]; omega
        · obtain rfl : n = u := by omega
          have d1 : decide ((n : Int) < (n : Int)) = false := decide_eq_false (by omega)
          have HE := Lib.hid (show l.take n = l by rw [HNL.out, List.take_length])
          rw [HE.out] at hle ⊢
          generalize inn l (j : Int) = a at *
          generalize outR root (j : Int) = o at *
          go_wp2_with (at_builtin; refine stop_here ?_)
          refine stop_on ?_
          refine wpList_app_sl _ rfl _ _ 41 rfl (w.heap.size + 1) 3 (.int .i64 0) 1 8 Tryz.underlying41 infoI1 rfl (by omega) _ j _ rfl (own_ext HO.out (HXX.out.alloc _)) _ 1 1 [iv (o + (a : Int))] rfl (by simp) (sl_lit' rfl _ 1 _ (by unfold maxLen; omega)) (iv_one [o + (a : Int)]) (by unfold maxLen; omega) (by omega) (by have := HBX.out.read2.2.2; simp; omega) ?_
          intro A5 c5 w5 hown hg
          have HO4 := Lib.hid (own_ext HO.out (HXX.out.alloc (.cells #[.int .i64 (o + (a : Int))] 3)))
          have HX5 := Lib.hid (Ext.app (HXR.out.trans (HXX.out.alloc _)) (own_ext HO.out (HXX.out.alloc _)) (by have := HWS.out; omega) hg)
          have HB5 := Lib.hid ((HBX.out.ext ((Ext.refl _).alloc (.cells #[.int .i64 (o + (a : Int))] 3))).grown hg (own_old HO4.out (by omega)))
          have HO5 := Lib.hid (show w5.ownsRow (w.heap.size + 1) 3 1 (.slice A5 (j + 1) c5) (j + 1) (((refsL l root).take (j + 1)).map iv) by rw [HRJ.out, List.map_append]; exact hown)
          clear hown hg
          go_wp2_with fail
          go_roundw
          case rel => exact ⟨j + 1, A5, c5, by omega, by go_num, rfl, HO5.out, HX5.out, HB5.out⟩
          case measure => simp [intOf]; omega
    · obtain rfl : n = j := by omega
      have d1 : decide ((n : Int) < (n : Int)) = false := decide_eq_false (by omega)
      have HE := Lib.hid (show (refsL l root).take n = refsL l root by rw [HNL.out, ← refs_len l root, List.take_length])
      rw [HE.out] at HO
      clear hlt
      go_wp2
      go_ret
      exact ⟨S, d, rfl, own_sl HO.out, HX.out.trans HXR.out⟩
end Go.Proofs.YtkoomcbiddanfaaGreat
