/- Walks of Right and May of the reference of layer 7 (over the contract of below: TreeW6, which has open cases). What is in a tree behind items that are put, as a row of items alone. -/
import Derived.Test.YtbfbpddfcakieaaGreatK22
import Derived.Test.YtbfbpddfcakieaaGreatK20
import Derived.Test.YtbfbpddfcakieaaGreatK04
namespace Go.Proofs.YtbfbpddfcakieaaGreat
open Go.RowKit
attribute [local go_sem ↓] Go.wp_at_zero Go.wp_at_succ

set_option maxRecDepth 100000 in
set_option maxHeartbeats 1600000 in
theorem ref07Right_any (R : Option Addr) (l : List HC) (n q : Nat) (keep p : Int) (w : World) (hl : AllR l) (hn : l.length ≤ 2000) (hA : HcSl w R n q l) :
    Calls Tryz.prog 16 #[.agg #[.slice R n q, .int .i64 keep], .int .i64 p] w fun e w' => e = .returned (.bool (rightR ⟨l, keep⟩ p)) ∧ Ext w w' := by
  have HX := Lib.hid ((Ext.refl w).alloc (.cells #[.slice R n q, .int .i64 keep] 24))
  have hb := Bx.new w #[.slice R n q, .int .i64 keep] 24
  have HB := Lib.hid hb
  have HU := Lib.hid (fun w' (hx : Ext w w') => ref05Used_any R l n q keep p w' (hA.ext hx))
  obtain ⟨b0, b1, b2⟩ := hb.read2
  clear hb
  by_cases h1 : p = -1
  · have HE := Lib.hid (show rightR ⟨l, keep⟩ p = true by unfold rightR; rw [decide_eq_true h1]; rfl)
    subst h1
    clear hA
    go_enter Tryz.func16, Tryz.ntmps16
    go_wp2
    go_ret
    exact ⟨ret_bool HE.out.symm, HX.out⟩
  have d0 : (p == -1) = false := by rw [beq_eq_false_iff_ne]; exact h1
  have d1 : decide (p = -1) = false := decide_eq_false h1
  have hrr : rightR ⟨l, keep⟩ p = (usedC l p && (bel l 20 p).is) := by unfold rightR; rw [d1]; rfl
  cases hu : usedC l p
  · rw [hu] at HU hrr
    have HE := Lib.hid (show rightR ⟨l, keep⟩ p = false from hrr)
    clear hA hrr hu
    go_enter Tryz.func16, Tryz.ntmps16
    go_wp2_with (go_at_call 38; refine (HU.out _ HX.out).mono ?_; rintro e w1 ⟨rfl, hx⟩; have HX1 := Lib.hid (HX.out.trans hx); clear b0 b1 b2; obtain ⟨b0, b1, b2⟩ := (HB.out.ext hx).read2; clear hx)
    go_ret
    exact ⟨ret_bool HE.out.symm, HX1.out⟩
  · rw [hu] at HU hrr
    obtain ⟨k, hk, hpk, _⟩ := usedC_iff hu
    have HBL := Lib.hid (fun w' (hx : Ext w w') => ref07below_any l hl hn 19 p R n q keep w' (by omega) (by omega) (by omega) (hA.ext hx))
    have HE := Lib.hid (show rightR ⟨l, keep⟩ p = (bel l 20 p).is from hrr)
    unfold gv at HBL
    generalize bel l (19 + 1) p = g at *
    generalize rightR ⟨l, keep⟩ p = rr at *
    clear hA hrr hu hpk
    go_enter Tryz.func16, Tryz.ntmps16
    go_wp2_with (first
      | (go_at_call 38; refine (HU.out _ HX.out).mono ?_; rintro e w1 ⟨rfl, hx⟩; have HX1 := Lib.hid (HX.out.trans hx); clear b0 b1 b2; obtain ⟨b0, b1, b2⟩ := (HB.out.ext hx).read2; clear hx)
      | (go_at_call 39; refine (HBL.out _ HX1.out).mono ?_; rintro e w2 ⟨rfl, hx⟩; have HX2 := Lib.hid (HX1.out.trans hx); clear hx))
    go_ret
    exact ⟨ret_bool HE.out.symm, HX2.out.alloc _⟩
def mayR (h : Hp) (root most : Int) : Bool := mayH h most && rightR h root
theorem may_all {l : List HC} {keep most : Int} (h : mayH ⟨l, keep⟩ most = true) : AllR l ∧ l.length ≤ 2000 := by
  unfold mayH at h
  rw [Bool.and_eq_true] at h
  have h1 := rightH_iff h.2
  exact ⟨h1.2, h1.1.1.2⟩
set_option maxRecDepth 100000 in
set_option maxHeartbeats 1600000 in
theorem ref07May_any (R : Option Addr) (l : List HC) (n q : Nat) (keep root most : Int) (w : World) (hA : HcSl w R n q l) :
    Calls Tryz.prog 5 #[.agg #[.slice R n q, .int .i64 keep], .int .i64 root, .int .i64 most] w fun e w' => e = .returned (.bool (mayR ⟨l, keep⟩ root most)) ∧ Ext w w' := by
  have HX := Lib.hid ((Ext.refl w).alloc (.cells #[.slice R n q, .int .i64 keep] 24))
  have hb := Bx.new w #[.slice R n q, .int .i64 keep] 24
  have HB := Lib.hid hb
  have HM := Lib.hid (fun w' (hx : Ext w w') => ref05May_any R l n q keep most w' (hA.ext hx))
  have hm : mayR ⟨l, keep⟩ root most = (mayH ⟨l, keep⟩ most && rightR ⟨l, keep⟩ root) := rfl
  obtain ⟨b0, b1, b2⟩ := hb.read2
  clear hb
  cases hu : mayH ⟨l, keep⟩ most
  · rw [hu] at HM hm
    have HE := Lib.hid (show mayR ⟨l, keep⟩ root most = false from hm)
    clear hA hm hu
    go_enter Tryz.func5, Tryz.ntmps5
    go_wp2_with (go_at_call 19; refine (HM.out _ HX.out).mono ?_; rintro e w1 ⟨rfl, hx⟩; have HX1 := Lib.hid (HX.out.trans hx); clear b0 b1 b2; obtain ⟨b0, b1, b2⟩ := (HB.out.ext hx).read2; clear hx)
    go_ret
    exact ⟨ret_bool HE.out.symm, HX1.out⟩
  · obtain ⟨hl, hn⟩ := may_all hu
    rw [hu] at HM hm
    have HR := Lib.hid (fun w' (hx : Ext w w') => ref07Right_any R l n q keep root w' hl hn (hA.ext hx))
    have HE := Lib.hid (show mayR ⟨l, keep⟩ root most = rightR ⟨l, keep⟩ root from hm)
    generalize rightR ⟨l, keep⟩ root = rr at *
    clear hA hm hu hl hn
    go_enter Tryz.func5, Tryz.ntmps5
    go_wp2_with (first
      | (go_at_call 19; refine (HM.out _ HX.out).mono ?_; rintro e w1 ⟨rfl, hx⟩; have HX1 := Lib.hid (HX.out.trans hx); clear b0 b1 b2; obtain ⟨b0, b1, b2⟩ := (HB.out.ext hx).read2; clear hx)
      | (go_at_call 16; refine (HR.out _ HX1.out).mono ?_; rintro e w2 ⟨rfl, hx⟩; have HX2 := Lib.hid (HX1.out.trans hx); clear hx))
    go_ret
    exact ⟨ret_bool HE.out.symm, HX2.out⟩
end Go.Proofs.YtbfbpddfcakieaaGreat
namespace Go.Proofs.YtbfbpddfcakieaaGreat
open Go.RowKit

/-- Rows that rise, with the same items, are the same. -/
theorem asc_ext : ∀ {a b : List It}, Asc a → Asc b → (∀ z, z ∈ a ↔ z ∈ b) → a = b
  | [], [], _, _, _ => rfl
  | [], y :: b, _, _, h => by have := (h y).2 List.mem_cons_self; cases this
  | x :: a, [], _, _, h => by have := (h x).1 List.mem_cons_self; cases this
  | x :: a, y :: b, ha, hb, h => by
    have ha1 := List.pairwise_cons.1 ha
    have hb1 := List.pairwise_cons.1 hb
    have e : x = y := by
      rcases List.mem_cons.1 ((h x).1 List.mem_cons_self) with e | e
      · exact e
      · rcases List.mem_cons.1 ((h y).2 List.mem_cons_self) with e2 | e2
        · exact e2.symm
        · have h1 := hb1.1 x e
          have h2 := ha1.1 y e2
          omega
    subst e
    rw [asc_ext ha1.2 hb1.2 (fun z => ⟨fun hz => by
      rcases List.mem_cons.1 ((h z).1 (List.mem_cons_of_mem _ hz)) with e | e
      · subst e; have := ha1.1 z hz; omega
      · exact e, fun hz => by
      rcases List.mem_cons.1 ((h z).2 (List.mem_cons_of_mem _ hz)) with e | e
      · subst e; have := hb1.1 z hz; omega
      · exact e⟩)]
/-- A row with an item more, instead of the one of its key. -/
def insL (L : List It) (x : It) : List It := L.filter (fun y => decide (y.1 < x.1)) ++ x :: L.filter (fun y => decide (x.1 < y.1))
theorem insL_mem {L : List It} {x z : It} : z ∈ insL L x ↔ z = x ∨ (z ∈ L ∧ z.1 ≠ x.1) := by
  unfold insL
  simp only [List.mem_append, List.mem_cons, List.mem_filter, decide_eq_true_eq]
  constructor
  · rintro (⟨h1, h2⟩ | h | ⟨h1, h2⟩)
    · exact .inr ⟨h1, by omega⟩
    · exact .inl h
    · exact .inr ⟨h1, by omega⟩
  · rintro (h | ⟨h1, h2⟩)
    · exact .inr (.inl h)
    · rcases Int.lt_or_gt_of_ne h2 with h | h
      · exact .inl ⟨h1, h⟩
      · exact .inr (.inr ⟨h1, h⟩)
theorem insL_asc {L : List It} (h : Asc L) (x : It) : Asc (insL L x) := by
  unfold insL Asc
  rw [List.pairwise_append]
  refine ⟨List.Pairwise.filter _ h, List.pairwise_cons.2 ⟨fun y hy => ?_, List.Pairwise.filter _ h⟩, fun a ha b hb => ?_⟩
  · simpa using (List.mem_filter.1 hy).2
  · have h1 : a.1 < x.1 := by simpa using (List.mem_filter.1 ha).2
    rcases List.mem_cons.1 hb with e | e
    · subst e; exact h1
    · have h2 : x.1 < b.1 := by simpa using (List.mem_filter.1 e).2
      omega
theorem insL_len (L : List It) (x : It) : (insL L x).length ≤ L.length + 1 := by
  unfold insL
  rw [List.length_append, List.length_cons]
  have h : ∀ L : List It, (L.filter (fun y => decide (y.1 < x.1))).length + (L.filter (fun y => decide (x.1 < y.1))).length ≤ L.length := by
    intro L
    induction L with
    | nil => simp
    | cons y r ih =>
      rw [List.filter_cons, List.filter_cons]
      by_cases h1 : y.1 < x.1
      · have h2 : ¬ x.1 < y.1 := by omega
        simp [h1, h2]; omega
      · by_cases h2 : x.1 < y.1
        · simp [h1, h2]; omega
        · simp [h1, h2]; omega
  have := h L
  omega
theorem insL_twice {L : List It} {x y : It} (h : Asc L) (e : x.1 = y.1) : insL (insL L x) y = insL L y :=
  asc_ext (insL_asc (insL_asc h x) y) (insL_asc h y) (fun z => by
    rw [insL_mem, insL_mem, insL_mem]
    constructor
    · rintro (h | ⟨h | h, h2⟩)
      · exact .inl h
      · subst h; exact absurd e h2
      · exact .inr ⟨h.1, h2⟩
    · rintro (h | ⟨h, h2⟩)
      · exact .inl h
      · exact .inr ⟨.inr ⟨h, by rw [e]; exact h2⟩, h2⟩)
theorem insL_swap {L : List It} {x y : It} (h : Asc L) (e : x.1 ≠ y.1) : insL (insL L x) y = insL (insL L y) x :=
  asc_ext (insL_asc (insL_asc h x) y) (insL_asc (insL_asc h y) x) (fun z => by
    rw [insL_mem, insL_mem, insL_mem, insL_mem]
    constructor
    · rintro (h | ⟨h | h, h2⟩)
      · subst h; exact .inr ⟨.inl rfl, fun e' => e e'.symm⟩
      · exact .inl h
      · exact .inr ⟨.inr ⟨h.1, h2⟩, h.2⟩
    · rintro (h | ⟨h | h, h2⟩)
      · subst h; exact .inr ⟨.inl rfl, e⟩
      · exact .inl h
      · exact .inr ⟨.inr ⟨h.1, h2⟩, h.2⟩)
theorem insL_len_same {L : List It} {x y : It} (e : x.1 = y.1) : (insL L x).length = (insL L y).length := by
  unfold insL; rw [e, List.length_append, List.length_append, List.length_cons, List.length_cons]
/-- What a key tells in a row. -/
def getF (L : List It) (key : Int) : Option Int := (L.find? (fun x => decide (x.1 = key))).map (·.2)
theorem find_filter {p q : It → Bool} (h : ∀ y, q y = true → p y = true) : ∀ (L : List It), (L.filter p).find? q = L.find? q
  | [] => rfl
  | y :: r => by
    rw [List.filter_cons]
    by_cases hp : p y = true
    · rw [if_pos hp, List.find?_cons, List.find?_cons, find_filter h r]
    · rw [if_neg hp, find_filter h r, List.find?_cons]
      have : q y = false := by cases hq : q y; · rfl
                               · exact absurd (h y hq) hp
      rw [this]
theorem find_none {p q : It → Bool} (h : ∀ y, p y = true → q y = false) : ∀ (L : List It), (L.filter p).find? q = none := by
  intro L
  rw [List.find?_eq_none]
  intro y hy
  rw [h y (List.mem_filter.1 hy).2]
  simp
theorem getF_ins (L : List It) (x : It) (key : Int) : getF (insL L x) key = if x.1 = key then some x.2 else getF L key := by
  unfold getF insL
  rw [List.find?_append, List.find?_cons]
  by_cases h : x.1 = key
  · rw [find_none (fun y hy => by simp only [decide_eq_true_eq] at hy; exact decide_eq_false (by omega))]
    simp [h]
  · rw [if_neg h, decide_eq_false h]
    simp only
    rcases Int.lt_or_gt_of_ne h with h2 | h2
    · rw [find_none (fun y hy => by simp only [decide_eq_true_eq] at hy; exact decide_eq_false (by omega)), Option.none_or, find_filter (fun y hy => by simp only [decide_eq_true_eq] at hy ⊢; omega)]
    · rw [find_filter (fun y hy => by simp only [decide_eq_true_eq] at hy ⊢; omega)]
      cases hf : L.find? (fun x => decide (x.1 = key)) with
      | some z => rfl
      | none =>
        rw [Option.none_or, find_none (fun y hy => by simp only [decide_eq_true_eq] at hy; exact decide_eq_false (by omega))]
theorem getT_F (l : List HC) (root key : Int) : getT l root key = getF (listT l root) key := rfl
/-- The items of a right tree rise. -/
theorem listT_rise {c : List HC} {keep root : Int} (hr : rightH ⟨c, keep⟩ = true) (hb : rightR ⟨c, keep⟩ root = true) : Asc (listT c root) := by
  unfold listT
  rcases rightR_iff hb with h | ⟨h0, h1, h2⟩
  · rw [if_pos h]; exact List.Pairwise.nil
  · rw [if_neg (by omega)]; exact (listB_spans c (allR_of hr) 20 root h0 h1 h2).asc
theorem fine_room {c : List HC} {keep root most : Int} {x : It} {deep : Bool} (hf : fineB ⟨c, keep⟩ root most = true) (h0 : (putR ⟨c, keep⟩ root x deep).2.2 = 0) :
    okIt x ∧ highT c root < 20 ∧ 2 * highT c root + 1 ≤ (c.countP freeC : Nat) ∧ putR ⟨c, keep⟩ root x deep = ((putG c root x).1, (putG c root x).2, 0) := by
  obtain ⟨hx, hh, hn, e⟩ := put_zero h0
  obtain ⟨hm, _, _⟩ := fine_may hf
  have h2 : highT c root ≠ 20 := hh
  have hb : highT c root ≤ 20 := by unfold highT; split; · omega
                                    · exact (bel_high c 20 root).2
  exact ⟨hx, by omega, fits_free (may_keep hm).1 hn, e⟩
/-- What is in the tree behind what is put. -/
theorem put_list {c : List HC} {keep root most : Int} {x : It} {deep : Bool} (hmost : most ≤ 60) (hf : fineB ⟨c, keep⟩ root most = true) (h0 : (putR ⟨c, keep⟩ root x deep).2.2 = 0) :
    fineB ⟨(putR ⟨c, keep⟩ root x deep).1, keep⟩ (putR ⟨c, keep⟩ root x deep).2.1 most = true ∧ listT (putR ⟨c, keep⟩ root x deep).1 (putR ⟨c, keep⟩ root x deep).2.1 = insL (listT c root) x ∧ 0 ≤ (putR ⟨c, keep⟩ root x deep).2.1 := by
  have h1 := fine_next hmost hf h0
  refine ⟨h1, ?_⟩
  obtain ⟨hx, hh, hn, e⟩ := fine_room hf h0
  rw [e] at h1 ⊢
  simp only at h1 ⊢
  obtain ⟨hm, hb, _⟩ := fine_may hf
  obtain ⟨hm2, hb2, _⟩ := fine_may h1
  obtain ⟨a, P, _⟩ := fine_put hmost hf hx hh hn
  have hl : listT (putG c root x).1 (putG c root x).2 = listB (putG c root x).1 20 (putG c root x).2 := by unfold listT; rw [if_neg (by have := P.place.1; omega)]
  refine ⟨asc_ext (listT_rise (may_iff hm2).2.2 hb2) (insL_asc (listT_rise (may_iff hm).2.2 hb) x) (fun z => ?_), P.place.1⟩
  rw [hl, P.mem z, insL_mem]
theorem put_err {h : Hp} {root : Int} {x : It} {deep : Bool} (h0 : (putR h root x deep).2.2 ≠ 0) : (putR h root x deep).1 = h.c ∧ (putR h root x deep).2.1 = root ∧ ((putR h root x deep).2.2 = 1 ∨ (putR h root x deep).2.2 = 3) ∧ (okIt x → (putR h root x deep).2.2 = 3) := by
  unfold putR at h0 ⊢
  split
  · rename_i hok
    rw [if_pos hok] at h0
    split
    · exact ⟨rfl, rfl, .inr rfl, fun _ => rfl⟩
    · rename_i hf
      rw [if_neg hf] at h0
      exact absurd rfl h0
  · rename_i hok
    exact ⟨rfl, rfl, .inl rfl, fun h => absurd h hok⟩
/-- What Fill comes to. -/
theorem fill_fine {keep most : Int} (hmost : most ≤ 60) : ∀ (it : List It) (c : List HC) (root : Int), fineB ⟨c, keep⟩ root most = true →
    fineB ⟨(fillR keep it c root).1, keep⟩ (fillR keep it c root).2.1 most = true ∧ ((fillR keep it c root).2.2 = 0 ∨ (fillR keep it c root).2.2 = 1 ∨ (fillR keep it c root).2.2 = 3) ∧
    ((fillR keep it c root).2.2 = 0 → listT (fillR keep it c root).1 (fillR keep it c root).2.1 = it.foldl insL (listT c root) ∧ (it ≠ [] → 0 ≤ (fillR keep it c root).2.1) ∧ (it = [] → (fillR keep it c root).2.1 = root))
  | [], c, root, hf => ⟨hf, .inl rfl, fun _ => ⟨rfl, fun h => absurd rfl h, fun _ => rfl⟩⟩
  | x :: r, c, root, hf => by
    rw [fillR]
    by_cases h0 : (putR ⟨c, keep⟩ root x false).2.2 = 0
    · rw [if_pos h0]
      obtain ⟨h1, h2, h3⟩ := put_list hmost hf h0
      obtain ⟨i1, i2, i3⟩ := fill_fine hmost r _ _ h1
      refine ⟨i1, i2, fun he => ?_⟩
      obtain ⟨j1, j2, j3⟩ := i3 he
      refine ⟨by rw [j1, h2]; rfl, fun _ => ?_, fun e => by cases e⟩
      by_cases hr : r = []
      · rw [j3 hr]; exact h3
      · exact j2 hr
    · rw [if_neg h0]
      obtain ⟨_, _, h3, _⟩ := put_err h0
      refine ⟨hf, .inr ?_, fun he => absurd he h0⟩
      exact h3
theorem fill_append {keep : Int} : ∀ (a b : List It) (c : List HC) (root : Int), (fillR keep (a ++ b) c root).2.2 = 0 →
    (fillR keep a c root).2.2 = 0 ∧ fillR keep (a ++ b) c root = fillR keep b (fillR keep a c root).1 (fillR keep a c root).2.1
  | [], b, c, root, _ => ⟨rfl, rfl⟩
  | x :: a, b, c, root, h => by
    rw [List.cons_append, fillR] at h ⊢
    rw [fillR]
    by_cases h0 : (putR ⟨c, keep⟩ root x false).2.2 = 0
    · rw [if_pos h0] at h ⊢
      rw [if_pos h0]
      exact fill_append a b _ _ h
    · rw [if_neg h0] at h
      exact absurd h h0
/-- The last one of a key. -/
def lastV (key : Int) (o : Option Int) (l : List It) : Option Int := l.foldl (fun o y => if y.1 = key then some y.2 else o) o
theorem getF_fold (key : Int) : ∀ (l L : List It), getF (l.foldl insL L) key = lastV key (getF L key) l
  | [], L => rfl
  | x :: r, L => by
    rw [List.foldl_cons, getF_fold key r, getF_ins]; rfl
theorem lastV_append (key : Int) (o : Option Int) (a b : List It) : lastV key o (a ++ b) = lastV key (lastV key o a) b := by unfold lastV; rw [List.foldl_append]
theorem lastV_self {l : List It} {i : Nat} (hi : i < l.length) (o : Option Int) : lastV l[i].1 o l = lastV l[i].1 (some l[i].2) (l.drop i) := by
  have h := congrArg (lastV l[i].1 o) (List.take_append_drop i l).symm
  rw [h, lastV_append, List.drop_eq_getElem_cons hi]
  unfold lastV
  rw [List.foldl_cons, List.foldl_cons, if_pos rfl, if_pos rfl]
theorem fold_len : ∀ (l L : List It), (l.foldl insL L).length ≤ L.length + l.length
  | [], L => by simp
  | x :: r, L => by
    rw [List.foldl_cons, List.length_cons]
    have h1 := fold_len r (insL L x)
    have h2 := insL_len L x
    omega
/-- A new heap. -/
theorem new_fine {n : Nat} {most : Int} (h1 : 1 ≤ n) (h2 : (n : Int) ≤ most) (hmost : most ≤ 60) : newH n 0 = ⟨List.replicate n HC.none, 0⟩ ∧ newHE n 0 = 0 ∧ fineB ⟨List.replicate n HC.none, 0⟩ (-1) most = true := by
  have hok : newOk n 0 := ⟨⟨by omega, by omega⟩, by omega, by omega⟩
  refine ⟨by unfold newH; rw [if_pos hok, Int.toNat_natCast], by unfold newHE; rw [if_pos hok], ?_⟩
  have hr : rightH ⟨List.replicate n HC.none, 0⟩ = true := by
    unfold rightH
    rw [Bool.and_eq_true, decide_eq_true_eq]
    refine ⟨⟨⟨by simpa using h1, by simp; omega⟩, by simp, by simp⟩, ?_⟩
    rw [List.all_eq_true]
    intro x hx
    rw [(List.mem_replicate.1 hx).2]
    rfl
  have hin : ∀ k, inn (List.replicate n HC.none) k = 0 := fun k => by
    unfold inn
    rw [List.map_replicate]
    have : (tellC HC.none).count k = 0 := rfl
    rw [this]
    induction n with
    | zero => rfl
    | succ m ih => rw [List.replicate_succ]; simp
  unfold fineB mayT mayH
  simp only [Bool.and_eq_true]
  refine ⟨⟨⟨?_, hr⟩, by unfold rightR; simp⟩, sound_of hr (fun k hk => ?_) (fun k hk h0 => ?_)⟩
  · unfold smallH
    rw [Bool.and_eq_true, decide_eq_true_eq, List.all_eq_true]
    refine ⟨by simpa using h2, fun x hx => ?_⟩
    rw [(List.mem_replicate.1 hx).2]
    rfl
  · rw [hin, List.getElem_replicate]
    unfold rootE
    rw [if_neg (by omega)]
    rfl
  · rw [List.getElem_replicate] at h0
    exact absurd h0 (by decide)
end Go.Proofs.YtbfbpddfcakieaaGreat
