/- Walks of Right and May of the reference of layer 7 (over the contract of below: TreeW6, which has open cases). What is in a tree behind items that are put, as a row of items alone. A node, made anew without a key: the plain theory. -/
import Derived.Test.YtbfbpddfcakieaaK20
import Derived.Test.YtbfbpddfcakieaaK18
import Derived.Test.YtbfbpddfcakieaaK04
namespace Go.Proofs.Ytbfbpddfcakieaa
open Go.RowKit
attribute [local go_sem ↓] Go.wp_at_zero Go.wp_at_succ

set_option maxRecDepth 100000 in
set_option maxHeartbeats 1600000 in
theorem ref07Right_any (R : Option Addr) (l : List HC) (n q : Nat) (keep p : Int) (w : World) (hl : AllR l) (hn : l.length ≤ 2000) (hA : HcSl w R n q l) :
    Calls Try.prog 21 #[.agg #[.slice R n q, .int .i64 keep], .int .i64 p] w fun e w' => e = .returned (.bool (rightR ⟨l, keep⟩ p)) ∧ Ext w w' := by
  have HX := Lib.hid ((Ext.refl w).alloc (.cells #[.slice R n q, .int .i64 keep] 24))
  have hb := Bx.new w #[.slice R n q, .int .i64 keep] 24
  have HB := Lib.hid hb
  have HU := Lib.hid (fun w' (hx : Ext w w') => ref05Used_any R l n q keep p w' (hA.ext hx))
  obtain ⟨b0, b1, b2⟩ := hb.read2
  clear hb
  by_cases h1 : p = -1
  · have HE := Lib.hid (show rightR ⟨l, keep⟩ p = true by unfold rightR; rw [decide_eq_true h1]; rfl)
    subst h1
    clear hA
    go_enter Try.func21, Try.ntmps21
    go_wp2
    go_ret
    exact ⟨ret_bool HE.out.symm, HX.out⟩
  have d0 : (p == -1) = false := by rw [beq_eq_false_iff_ne]; exact h1
  have d1 : decide (p = -1) = false := decide_eq_false h1
  have hrr : rightR ⟨l, keep⟩ p = (usedC l p && (bel l 20 p).is) := by unfold rightR; rw [d1]; rfl
  cases hu : usedC l p
  · rw [hu] at HU hrr
    have HE := Lib.hid (show rightR ⟨l, keep⟩ p = false from hrr)
    clear hA hrr hu
    go_enter Try.func21, Try.ntmps21
    go_wp2_with (go_at_call 38; refine (HU.out _ HX.out).mono ?_; rintro e w1 ⟨rfl, hx⟩; have HX1 := Lib.hid (HX.out.trans hx); clear b0 b1 b2; obtain ⟨b0, b1, b2⟩ := (HB.out.ext hx).read2; clear hx)
    go_ret
    exact ⟨ret_bool HE.out.symm, HX1.out⟩
  · rw [hu] at HU hrr
    obtain ⟨k, hk, hpk, _⟩ := usedC_iff hu
    have HBL := Lib.hid (fun w' (hx : Ext w w') => ref07below_any l hl hn 19 p R n q keep w' (by omega) (by omega) (by omega) (hA.ext hx))
    have HE := Lib.hid (show rightR ⟨l, keep⟩ p = (bel l 20 p).is from hrr)
    unfold gv at HBL
    generalize bel l (19 + 1) p = g at *
    generalize rightR ⟨l, keep⟩ p = rr at *
    clear hA hrr hu hpk
    go_enter Try.func21, Try.ntmps21
    go_wp2_with (first
      | (go_at_call 38; refine (HU.out _ HX.out).mono ?_; rintro e w1 ⟨rfl, hx⟩; have HX1 := Lib.hid (HX.out.trans hx); clear b0 b1 b2; obtain ⟨b0, b1, b2⟩ := (HB.out.ext hx).read2; clear hx)
      | (go_at_call 39; refine (HBL.out _ HX1.out).mono ?_; rintro e w2 ⟨rfl, hx⟩; have HX2 := Lib.hid (HX1.out.trans hx); clear hx))
    go_ret
    exact ⟨ret_bool HE.out.symm, HX2.out.alloc _⟩
def mayR (h : Hp) (root most : Int) : Bool := mayH h most && rightR h root
theorem may_all {l : List HC} {keep most : Int} (h : mayH ⟨l, keep⟩ most = true) : AllR l ∧ l.length ≤ 2000 := by
  unfold mayH at h
  rw [Bool.and_eq_true] at h
  have h1 := rightH_iff h.2
  exact ⟨h1.2, h1.1.1.2⟩
set_option maxRecDepth 100000 in
set_option maxHeartbeats 1600000 in
theorem ref07May_any (R : Option Addr) (l : List HC) (n q : Nat) (keep root most : Int) (w : World) (hA : HcSl w R n q l) :
    Calls Try.prog 13 #[.agg #[.slice R n q, .int .i64 keep], .int .i64 root, .int .i64 most] w fun e w' => e = .returned (.bool (mayR ⟨l, keep⟩ root most)) ∧ Ext w w' := by
  have HX := Lib.hid ((Ext.refl w).alloc (.cells #[.slice R n q, .int .i64 keep] 24))
  have hb := Bx.new w #[.slice R n q, .int .i64 keep] 24
  have HB := Lib.hid hb
  have HM := Lib.hid (fun w' (hx : Ext w w') => ref05May_any R l n q keep most w' (hA.ext hx))
  have hm : mayR ⟨l, keep⟩ root most = (mayH ⟨l, keep⟩ most && rightR ⟨l, keep⟩ root) := rfl
  obtain ⟨b0, b1, b2⟩ := hb.read2
  clear hb
  cases hu : mayH ⟨l, keep⟩ most
  · rw [hu] at HM hm
    have HE := Lib.hid (show mayR ⟨l, keep⟩ root most = false from hm)
    clear hA hm hu
    go_enter Try.func13, Try.ntmps13
    go_wp2_with (go_at_call 31; refine (HM.out _ HX.out).mono ?_; rintro e w1 ⟨rfl, hx⟩; have HX1 := Lib.hid (HX.out.trans hx); clear b0 b1 b2; obtain ⟨b0, b1, b2⟩ := (HB.out.ext hx).read2; clear hx)
    go_ret
    exact ⟨ret_bool HE.out.symm, HX1.out⟩
  · obtain ⟨hl, hn⟩ := may_all hu
    rw [hu] at HM hm
    have HR := Lib.hid (fun w' (hx : Ext w w') => ref07Right_any R l n q keep root w' hl hn (hA.ext hx))
    have HE := Lib.hid (show mayR ⟨l, keep⟩ root most = rightR ⟨l, keep⟩ root from hm)
    generalize rightR ⟨l, keep⟩ root = rr at *
    clear hA hm hu hl hn
    go_enter Try.func13, Try.ntmps13
    go_wp2_with (first
      | (go_at_call 31; refine (HM.out _ HX.out).mono ?_; rintro e w1 ⟨rfl, hx⟩; have HX1 := Lib.hid (HX.out.trans hx); clear b0 b1 b2; obtain ⟨b0, b1, b2⟩ := (HB.out.ext hx).read2; clear hx)
      | (go_at_call 21; refine (HR.out _ HX1.out).mono ?_; rintro e w2 ⟨rfl, hx⟩; have HX2 := Lib.hid (HX1.out.trans hx); clear hx))
    go_ret
    exact ⟨ret_bool HE.out.symm, HX2.out⟩
end Go.Proofs.Ytbfbpddfcakieaa
namespace Go.Proofs.Ytbfbpddfcakieaa
open Go.RowKit

/-- Rows that rise, with the same items, are the same. -/
theorem asc_ext : ∀ {a b : List It}, Asc a → Asc b → (∀ z, z ∈ a ↔ z ∈ b) → a = b
  | [], [], _, _, _ => rfl
  | [], y :: b, _, _, h => by have := (h y).2 List.mem_cons_self; cases this
  | x :: a, [], _, _, h => by have := (h x).1 List.mem_cons_self; cases this
  | x :: a, y :: b, ha, hb, h => by
    have ha1 := List.pairwise_cons.1 ha
    have hb1 := List.pairwise_cons.1 hb
    have e : x = y := by
      rcases List.mem_cons.1 ((h x).1 List.mem_cons_self) with e | e
      · exact e
      · rcases List.mem_cons.1 ((h y).2 List.mem_cons_self) with e2 | e2
        · exact e2.symm
        · have h1 := hb1.1 x e
          have h2 := ha1.1 y e2
          omega
    subst e
    rw [asc_ext ha1.2 hb1.2 (fun z => ⟨fun hz => by
      rcases List.mem_cons.1 ((h z).1 (List.mem_cons_of_mem _ hz)) with e | e
      · subst e; have := ha1.1 z hz; omega
      · exact e, fun hz => by
      rcases List.mem_cons.1 ((h z).2 (List.mem_cons_of_mem _ hz)) with e | e
      · subst e; have := hb1.1 z hz; omega
      · exact e⟩)]
/-- A row with an item more, instead of the one of its key. -/
def insL (L : List It) (x : It) : List It := L.filter (fun y => decide (y.1 < x.1)) ++ x :: L.filter (fun y => decide (x.1 < y.1))
theorem insL_mem {L : List It} {x z : It} : z ∈ insL L x ↔ z = x ∨ (z ∈ L ∧ z.1 ≠ x.1) := by
  unfold insL
  simp only [List.mem_append, List.mem_cons, List.mem_filter, decide_eq_true_eq]
  constructor
  · rintro (⟨h1, h2⟩ | h | ⟨h1, h2⟩)
    · exact .inr ⟨h1, by omega⟩
    · exact .inl h
    · exact .inr ⟨h1, by omega⟩
  · rintro (h | ⟨h1, h2⟩)
    · exact .inr (.inl h)
    · rcases Int.lt_or_gt_of_ne h2 with h | h
      · exact .inl ⟨h1, h⟩
      · exact .inr (.inr ⟨h1, h⟩)
theorem insL_asc {L : List It} (h : Asc L) (x : It) : Asc (insL L x) := by
  unfold insL Asc
  rw [List.pairwise_append]
  refine ⟨List.Pairwise.filter _ h, List.pairwise_cons.2 ⟨fun y hy => ?_, List.Pairwise.filter _ h⟩, fun a ha b hb => ?_⟩
  · simpa using (List.mem_filter.1 hy).2
  · have h1 : a.1 < x.1 := by simpa using (List.mem_filter.1 ha).2
    rcases List.mem_cons.1 hb with e | e
    · subst e; exact h1
    · have h2 : x.1 < b.1 := by simpa using (List.mem_filter.1 e).2
      omega
theorem insL_len (L : List It) (x : It) : (insL L x).length ≤ L.length + 1 := by
  unfold insL
  rw [List.length_append, List.length_cons]
  have h : ∀ L : List It, (L.filter (fun y => decide (y.1 < x.1))).length + (L.filter (fun y => decide (x.1 < y.1))).length ≤ L.length := by
    intro L
    induction L with
    | nil => simp
    | cons y r ih =>
      rw [List.filter_cons, List.filter_cons]
      by_cases h1 : y.1 < x.1
      · have h2 : ¬ x.1 < y.1 := by omega
        simp [h1, h2]; omega
      · by_cases h2 : x.1 < y.1
        · simp [h1, h2]; omega
        · simp [h1, h2]; omega
  have := h L
  omega
theorem insL_twice {L : List It} {x y : It} (h : Asc L) (e : x.1 = y.1) : insL (insL L x) y = insL L y :=
  asc_ext (insL_asc (insL_asc h x) y) (insL_asc h y) (fun z => by
    rw [insL_mem, insL_mem, insL_mem]
    constructor
    · rintro (h | ⟨h | h, h2⟩)
      · exact .inl h
      · subst h; exact absurd e h2
      · exact .inr ⟨h.1, h2⟩
    · rintro (h | ⟨h, h2⟩)
      · exact .inl h
      · exact .inr ⟨.inr ⟨h, by rw [e]; exact h2⟩, h2⟩)
theorem insL_swap {L : List It} {x y : It} (h : Asc L) (e : x.1 ≠ y.1) : insL (insL L x) y = insL (insL L y) x :=
  asc_ext (insL_asc (insL_asc h x) y) (insL_asc (insL_asc h y) x) (fun z => by
    rw [insL_mem, insL_mem, insL_mem, insL_mem]
    constructor
    · rintro (h | ⟨h | h, h2⟩)
      · subst h; exact .inr ⟨.inl rfl, fun e' => e e'.symm⟩
      · exact .inl h
      · exact .inr ⟨.inr ⟨h.1, h2⟩, h.2⟩
    · rintro (h | ⟨h | h, h2⟩)
      · subst h; exact .inr ⟨.inl rfl, e⟩
      · exact .inl h
      · exact .inr ⟨.inr ⟨h.1, h2⟩, h.2⟩)
theorem insL_len_same {L : List It} {x y : It} (e : x.1 = y.1) : (insL L x).length = (insL L y).length := by
  unfold insL; rw [e, List.length_append, List.length_append, List.length_cons, List.length_cons]
/-- What a key tells in a row. -/
def getF (L : List It) (key : Int) : Option Int := (L.find? (fun x => decide (x.1 = key))).map (·.2)
theorem find_filter {p q : It → Bool} (h : ∀ y, q y = true → p y = true) : ∀ (L : List It), (L.filter p).find? q = L.find? q
  | [] => rfl
  | y :: r => by
    rw [List.filter_cons]
    by_cases hp : p y = true
    · rw [if_pos hp, List.find?_cons, List.find?_cons, find_filter h r]
    · rw [if_neg hp, find_filter h r, List.find?_cons]
      have : q y = false := by cases hq : q y; · rfl
                               · exact absurd (h y hq) hp
      rw [this]
theorem find_none {p q : It → Bool} (h : ∀ y, p y = true → q y = false) : ∀ (L : List It), (L.filter p).find? q = none := by
  intro L
  rw [List.find?_eq_none]
  intro y hy
  rw [h y (List.mem_filter.1 hy).2]
  simp
theorem getF_ins (L : List It) (x : It) (key : Int) : getF (insL L x) key = if x.1 = key then some x.2 else getF L key := by
  unfold getF insL
  rw [List.find?_append, List.find?_cons]
  by_cases h : x.1 = key
  · rw [find_none (fun y hy => by simp only [decide_eq_true_eq] at hy; exact decide_eq_false (by omega))]
    simp [h]
  · rw [if_neg h, decide_eq_false h]
    simp only
    rcases Int.lt_or_gt_of_ne h with h2 | h2
    · rw [find_none (fun y hy => by simp only [decide_eq_true_eq] at hy; exact decide_eq_false (by omega)), Option.none_or, find_filter (fun y hy => by simp only [decide_eq_true_eq] at hy ⊢; omega)]
    · rw [find_filter (fun y hy => by simp only [decide_eq_true_eq] at hy ⊢; omega)]
      cases hf : L.find? (fun x => decide (x.1 = key)) with
      | some z => rfl
      | none =>
        rw [Option.none_or, find_none (fun y hy => by simp only [decide_eq_true_eq] at hy; exact decide_eq_false (by omega))]
theorem getT_F (l : List HC) (root key : Int) : getT l root key = getF (listT l root) key := rfl
/-- The items of a right tree rise. -/
theorem listT_rise {c : List HC} {keep root : Int} (hr : rightH ⟨c, keep⟩ = true) (hb : rightR ⟨c, keep⟩ root = true) : Asc (listT c root) := by
  unfold listT
  rcases rightR_iff hb with h | ⟨h0, h1, h2⟩
  · rw [if_pos h]; exact List.Pairwise.nil
  · rw [if_neg (by omega)]; exact (listB_spans c (allR_of hr) 20 root h0 h1 h2).asc
theorem fine_room {c : List HC} {keep root most : Int} {x : It} {deep : Bool} (hf : fineB ⟨c, keep⟩ root most = true) (h0 : (putR ⟨c, keep⟩ root x deep).2.2 = 0) :
    okIt x ∧ highT c root < 20 ∧ 2 * highT c root + 1 ≤ (c.countP freeC : Nat) ∧ putR ⟨c, keep⟩ root x deep = ((putG c root x).1, (putG c root x).2, 0) := by
  obtain ⟨hx, hh, hn, e⟩ := put_zero h0
  obtain ⟨hm, _, _⟩ := fine_may hf
  have h2 : highT c root ≠ 20 := hh
  have hb : highT c root ≤ 20 := by unfold highT; split; · omega
                                    · exact (bel_high c 20 root).2
  exact ⟨hx, by omega, fits_free (may_keep hm).1 hn, e⟩
/-- What is in the tree behind what is put. -/
theorem put_list {c : List HC} {keep root most : Int} {x : It} {deep : Bool} (hmost : most ≤ 60) (hf : fineB ⟨c, keep⟩ root most = true) (h0 : (putR ⟨c, keep⟩ root x deep).2.2 = 0) :
    fineB ⟨(putR ⟨c, keep⟩ root x deep).1, keep⟩ (putR ⟨c, keep⟩ root x deep).2.1 most = true ∧ listT (putR ⟨c, keep⟩ root x deep).1 (putR ⟨c, keep⟩ root x deep).2.1 = insL (listT c root) x ∧ 0 ≤ (putR ⟨c, keep⟩ root x deep).2.1 := by
  have h1 := fine_next hmost hf h0
  refine ⟨h1, ?_⟩
  obtain ⟨hx, hh, hn, e⟩ := fine_room hf h0
  rw [e] at h1 ⊢
  simp only at h1 ⊢
  obtain ⟨hm, hb, _⟩ := fine_may hf
  obtain ⟨hm2, hb2, _⟩ := fine_may h1
  obtain ⟨a, P, _⟩ := fine_put hmost hf hx hh hn
  have hl : listT (putG c root x).1 (putG c root x).2 = listB (putG c root x).1 20 (putG c root x).2 := by unfold listT; rw [if_neg (by have := P.place.1; omega)]
  refine ⟨asc_ext (listT_rise (may_iff hm2).2.2 hb2) (insL_asc (listT_rise (may_iff hm).2.2 hb) x) (fun z => ?_), P.place.1⟩
  rw [hl, P.mem z, insL_mem]
theorem put_err {h : Hp} {root : Int} {x : It} {deep : Bool} (h0 : (putR h root x deep).2.2 ≠ 0) : (putR h root x deep).1 = h.c ∧ (putR h root x deep).2.1 = root ∧ ((putR h root x deep).2.2 = 1 ∨ (putR h root x deep).2.2 = 3) ∧ (okIt x → (putR h root x deep).2.2 = 3) := by
  unfold putR at h0 ⊢
  split
  · rename_i hok
    rw [if_pos hok] at h0
    split
    · exact ⟨rfl, rfl, .inr rfl, fun _ => rfl⟩
    · rename_i hf
      rw [if_neg hf] at h0
      exact absurd rfl h0
  · rename_i hok
    exact ⟨rfl, rfl, .inl rfl, fun h => absurd h hok⟩
/-- What Fill comes to. -/
theorem fill_fine {keep most : Int} (hmost : most ≤ 60) : ∀ (it : List It) (c : List HC) (root : Int), fineB ⟨c, keep⟩ root most = true →
    fineB ⟨(fillR keep it c root).1, keep⟩ (fillR keep it c root).2.1 most = true ∧ ((fillR keep it c root).2.2 = 0 ∨ (fillR keep it c root).2.2 = 1 ∨ (fillR keep it c root).2.2 = 3) ∧
    ((fillR keep it c root).2.2 = 0 → listT (fillR keep it c root).1 (fillR keep it c root).2.1 = it.foldl insL (listT c root) ∧ (it ≠ [] → 0 ≤ (fillR keep it c root).2.1) ∧ (it = [] → (fillR keep it c root).2.1 = root))
  | [], c, root, hf => ⟨hf, .inl rfl, fun _ => ⟨rfl, fun h => absurd rfl h, fun _ => rfl⟩⟩
  | x :: r, c, root, hf => by
    rw [fillR]
    by_cases h0 : (putR ⟨c, keep⟩ root x false).2.2 = 0
    · rw [if_pos h0]
      obtain ⟨h1, h2, h3⟩ := put_list hmost hf h0
      obtain ⟨i1, i2, i3⟩ := fill_fine hmost r _ _ h1
      refine ⟨i1, i2, fun he => ?_⟩
      obtain ⟨j1, j2, j3⟩ := i3 he
      refine ⟨by rw [j1, h2]; rfl, fun _ => ?_, fun e => by cases e⟩
      by_cases hr : r = []
      · rw [j3 hr]; exact h3
      · exact j2 hr
    · rw [if_neg h0]
      obtain ⟨_, _, h3, _⟩ := put_err h0
      refine ⟨hf, .inr ?_, fun he => absurd he h0⟩
      exact h3
theorem fill_append {keep : Int} : ∀ (a b : List It) (c : List HC) (root : Int), (fillR keep (a ++ b) c root).2.2 = 0 →
    (fillR keep a c root).2.2 = 0 ∧ fillR keep (a ++ b) c root = fillR keep b (fillR keep a c root).1 (fillR keep a c root).2.1
  | [], b, c, root, _ => ⟨rfl, rfl⟩
  | x :: a, b, c, root, h => by
    rw [List.cons_append, fillR] at h ⊢
    rw [fillR]
    by_cases h0 : (putR ⟨c, keep⟩ root x false).2.2 = 0
    · rw [if_pos h0] at h ⊢
      rw [if_pos h0]
      exact fill_append a b _ _ h
    · rw [if_neg h0] at h
      exact absurd h h0
/-- The last one of a key. -/
def lastV (key : Int) (o : Option Int) (l : List It) : Option Int := l.foldl (fun o y => if y.1 = key then some y.2 else o) o
theorem getF_fold (key : Int) : ∀ (l L : List It), getF (l.foldl insL L) key = lastV key (getF L key) l
  | [], L => rfl
  | x :: r, L => by
    rw [List.foldl_cons, getF_fold key r, getF_ins]; rfl
theorem lastV_append (key : Int) (o : Option Int) (a b : List It) : lastV key o (a ++ b) = lastV key (lastV key o a) b := by unfold lastV; rw [List.foldl_append]
theorem lastV_self {l : List It} {i : Nat} (hi : i < l.length) (o : Option Int) : lastV l[i].1 o l = lastV l[i].1 (some l[i].2) (l.drop i) := by
  have h := congrArg (lastV l[i].1 o) (List.take_append_drop i l).symm
  rw [h, lastV_append, List.drop_eq_getElem_cons hi]
  unfold lastV
  rw [List.foldl_cons, List.foldl_cons, if_pos rfl, if_pos rfl]
theorem fold_len : ∀ (l L : List It), (l.foldl insL L).length ≤ L.length + l.length
  | [], L => by simp
  | x :: r, L => by
    rw [List.foldl_cons, List.length_cons]
    have h1 := fold_len r (insL L x)
    have h2 := insL_len L x
    omega
/-- A new heap. -/
theorem new_fine {n : Nat} {most : Int} (h1 : 1 ≤ n) (h2 : (n : Int) ≤ most) (hmost : most ≤ 60) : newH n 0 = ⟨List.replicate n HC.none, 0⟩ ∧ newHE n 0 = 0 ∧ fineB ⟨List.replicate n HC.none, 0⟩ (-1) most = true := by
  have hok : newOk n 0 := ⟨⟨by omega, by omega⟩, by omega, by omega⟩
  refine ⟨by unfold newH; rw [if_pos hok, Int.toNat_natCast], by unfold newHE; rw [if_pos hok], ?_⟩
  have hr : rightH ⟨List.replicate n HC.none, 0⟩ = true := by
    unfold rightH
    rw [Bool.and_eq_true, decide_eq_true_eq]
    refine ⟨⟨⟨by simpa using h1, by simp; omega⟩, by simp, by simp⟩, ?_⟩
    rw [List.all_eq_true]
    intro x hx
    rw [(List.mem_replicate.1 hx).2]
    rfl
  have hin : ∀ k, inn (List.replicate n HC.none) k = 0 := fun k => by
    unfold inn
    rw [List.map_replicate]
    have : (tellC HC.none).count k = 0 := rfl
    rw [this]
    induction n with
    | zero => rfl
    | succ m ih => rw [List.replicate_succ]; simp
  unfold fineB mayT mayH
  simp only [Bool.and_eq_true]
  refine ⟨⟨⟨?_, hr⟩, by unfold rightR; simp⟩, sound_of hr (fun k hk => ?_) (fun k hk h0 => ?_)⟩
  · unfold smallH
    rw [Bool.and_eq_true, decide_eq_true_eq, List.all_eq_true]
    refine ⟨by simpa using h2, fun x hx => ?_⟩
    rw [(List.mem_replicate.1 hx).2]
    rfl
  · rw [hin, List.getElem_replicate]
    unfold rootE
    rw [if_neg (by omega)]
    rfl
  · rw [List.getElem_replicate] at h0
    exact absurd h0 (by decide)
end Go.Proofs.Ytbfbpddfcakieaa
namespace Go.Proofs.Ytbfbpddfcakieaa
open Go.RowKit

theorem nextT_le (xs : List It) (j : Nat) {e e' : Int} (he : e ≤ e') : nextT xs j e ≤ nextT xs j e' := by
  unfold nextT; split
  · exact Int.le_refl _
  · exact he
theorem nextT_one {xs : List It} (h : xs.length ≤ 1) (j : Nat) (e : Int) : nextT xs j e = e := by unfold nextT; rw [if_neg (by omega)]
theorem RowOK.weaken {c : List HC} {leaf : Bool} {h : Int} {xs : List It} {e e' : Int} (H : RowOK c leaf h xs e) (he : e ≤ e') : RowOK c leaf h xs e' :=
  ⟨H.ok, fun hl => ⟨(H.lf hl).1, (H.lf hl).2.1, fun y hy => Int.lt_of_lt_of_le ((H.lf hl).2.2 y hy) he⟩, fun hl => ⟨(H.inn hl).1, (H.inn hl).2.1, fun j hj => by
    obtain ⟨b1, b2, b3, b4⟩ := (H.inn hl).2.2 j hj
    exact ⟨b1, b2, b3, Int.lt_of_lt_of_le b4 (nextT_le xs j he)⟩⟩⟩
/-- Items as a row, if there is one. -/
def rowD (xs : List It) : List (List It) := if xs.length = 0 then [] else [xs]
theorem rowD_rows {xs : List It} (h4 : xs.length ≤ 4) : (rowD xs).flatten = xs ∧ (∀ r ∈ rowD xs, 1 ≤ r.length ∧ r.length ≤ 4) ∧ (rowD xs).length ≤ 1 := by
  unfold rowD
  by_cases h : xs.length = 0
  · rw [if_pos h, List.eq_nil_of_length_eq_zero h]; simp
  · rw [if_neg h]
    refine ⟨by simp, fun r hr => ?_, by simp⟩
    simp only [List.mem_cons, List.not_mem_nil, or_false] at hr
    subst hr; omega
def delS : Nat → List HC → Int → Int → List HC × List It
  | 0, c, _, _ => (c, [])
  | m + 1, c, p, key => if (cellT c p).leaf then layS true [] (rowD (withS (cellT c p).it (atI true (cellT c p).it key).toNat 1 [])) c
    else layS false ((delS m c (childT (cellT c p).it key).2 key).2.map (·.2)) (rowD (withS (cellT c p).it (atI false (cellT c p).it key).toNat 1 (delS m c (childT (cellT c p).it key).2 key).2)) (delS m c (childT (cellT c p).it key).2 key).1
structure DelR (c : List HC) (keep : Int) (p : Int) (key : Int) (e : Int) (c' : List HC) (L : List It) (a : Nat) : Prop where
  right : rightH ⟨c', keep⟩ = true
  keeps : Keeps c c'
  len : L.length ≤ 1
  place : ∀ y ∈ L, 0 ≤ y.2 ∧ y.2 < c.length
  row : ∀ y ∈ L, (bel c' 20 y.2).is = true ∧ (bel c' 20 y.2).high = (bel c 20 p).high ∧ (bel c' 20 y.2).lo = y.1 ∧ (bel c' 20 y.2).hi < e
  mem : ∀ z, z ∈ L.flatMap (fun y => listB c' 20 y.2) ↔ z ∈ listB c 20 p ∧ z.1 ≠ key
  free : c'.countP freeC + a = c.countP freeC
  many : (a : Int) ≤ (bel c 20 p).high
  refs : ∀ k (hk : k < c.length) (hk' : k < c'.length), c'[k].ref ≤ (if 0 < c[k].ref then c[k].ref else 1) + 4 * (a : Int)
  new : ∀ k (hk : k < c.length) (hk' : k < c'.length), 0 < c'[k].ref → ¬ 0 < c[k].ref → (bel c' 20 (k : Int)).is = true
  fresh : ∀ y ∈ L, usedC c y.2 = false
  rc : ∀ E, RC c E → RC c' (fun k => E k + (((L.map (·.2)).count k : Nat) : Int))
theorem without_mem {it : List It} (h : NdR it) {key : Int} (hb : atB it key = true) (z : It) : z ∈ withS it (atC it key) 1 [] ↔ z ∈ it ∧ z.1 ≠ key := by
  obtain ⟨k, hk, hke⟩ := atB_ex hb
  have hat := atC_at h hk hke
  rw [hat]
  have hit : it = it.take k ++ (it[k] :: it.drop (k + 1)) := by rw [← List.drop_eq_getElem_cons hk, List.take_append_drop]
  have ha := asc_of h
  rw [hit] at ha
  have ha2 := List.pairwise_append.1 ha
  have ha3 := List.pairwise_cons.1 ha2.2.1
  unfold withS
  rw [List.append_nil, List.mem_append]
  conv => rhs; rw [hit]
  rw [List.mem_append, List.mem_cons]
  constructor
  · rintro (h1 | h1)
    · exact ⟨.inl h1, by have := ha2.2.2 z h1 _ List.mem_cons_self; omega⟩
    · exact ⟨.inr (.inr h1), by have := ha3.1 z h1; omega⟩
  · rintro ⟨h1 | h1 | h1, h2⟩
    · exact .inl h1
    · subst h1; exact absurd hke h2
    · exact .inr h1
theorem del_leaf {keep : Int} {c : List HC} {k : Nat} (hk : k < c.length) {m : Nat} {key : Int} {e : Int} (hr : rightH ⟨c, keep⟩ = true) (hs : ∀ k (hk : k < c.length), c[k].ref ≤ 1000000) (hb : (bel c 20 (k : Int)).is = true)
    (he : (bel c 20 (k : Int)).hi < e) (hf : (bel c 20 (k : Int)).high ≤ (c.countP freeC : Nat)) (hin : ∃ z ∈ listB c 20 (k : Int), z.1 = key) (hlf : c[k].leaf = true) : (∃ a, DelR c keep (k : Int) key e (delS (m + 1) c (k : Int) key).1 (delS (m + 1) c (k : Int) key).2 a) ∧ okS keep true [] (rowD (withS c[k].it (atC c[k].it key) 1 [])) c ∧ delS (m + 1) c (k : Int) key = layS true [] (rowD (withS c[k].it (atC c[k].it key) 1 [])) c ∧ atB c[k].it key = true := by
  obtain ⟨R, hlo, hli, hnd⟩ := row_of_bel hr hk hb he
  rw [hlf] at R hli
  obtain ⟨hH, hasc, hlt⟩ := R.lf rfl
  rw [conts_leaf] at hli
  have hab : atB c[k].it key = true := by
    obtain ⟨z, hz, hzk⟩ := hin
    rw [hli] at hz
    unfold atB
    rw [List.any_eq_true]
    exact ⟨z, hz, decide_eq_true hzk⟩
  have hdef : delS (m + 1) c (k : Int) key = layS true [] (rowD (withS c[k].it (atC c[k].it key) 1 [])) c := by
    rw [delS, cellT_at hk, hlf, if_pos rfl, atI_leaf, Int.toNat_natCast]
  have hm := without_mem hnd hab
  have h4 : (withS c[k].it (atC c[k].it key) 1 []).length ≤ 4 := by
    have := hnd.1.2
    unfold withS
    rw [List.append_nil, List.length_append, List.length_take, List.length_drop]
    omega
  have hasc2 : Asc (withS c[k].it (atC c[k].it key) 1 []) := by
    unfold withS
    rw [List.append_nil]
    have h := hasc
    rw [← List.take_append_drop (atC c[k].it key) c[k].it] at h
    have h1 := List.pairwise_append.1 h
    refine List.pairwise_append.2 ⟨h1.1, ?_, fun a ha b hb => h1.2.2 a ha b ?_⟩
    · have e1 : c[k].it.drop (atC c[k].it key + 1) = (c[k].it.drop (atC c[k].it key)).drop 1 := by rw [List.drop_drop]
      rw [e1]
      exact h1.2.1.drop
    · have e1 : c[k].it.drop (atC c[k].it key + 1) = (c[k].it.drop (atC c[k].it key)).drop 1 := by rw [List.drop_drop]
      rw [e1] at hb
      exact List.mem_of_mem_drop hb
  refine ⟨?_, ?_, hdef, hab⟩
  rw [hdef]
  all_goals
    generalize withS c[k].it (atC c[k].it key) 1 [] = xs at *
    obtain ⟨s1, s2, s3⟩ := rowD_rows h4
    have RX : RowOK c true 1 (rowD xs).flatten e := by rw [s1]; exact ⟨fun y hy => R.ok y ((hm y).1 hy).1, fun _ => ⟨rfl, hasc2, fun y hy => hlt y ((hm y).1 hy).1⟩, fun h => by cases h⟩
  · have La := lay_rows (keep := keep) true [] 1 (rowD xs) c e hr (fun k hk => by have := hs k hk; omega) (by omega) RX s2 (by omega)
    rw [s1] at La
    refine ⟨(rowD xs).length, La.right, La.keeps, by rw [La.len]; exact s3, La.place, fun y hy => ?_, fun z => ?_, La.free, by omega, La.refs, La.new, La.fresh, fun E hE => ?_⟩
    · obtain ⟨j, hj, rfl⟩ := List.mem_iff_getElem.1 hy
      have := La.row j hj
      rw [nextT_one (by rw [La.len]; exact s3)] at this
      rw [hH]; exact this
    · rw [La.conts_, conts_leaf, hli]; exact hm z
    · refine rc_congr (La.rc E hE) (fun k _ => ?_)
      have : inL [] (k : Int) = false := rfl
      rw [this]
      simp
  · exact lay_oks (keep := keep) true [] 1 (rowD xs) c e hr (fun k hk => by have := hs k hk; omega) (by omega) RX s2 (by omega)
theorem del_other {keep : Int} {c : List HC} {k : Nat} (hk : k < c.length) {m : Nat} {key : Int} {e : Int} (hr : rightH ⟨c, keep⟩ = true) (hs : ∀ k (hk : k < c.length), c[k].ref ≤ 1000000) (hb : (bel c 20 (k : Int)).is = true)
    (he : (bel c 20 (k : Int)).hi < e) (hf : (bel c 20 (k : Int)).high ≤ (c.countP freeC : Nat)) (hin : ∃ z ∈ listB c 20 (k : Int), z.1 = key) (hlf : c[k].leaf = false)
    (ih : ∀ e', (bel c 20 (childT c[k].it key).2).hi < e' → (∃ z ∈ listB c 20 (childT c[k].it key).2, z.1 = key) → (bel c 20 (childT c[k].it key).2).high ≤ (c.countP freeC : Nat) → ∃ a, DelR c keep (childT c[k].it key).2 key e' (delS m c (childT c[k].it key).2 key).1 (delS m c (childT c[k].it key).2 key).2 a) :
    (∃ a, DelR c keep (k : Int) key e (delS (m + 1) c (k : Int) key).1 (delS (m + 1) c (k : Int) key).2 a) ∧ okS keep false ((delS m c (childT c[k].it key).2 key).2.map (·.2)) (rowD (withS c[k].it (atI false c[k].it key).toNat 1 (delS m c (childT c[k].it key).2 key).2)) (delS m c (childT c[k].it key).2 key).1 ∧
    delS (m + 1) c (k : Int) key = layS false ((delS m c (childT c[k].it key).2 key).2.map (·.2)) (rowD (withS c[k].it (atI false c[k].it key).toNat 1 (delS m c (childT c[k].it key).2 key).2)) (delS m c (childT c[k].it key).2 key).1 ∧ (∃ z ∈ listB c 20 (childT c[k].it key).2, z.1 = key) := by
  obtain ⟨R, hlo, hli, hnd⟩ := row_of_bel hr hk hb he
  rw [hlf] at R hli
  have hal := allR_of hr
  have hdef : delS (m + 1) c (k : Int) key = layS false ((delS m c (childT c[k].it key).2 key).2.map (·.2)) (rowD (withS c[k].it (atI false c[k].it key).toNat 1 (delS m c (childT c[k].it key).2 key).2)) (delS m c (childT c[k].it key).2 key).1 := by
    rw [delS, cellT_at hk, hlf, if_neg (by simp)]
  rw [hdef]
  obtain ⟨hi, hle⟩ := at_low hnd key
  have hnx := fun hj => at_next hnd key (hi := hj)
  have hch : childT c[k].it key = c[k].it[(atI false c[k].it key).toNat] := itD_at hi
  obtain ⟨H, hH⟩ : ∃ H, (bel c 20 (k : Int)).high = H := ⟨_, rfl⟩
  rw [hH] at R hf
  generalize (atI false c[k].it key).toNat = i at *
  generalize c[k].it = it at *
  obtain ⟨w, hw⟩ : ∃ w, it[i] = w := ⟨_, rfl⟩
  rw [hw] at hch hle
  rw [hch] at ih ⊢
  have hit : it = it.take i ++ (w :: it.drop (i + 1)) := by
    rw [← hw, ← List.drop_eq_getElem_cons hi, List.take_append_drop]
  have hwith : ∀ L, withS it i 1 L = it.take i ++ L ++ it.drop (i + 1) := fun L => rfl
  have hAl : (it.take i).length = i := by rw [List.length_take]; omega
  have hBl : (it.drop (i + 1)).length = it.length - (i + 1) := by rw [List.length_drop]
  have hl4 := hnd.1.2
  have hAm : ∀ y ∈ it.take i, y ∈ it := fun y hy => List.mem_of_mem_take hy
  have hBn : ∀ d, headK (it.drop (i + 1)) d = if h : i + 1 < it.length then it[i + 1].1 else d := fun d => by
    split
    · rename_i h; rw [List.drop_eq_getElem_cons h]; rfl
    · rw [List.drop_of_length_le (by omega)]; rfl
  have hascI := asc_of hnd
  have hBk : ∀ y ∈ it.drop (i + 1), key < y.1 := fun y hy => by
    obtain ⟨j, hj, rfl⟩ := List.mem_iff_getElem.1 hy
    have hj2 : i + 1 + j < it.length := by omega
    rw [List.getElem_drop]
    have h1 := hnx (by omega)
    rcases Nat.eq_zero_or_pos j with h | h
    · subst h; simpa using h1
    · have := hnd.rise (i + 1 + j) (i + 1) hj2 (by omega); omega
  have hfirst : firstK it = headK (it.take i ++ [w]) 0 := by
    conv => lhs; rw [hit]
    cases it.take i with
    | nil => rfl
    | cons y r => rfl
  have R0 := R
  rw [hit] at R0
  obtain ⟨RA, RB⟩ := rowOK_app R0
  obtain ⟨RW, RBs⟩ := rowOK_app (show RowOK c false H ([w] ++ it.drop (i + 1)) e from RB)
  obtain ⟨⟨hH2, hH20⟩, hwp, hwr⟩ := RW.inn rfl
  have hw1 := hwr 0 (by simp)
  simp only [List.getElem_cons_zero, nextT_zero] at hw1
  obtain ⟨wis, whi, wlo, wlt⟩ := hw1
  have hBe : headK (it.drop (i + 1)) e ≤ e := by
    rcases head_or (l := it.drop (i + 1)) e with ⟨_, h⟩ | ⟨y, r, h1, h⟩
    · rw [h]; exact Int.le_refl _
    · rw [h]; exact Int.le_of_lt ((RBs.asc hr).2 y (by rw [h1]; exact List.mem_cons_self))
  have hwx : it.take i ≠ [] → w.1 ≤ key := fun hne => hle (by
    rcases Nat.eq_zero_or_pos i with h | h
    · subst h; simp at hne
    · exact h)
  have hcons : conts c false (w :: it.drop (i + 1)) = listB c 20 w.2 ++ conts c false (it.drop (i + 1)) := by
    rw [conts_other, conts_other, List.flatMap_cons]
  have hA : ∀ z, z ∈ conts c false (it.take i) → z.1 ≠ key := fun z hz => by
    rw [conts_other] at hz
    obtain ⟨y, hy, hz⟩ := List.mem_flatMap.1 hz
    obtain ⟨_, g3, g4⟩ := RA.inn rfl
    obtain ⟨j, hj, rfl⟩ := List.mem_iff_getElem.1 hy
    obtain ⟨b1, b2, b3, b4⟩ := g4 j hj
    have hsp := listB_spans c hal 20 _ (RA.ok _ hy).2.1 (g3 _ hy) b1
    have h1 := hsp.le z hz
    have h2 : nextT (it.take i) j (headK (w :: it.drop (i + 1)) e) ≤ w.1 := by
      unfold nextT
      split
      · rename_i h
        rw [itD_at h]
        exact Int.le_of_lt ((RA.asc hr).2 _ (List.getElem_mem h))
      · exact Int.le_refl _
    have h3 := hwx (fun e => by rw [e] at hj; simp at hj)
    omega
  have hB : ∀ z, z ∈ conts c false (it.drop (i + 1)) → z.1 ≠ key := fun z hz => by
    rw [conts_other] at hz
    obtain ⟨y, hy, hz⟩ := List.mem_flatMap.1 hz
    obtain ⟨_, g3, g4⟩ := RBs.inn rfl
    obtain ⟨j, hj, rfl⟩ := List.mem_iff_getElem.1 hy
    obtain ⟨b1, b2, b3, b4⟩ := g4 j hj
    have hsp := listB_spans c hal 20 _ (RBs.ok _ hy).2.1 (g3 _ hy) b1
    have h1 := hsp.ge z hz
    have h2 := hBk _ hy
    omega
  have hin2 : ∃ z ∈ listB c 20 w.2, z.1 = key := by
    obtain ⟨z, hz, hzk⟩ := hin
    rw [hli, hit, conts_app, hcons, List.mem_append, List.mem_append] at hz
    rcases hz with h | h | h
    · exact absurd hzk (hA z h)
    · exact ⟨z, h, hzk⟩
    · exact absurd hzk (hB z h)
  obtain ⟨a1, I⟩ := ih (headK (it.drop (i + 1)) e) wlt hin2 (by omega)
  refine (fun (hh : _ ∧ _) => ⟨hh.1, hh.2, rfl, hin2⟩) ?_
  generalize delS m c w.2 key = S at *
  obtain ⟨c1, L1⟩ := S
  simp only at I ⊢
  rw [hwith]
  have hr1 := I.right
  have hl1 := allR_of hr1
  have RA1 := RA.keeps I.keeps hal
  have RB1 := RBs.keeps I.keeps hal
  have hL1 := I.len
  have hlw : ∀ y ∈ L1, w.1 ≤ y.1 := fun y hy => by
    obtain ⟨b1, b2, b3, b4⟩ := I.row y hy
    obtain ⟨p0, p1⟩ := I.place y hy
    obtain ⟨z, r, hz, hz1⟩ := (listB_spans c1 hl1 20 y.2 p0 (by rw [I.keeps.len]; exact p1) b1).head
    have hzm := (I.mem z).1 (List.mem_flatMap.2 ⟨y, hy, by rw [hz]; exact List.mem_cons_self⟩)
    have hw0 : 0 ≤ w.2 ∧ w.2 < c.length := ⟨(R.ok w (by rw [hit]; simp)).2.1, hwp w (by simp)⟩
    have := (listB_spans c hal 20 w.2 hw0.1 hw0.2 wis).ge z hzm.1
    omega
  have RL : RowOK c1 false H L1 (headK (it.drop (i + 1)) e) := by
    refine ⟨fun y hy => ?_, (fun h => by cases h), fun _ => ⟨⟨hH2, hH20⟩, fun y hy => by rw [I.keeps.len]; exact (I.place y hy).2, fun j hj => ?_⟩⟩
    · exact key_ok hr1 (I.place _ hy).1 (by rw [I.keeps.len]; exact (I.place _ hy).2) (I.row y hy).1 (I.row y hy).2.2.1
    · obtain ⟨b1, b2, b3, b4⟩ := I.row _ (List.getElem_mem hj)
      rw [nextT_one hL1]
      exact ⟨b1, by omega, b3, b4⟩
  have RLB : RowOK c1 false H (L1 ++ it.drop (i + 1)) e := rowOK_join hr1 RL RB1 (fun y hy => by have := (RL.asc hr1).2 y hy; omega)
  have hw0 : 0 ≤ w.2 ∧ w.2 < c.length := ⟨(R.ok w (by rw [hit]; simp)).2.1, hwp w (by simp)⟩
  have hwh : w.1 ≤ headK (L1 ++ it.drop (i + 1)) e := by
    rcases head_or (l := L1 ++ it.drop (i + 1)) e with ⟨h0, h⟩ | ⟨y, r, h1, h⟩
    · rw [h]
      have h2 := bel_lohi hr hw0.1 hw0.2 wis
      have h3 : it.drop (i + 1) = [] := (List.append_eq_nil_iff.1 h0).2
      rw [h3] at wlt
      have h4 : (bel c 20 w.2).hi < e := wlt
      omega
    · rw [h]
      have hy : y ∈ L1 ++ it.drop (i + 1) := by rw [h1]; exact List.mem_cons_self
      rcases List.mem_append.1 hy with hy | hy
      · exact hlw y hy
      · have h2 := bel_lohi hr hw0.1 hw0.2 wis
        cases L1 with
        | nil =>
          rw [List.nil_append] at h1
          rw [h1] at wlt
          have h4 : (bel c 20 w.2).hi < y.1 := wlt
          omega
        | cons v s =>
          rw [List.cons_append] at h1
          cases h1
          exact hlw _ List.mem_cons_self
  have RX : RowOK c1 false H (it.take i ++ (L1 ++ it.drop (i + 1))) e := rowOK_join hr1 ((show RowOK c1 false H (it.take i) w.1 from RA1).weaken hwh) RLB (fun y hy => (R.asc hr).2 y (hAm y hy))
  rw [← List.append_assoc] at RX
  have h4 : (it.take i ++ L1 ++ it.drop (i + 1)).length ≤ 4 := by rw [List.length_append, List.length_append, hAl, hBl]; omega
  obtain ⟨s1, s2, s3⟩ := rowD_rows h4
  have hmany := I.many
  have hfree := I.free
  have hbd : ∀ k (hk : k < c1.length), c1[k].ref ≤ 1999990000 - 4 * ((rowD (it.take i ++ L1 ++ it.drop (i + 1))).length : Int) := fun k hk => by
    have hk' : k < c.length := by rw [I.keeps.len] at hk; exact hk
    have h1 := I.refs k hk' hk
    have h2 := hs k hk'
    have h3 : (a1 : Int) ≤ 40 := by omega
    split at h1 <;> omega
  refine ⟨?_, lay_oks (keep := keep) false (L1.map (·.2)) H (rowD (it.take i ++ L1 ++ it.drop (i + 1))) c1 e hr1 hbd (by omega) (by rw [s1]; exact RX) s2 (by omega)⟩
  have La := lay_rows (keep := keep) false (L1.map (·.2)) H (rowD (it.take i ++ L1 ++ it.drop (i + 1))) c1 e hr1 hbd (by omega) (by rw [s1]; exact RX) s2 (by omega)
  rw [s1] at La
  refine ⟨a1 + (rowD (it.take i ++ L1 ++ it.drop (i + 1))).length, La.right, I.keeps.trans La.keeps, by rw [La.len]; exact s3, fun y hy => by have := La.place y hy; rw [I.keeps.len] at this; exact this, fun y hy => ?_, fun z => ?_, ?_, by omega, fun k hk hk' => ?_, fun k hk hk' h0 h1 => ?_, fun y hy => ?_, fun E hE => ?_⟩
  · obtain ⟨j, hj, rfl⟩ := List.mem_iff_getElem.1 hy
    have := La.row j hj
    rw [nextT_one (by rw [La.len]; exact s3)] at this
    rw [hH]; exact this
  · rw [La.conts_, conts_app, conts_app, conts_keeps I.keeps hal RA, conts_keeps I.keeps hal RBs, hli]
    conv => rhs; rw [hit, conts_app]
    have hL1c : conts c1 false L1 = L1.flatMap (fun y => listB c1 20 y.2) := conts_other _ _
    rw [hcons, hL1c]
    simp only [List.mem_append]
    rw [I.mem z]
    constructor
    · rintro ((h | h) | h)
      · exact ⟨.inl h, hA z h⟩
      · exact ⟨.inr (.inl h.1), h.2⟩
      · exact ⟨.inr (.inr h), hB z h⟩
    · rintro ⟨h | h | h, hne⟩
      · exact .inl (.inl h)
      · exact .inl (.inr ⟨h, hne⟩)
      · exact .inr h
  · have := La.free; omega
  · have hk1 : k < c1.length := by rw [I.keeps.len]; exact hk
    have h1 := I.refs k hk hk1
    have h2 := La.refs k hk1 hk'
    by_cases h0 : 0 < c[k].ref
    · rw [if_pos h0] at h1 ⊢
      rw [if_pos (I.keeps.cell k hk hk1 h0).1] at h2
      omega
    · rw [if_neg h0] at h1 ⊢
      split at h2 <;> omega
  · have hk1 : k < c1.length := by rw [I.keeps.len]; exact hk
    by_cases h2 : 0 < c1[k].ref
    · have h3 := I.new k hk hk1 h2 h1
      rw [(bel_keeps La.keeps hl1 20 (k : Int) (by omega) (by omega) h3).1]
      exact h3
    · exact La.new k hk1 hk' h0 h2
  · cases hu : usedC c y.2
    · rfl
    · have := La.fresh y hy
      rw [I.keeps.used hu] at this
      cases this
  · refine rc_congr (La.rc _ (I.rc E hE)) (fun k hk2 => ?_)
    have hzero : inL (L1.map (·.2)) (k : Int) = true → ∀ s : List It, (∀ y ∈ s, y ∈ it) → (s.map (·.2)).count (k : Int) = 0 := fun h s hs' => by
      rw [List.count_eq_zero]
      intro hm
      obtain ⟨y, hy, he⟩ := List.mem_map.1 hm
      obtain ⟨v, hv, he2⟩ := List.mem_map.1 (inL_iff.1 h)
      have h1 := I.fresh v hv
      rw [he2] at h1
      obtain ⟨j, hj, hje⟩ := List.mem_iff_getElem.1 (hs' y hy)
      obtain ⟨_, g3, g4⟩ := R.inn rfl
      have h2 := (g4 j hj).1
      rw [hje, he] at h2
      have h3 := (bel_is (m := 19) h2).1
      have hkc : k < c.length := by have := g3 y (hs' y hy); rw [he] at this; omega
      rw [cellT_at hkc] at h3
      rw [usedC_at hkc, decide_eq_true h3] at h1
      cases h1
    have htold : toldL false (it.take i ++ L1 ++ it.drop (i + 1)) = (it.take i).map (·.2) ++ L1.map (·.2) ++ (it.drop (i + 1)).map (·.2) := by
      show (it.take i ++ L1 ++ it.drop (i + 1)).map Prod.snd = _
      rw [List.map_append, List.map_append]
    rw [htold, List.count_append, List.count_append]
    cases hin : inL (L1.map (·.2)) (k : Int)
    · have h0 : (L1.map (·.2)).count (k : Int) = 0 := by
        rw [List.count_eq_zero]
        intro hm
        rw [inL_iff.2 hm] at hin
        cases hin
      rw [h0]
      simp
    · rw [hzero hin _ hAm, hzero hin _ (fun y hy => List.mem_of_mem_drop hy)]
      simp
      omega
theorem del_ok {keep : Int} : ∀ (m : Nat) (c : List HC) (p : Int) (key : Int) (e : Int), m ≤ 20 → rightH ⟨c, keep⟩ = true → (∀ k (hk : k < c.length), c[k].ref ≤ 1000000) → 0 ≤ p → p < c.length → (bel c m p).is = true → (bel c 20 p).hi < e → (∃ z ∈ listB c 20 p, z.1 = key) →
    (bel c 20 p).high ≤ (c.countP freeC : Nat) → ∃ a, DelR c keep p key e (delS m c p key).1 (delS m c p key).2 a
  | 0, _, _, _, _, _, _, _, _, _, hb, _, _, _ => (bel_zero hb).elim
  | m + 1, c, p, key, e, hm, hr, hs, h0, h1, hb, he, hin, hf => by
    obtain ⟨k, rfl⟩ := Int.eq_ofNat_of_zero_le h0
    have hk : k < c.length := by omega
    have hb20 : (bel c 20 (k : Int)).is = true := by rw [bel_mono c (m + 1) 20 _ hb hm]; exact hb
    obtain ⟨hrf, hc⟩ := bel_is hb
    rw [cellT_at hk] at hrf hc
    have hok := cell_ok ((rightH_iff hr).2 k hk) hrf
    rcases hc with ⟨hlf, _⟩ | ⟨hlf, _, hch⟩
    · exact (del_leaf hk hr hs hb20 he hf hin hlf).1
    · obtain ⟨hi, _⟩ := at_low hok.1 key
      have hcm : childT c[k].it key ∈ c[k].it := by
        have : childT c[k].it key = c[k].it[(atI false c[k].it key).toNat] := itD_at hi
        rw [this]; exact List.getElem_mem hi
      exact (del_other hk hr hs hb20 he hf hin hlf (fun e' h2 h3 h4 => del_ok m c _ key e' (by omega) hr hs (hok.2 hlf _ hcm).1 (hok.2 hlf _ hcm).2 (hch _ hcm).1 h2 h3 h4)).1
end Go.Proofs.Ytbfbpddfcakieaa
