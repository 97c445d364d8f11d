/- Walks of Right and May of the reference of layer 7 (over the contract of below: TreeW6, which has open cases). What is in a tree behind items that are put, as a row of items alone. Each node that is laid where a tree is made anew: that it can be laid. -/
import Derived.Test.YtlbhcakjcklmgaaK13
import Derived.Test.YtlbhcakjcklmgaaK11
import Derived.Test.YtlbhcakjcklmgaaK03
import Derived.Test.YtlbhcakjcklmgaaK10
namespace Go.Proofs.Ytlbhcakjcklmgaa
open Go.RowKit
attribute [local go_sem ↓] Go.wp_at_zero Go.wp_at_succ

set_option maxRecDepth 100000 in
set_option maxHeartbeats 1600000 in
theorem ref07Right_any (R : Option Addr) (l : List HC) (n q : Nat) (keep p : Int) (w : World) (hl : AllR l) (hn : l.length ≤ 2000) (hA : HcSl w R n q l) :
    Calls Try.prog 30 #[.agg #[.slice R n q, .int .i64 keep], .int .i64 p] w fun e w' => e = .returned (.bool (rightR ⟨l, keep⟩ p)) ∧ Ext w w' := by
  have HX := Lib.hid ((Ext.refl w).alloc (.cells #[.slice R n q, .int .i64 keep] 24))
  have hb := Bx.new w #[.slice R n q, .int .i64 keep] 24
  have HB := Lib.hid hb
  have HU := Lib.hid (fun w' (hx : Ext w w') => ref05Used_any R l n q keep p w' (hA.ext hx))
  obtain ⟨b0, b1, b2⟩ := hb.read2
  clear hb
  by_cases h1 : p = -1
  · have HE := Lib.hid (show rightR ⟨l, keep⟩ p = true by unfold rightR; rw [decide_eq_true h1]; rfl)
    subst h1
    clear hA
    go_enter Try.func30, Try.ntmps30
    go_wp2
    go_ret
    exact ⟨ret_bool HE.out.symm, HX.out⟩
  have d0 : (p == -1) = false := by rw [beq_eq_false_iff_ne]; exact h1
  have d1 : decide (p = -1) = false := decide_eq_false h1
  have hrr : rightR ⟨l, keep⟩ p = (usedC l p && (bel l 20 p).is) := by unfold rightR; rw [d1]; rfl
  cases hu : usedC l p
  · rw [hu] at HU hrr
    have HE := Lib.hid (show rightR ⟨l, keep⟩ p = false from hrr)
    clear hA hrr hu
    go_enter Try.func30, Try.ntmps30
    go_wp2_with (go_at_call 42; refine (HU.out _ HX.out).mono ?_; rintro e w1 ⟨rfl, hx⟩; have HX1 := Lib.hid (HX.out.trans hx); clear b0 b1 b2; obtain ⟨b0, b1, b2⟩ := (HB.out.ext hx).read2; clear hx)
    go_ret
    exact ⟨ret_bool HE.out.symm, HX1.out⟩
  · rw [hu] at HU hrr
    obtain ⟨k, hk, hpk, _⟩ := usedC_iff hu
    have HBL := Lib.hid (fun w' (hx : Ext w w') => ref07below_any l hl hn 19 p R n q keep w' (by omega) (by omega) (by omega) (hA.ext hx))
    have HE := Lib.hid (show rightR ⟨l, keep⟩ p = (bel l 20 p).is from hrr)
    unfold gv at HBL
    generalize bel l (19 + 1) p = g at *
    generalize rightR ⟨l, keep⟩ p = rr at *
    clear hA hrr hu hpk
    go_enter Try.func30, Try.ntmps30
    go_wp2_with (first
      | (go_at_call 42; refine (HU.out _ HX.out).mono ?_; rintro e w1 ⟨rfl, hx⟩; have HX1 := Lib.hid (HX.out.trans hx); clear b0 b1 b2; obtain ⟨b0, b1, b2⟩ := (HB.out.ext hx).read2; clear hx)
      | (go_at_call 43; refine (HBL.out _ HX1.out).mono ?_; rintro e w2 ⟨rfl, hx⟩; have HX2 := Lib.hid (HX1.out.trans hx); clear hx))
    go_ret
    exact ⟨ret_bool HE.out.symm, HX2.out.alloc _⟩
def mayR (h : Hp) (root most : Int) : Bool := mayH h most && rightR h root
theorem may_all {l : List HC} {keep most : Int} (h : mayH ⟨l, keep⟩ most = true) : AllR l ∧ l.length ≤ 2000 := by
  unfold mayH at h
  rw [Bool.and_eq_true] at h
  have h1 := rightH_iff h.2
  exact ⟨h1.2, h1.1.1.2⟩
end Go.Proofs.Ytlbhcakjcklmgaa
namespace Go.Proofs.Ytlbhcakjcklmgaa
open Go.RowKit

/-- Rows that rise, with the same items, are the same. -/
theorem asc_ext : ∀ {a b : List It}, Asc a → Asc b → (∀ z, z ∈ a ↔ z ∈ b) → a = b
  | [], [], _, _, _ => rfl
  | [], y :: b, _, _, h => by have := (h y).2 List.mem_cons_self; cases this
  | x :: a, [], _, _, h => by have := (h x).1 List.mem_cons_self; cases this
  | x :: a, y :: b, ha, hb, h => by
    have ha1 := List.pairwise_cons.1 ha
    have hb1 := List.pairwise_cons.1 hb
    have e : x = y := by
      rcases List.mem_cons.1 ((h x).1 List.mem_cons_self) with e | e
      · exact e
      · rcases List.mem_cons.1 ((h y).2 List.mem_cons_self) with e2 | e2
        · exact e2.symm
        · have h1 := hb1.1 x e
          have h2 := ha1.1 y e2
          omega
    subst e
    rw [asc_ext ha1.2 hb1.2 (fun z => ⟨fun hz => by
      rcases List.mem_cons.1 ((h z).1 (List.mem_cons_of_mem _ hz)) with e | e
      · subst e; have := ha1.1 z hz; omega
      · exact e, fun hz => by
      rcases List.mem_cons.1 ((h z).2 (List.mem_cons_of_mem _ hz)) with e | e
      · subst e; have := hb1.1 z hz; omega
      · exact e⟩)]
/-- A row with an item more, instead of the one of its key. -/
def insL (L : List It) (x : It) : List It := L.filter (fun y => decide (y.1 < x.1)) ++ x :: L.filter (fun y => decide (x.1 < y.1))
theorem insL_mem {L : List It} {x z : It} : z ∈ insL L x ↔ z = x ∨ (z ∈ L ∧ z.1 ≠ x.1) := by
  unfold insL
  simp only [List.mem_append, List.mem_cons, List.mem_filter, decide_eq_true_eq]
  constructor
  · rintro (⟨h1, h2⟩ | h | ⟨h1, h2⟩)
    · exact .inr ⟨h1, by omega⟩
    · exact .inl h
    · exact .inr ⟨h1, by omega⟩
  · rintro (h | ⟨h1, h2⟩)
    · exact .inr (.inl h)
    · rcases Int.lt_or_gt_of_ne h2 with h | h
      · exact .inl ⟨h1, h⟩
      · exact .inr (.inr ⟨h1, h⟩)
theorem insL_asc {L : List It} (h : Asc L) (x : It) : Asc (insL L x) := by
  unfold insL Asc
  rw [List.pairwise_append]
  refine ⟨List.Pairwise.filter _ h, List.pairwise_cons.2 ⟨fun y hy => ?_, List.Pairwise.filter _ h⟩, fun a ha b hb => ?_⟩
  · simpa using (List.mem_filter.1 hy).2
  · have h1 : a.1 < x.1 := by simpa using (List.mem_filter.1 ha).2
    rcases List.mem_cons.1 hb with e | e
    · subst e; exact h1
    · have h2 : x.1 < b.1 := by simpa using (List.mem_filter.1 e).2
      omega
theorem insL_len (L : List It) (x : It) : (insL L x).length ≤ L.length + 1 := by
  unfold insL
  rw [List.length_append, List.length_cons]
  have h : ∀ L : List It, (L.filter (fun y => decide (y.1 < x.1))).length + (L.filter (fun y => decide (x.1 < y.1))).length ≤ L.length := by
    intro L
    induction L with
    | nil => simp
    | cons y r ih =>
      rw [List.filter_cons, List.filter_cons]
      by_cases h1 : y.1 < x.1
      · have h2 : ¬ x.1 < y.1 := by omega
        simp [h1, h2]; omega
      · by_cases h2 : x.1 < y.1
        · simp [h1, h2]; omega
        · simp [h1, h2]; omega
  have := h L
  omega
theorem insL_twice {L : List It} {x y : It} (h : Asc L) (e : x.1 = y.1) : insL (insL L x) y = insL L y :=
  asc_ext (insL_asc (insL_asc h x) y) (insL_asc h y) (fun z => by
    rw [insL_mem, insL_mem, insL_mem]
    constructor
    · rintro (h | ⟨h | h, h2⟩)
      · exact .inl h
      · subst h; exact absurd e h2
      · exact .inr ⟨h.1, h2⟩
    · rintro (h | ⟨h, h2⟩)
      · exact .inl h
      · exact .inr ⟨.inr ⟨h, by rw [e]; exact h2⟩, h2⟩)
theorem insL_swap {L : List It} {x y : It} (h : Asc L) (e : x.1 ≠ y.1) : insL (insL L x) y = insL (insL L y) x :=
  asc_ext (insL_asc (insL_asc h x) y) (insL_asc (insL_asc h y) x) (fun z => by
    rw [insL_mem, insL_mem, insL_mem, insL_mem]
    constructor
    · rintro (h | ⟨h | h, h2⟩)
      · subst h; exact .inr ⟨.inl rfl, fun e' => e e'.symm⟩
      · exact .inl h
      · exact .inr ⟨.inr ⟨h.1, h2⟩, h.2⟩
    · rintro (h | ⟨h | h, h2⟩)
      · subst h; exact .inr ⟨.inl rfl, e⟩
      · exact .inl h
      · exact .inr ⟨.inr ⟨h.1, h2⟩, h.2⟩)
theorem insL_len_same {L : List It} {x y : It} (e : x.1 = y.1) : (insL L x).length = (insL L y).length := by
  unfold insL; rw [e, List.length_append, List.length_append, List.length_cons, List.length_cons]
/-- What a key tells in a row. -/
def getF (L : List It) (key : Int) : Option Int := (L.find? (fun x => decide (x.1 = key))).map (·.2)
theorem find_filter {p q : It → Bool} (h : ∀ y, q y = true → p y = true) : ∀ (L : List It), (L.filter p).find? q = L.find? q
  | [] => rfl
  | y :: r => by
    rw [List.filter_cons]
    by_cases hp : p y = true
    · rw [if_pos hp, List.find?_cons, List.find?_cons, find_filter h r]
    · rw [if_neg hp, find_filter h r, List.find?_cons]
      have : q y = false := by cases hq : q y; · rfl
                               · exact absurd (h y hq) hp
      rw [this]
theorem find_none {p q : It → Bool} (h : ∀ y, p y = true → q y = false) : ∀ (L : List It), (L.filter p).find? q = none := by
  intro L
  rw [List.find?_eq_none]
  intro y hy
  rw [h y (List.mem_filter.1 hy).2]
  simp
theorem getF_ins (L : List It) (x : It) (key : Int) : getF (insL L x) key = if x.1 = key then some x.2 else getF L key := by
  unfold getF insL
  rw [List.find?_append, List.find?_cons]
  by_cases h : x.1 = key
  · rw [find_none (fun y hy => by simp only [decide_eq_true_eq] at hy; exact decide_eq_false (by omega))]
    simp [h]
  · rw [if_neg h, decide_eq_false h]
    simp only
    rcases Int.lt_or_gt_of_ne h with h2 | h2
    · rw [find_none (fun y hy => by simp only [decide_eq_true_eq] at hy; exact decide_eq_false (by omega)), Option.none_or, find_filter (fun y hy => by simp only [decide_eq_true_eq] at hy ⊢; omega)]
    · rw [find_filter (fun y hy => by simp only [decide_eq_true_eq] at hy ⊢; omega)]
      cases hf : L.find? (fun x => decide (x.1 = key)) with
      | some z => rfl
      | none =>
        rw [Option.none_or, find_none (fun y hy => by simp only [decide_eq_true_eq] at hy; exact decide_eq_false (by omega))]
theorem getT_F (l : List HC) (root key : Int) : getT l root key = getF (listT l root) key := rfl
/-- The items of a right tree rise. -/
theorem listT_rise {c : List HC} {keep root : Int} (hr : rightH ⟨c, keep⟩ = true) (hb : rightR ⟨c, keep⟩ root = true) : Asc (listT c root) := by
  unfold listT
  rcases rightR_iff hb with h | ⟨h0, h1, h2⟩
  · rw [if_pos h]; exact List.Pairwise.nil
  · rw [if_neg (by omega)]; exact (listB_spans c (allR_of hr) 20 root h0 h1 h2).asc
theorem fine_room {c : List HC} {keep root most : Int} {x : It} {deep : Bool} (hf : fineB ⟨c, keep⟩ root most = true) (h0 : (putR ⟨c, keep⟩ root x deep).2.2 = 0) :
    okIt x ∧ highT c root < 20 ∧ 2 * highT c root + 1 ≤ (c.countP freeC : Nat) ∧ putR ⟨c, keep⟩ root x deep = ((putG c root x).1, (putG c root x).2, 0) := by
  obtain ⟨hx, hh, hn, e⟩ := put_zero h0
  obtain ⟨hm, _, _⟩ := fine_may hf
  have h2 : highT c root ≠ 20 := hh
  have hb : highT c root ≤ 20 := by unfold highT; split; · omega
                                    · exact (bel_high c 20 root).2
  exact ⟨hx, by omega, fits_free (may_keep hm).1 hn, e⟩
/-- What is in the tree behind what is put. -/
theorem put_list {c : List HC} {keep root most : Int} {x : It} {deep : Bool} (hmost : most ≤ 60) (hf : fineB ⟨c, keep⟩ root most = true) (h0 : (putR ⟨c, keep⟩ root x deep).2.2 = 0) :
    fineB ⟨(putR ⟨c, keep⟩ root x deep).1, keep⟩ (putR ⟨c, keep⟩ root x deep).2.1 most = true ∧ listT (putR ⟨c, keep⟩ root x deep).1 (putR ⟨c, keep⟩ root x deep).2.1 = insL (listT c root) x ∧ 0 ≤ (putR ⟨c, keep⟩ root x deep).2.1 := by
  have h1 := fine_next hmost hf h0
  refine ⟨h1, ?_⟩
  obtain ⟨hx, hh, hn, e⟩ := fine_room hf h0
  rw [e] at h1 ⊢
  simp only at h1 ⊢
  obtain ⟨hm, hb, _⟩ := fine_may hf
  obtain ⟨hm2, hb2, _⟩ := fine_may h1
  obtain ⟨a, P, _⟩ := fine_put hmost hf hx hh hn
  have hl : listT (putG c root x).1 (putG c root x).2 = listB (putG c root x).1 20 (putG c root x).2 := by unfold listT; rw [if_neg (by have := P.place.1; omega)]
  refine ⟨asc_ext (listT_rise (may_iff hm2).2.2 hb2) (insL_asc (listT_rise (may_iff hm).2.2 hb) x) (fun z => ?_), P.place.1⟩
  rw [hl, P.mem z, insL_mem]
theorem put_err {h : Hp} {root : Int} {x : It} {deep : Bool} (h0 : (putR h root x deep).2.2 ≠ 0) : (putR h root x deep).1 = h.c ∧ (putR h root x deep).2.1 = root ∧ ((putR h root x deep).2.2 = 1 ∨ (putR h root x deep).2.2 = 3) ∧ (okIt x → (putR h root x deep).2.2 = 3) := by
  unfold putR at h0 ⊢
  split
  · rename_i hok
    rw [if_pos hok] at h0
    split
    · exact ⟨rfl, rfl, .inr rfl, fun _ => rfl⟩
    · rename_i hf
      rw [if_neg hf] at h0
      exact absurd rfl h0
  · rename_i hok
    exact ⟨rfl, rfl, .inl rfl, fun h => absurd h hok⟩
/-- What Fill comes to. -/
theorem fill_fine {keep most : Int} (hmost : most ≤ 60) : ∀ (it : List It) (c : List HC) (root : Int), fineB ⟨c, keep⟩ root most = true →
    fineB ⟨(fillR keep it c root).1, keep⟩ (fillR keep it c root).2.1 most = true ∧ ((fillR keep it c root).2.2 = 0 ∨ (fillR keep it c root).2.2 = 1 ∨ (fillR keep it c root).2.2 = 3) ∧
    ((fillR keep it c root).2.2 = 0 → listT (fillR keep it c root).1 (fillR keep it c root).2.1 = it.foldl insL (listT c root) ∧ (it ≠ [] → 0 ≤ (fillR keep it c root).2.1) ∧ (it = [] → (fillR keep it c root).2.1 = root))
  | [], c, root, hf => ⟨hf, .inl rfl, fun _ => ⟨rfl, fun h => absurd rfl h, fun _ => rfl⟩⟩
  | x :: r, c, root, hf => by
    rw [fillR]
    by_cases h0 : (putR ⟨c, keep⟩ root x false).2.2 = 0
    · rw [if_pos h0]
      obtain ⟨h1, h2, h3⟩ := put_list hmost hf h0
      obtain ⟨i1, i2, i3⟩ := fill_fine hmost r _ _ h1
      refine ⟨i1, i2, fun he => ?_⟩
      obtain ⟨j1, j2, j3⟩ := i3 he
      refine ⟨by rw [j1, h2]; rfl, fun _ => ?_, fun e => by cases e⟩
      by_cases hr : r = []
      · rw [j3 hr]; exact h3
      · exact j2 hr
    · rw [if_neg h0]
      obtain ⟨_, _, h3, _⟩ := put_err h0
      refine ⟨hf, .inr ?_, fun he => absurd he h0⟩
      exact h3
theorem fill_append {keep : Int} : ∀ (a b : List It) (c : List HC) (root : Int), (fillR keep (a ++ b) c root).2.2 = 0 →
    (fillR keep a c root).2.2 = 0 ∧ fillR keep (a ++ b) c root = fillR keep b (fillR keep a c root).1 (fillR keep a c root).2.1
  | [], b, c, root, _ => ⟨rfl, rfl⟩
  | x :: a, b, c, root, h => by
    rw [List.cons_append, fillR] at h ⊢
    rw [fillR]
    by_cases h0 : (putR ⟨c, keep⟩ root x false).2.2 = 0
    · rw [if_pos h0] at h ⊢
      rw [if_pos h0]
      exact fill_append a b _ _ h
    · rw [if_neg h0] at h
      exact absurd h h0
/-- The last one of a key. -/
def lastV (key : Int) (o : Option Int) (l : List It) : Option Int := l.foldl (fun o y => if y.1 = key then some y.2 else o) o
theorem getF_fold (key : Int) : ∀ (l L : List It), getF (l.foldl insL L) key = lastV key (getF L key) l
  | [], L => rfl
  | x :: r, L => by
    rw [List.foldl_cons, getF_fold key r, getF_ins]; rfl
theorem lastV_append (key : Int) (o : Option Int) (a b : List It) : lastV key o (a ++ b) = lastV key (lastV key o a) b := by unfold lastV; rw [List.foldl_append]
theorem lastV_self {l : List It} {i : Nat} (hi : i < l.length) (o : Option Int) : lastV l[i].1 o l = lastV l[i].1 (some l[i].2) (l.drop i) := by
  have h := congrArg (lastV l[i].1 o) (List.take_append_drop i l).symm
  rw [h, lastV_append, List.drop_eq_getElem_cons hi]
  unfold lastV
  rw [List.foldl_cons, List.foldl_cons, if_pos rfl, if_pos rfl]
theorem fold_len : ∀ (l L : List It), (l.foldl insL L).length ≤ L.length + l.length
  | [], L => by simp
  | x :: r, L => by
    rw [List.foldl_cons, List.length_cons]
    have h1 := fold_len r (insL L x)
    have h2 := insL_len L x
    omega
/-- A new heap. -/
theorem new_fine {n : Nat} {most : Int} (h1 : 1 ≤ n) (h2 : (n : Int) ≤ most) (hmost : most ≤ 60) : newH n 0 = ⟨List.replicate n HC.none, 0⟩ ∧ newHE n 0 = 0 ∧ fineB ⟨List.replicate n HC.none, 0⟩ (-1) most = true := by
  have hok : newOk n 0 := ⟨⟨by omega, by omega⟩, by omega, by omega⟩
  refine ⟨by unfold newH; rw [if_pos hok, Int.toNat_natCast], by unfold newHE; rw [if_pos hok], ?_⟩
  have hr : rightH ⟨List.replicate n HC.none, 0⟩ = true := by
    unfold rightH
    rw [Bool.and_eq_true, decide_eq_true_eq]
    refine ⟨⟨⟨by simpa using h1, by simp; omega⟩, by simp, by simp⟩, ?_⟩
    rw [List.all_eq_true]
    intro x hx
    rw [(List.mem_replicate.1 hx).2]
    rfl
  have hin : ∀ k, inn (List.replicate n HC.none) k = 0 := fun k => by
    unfold inn
    rw [List.map_replicate]
    have : (tellC HC.none).count k = 0 := rfl
    rw [this]
    induction n with
    | zero => rfl
    | succ m ih => rw [List.replicate_succ]; simp
  unfold fineB mayT mayH
  simp only [Bool.and_eq_true]
  refine ⟨⟨⟨?_, hr⟩, by unfold rightR; simp⟩, sound_of hr (fun k hk => ?_) (fun k hk h0 => ?_)⟩
  · unfold smallH
    rw [Bool.and_eq_true, decide_eq_true_eq, List.all_eq_true]
    refine ⟨by simpa using h2, fun x hx => ?_⟩
    rw [(List.mem_replicate.1 hx).2]
    rfl
  · rw [hin, List.getElem_replicate]
    unfold rootE
    rw [if_neg (by omega)]
    rfl
  · rw [List.getElem_replicate] at h0
    exact absurd h0 (by decide)
end Go.Proofs.Ytlbhcakjcklmgaa
namespace Go.Proofs.Ytlbhcakjcklmgaa
open Go.RowKit

/-- Rows can be laid, one behind the other. -/
def okS (keep : Int) (leaf : Bool) (held : List Int) : List (List It) → List HC → Prop
  | [], _ => True
  | r :: rs, c => rightH ⟨c, keep⟩ = true ∧ allocE c leaf r = 0 ∧ okS keep leaf held rs (allocL c leaf r held)
theorem lay_oks {keep : Int} (leaf : Bool) (held : List Int) (h : Int) : ∀ (rows : List (List It)) (c : List HC) (e : Int), rightH ⟨c, keep⟩ = true → (∀ k (hk : k < c.length), c[k].ref ≤ 1999990000 - 4 * (rows.length : Int)) → rows.length ≤ 1000 → RowOK c leaf h rows.flatten e →
    (∀ r ∈ rows, 1 ≤ r.length ∧ r.length ≤ 4) → rows.length ≤ c.countP freeC → okS keep leaf held rows c
  | [], c, e, hr, _, _, _, _, _ => trivial
  | r :: rs, c, e, hr, hs, hn, H, hlen, hf => by
    rw [List.flatten_cons] at H
    obtain ⟨Hr, Hs⟩ := rowOK_app H
    obtain ⟨l1, l4⟩ := hlen r List.mem_cons_self
    simp only [List.length_cons] at hf hs hn
    obtain ⟨h0, q, hq, La⟩ := laid held hr (fun k hk => by have := hs k hk; omega) (Hr.good hr l1 l4) (by omega)
    have hal := allR_of hr
    exact ⟨hr, h0, lay_oks leaf held h rs (allocL c leaf r held) e La.right (fun k hk => by
      have hk' : k < c.length := by rw [La.keeps.len] at hk; exact hk
      have h1 := La.refs k hk' hk
      have h2 := hs k hk'
      split at h1 <;> omega) (by omega) (Hs.keeps La.keeps hal) (fun x hx => hlen x (List.mem_cons_of_mem _ hx)) (by have := La.free; omega)⟩
def anewO (keep : Int) : Nat → List HC → Int → It → Prop
  | 0, _, _, _ => True
  | m + 1, c, p, x => if (cellT c p).leaf then okS keep true [] (splitS (withS (cellT c p).it (atI true (cellT c p).it x.1).toNat (if atB (cellT c p).it x.1 then 1 else 0) [x])) c
    else anewO keep m c (childT (cellT c p).it x.1).2 x ∧ okS keep false ((anewS m c (childT (cellT c p).it x.1).2 x).2.map (·.2)) (splitS (withS (cellT c p).it (atI false (cellT c p).it x.1).toNat 1 (anewS m c (childT (cellT c p).it x.1).2 x).2)) (anewS m c (childT (cellT c p).it x.1).2 x).1
theorem anewO_leaf {keep : Int} {c : List HC} {k : Nat} (hk : k < c.length) {m : Nat} {x : It} {e : Int} (hr : rightH ⟨c, keep⟩ = true) (hs : ∀ k (hk : k < c.length), c[k].ref ≤ 1000000) (hx : okIt x) (hb : (bel c 20 (k : Int)).is = true)
    (he : (bel c 20 (k : Int)).hi < e) (hxe : x.1 < e) (hf : 2 * (bel c 20 (k : Int)).high ≤ (c.countP freeC : Nat)) (hlf : c[k].leaf = true) : anewO keep (m + 1) c (k : Int) x := by
  obtain ⟨R, hlo, hli, hnd⟩ := row_of_bel hr hk hb he
  rw [hlf] at R hli
  obtain ⟨hH, hasc, hlt⟩ := R.lf rfl
  rw [conts_leaf] at hli
  have W := with_leaf hnd x hx hlt hxe
  simp only at W
  have hdef : anewO keep (m + 1) c (k : Int) x = okS keep true [] (splitS (withS c[k].it (atI true c[k].it x.1).toNat (if atB c[k].it x.1 then 1 else 0) [x])) c := by
    rw [anewO, cellT_at hk, hlf, if_pos rfl]
  rw [hdef]
  generalize withS c[k].it (atI true c[k].it x.1).toNat (if atB c[k].it x.1 then 1 else 0) [x] = xs at *
  obtain ⟨⟨w1, w5⟩, w2, w3, w4, w6, w7⟩ := W
  obtain ⟨s1, s2, s3, s4⟩ := split_rows w1 w5
  exact lay_oks (keep := keep) true [] 1 (splitS xs) c e hr (fun k hk => by have := hs k hk; omega) (by omega) (by rw [s1]; exact ⟨w3, fun _ => ⟨rfl, w2, w4⟩, fun h => by cases h⟩) s2 (by omega)
theorem anewO_other {keep : Int} {c : List HC} {k : Nat} (hk : k < c.length) {m : Nat} {x : It} {e : Int} (hr : rightH ⟨c, keep⟩ = true) (hs : ∀ k (hk : k < c.length), c[k].ref ≤ 1000000) (hb : (bel c 20 (k : Int)).is = true)
    (he : (bel c 20 (k : Int)).hi < e) (hxe : x.1 < e) (hf : 2 * (bel c 20 (k : Int)).high ≤ (c.countP freeC : Nat)) (hlf : c[k].leaf = false)
    (iho : anewO keep m c (childT c[k].it x.1).2 x) (ih : ∀ e', (bel c 20 (childT c[k].it x.1).2).hi < e' → x.1 < e' → 2 * (bel c 20 (childT c[k].it x.1).2).high ≤ (c.countP freeC : Nat) → ∃ a, AnewR c keep (childT c[k].it x.1).2 x e' (anewS m c (childT c[k].it x.1).2 x).1 (anewS m c (childT c[k].it x.1).2 x).2 a) :
    anewO keep (m + 1) c (k : Int) x := by
  obtain ⟨R, hlo, hli, hnd⟩ := row_of_bel hr hk hb he
  rw [hlf] at R hli
  have hal := allR_of hr
  have hdef : anewO keep (m + 1) c (k : Int) x = (anewO keep m c (childT c[k].it x.1).2 x ∧ okS keep false ((anewS m c (childT c[k].it x.1).2 x).2.map (·.2)) (splitS (withS c[k].it (atI false c[k].it x.1).toNat 1 (anewS m c (childT c[k].it x.1).2 x).2)) (anewS m c (childT c[k].it x.1).2 x).1) := by
    rw [anewO, cellT_at hk, hlf, if_neg (by simp)]
  rw [hdef]
  refine ⟨iho, ?_⟩
  clear iho hdef
  obtain ⟨hi, hle⟩ := at_low hnd x.1
  have hnx := fun hj => at_next hnd x.1 (hi := hj)
  have hch : childT c[k].it x.1 = c[k].it[(atI false c[k].it x.1).toNat] := itD_at hi
  obtain ⟨H, hH⟩ : ∃ H, (bel c 20 (k : Int)).high = H := ⟨_, rfl⟩
  rw [hH] at R hf
  generalize (atI false c[k].it x.1).toNat = i at *
  generalize c[k].it = it at *
  obtain ⟨w, hw⟩ : ∃ w, it[i] = w := ⟨_, rfl⟩
  rw [hw] at hch hle
  rw [hch] at ih ⊢
  have hit : it = it.take i ++ (w :: it.drop (i + 1)) := by
    rw [← hw, ← List.drop_eq_getElem_cons hi, List.take_append_drop]
  have hwith : ∀ L, withS it i 1 L = it.take i ++ L ++ it.drop (i + 1) := fun L => rfl
  have hAl : (it.take i).length = i := by rw [List.length_take]; omega
  have hBl : (it.drop (i + 1)).length = it.length - (i + 1) := by rw [List.length_drop]
  have hl4 := hnd.1.2
  have hAm : ∀ y ∈ it.take i, y ∈ it := fun y hy => List.mem_of_mem_take hy
  have hBn : ∀ d, headK (it.drop (i + 1)) d = if h : i + 1 < it.length then it[i + 1].1 else d := fun d => by
    split
    · rename_i h; rw [List.drop_eq_getElem_cons h]; rfl
    · rw [List.drop_of_length_le (by omega)]; rfl
  have hascI := asc_of hnd
  have hBk : ∀ y ∈ it.drop (i + 1), x.1 < y.1 := fun y hy => by
    obtain ⟨j, hj, rfl⟩ := List.mem_iff_getElem.1 hy
    have hj2 : i + 1 + j < it.length := by omega
    rw [List.getElem_drop]
    have h1 := hnx (by omega)
    rcases Nat.eq_zero_or_pos j with h | h
    · subst h; simpa using h1
    · have := hnd.rise (i + 1 + j) (i + 1) hj2 (by omega); omega
  have hfirst : firstK it = headK (it.take i ++ [w]) 0 := by
    conv => lhs; rw [hit]
    cases it.take i with
    | nil => rfl
    | cons y r => rfl
  have R0 := R
  rw [hit] at R0
  obtain ⟨RA, RB⟩ := rowOK_app R0
  obtain ⟨RW, RBs⟩ := rowOK_app (show RowOK c false H ([w] ++ it.drop (i + 1)) e from RB)
  obtain ⟨⟨hH2, hH20⟩, hwp, hwr⟩ := RW.inn rfl
  have hw1 := hwr 0 (by simp)
  simp only [List.getElem_cons_zero, nextT_zero] at hw1
  obtain ⟨wis, whi, wlo, wlt⟩ := hw1
  have hxB : x.1 < headK (it.drop (i + 1)) e := by
    rcases head_or (l := it.drop (i + 1)) e with ⟨_, h⟩ | ⟨y, r, h1, h⟩
    · rw [h]; exact hxe
    · rw [h]; exact hBk y (by rw [h1]; exact List.mem_cons_self)
  have hBe : headK (it.drop (i + 1)) e ≤ e := by
    rcases head_or (l := it.drop (i + 1)) e with ⟨_, h⟩ | ⟨y, r, h1, h⟩
    · rw [h]; exact Int.le_refl _
    · rw [h]; exact Int.le_of_lt ((RBs.asc hr).2 y (by rw [h1]; exact List.mem_cons_self))
  obtain ⟨a1, I⟩ := ih (headK (it.drop (i + 1)) e) wlt hxB (by omega)
  generalize anewS m c w.2 x = S at *
  obtain ⟨c1, L1⟩ := S
  simp only at I ⊢
  rw [hwith]
  have hr1 := I.right
  have hl1 := allR_of hr1
  have RA1 := RA.keeps I.keeps hal
  have RB1 := RBs.keeps I.keeps hal
  have hLne : ∃ y r, L1 = y :: r := by
    cases L1 with
    | nil => have := I.len.1; simp at this
    | cons y r => exact ⟨y, r, rfl⟩
  have hhead := I.head
  rw [wlo] at hhead
  have RL : RowOK c1 false H L1 (headK (it.drop (i + 1)) e) := by
    refine ⟨fun y hy => ?_, (fun h => by cases h), fun _ => ⟨⟨hH2, hH20⟩, fun y hy => by rw [I.keeps.len]; exact (I.place y hy).2, fun j hj => ?_⟩⟩
    · obtain ⟨j, hj, rfl⟩ := List.mem_iff_getElem.1 hy
      exact key_ok hr1 (I.place _ hy).1 (by rw [I.keeps.len]; exact (I.place _ hy).2) (I.row j hj).1 (I.row j hj).2.2.1
    · obtain ⟨b1, b2, b3, b4⟩ := I.row j hj
      exact ⟨b1, by omega, b3, b4⟩
  have RLB : RowOK c1 false H (L1 ++ it.drop (i + 1)) e := rowOK_join hr1 RL RB1 (fun y hy => by have := (RL.asc hr1).2 y hy; omega)
  have hwx : it.take i ≠ [] → w.1 ≤ x.1 := fun hne => hle (by
    rcases Nat.eq_zero_or_pos i with h | h
    · subst h; simp at hne
    · exact h)
  have RX : RowOK c1 false H (it.take i ++ (L1 ++ it.drop (i + 1))) e := by
    by_cases hne : it.take i = []
    · rw [hne, List.nil_append]; exact RLB
    · have hh : headK (L1 ++ it.drop (i + 1)) e = w.1 := by
        obtain ⟨y, r, hy⟩ := hLne
        have h1 := hhead 0
        rw [if_neg (by have := hwx hne; omega)] at h1
        rw [hy] at h1 ⊢
        exact h1
      refine rowOK_join hr1 (by rw [hh]; exact RA1) RLB (fun y hy => ?_)
      exact ((R.asc hr).2 y (hAm y hy))
  rw [← List.append_assoc] at RX
  obtain ⟨s1, s2, s3, s4⟩ := split_rows (xs := it.take i ++ L1 ++ it.drop (i + 1)) (by rw [List.length_append, List.length_append]; have := I.len.1; omega) (by rw [List.length_append, List.length_append, hAl, hBl]; have := I.len.2; omega)
  have hmany := I.many
  have hfree := I.free
  exact lay_oks (keep := keep) false (L1.map (·.2)) H (splitS (it.take i ++ L1 ++ it.drop (i + 1))) c1 e hr1 (fun k hk => by
    have hk' : k < c.length := by rw [I.keeps.len] at hk; exact hk
    have h1 := I.refs k hk' hk
    have h2 := hs k hk'
    have h3 : (a1 : Int) ≤ 40 := by omega
    split at h1 <;> omega) (by omega) (by rw [s1]; exact RX) s2 (by omega)
theorem anewO_ok {keep : Int} : ∀ (m : Nat) (c : List HC) (p : Int) (x : It) (e : Int), m ≤ 20 → rightH ⟨c, keep⟩ = true → (∀ k (hk : k < c.length), c[k].ref ≤ 1000000) → okIt x → 0 ≤ p → p < c.length → (bel c m p).is = true → (bel c 20 p).hi < e → x.1 < e →
    2 * (bel c 20 p).high ≤ (c.countP freeC : Nat) → anewO keep m c p x
  | 0, _, _, _, _, _, _, _, _, _, _, hb, _, _, _ => (bel_zero hb).elim
  | m + 1, c, p, x, e, hm, hr, hs, hx, h0, h1, hb, he, hxe, hf => by
    obtain ⟨k, rfl⟩ := Int.eq_ofNat_of_zero_le h0
    have hk : k < c.length := by omega
    have hb20 : (bel c 20 (k : Int)).is = true := by rw [bel_mono c (m + 1) 20 _ hb hm]; exact hb
    obtain ⟨hrf, hc⟩ := bel_is hb
    rw [cellT_at hk] at hrf hc
    have hok := cell_ok ((rightH_iff hr).2 k hk) hrf
    rcases hc with ⟨hlf, _⟩ | ⟨hlf, _, hch⟩
    · exact anewO_leaf hk hr hs hx hb20 he hxe hf hlf
    · obtain ⟨hi, _⟩ := at_low hok.1 x.1
      have hcd : childT c[k].it x.1 = c[k].it[(atI false c[k].it x.1).toNat] := itD_at hi
      have hcm : childT c[k].it x.1 ∈ c[k].it := by rw [hcd]; exact List.getElem_mem hi
      obtain ⟨Rw, -, -, -⟩ := row_of_bel hr hk hb20 he
      rw [hlf] at Rw
      have hrow := (Rw.inn rfl).2.2 _ hi
      rw [← hcd] at hrow
      obtain ⟨e', he1, he2⟩ : ∃ e', (bel c 20 (childT c[k].it x.1).2).hi < e' ∧ x.1 < e' := by
        rcases Int.lt_or_le (bel c 20 (childT c[k].it x.1).2).hi x.1 with h | h
        · exact ⟨x.1 + 1, by omega, by omega⟩
        · exact ⟨(bel c 20 (childT c[k].it x.1).2).hi + 1, by omega, by omega⟩
      exact anewO_other hk hr hs hb20 he hxe hf hlf (anewO_ok m c _ x e' (by omega) hr hs hx (hok.2 hlf _ hcm).1 (hok.2 hlf _ hcm).2 (hch _ hcm).1 he1 he2 (by omega)) (fun e' h2 h3 h4 => anew_ok m c _ x e' (by omega) hr hs hx (hok.2 hlf _ hcm).1 (hok.2 hlf _ hcm).2 (hch _ hcm).1 h2 h3 h4)
end Go.Proofs.Ytlbhcakjcklmgaa
