/- What the laws of layer 9 ask, of heaps that are fine; contracts with answers that are told. What came in, opened (for seats without bytes); and what came in reads behind the call as it did. A slice that came in, opened to a list, whatever its elements; no program in sight. A struct that came in, of any fields, opened to its cells (for seats without bytes). Items and nodes that came in, opened. Heaps and numbers that came in, opened. Walks of V and Over of the reference of layer 9. The walk of Over of the reference of layer 9. -/
import Derived.Test.YtkoomcbiddanfaaGreatK32
import Derived.Test.YtkoomcbiddanfaaGreatK30
import Derived.Test.YtkoomcbiddanfaaGreatK04
import Derived.Test.YtkoomcbiddanfaaGreatK01
import Derived.Test.YtkoomcbiddanfaaGreatRows
import Derived.ProofKit
import Derived.OpenShut
import Derived.ShutString
import Derived.ChangeOld
import Derived.Deep.Fields
import Derived.Lib.SmallJoins
import Derived.Deep.Slices
import Derived.ChangeSame
import Derived.Test.YtkoomcbiddanfaaGreatK02
import Derived.Test.YtkoomcbiddanfaaGreatK06
namespace Go.Proofs.YtkoomcbiddanfaaGreat
open Go.RowKit

theorem high_bounds (c : List HC) (root : Int) : 0 ≤ highT c root ∧ highT c root ≤ 20 := by
  unfold highT
  split
  · omega
  · exact bel_high c 20 root
theorem mayT_of {h : Hp} {root most : Int} (hf : fineB h root most = true) : mayT h root most = true := by unfold fineB at hf; rw [Bool.and_eq_true] at hf; exact hf.1
theorem fine_all {c : List HC} {keep root most : Int} (hf : fineB ⟨c, keep⟩ root most = true) : AllR c ∧ c.length ≤ 2000 ∧ rightR ⟨c, keep⟩ root = true ∧ mayR ⟨c, keep⟩ root most = true := by
  obtain ⟨h1, h2, h3⟩ := fine_may hf
  have h4 := may_iff h1
  exact ⟨allR_of h4.2.2, by have := (rightH_iff h4.2.2).1.1.2; exact this, h2, mayT_of hf⟩
theorem put_when {c : List HC} {keep root : Int} {x : It} {deep : Bool} (hx : okIt x) : (putR ⟨c, keep⟩ root x deep).2.2 = 0 ∨ (putR ⟨c, keep⟩ root x deep).2.2 = 3 := by
  unfold putR; rw [if_pos hx]; split
  · exact .inr rfl
  · exact .inl rfl
/-- Where it is put, and where it isn't. -/
theorem room_when {c : List HC} {keep root : Int} {x : It} {deep : Bool} (hx : okIt x) : (putR ⟨c, keep⟩ root x deep).2.2 = 0 ↔ (2 * highT c root + 1 ≤ (c.countP freeC : Int) - (if deep then 0 else keep) ∧ highT c root < 20) := by
  have hb := high_bounds c root
  unfold putR
  rw [if_pos hx]
  unfold fitsH freeH
  simp only
  by_cases h1 : highT c root = 20
  · rw [if_pos (.inl h1)]
    simp [h1]
  · by_cases h2 : 2 * highT c root + 1 ≤ (c.countP freeC : Int) - (if deep then 0 else keep)
    · rw [if_neg (by rw [not_or]; exact ⟨h1, by rw [decide_eq_true h2]; simp⟩)]
      simp only [true_iff]
      exact ⟨h2, by omega⟩
    · rw [if_pos (.inr (decide_eq_false h2))]
      constructor
      · intro h; simp at h
      · intro h; exact absurd h.1 h2
/-- How many cells are used. -/
theorem room_uses {c : List HC} {keep root most : Int} {x : It} {deep : Bool} (hmost : most ≤ 60) (hf : fineB ⟨c, keep⟩ root most = true) {c2 : List HC} {r2 : Int} (h : putR ⟨c, keep⟩ root x deep = (c2, r2, 0)) :
    fineB ⟨c2, keep⟩ r2 most = true ∧ (c2.countP freeC : Int) + (if highT c root < 1 then 1 else highT c root) ≤ (c.countP freeC : Int) ∧ (c.countP freeC : Int) ≤ c2.countP freeC + (2 * highT c root + 1) ∧ (highT c2 r2 = highT c root ∨ highT c2 r2 = highT c root + 1) := by
  have h0 : (putR ⟨c, keep⟩ root x deep).2.2 = 0 := by rw [h]
  obtain ⟨hx, hh, hn, e⟩ := fine_room hf h0
  obtain ⟨a, P, F⟩ := fine_put hmost hf hx hh hn
  rw [h] at e
  simp only [Prod.mk.injEq] at e
  obtain ⟨e1, e2, -⟩ := e
  rw [← e1, ← e2] at P F
  have hT : highT c2 r2 = (bel c2 20 r2).high := by unfold highT; rw [if_neg (by have := P.place.1; omega)]
  have h1 := P.free
  have h2 := P.many
  have h3 := P.high
  refine ⟨F, ?_, by omega, by omega⟩
  split <;> omega
section
variable {l : List HC} {R : Option Addr} {n q : Nat} {keep root : Int} {w : World}
theorem growFine_is {r : Bool} (A : Option Addr) (c : Nat) (most : Int) (h : fineB ⟨l, keep⟩ root most = r) (hA : HcSl w R n q l) (hR : Sl w A 1 c ([root].map iv)) :
    Calls Tryz.prog 11 #[.agg #[.slice R n q, .int .i64 keep], .slice A 1 c, .slice none 0 0, .int .i64 most] w fun e w' => e = .returned (.bool r) ∧ Ext w w' := by subst h; exact ref08Fine_one l R n q keep A c root most w hA hR
theorem growPut_is {most : Int} {key val : Int} {deep : Bool} {c2 : List HC} {r2 e2 : Int} (hmost : most ≤ 60) (hm : mayT ⟨l, keep⟩ root most = true) (h : putR ⟨l, keep⟩ root (key, val) deep = (c2, r2, e2)) (hA : HcSl w R n q l) :
    Calls Tryz.prog 6 #[.agg #[.slice R n q, .int .i64 keep], .int .i64 root, .int .i64 key, .int .i64 val, .bool deep] w fun e w' => ∃ S d, e = .returned (.tuple #[.agg #[.slice S n d, .int .i64 keep], .int .i64 r2, .int .i64 e2]) ∧ HcSl w' S n d c2 ∧ Ext w w' := by
  have h1 := growPut_any R l n q keep root most (key, val) deep w hmost hm hA
  rw [h] at h1
  exact h1
theorem growHigh_is {H : Int} (hl : AllR l) (hn : l.length ≤ 2000) (hr : rightR ⟨l, keep⟩ root = true) (h : highT l root = H) (hA : HcSl w R n q l) :
    Calls Tryz.prog 26 #[.agg #[.slice R n q, .int .i64 keep], .int .i64 root] w fun e w' => e = .returned (.int .i64 H) ∧ Ext w w' := by
  subst h
  exact (ref07High_any R l n q keep root w hl hn hr hA).mono (fun e w2 h => ⟨h.1, h.2.2⟩)
theorem growFree_is {f : Nat} (h : l.countP freeC = f) (hA : HcSl w R n q l) :
    Calls Tryz.prog 49 #[.agg #[.slice R n q, .int .i64 keep]] w fun e w' => e = .returned (.int .i64 f) ∧ Ext w w' := by subst h; exact ref05Free_any R l n q keep w hA
theorem growMay_is {r : Bool} (most : Int) (h : mayR ⟨l, keep⟩ root most = r) (hA : HcSl w R n q l) :
    Calls Tryz.prog 5 #[.agg #[.slice R n q, .int .i64 keep], .int .i64 root, .int .i64 most] w fun e w' => e = .returned (.bool r) ∧ Ext w w' := by subst h; exact ref07May_any R l n q keep root most w hA
theorem growList_is {L : List It} {s : Nat} (hl : AllR l) (hn : l.length ≤ 2000) (hr : rightR ⟨l, keep⟩ root = true) (h : listT l root = L) (hs : L.length = s) (hA : HcSl w R n q l) :
    Calls Tryz.prog 16 #[.agg #[.slice R n q, .int .i64 keep], .int .i64 root] w fun e w' => ∃ S d, e = .returned (.slice S s d) ∧ Sl w' S s d (ivs L) ∧ Ext w w' := by
  subst h; subst hs
  refine (ref07List_any R l n q keep keep root w hl hn hr hA).mono ?_
  rintro e w2 ⟨T, s, c, rfl, rfl, h1, h2⟩
  exact ⟨T, c, rfl, h1, h2⟩
theorem growItems_is (A B : Option Addr) (a : List It) (s c c' : Nat) (hs : a.length = s) (hA : Sl w A s c (ivs a)) (hB : Sl w B s c' (ivs a)) :
    Calls Tryz.prog 15 #[.slice A s c, .slice B s c'] w fun e w' => e = .returned (.bool true) ∧ Ext w w' := by
  have h := ref04Items_any A B a a s s c c' w hs.symm hs.symm hA hB
  rw [show sameI a a = true from by unfold sameI; simp] at h
  exact h
theorem growSame_is (S : Option Addr) (m q' : Nat) (hA : HcSl w R n q l) (hB : HcSl w S m q' l) :
    Calls Tryz.prog 10 #[.agg #[.slice R n q, .int .i64 keep], .agg #[.slice S m q', .int .i64 keep]] w fun e w' => e = .returned (.bool true) ∧ Ext w w' := by
  have h := ref05Same_any R S l l n m q q' keep keep w hA hB
  rw [show sameH ⟨l, keep⟩ ⟨l, keep⟩ = true from by unfold sameH; simp] at h
  exact h
end
end Go.Proofs.YtkoomcbiddanfaaGreat
namespace Go.Proofs.YtkoomcbiddanfaaGreat
open Go.ChangeShapes Go.WideShapes Go.ChangeAt Go.RowKit Go.Deep
open Go.ChangeMaps (open_string shut_string)

theorem own : ownKnob Tryz.prog.godebug = none := by kernel_rfl
theorem laidOut : laidOutB Tryz.prog = true := by kernel_rfl

section
variable {H : Type} {enc : TypeId × Value → H} {w : World} {fuel : Nat} {cs : List Value} {x : DataW H × List MemPlace}

theorem wf_u8 {n : Int} (h : (Lit.int .u8 n).wf = true) : 0 ≤ n ∧ n < 256 := by
  have h1 : IntKind.u8.min = 0 := rfl
  have h2 : IntKind.u8.max = 255 := rfl
  simp only [Lit.wf, Bool.and_eq_true, decide_eq_true_eq, h1, h2] at h
  omega
theorem wf_i64 {n : Int} (h : (Lit.int .i64 n).wf = true) : -9223372036854775808 ≤ n ∧ n ≤ 9223372036854775807 := by
  have h1 : IntKind.i64.min = -9223372036854775808 := rfl
  have h2 : IntKind.i64.max = 9223372036854775807 := rfl
  simp only [Lit.wf, Bool.and_eq_true, decide_eq_true_eq, h1, h2] at h
  omega

theorem wf_u32 {n : Int} (h : (Lit.int .u32 n).wf = true) : 0 ≤ n ∧ n < 4294967296 := by
  have h1 : IntKind.u32.min = 0 := rfl
  have h2 : IntKind.u32.max = 4294967295 := rfl
  simp only [Lit.wf, Bool.and_eq_true, decide_eq_true_eq, h1, h2] at h
  omega
theorem wf_u16 {n : Int} (h : (Lit.int .u16 n).wf = true) : 0 ≤ n ∧ n < 65536 := by
  have h1 : IntKind.u16.min = 0 := rfl
  have h2 : IntKind.u16.max = 65535 := rfl
  simp only [Lit.wf, Bool.and_eq_true, decide_eq_true_eq, h1, h2] at h
  omega

theorem array5 {cs : Array Value} (h : cs.size = 5) : ∃ c0 c1 c2 c3 c4, cs = #[c0, c1, c2, c3, c4] := by
  obtain ⟨l⟩ := cs
  match l, h with
  | [c0, c1, c2, c3, c4], _ => exact ⟨c0, c1, c2, c3, c4, rfl⟩

/-- A struct of one-cell fields that came in. -/
theorem open_struct {P : Program} {base : Nat} {spare : Nat → Bool} {held : Bool} {r : Reach} {b0 : Nat} {t : TypeId} {fs : Array Field} {v : Value} {d : DataW H} {p : List MemPlace} (hs : P.underlying t = some (.struct fs)) (hone : oneCellFields P fs = true) (hC : P.cellsOf t = fs.size)
    (hv : Value.okWide P w r b0 t v) (h : DataW.Trod enc P w base spare held t v d p) :
    ∃ (cs : Array Value) (n : Nat), v = .agg cs ∧ cs.size = fs.size ∧ ∀ (i : Nat) (f : Field) (c : Value), fs[i]? = some f → cs[i]? = some c → ∃ y, DataW.trod enc P w base spare held n f.type [c] = some y := by
  obtain ⟨cs, rfl, hsz⟩ := okWide_struct hs hv
  obtain ⟨fuel, hf⟩ := h
  obtain ⟨xs, n, _, _, _, hlen, hg⟩ := DataW.trod_struct hs hf
  refine ⟨cs, n, rfl, hsz.trans hC, fun i f c hi hc => ?_⟩
  obtain ⟨o, k⟩ := Go.Deep.hone_of hone i f hi
  have h1 := hg i f hi
  have hlt : i < fs.size := (Array.getElem?_eq_some_iff.1 hi).1
  have hxs : xs[i]? = some (xs[i]'(by omega)) := List.getElem?_eq_getElem (by omega)
  rw [hxs, o, k] at h1
  refine ⟨_, (?_ : _ = _).trans h1⟩
  congr 1
  have hl : i < cs.toList.length := by have := hsz.trans hC; simp; omega
  have e : (Value.agg cs).cells = cs := by simp [Value.cells]
  rw [e, List.drop_eq_getElem_cons hl]
  have : cs.toList[i] = c := by
    have := (Array.getElem?_eq_some_iff.1 hc).2
    simpa using this
  rw [this]; rfl
end

theorem trodAll_below {H : Type} {enc : TypeId × Value → H} {W W' : World} (hb : Below W.heap.size W W') : ∀ (ts : List TypeId) (vs : List Value) (ds : List (DataW H)) (ps : List MemPlace),
    (∀ t ∈ ts, Tryz.prog.readableRec t = true ∧ t < Tryz.prog.types.size) →
    DataW.TrodAll enc Tryz.prog W 0 (fun _ => true) true ts vs ds ps → DataW.TrodAll enc Tryz.prog W' 0 (fun b => decide (b < W.heap.size)) true ts vs ds ps := by
  intro ts
  induction ts with
  | nil =>
    intro vs ds ps _ h
    obtain ⟨rfl, rfl, rfl⟩ := trodAll_nil h
    exact trodAll_mk0
  | cons t ts ih =>
    intro vs ds ps hr h
    obtain ⟨v0, vs0, d0, ds0, p0, q0, rfl, rfl, rfl, h0, r0⟩ := trodAll_cons h
    have hlt : ∀ x ∈ p0, x.block < W.heap.size := by obtain ⟨m, hm⟩ := h0; exact DataW.trod_lt m _ _ _ hm
    have ht := hr t (by simp)
    exact trodAll_cons_mk (Below.trod laidOut ht.1 ht.2 h0 hb hlt) (ih _ _ _ (fun t' ht' => hr t' (by simp [ht'])) r0)
end Go.Proofs.YtkoomcbiddanfaaGreat
namespace Go.Proofs.YtkoomcbiddanfaaGreat
open Go.ChangeShapes Go.WideShapes Go.ChangeAt Go.RowKit Go.Deep

section
variable {H : Type} {enc : TypeId × Value → H} {P : Program} {w : World} {fuel : Nat} {cs : List Value} {x : DataW H × List MemPlace}

theorem cells_of_addr {w : World} {a : Addr} {xs : List Value} (h : ∀ j u, xs[j]? = some u → w.cell? (a.add j) = some u) : Cells w (some a) xs := fun hne => by
  obtain ⟨b, off, spot⟩ := a
  cases xs with
  | nil => exact absurd rfl hne
  | cons u r =>
    have h0 := h 0 u rfl
    have hspot : spot = none := by simpa [Addr.add] using World.cell?_spot h0
    subst hspot
    refine ⟨b, off, rfl, ?_, fun j u hu => ?_⟩
    · have h0' : w.cell? ⟨b, off, none⟩ = some u := by simpa [Addr.add] using h0
      rcases Nat.lt_or_ge b w.heap.size with h' | h'
      · exact h'
      · simp [World.cell?, Array.getElem?_eq_none h'] at h0'
    · have hc := h j u hu
      rwa [Addr.add_lit] at hc

theorem flatMap_get {α β : Type} (en : α → List β) (k : Nat) (hk : ∀ a, (en a).length = k) : ∀ (l : List α) (i j : Nat) (hi : i < l.length), j < k → (l.flatMap en)[i * k + j]? = (en l[i])[j]?
  | a :: l, 0, j, _, hj => by
    simp only [List.flatMap_cons, Nat.zero_mul, Nat.zero_add, List.getElem_cons_zero]
    rw [List.getElem?_append_left (by rw [hk]; exact hj)]
  | a :: l, i + 1, j, hi, hj => by
    simp only [List.flatMap_cons, List.getElem_cons_succ]
    rw [List.getElem?_append_right (by rw [hk, Nat.succ_mul]; omega), hk]
    rw [show (i + 1) * k + j - k = i * k + j by rw [Nat.succ_mul]; omega]
    exact flatMap_get en k hk l i j (by simpa using hi) hj
theorem flatMap_len {α β : Type} (en : α → List β) (k : Nat) (hk : ∀ a, (en a).length = k) (l : List α) : (l.flatMap en).length = l.length * k := by
  induction l with
  | nil => simp
  | cons a l ih => simp only [List.flatMap_cons, List.length_append, hk, ih, List.length_cons, Nat.succ_mul]; omega

theorem list_of_lt {α : Type} (p : Nat → α → Prop) : ∀ n, (∀ i, i < n → ∃ a, p i a) → ∃ l : List α, l.length = n ∧ ∀ i (hi : i < l.length), p i l[i]
  | 0, _ => ⟨[], rfl, fun i hi => absurd hi (by simp)⟩
  | n + 1, h => by
    obtain ⟨l, hl, hp⟩ := list_of_lt p n (fun i hi => h i (by omega))
    obtain ⟨a, ha⟩ := h n (by omega)
    refine ⟨l ++ [a], by simp [hl], fun i hi => ?_⟩
    rcases Nat.lt_or_ge i l.length with h' | h'
    · rw [List.getElem_append_left h']; exact hp i h'
    · have : i = n := by simp at hi; omega
      subst this
      rw [List.getElem_append_right (by omega)]
      simpa [hl] using ha

/-- A slice that came in: its elements as a list. -/
theorem open_sl {α : Type} {t e : TypeId} (size : Nat) (en : α → List Value) (ok : α → Prop) (ht : P.underlying t = some (.slice e)) (hc : P.cellsOf e = size) (hsz : ∀ a, (en a).length = size) (hpos : 0 < size)
    (dec : ∀ n cs' y, DataW.trod enc P w 0 (fun _ => true) true n e cs' = some y → ∃ a, cs' = en a ∧ ok a)
    (h : DataW.trod enc P w 0 (fun _ => true) true fuel t cs = some x) :
    ∃ (A : Option Addr) (l : List α) (c : Nat), cs = [.slice A l.length c] ∧ Sl w A l.length c (l.flatMap en) ∧ ∀ a ∈ l, ok a := by
  rcases open_slice ht h with ⟨rfl, _⟩ | ⟨a, len, cap, m, n, D, Pl, rfl, _, hl, hm, hmm, _, hx⟩
  · exact ⟨none, [], 0, rfl, Sl.nil w, by simp⟩
  · have hlm : len ≤ m := by rw [hmm]; simpa using hl
    rw [hc] at hx
    obtain ⟨l, hl', hp⟩ := list_of_lt (fun i (b : α) => ok b ∧ w.cells? 0 (a.add (i * size)) size = some (en b)) len (fun i hi => by
      obtain ⟨cs', h1, h2⟩ := hx i (by omega)
      obtain ⟨b, rfl, hb⟩ := dec _ _ _ h2
      exact ⟨b, hb, h1⟩)
    refine ⟨some a, l, cap, by rw [hl'], ⟨(fun h => by cases h), by omega, hm, ?_⟩, fun b hb => ?_⟩
    · apply cells_of_addr
      intro j u hu
      have hj := (List.getElem?_eq_some_iff.1 hu).1
      rw [flatMap_len en size hsz] at hj
      have hi : j / size < l.length := (Nat.div_lt_iff_lt_mul hpos).2 hj
      have hj' : j % size < size := Nat.mod_lt _ hpos
      have e : j = j / size * size + j % size := (Nat.div_add_mod' j size).symm
      obtain ⟨_, hcs⟩ := hp _ hi
      obtain ⟨_, _, hat⟩ := World.cells?_some hcs
      have h1 := hat (j % size) (by omega)
      rw [Go.Deep.add_add, ← e] at h1
      rw [h1, ← flatMap_get en size hsz l _ _ hi hj', ← e, hu]
    · obtain ⟨i, hi, rfl⟩ := List.mem_iff_getElem.1 hb
      exact (hp i hi).1
end
end Go.Proofs.YtkoomcbiddanfaaGreat
namespace Go.Proofs.YtkoomcbiddanfaaGreat
open Go.ChangeShapes Go.WideShapes Go.ChangeAt Go.RowKit Go.Deep

section
variable {H : Type} {enc : TypeId × Value → H} {w : World} {fuel : Nat} {cs : List Value} {x : DataW H × List MemPlace}

set_option maxRecDepth 100000 in
/-- A struct that came in, whole: its cells, and each field's reading. -/
theorem open_agg {t : TypeId} {fs : Array Field} {v : Value} {d : DataW H} {p : List MemPlace} (hs : Tryz.prog.underlying t = some (.struct fs)) {r : Reach} {b0 : Nat} (hv : Value.okWide Tryz.prog w r b0 t v)
    (h : DataW.Trod enc Tryz.prog w 0 (fun _ => true) true t v d p) :
    ∃ (cs : List Value) (n : Nat), v = .agg cs.toArray ∧ cs.length = Tryz.prog.cellsOf t ∧ ∀ (i : Nat) (f : Field), fs[i]? = some f → ∃ y, DataW.trod enc Tryz.prog w 0 (fun _ => true) true n f.type ((cs.drop f.offset).take (Tryz.prog.cellsOf f.type)) = some y := by
  obtain ⟨cs, rfl, hsz⟩ := okWide_struct hs hv
  obtain ⟨fuel, hf⟩ := h
  obtain ⟨xs, n, _, _, hl, hlen, hg⟩ := DataW.trod_struct hs hf
  have e : (Value.agg cs).cells = cs := by simp [Value.cells]
  rw [e] at hl hg
  refine ⟨cs.toList, n, by simp, hl, fun i f hi => ?_⟩
  have h1 := hg i f hi
  have hlt : i < fs.size := (Array.getElem?_eq_some_iff.1 hi).1
  exact ⟨_, h1.trans (List.getElem?_eq_getElem (by omega))⟩
theorem agg_of_cells {cs : Array Value} {l : List Value} (h : (Value.agg cs).cells.toList = l) : Value.agg cs = .agg l.toArray := by
  subst h; simp [Value.cells]
theorem slice_of_cells {A A' : Option Addr} {n c n' c' : Nat} (h : (Value.slice A n c).cells.toList = [.slice A' n' c']) : Value.slice A n c = .slice A' n' c' := by
  simpa [Value.cells] using h
theorem list1 {α : Type} {l : List α} (h : l.length = 1) : ∃ x0, l = [x0] := by match l, h with | [x0], _ => exact ⟨x0, rfl⟩
theorem list2 {α : Type} {l : List α} (h : l.length = 2) : ∃ x0 x1, l = [x0, x1] := by match l, h with | [x0, x1], _ => exact ⟨x0, x1, rfl⟩
theorem list3 {α : Type} {l : List α} (h : l.length = 3) : ∃ x0 x1 x2, l = [x0, x1, x2] := by match l, h with | [x0, x1, x2], _ => exact ⟨x0, x1, x2, rfl⟩
theorem list4 {α : Type} {l : List α} (h : l.length = 4) : ∃ x0 x1 x2 x3, l = [x0, x1, x2, x3] := by match l, h with | [x0, x1, x2, x3], _ => exact ⟨x0, x1, x2, x3, rfl⟩
theorem list5 {α : Type} {l : List α} (h : l.length = 5) : ∃ x0 x1 x2 x3 x4, l = [x0, x1, x2, x3, x4] := by match l, h with | [x0, x1, x2, x3, x4], _ => exact ⟨x0, x1, x2, x3, x4, rfl⟩
theorem list6 {α : Type} {l : List α} (h : l.length = 6) : ∃ x0 x1 x2 x3 x4 x5, l = [x0, x1, x2, x3, x4, x5] := by match l, h with | [x0, x1, x2, x3, x4, x5], _ => exact ⟨x0, x1, x2, x3, x4, x5, rfl⟩
theorem list7 {α : Type} {l : List α} (h : l.length = 7) : ∃ x0 x1 x2 x3 x4 x5 x6, l = [x0, x1, x2, x3, x4, x5, x6] := by match l, h with | [x0, x1, x2, x3, x4, x5, x6], _ => exact ⟨x0, x1, x2, x3, x4, x5, x6, rfl⟩
theorem list8 {α : Type} {l : List α} (h : l.length = 8) : ∃ x0 x1 x2 x3 x4 x5 x6 x7, l = [x0, x1, x2, x3, x4, x5, x6, x7] := by match l, h with | [x0, x1, x2, x3, x4, x5, x6, x7], _ => exact ⟨x0, x1, x2, x3, x4, x5, x6, x7, rfl⟩
theorem list9 {α : Type} {l : List α} (h : l.length = 9) : ∃ x0 x1 x2 x3 x4 x5 x6 x7 x8, l = [x0, x1, x2, x3, x4, x5, x6, x7, x8] := by match l, h with | [x0, x1, x2, x3, x4, x5, x6, x7, x8], _ => exact ⟨x0, x1, x2, x3, x4, x5, x6, x7, x8, rfl⟩
theorem list10 {α : Type} {l : List α} (h : l.length = 10) : ∃ x0 x1 x2 x3 x4 x5 x6 x7 x8 x9, l = [x0, x1, x2, x3, x4, x5, x6, x7, x8, x9] := by match l, h with | [x0, x1, x2, x3, x4, x5, x6, x7, x8, x9], _ => exact ⟨x0, x1, x2, x3, x4, x5, x6, x7, x8, x9, rfl⟩
theorem list11 {α : Type} {l : List α} (h : l.length = 11) : ∃ x0 x1 x2 x3 x4 x5 x6 x7 x8 x9 x10, l = [x0, x1, x2, x3, x4, x5, x6, x7, x8, x9, x10] := by match l, h with | [x0, x1, x2, x3, x4, x5, x6, x7, x8, x9, x10], _ => exact ⟨x0, x1, x2, x3, x4, x5, x6, x7, x8, x9, x10, rfl⟩
theorem list12 {α : Type} {l : List α} (h : l.length = 12) : ∃ x0 x1 x2 x3 x4 x5 x6 x7 x8 x9 x10 x11, l = [x0, x1, x2, x3, x4, x5, x6, x7, x8, x9, x10, x11] := by match l, h with | [x0, x1, x2, x3, x4, x5, x6, x7, x8, x9, x10, x11], _ => exact ⟨x0, x1, x2, x3, x4, x5, x6, x7, x8, x9, x10, x11, rfl⟩
theorem list13 {α : Type} {l : List α} (h : l.length = 13) : ∃ x0 x1 x2 x3 x4 x5 x6 x7 x8 x9 x10 x11 x12, l = [x0, x1, x2, x3, x4, x5, x6, x7, x8, x9, x10, x11, x12] := by match l, h with | [x0, x1, x2, x3, x4, x5, x6, x7, x8, x9, x10, x11, x12], _ => exact ⟨x0, x1, x2, x3, x4, x5, x6, x7, x8, x9, x10, x11, x12, rfl⟩
theorem list14 {α : Type} {l : List α} (h : l.length = 14) : ∃ x0 x1 x2 x3 x4 x5 x6 x7 x8 x9 x10 x11 x12 x13, l = [x0, x1, x2, x3, x4, x5, x6, x7, x8, x9, x10, x11, x12, x13] := by match l, h with | [x0, x1, x2, x3, x4, x5, x6, x7, x8, x9, x10, x11, x12, x13], _ => exact ⟨x0, x1, x2, x3, x4, x5, x6, x7, x8, x9, x10, x11, x12, x13, rfl⟩
theorem u8_ex {x : Int} (h : (Lit.int .u8 x).wf = true) : ∃ u : UInt8, x = (u.toNat : Int) := by
  have := wf_u8 h
  exact ⟨UInt8.ofNat x.toNat, by simp; omega⟩
end
end Go.Proofs.YtkoomcbiddanfaaGreat
namespace Go.Proofs.YtkoomcbiddanfaaGreat
open Go.ChangeShapes Go.WideShapes Go.ChangeAt Go.RowKit Go.Deep

section
variable {H : Type} {enc : TypeId × Value → H} {w : World} {fuel : Nat} {cs : List Value} {x : DataW H × List MemPlace}

def inI64 (y : Int) : Prop := -9223372036854775808 ≤ y ∧ y ≤ 9223372036854775807
theorem flat_ivs_eq (l : List It) : l.flatMap (fun x => [.int .i64 x.1, .int .i64 x.2]) = ivs l := by
  induction l with
  | nil => rfl
  | cons a l ih => simp [ivs, ih]
set_option maxRecDepth 100000 in
theorem open_it (h : DataW.trod enc Tryz.prog w 0 (fun _ => true) true fuel 26 cs = some x) : ∃ y : It, cs = [.int .i64 y.1, .int .i64 y.2] ∧ inI64 y.1 ∧ inI64 y.2 := by
  obtain ⟨xs, n, _, _, hl, hx, hf⟩ := DataW.trod_struct Tryz.underlying26 h
  have hl' : cs.length = 2 := by rw [hl]; exact of_decide_eq_true (by kernel_rfl)
  match xs, hx, cs, hl' with
  | [y0, y1], _, [v0, v1], _ =>
    have g0 := hf 0 _ rfl
    have g1 := hf 1 _ rfl
    have c0 : Tryz.prog.cellsOf 3 = 1 := by kernel_rfl
    simp [c0] at g0 g1
    obtain ⟨a, ha, _, wa⟩ := DataW.trod_int Tryz.underlying3 g0
    obtain ⟨b, hb, _, wb⟩ := DataW.trod_int Tryz.underlying3 g1
    simp only [List.cons.injEq, and_true] at ha hb
    subst ha hb
    exact ⟨(a, b), rfl, wf_i64 wa, wf_i64 wb⟩
set_option maxRecDepth 100000 in
theorem open_itsL (h : DataW.trod enc Tryz.prog w 0 (fun _ => true) true fuel 27 cs = some x) :
    ∃ (A : Option Addr) (l : List It) (c : Nat), cs = [.slice A l.length c] ∧ Sl w A l.length c (ivs l) := by
  obtain ⟨A, l, c, h1, h2, _⟩ := open_sl (α := It) 2 (fun x => [.int .i64 x.1, .int .i64 x.2]) (fun _ => True) Tryz.underlying27 (by kernel_rfl) (fun _ => rfl) (by omega) (fun n cs' y hy => by
    obtain ⟨s, e, _⟩ := open_it hy
    exact ⟨s, e, trivial⟩) h
  exact ⟨A, l, c, h1, by simpa only [flat_ivs_eq] using h2⟩
set_option maxRecDepth 100000 in
theorem open_node (h : DataW.trod enc Tryz.prog w 0 (fun _ => true) true fuel 48 cs = some x) :
    ∃ (f : Bool) (A : Option Addr) (l : List It) (c : Nat), cs = [.bool f, .slice A l.length c] ∧ Sl w A l.length c (ivs l) := by
  obtain ⟨xs, n, _, _, hl, hx, hf⟩ := DataW.trod_struct Tryz.underlying48 h
  have hl' : cs.length = 2 := by rw [hl]; exact of_decide_eq_true (by kernel_rfl)
  match xs, hx, cs, hl' with
  | [y0, y1], _, [v0, v1], _ =>
    have g0 := hf 0 _ rfl
    have g1 := hf 1 _ rfl
    have c0 : Tryz.prog.cellsOf 4 = 1 := by kernel_rfl
    have c1 : Tryz.prog.cellsOf 27 = 1 := by kernel_rfl
    simp [c0, c1] at g0 g1
    obtain ⟨f, hf0, _⟩ := DataW.trod_bool Tryz.underlying4 g0
    obtain ⟨A, l, c, e1, h1⟩ := open_itsL g1
    simp only [List.cons.injEq, and_true] at hf0 e1
    subst hf0 e1
    exact ⟨f, A, l, c, rfl, h1⟩
set_option maxRecDepth 100000 in
theorem open_node_arg {v : Value} {d : DataW H} {p : List MemPlace} {r : Reach} {b0 : Nat} (hv : Value.okWide Tryz.prog w r b0 48 v) (h : DataW.Trod enc Tryz.prog w 0 (fun _ => true) true 48 v d p) :
    ∃ (f : Bool) (A : Option Addr) (l : List It) (c : Nat), v = .agg #[.bool f, .slice A l.length c] ∧ Sl w A l.length c (ivs l) := by
  obtain ⟨cs, rfl, _⟩ := okWide_struct Tryz.underlying48 hv
  obtain ⟨fuel, hf⟩ := h
  obtain ⟨f, A, l, c, e, h1⟩ := open_node hf
  exact ⟨f, A, l, c, agg_of_cells e, h1⟩
set_option maxRecDepth 100000 in
theorem open_it_arg {v : Value} {d : DataW H} {p : List MemPlace} {r : Reach} {b0 : Nat} (hv : Value.okWide Tryz.prog w r b0 26 v) (h : DataW.Trod enc Tryz.prog w 0 (fun _ => true) true 26 v d p) :
    ∃ y : It, v = .agg #[.int .i64 y.1, .int .i64 y.2] ∧ inI64 y.1 ∧ inI64 y.2 := by
  obtain ⟨cs, rfl, _⟩ := okWide_struct Tryz.underlying26 hv
  obtain ⟨fuel, hf⟩ := h
  obtain ⟨y, e, h1⟩ := open_it hf
  exact ⟨y, agg_of_cells e, h1⟩
set_option maxRecDepth 100000 in
theorem open_its_arg {v : Value} {d : DataW H} {p : List MemPlace} {r : Reach} {b0 : Nat} (hv : Value.okWide Tryz.prog w r b0 27 v) (h : DataW.Trod enc Tryz.prog w 0 (fun _ => true) true 27 v d p) :
    ∃ (A : Option Addr) (l : List It) (c : Nat), v = .slice A l.length c ∧ Sl w A l.length c (ivs l) := by
  obtain ⟨a0, n0, c0, rfl⟩ := okWide_slice Tryz.underlying27 hv
  obtain ⟨fuel, hf⟩ := h
  obtain ⟨A, l, c, e, h1⟩ := open_itsL hf
  exact ⟨A, l, c, slice_of_cells e, h1⟩
end
end Go.Proofs.YtkoomcbiddanfaaGreat
namespace Go.Proofs.YtkoomcbiddanfaaGreat
open Go.ChangeShapes Go.WideShapes Go.ChangeAt Go.RowKit Go.Deep

section
variable {H : Type} {enc : TypeId × Value → H} {w : World} {fuel : Nat} {cs : List Value} {x : DataW H × List MemPlace}

/-- A cell, with where its items lie. -/
abbrev HcX := HC × Option Addr × Nat
def hxv (y : HcX) : List Value := [.int .i64 y.1.ref, .bool y.1.pin, .bool y.1.leaf, .slice y.2.1 y.1.it.length y.2.2]
theorem hxv_at (l : List HcX) (i : Nat) (hi : i < l.length) (j : Nat) (hj : j < 4) : (l.flatMap hxv)[i * 4 + j]? = (hxv l[i])[j]? := flatMap_get hxv 4 (fun _ => rfl) l i j hi hj
theorem hxv_hcAt {w : World} {l : List HcX} (h : ∀ y ∈ l, Sl w y.2.1 y.1.it.length y.2.2 (ivs y.1.it)) : HcAt w (l.flatMap hxv) (l.map Prod.fst) := by
  refine ⟨by rw [flatMap_len hxv 4 (fun _ => rfl), List.length_map], fun i hi => ?_⟩
  rw [List.length_map] at hi
  have h0 := hxv_at l i hi 0 (by omega)
  have h1 := hxv_at l i hi 1 (by omega)
  have h2 := hxv_at l i hi 2 (by omega)
  have h3 := hxv_at l i hi 3 (by omega)
  rw [Nat.add_zero] at h0
  have hs := h _ (List.getElem_mem hi)
  rw [List.getElem_map]
  exact ⟨l[i].2.1, l[i].2.2, h0, h1, h2, h3, hs⟩
set_option maxRecDepth 100000 in
theorem open_cell (h : DataW.trod enc Tryz.prog w 0 (fun _ => true) true fuel 50 cs = some x) : ∃ y : HcX, cs = hxv y ∧ Sl w y.2.1 y.1.it.length y.2.2 (ivs y.1.it) := by
  obtain ⟨xs, n, _, _, hl, hx, hf⟩ := DataW.trod_struct Tryz.underlying50 h
  have hl' : cs.length = 4 := by rw [hl]; exact of_decide_eq_true (by kernel_rfl)
  match xs, hx, cs, hl' with
  | [y0, y1, y2], _, [v0, v1, v2, v3], _ =>
    have g0 := hf 0 _ rfl
    have g1 := hf 1 _ rfl
    have g2 := hf 2 _ rfl
    have c0 : Tryz.prog.cellsOf 3 = 1 := by kernel_rfl
    have c1 : Tryz.prog.cellsOf 4 = 1 := by kernel_rfl
    have c2 : Tryz.prog.cellsOf 48 = 2 := by kernel_rfl
    simp [c0, c1, c2] at g0 g1 g2
    obtain ⟨r, e0, _, _⟩ := DataW.trod_int Tryz.underlying3 g0
    obtain ⟨p, e1, _⟩ := DataW.trod_bool Tryz.underlying4 g1
    obtain ⟨f, A, l, c, e2, h2⟩ := open_node g2
    simp only [List.cons.injEq, and_true] at e0 e1 e2
    obtain ⟨e2, e3⟩ := e2
    subst e0 e1 e2 e3
    exact ⟨(⟨r, p, f, l⟩, A, c), rfl, h2⟩
set_option maxRecDepth 100000 in
theorem open_hcsL (h : DataW.trod enc Tryz.prog w 0 (fun _ => true) true fuel 22 cs = some x) :
    ∃ (R : Option Addr) (l : List HC) (q : Nat), cs = [.slice R l.length q] ∧ HcSl w R l.length q l := by
  obtain ⟨R, l, q, h1, h2, h3⟩ := open_sl (α := HcX) 4 hxv (fun y => Sl w y.2.1 y.1.it.length y.2.2 (ivs y.1.it)) Tryz.underlying22 (by kernel_rfl) (fun _ => rfl) (by omega) (fun n cs' y hy => open_cell hy) h
  exact ⟨R, l.map Prod.fst, q, by rw [List.length_map]; exact h1, rfl, l.flatMap hxv, by rw [List.length_map]; exact h2, hxv_hcAt h3⟩
set_option maxRecDepth 100000 in
theorem open_heap (h : DataW.trod enc Tryz.prog w 0 (fun _ => true) true fuel 24 cs = some x) :
    ∃ (R : Option Addr) (l : List HC) (q : Nat) (k : Int), cs = [.slice R l.length q, .int .i64 k] ∧ HcSl w R l.length q l := by
  obtain ⟨xs, n, _, _, hl, hx, hf⟩ := DataW.trod_struct Tryz.underlying24 h
  have hl' : cs.length = 2 := by rw [hl]; exact of_decide_eq_true (by kernel_rfl)
  match xs, hx, cs, hl' with
  | [y0, y1], _, [v0, v1], _ =>
    have g0 := hf 0 _ rfl
    have g1 := hf 1 _ rfl
    have c0 : Tryz.prog.cellsOf 22 = 1 := by kernel_rfl
    have c1 : Tryz.prog.cellsOf 3 = 1 := by kernel_rfl
    simp [c0, c1] at g0 g1
    obtain ⟨R, l, q, e0, h0⟩ := open_hcsL g0
    obtain ⟨k, e1, _, _⟩ := DataW.trod_int Tryz.underlying3 g1
    simp only [List.cons.injEq, and_true] at e0 e1
    subst e0 e1
    exact ⟨R, l, q, k, rfl, h0⟩
set_option maxRecDepth 100000 in
theorem open_heap_arg {v : Value} {d : DataW H} {p : List MemPlace} {r : Reach} {b0 : Nat} (hv : Value.okWide Tryz.prog w r b0 24 v) (h : DataW.Trod enc Tryz.prog w 0 (fun _ => true) true 24 v d p) :
    ∃ (R : Option Addr) (l : List HC) (q : Nat) (k : Int), v = .agg #[.slice R l.length q, .int .i64 k] ∧ HcSl w R l.length q l := by
  obtain ⟨cs, rfl, _⟩ := okWide_struct Tryz.underlying24 hv
  obtain ⟨fuel, hf⟩ := h
  obtain ⟨R, l, q, k, e, h1⟩ := open_heap hf
  exact ⟨R, l, q, k, agg_of_cells e, h1⟩
theorem flat_ints_eq (l : List Int) : l.flatMap (fun y => [iv y]) = l.map iv := by
  induction l with
  | nil => rfl
  | cons a l ih => simp [ih]
set_option maxRecDepth 100000 in
theorem open_intsL (h : DataW.trod enc Tryz.prog w 0 (fun _ => true) true fuel 41 cs = some x) :
    ∃ (A : Option Addr) (l : List Int) (c : Nat), cs = [.slice A l.length c] ∧ Sl w A l.length c (l.map iv) := by
  obtain ⟨A, l, c, h1, h2, _⟩ := open_sl (α := Int) 1 (fun y => [iv y]) (fun _ => True) Tryz.underlying41 (by kernel_rfl) (fun _ => rfl) (by omega) (fun n cs' y hy => by
    obtain ⟨z, e, _, _⟩ := DataW.trod_int Tryz.underlying3 hy
    exact ⟨z, e, trivial⟩) h
  exact ⟨A, l, c, h1, by simpa only [flat_ints_eq] using h2⟩
set_option maxRecDepth 100000 in
theorem open_ints_arg {v : Value} {d : DataW H} {p : List MemPlace} {r : Reach} {b0 : Nat} (hv : Value.okWide Tryz.prog w r b0 41 v) (h : DataW.Trod enc Tryz.prog w 0 (fun _ => true) true 41 v d p) :
    ∃ (A : Option Addr) (l : List Int) (c : Nat), v = .slice A l.length c ∧ Sl w A l.length c (l.map iv) := by
  obtain ⟨a0, n0, c0, rfl⟩ := okWide_slice Tryz.underlying41 hv
  obtain ⟨fuel, hf⟩ := h
  obtain ⟨A, l, c, e, h1⟩ := open_intsL hf
  exact ⟨A, l, c, slice_of_cells e, h1⟩
end
end Go.Proofs.YtkoomcbiddanfaaGreat
namespace Go.Proofs.YtkoomcbiddanfaaGreat
open Go.RowKit
attribute [local go_sem ↓] Go.wp_at_zero Go.wp_at_succ

theorem vs_take {l : List It} {j : Nat} (hj : j < l.length) : ((l.take (j + 1)).map (·.2)) = (l.take j).map (·.2) ++ [l[j].2] := by
  rw [List.take_succ_eq_append_getElem hj, List.map_append]; rfl
set_option maxRecDepth 100000 in
set_option maxHeartbeats 1600000 in
theorem ref09V_any (A : Option Addr) (it : List It) (m c : Nat) (w : World) (hm : m = it.length) (hb : m ≤ 90000) (hI : Sl w A m c (ivs it)) :
    Calls Tryz.prog 33 #[.slice A m c] w fun e w' => ∃ S d, e = .returned (.slice S m d) ∧ Sl w' S m d ((it.map (·.2)).map iv) ∧ Ext w w' := by
  have HM := Lib.hid hm
  have HI := Lib.hid hI
  clear hm hI
  go_enter Tryz.func33, Tryz.ntmps33
  go_wp2
  go_loopw [3, 4] (fun v i wr => ∃ (j : Nat) (S : Option Addr) (d : Nat), j ≤ m ∧ i = .int .i64 j ∧ v = .slice S j d ∧ wr.ownsRow w.heap.size 3 1 (.slice S j d) j (((it.take j).map (·.2)).map iv) ∧ Ext w wr) (fun _ i _ => m - (intOf i).toNat)
  case atStart => exact ⟨0, none, 0, Nat.zero_le _, rfl, rfl, ⟨rfl, .inl ⟨rfl, rfl⟩⟩, Ext.refl _⟩
  case round =>
    obtain ⟨j, S, d, hj, rfl, rfl, ho, hx⟩ := hrel
    have HO := Lib.hid ho
    have HXR := Lib.hid hx
    clear ho hx
    rcases Nat.lt_or_ge j m with hlt | hlt
    · have hjl : j < it.length := by rw [← HM.out]; exact hlt
      obtain ⟨b2, off2, rfl, hb2, a0, a1⟩ := it_at HI.out hjl
      have i1 := (HXR.out.cell (p := ⟨b2, off2 + j * 2 + 1, none⟩) hb2).trans a1
      have hji : (j : Int) < (m : Int) := by omega
      have HV := Lib.hid (vs_take hjl)
      clear a0 a1 hb2
      generalize it[j].2 = y at *
      clear hjl
      go_wp2_with (at_builtin; refine stop_here ?_)
      refine stop_on ?_
      refine wpList_app_sl _ rfl _ _ 41 rfl w.heap.size 3 (.int .i64 0) 1 8 Tryz.underlying41 infoI1 rfl (by omega) _ j _ rfl (own_ext HO.out ((Ext.refl _).alloc _)) _ 1 1 [iv y] rfl (by simp) (sl_lit' rfl _ 1 _ (by unfold maxLen; omega)) (iv_one [y]) (by unfold maxLen; omega) (by omega) (by have := HXR.out.size; simp; omega) ?_
      intro A5 c5 w5 hown hg
      have HX5 := Lib.hid (Ext.app (HXR.out.alloc _) (own_ext HO.out ((Ext.refl _).alloc _)) (Nat.le_refl _) hg)
      have HO5 := Lib.hid (show w5.ownsRow w.heap.size 3 1 (.slice A5 (j + 1) c5) (j + 1) (((it.take (j + 1)).map (·.2)).map iv) by rw [HV.out, List.map_append]; exact hown)
      clear hown hg
      go_wp2_with fail
      go_roundw
      case rel => exact ⟨j + 1, A5, c5, by omega, by go_num, rfl, HO5.out, HX5.out⟩
      case measure => simp [intOf]; omega
    · obtain rfl : m = j := by omega
      have d1 : decide ((m : Int) < (m : Int)) = false := decide_eq_false (by omega)
      have HE := Lib.hid (show it.take m = it by rw [HM.out, List.take_length])
      rw [HE.out] at HO
      clear hlt
      go_wp2
      go_ret
      exact ⟨S, d, rfl, own_sl HO.out, HXR.out⟩
end Go.Proofs.YtkoomcbiddanfaaGreat
namespace Go.Proofs.YtkoomcbiddanfaaGreat
open Go.RowKit
attribute [local go_sem ↓] Go.wp_at_zero Go.wp_at_succ

set_option maxRecDepth 100000 in
set_option maxHeartbeats 1600000 in
theorem ref09Over_any (R : Option Addr) (l : List HC) (n q : Nat) (keep : Int) (A : Option Addr) (it : List It) (m c : Nat) (w : World) (hb : n ≤ 90000) (hbd : ∀ k (hk : k < l.length), l[k].ref ≤ 8000000000000000000) (hA : HcSl w R n q l) (hm : m = it.length) (hmb : m ≤ 90000) (hI : Sl w A m c (ivs it)) :
    Calls Tryz.prog 9 #[.agg #[.slice R n q, .int .i64 keep], .slice A m c] w fun e w' => ∃ S d, e = .returned (.tuple #[.agg #[.slice S n d, .int .i64 keep], .int .i64 (allocP l false it : Nat), .int .i64 (allocE l false it)]) ∧ HcSl w' S n d (allocL l false it (it.map (·.2))) ∧ Ext w w' := by
  obtain ⟨W, hW⟩ : ∃ W, W = (w.alloc (.cells #[.slice R n q, .int .i64 keep] 24)).alloc (.cells #[.slice none 0 0, .int .i64 0] 24) := ⟨_, rfl⟩
  obtain ⟨hx, hb0, hb1⟩ := allocs2 hW.symm
  have hsz : W.heap.size = w.heap.size + 1 + 1 := by rw [hW]; simp
  have HSZ := Lib.hid hsz
  have HX := Lib.hid hx
  have HB0 := Lib.hid hb0
  have HB1 := Lib.hid hb1
  have HV := Lib.hid (fun w' (hx : Ext w w') => ref09V_any A it m c w' hm hmb (hI.ext hx))
  have HAL := Lib.hid (fun w' (hx : Ext w w') H d (hH : Sl w' H m d ((it.map (·.2)).map iv)) => ref05Alloc_any R l n q keep false A it m c H (it.map (·.2)) m d w' hb hbd (hA.ext hx) hm (hI.ext hx) (by rw [List.length_map]; exact hm) hH)
  obtain ⟨p0, p1, p2⟩ := hb0.read2
  obtain ⟨q0, q1, q2⟩ := hb1.read2
  obtain ⟨y0, y1⟩ := hb1.free2
  clear hx hb0 hb1 hA hI hm hbd hsz
  subst hW
  go_enter Tryz.func9, Tryz.ntmps9
  go_wp2_with fail
  generalize hW : World.alloc (World.alloc w _) _ = W at *
  clear hW
  go_region_law
    (first
      | ((go_simp
          go_at_call 33
          refine (HV.out _ ?_).mono ?_
          (first | exact HX.out.drewN _ | exact HX.out.drew | exact HX.out)
          rintro e w4 ⟨S4, d4, rfl, hs4, hx4⟩
          have E4 := Lib.hid (show Ext W w4 from by first | exact ((Ext.refl W).drewN _).trans hx4 | exact (Ext.refl W).drew.trans hx4 | exact hx4)
          have S4H := Lib.hid hs4
          obtain ⟨g0, g1, g2⟩ := (HB0.out.ext E4.out).read2
          clear hs4 hx4))
      | ((go_simp
          go_at_call 29
          refine (HAL.out _ (HX.out.trans E4.out) S4 d4 S4H.out).mono ?_
          rintro e w5 ⟨S5, d5, rfl, hh5, hx5⟩
          have E5 := Lib.hid (E4.out.trans hx5)
          have H5 := Lib.hid hh5
          obtain ⟨r0, r1, r2⟩ := (HB1.out.ext E5.out).read2
          obtain ⟨z0, z1⟩ := (HB1.out.ext E5.out).free2
          clear hh5 hx5)))
  all_goals
    have HB5 := Lib.hid (HB1.out.ext E5.out)
    have HX5 := Lib.hid (HX.out.trans E5.out)
    go_wp2_with fail
    refine ret2_cell (k := w.heap.size + 1) (x := .slice S5 n d5) (y := .int .i64 keep) (v := .tuple #[.agg #[.slice S5 n d5, .int .i64 keep], .int .i64 (allocP l false it : Nat), .int .i64 (allocE l false it)]) ?hb4 (fun r0 r1 => by simp [results, Tryz.results9, go_sem, r0, r1]) rfl ?hx4
    case hb4 => exact HB5.out.set2 _ _
    case hx4 => exact ⟨S5, d5, rfl, H5.out.boxed2 HB5.out _ _, HX5.out.store2 (by omega) _ _⟩
end Go.Proofs.YtkoomcbiddanfaaGreat
