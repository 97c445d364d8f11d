/- Walks of Of, Place, Done, On and Same of package todo. Where what a course holds lies: typed blocks; slices of tasks that are cloned, turned, joined. Walks of first, kind and without of package clean, and of slices.Clone over cells. -/
import Derived.Test.YtlbhcakjcklmgaaK21
import Derived.Deep.QuietTactic
import Derived.BigQuiet
import Derived.Test.YtlbhcakjcklmgaaK20
import Derived.Deep.DrawnRows
import Derived.StillTailTactics
namespace Go.Proofs.Ytlbhcakjcklmgaa
open Go.RowKit

theorem log2_shl {m e : Nat} (hm : m ≠ 0) : (m <<< e).log2 = m.log2 + e := by
  have h1 : m <<< e ≠ 0 := by rw [Nat.shiftLeft_eq]; exact Nat.mul_ne_zero hm (by have : 0 < 2 ^ e := Nat.pow_pos (by omega); omega)
  rw [Nat.log2_eq_iff h1, Nat.shiftLeft_eq, Nat.pow_add, show m.log2 + e + 1 = (m.log2 + 1) + e by omega, Nat.pow_add]
  have hp : 0 < 2 ^ e := Nat.pow_pos (by omega)
  have h2 := (Nat.log2_eq_iff hm).1 rfl
  exact ⟨Nat.mul_le_mul_right _ h2.1, Nat.mul_lt_mul_of_pos_right h2.2 hp⟩
theorem cut_shl (m e : Nat) (h : e ≤ (m <<< e).log2 + 2) : Ieee.Toward.cut .even false (m <<< e) e = m := by
  unfold Ieee.Toward.cut
  rw [Nat.min_eq_left h]
  have h1 : (1 : Nat) <<< e = 2 ^ e := by rw [Nat.shiftLeft_eq, Nat.one_mul]
  have hp : 0 < 2 ^ e := Nat.pow_pos (by omega)
  simp only [h1, Nat.shiftLeft_eq, Nat.mul_div_cancel _ hp, Nat.mul_mod_left]
  have h2 : decide (2 ^ e < 2 * 0) = false := decide_eq_false (by omega)
  have h3 : (2 ^ e == 2 * 0) = false := by rw [beq_eq_false_iff_ne]; omega
  rw [h2, h3]
  rfl
/-- A finite number that is not below nought, and nought. -/
theorem add_nought {x : Nat} (hx : x < 2047 * 2 ^ 52) : FloatKind.f64.format.add x 0 = some x := by
  have hl : (FloatKind.f64.format).leastPlace = -1074 := by decide
  have hb : (FloatKind.f64.format).binade = 2 ^ 52 := by decide
  have hw : (FloatKind.f64.format).signWeight = 2 ^ 63 := by decide
  have hi : (FloatKind.f64.format).infRung = 2047 * 2 ^ 52 := by decide
  have hf : (FloatKind.f64.format).fractionBits = 52 := rfl
  have h0 : FloatKind.f64.format.read 0 = .number false 0 (-1074) := by decide
  have key : ∃ m e : Nat, FloatKind.f64.format.read x = .number false m (-1074 + (e : Int)) ∧ e * 2 ^ 52 + m = x ∧ m < 2 ^ 53 ∧ (e = 0 ∨ 2 ^ 52 ≤ m) := by
    have hs : (x / 2 ^ 63 % 2 == 1) = false := by rw [beq_eq_false_iff_ne]; omega
    have hr : x % 2 ^ 63 = x := by omega
    unfold Ieee.Format.read
    simp only [hl, hb, hw, hi, hs, hr]
    rcases Nat.lt_or_ge x (2 ^ 52) with h | h
    · rw [if_pos h]
      exact ⟨x, 0, by simp, by omega, by omega, .inl rfl⟩
    · rw [if_neg (by omega), if_pos hx]
      exact ⟨2 ^ 52 + x % 2 ^ 52, x / 2 ^ 52 - 1, rfl, by omega, by omega, .inr (by omega)⟩
  obtain ⟨m, e, hr, hsum, hm, hc⟩ := key
  unfold Ieee.Format.add
  rw [hr, h0]
  have hbase : min (-1074 + (e : Int)) (-1074) = -1074 := by omega
  have htot : Ieee.signed false m (-1074 + (e : Int) - -1074).toNat + Ieee.signed false 0 (-1074 - -1074 : Int).toNat = ((m <<< e : Nat) : Int) := by
    rw [show (-1074 + (e : Int) - -1074).toNat = e by omega]
    unfold Ieee.signed
    simp
  simp only [Ieee.Datum.sum, hbase, htot, Option.map_some, Ieee.Format.write, Int.natAbs_natCast]
  have hneg : (if ((m <<< e : Nat) : Int) = 0 then (false && false) else decide (((m <<< e : Nat) : Int) < 0)) = false := by
    split
    · rfl
    · exact decide_eq_false (by have := Int.natCast_nonneg (m <<< e); omega)
  rw [hneg]
  unfold Ieee.Format.nearest
  by_cases hm0 : m = 0
  · subst hm0
    have : e = 0 := by rcases hc with h | h <;> omega
    subst this
    obtain rfl : x = 0 := by simpa using hsum.symm
    rw [if_pos (show (0 : Nat) <<< 0 = 0 from rfl)]
    simp [Ieee.Format.word]
  have hme : m <<< e ≠ 0 := by rw [Nat.shiftLeft_eq]; exact Nat.mul_ne_zero hm0 (by have : 0 < 2 ^ e := Nat.pow_pos (by omega); omega)
  rw [if_neg hme]
  have hlog : m.log2 < 53 := (Nat.log2_lt hm0).2 hm
  have hlast : max (-1074 + ((m <<< e).log2 : Int) - ((52 : Nat) : Int)) (-1074) = -1074 + (e : Int) := by
    rw [log2_shl hm0]
    rcases hc with h | h
    · subst h; omega
    · have : 52 ≤ m.log2 := (Nat.le_log2 hm0).2 h
      omega
  simp only [hl, hb, hf, hi, hlast]
  rw [show (-1074 - (-1074 + (e : Int))).toNat = 0 by omega, show (-1074 + (e : Int) - -1074).toNat = e by omega, Nat.shiftLeft_zero, cut_shl m e (by rw [log2_shl hm0]; omega), hsum]
  unfold Ieee.Format.word
  rw [Nat.min_eq_left (by omega)]
  rfl
def chkS : Nat → Bool
  | 0 => true
  | n + 1 => decide (fN n < 2047 * 2 ^ 52) && chkS n
theorem chkS_all : chkS 2600 = true := by decide +kernel
theorem chkS_of : ∀ (m n : Nat), n < m → chkS m = true → fN n < 2047 * 2 ^ 52
  | 0, n, h, _ => by omega
  | m + 1, n, h, hc => by
    unfold chkS at hc
    rw [Bool.and_eq_true] at hc
    rcases Nat.lt_or_ge n m with h' | h'
    · exact chkS_of m n h' hc.2
    · obtain rfl : n = m := by omega
      exact of_decide_eq_true hc.1
theorem fN_add0 {n : Nat} (h : n < 2600) : floatBits .add .f64 (fN n) 0 = some (fN n) := add_nought (chkS_of 2600 n h chkS_all)
theorem fN_one : fN 1 = 4607182418800017408 := by decide +kernel
theorem sum_on {p k : Nat} (hp : p < 2600) (hk : k < 2600) : cSumBits .add .f64 (fN p) (fN k) 0 4607182418800017408 = some (fN p, fN (k + 1)) := by
  unfold cSumBits
  rw [fN_add0 hp, ← fN_one, isWh_on hk (isWh_fN k)]
  rfl
set_option maxHeartbeats 400000 in
theorem todoOf_any (p k : Nat) (w : World) :
    Calls Try.prog 17 #[.int .i64 p, .int .i64 k] w fun e w' => e = .returned (.complex .f64 (fN p) (fN k)) ∧ w = w' := by
  go_enter Try.func17, Try.ntmps17
  go_wp2
  go_ret
  exact ⟨rfl, rfl⟩
set_option maxHeartbeats 400000 in
theorem todoPlace_any (t : Tk) (p : Nat) (w : World) (hp : p < 2600) (h : isWh t.1 p) :
    Calls Try.prog 44 #[.complex .f64 t.1 t.2] w fun e w' => e = .returned (.int .i64 p) ∧ w = w' := by
  have hi := isWh_int hp h
  have hrun := fun w => run_convert_float_int (P := Try.prog) w 62 3 .f64 .i64 t.1 p (by rw [Try.underlying62]; rfl) Try.underlying3 hi
  go_enter Try.func44, Try.ntmps44
  go_wp2
  go_ret
  exact ⟨rfl, rfl⟩
set_option maxHeartbeats 400000 in
theorem todoDone_any (t : Tk) (k : Nat) (w : World) (hk : k < 2600) (h : isWh t.2 k) :
    Calls Try.prog 45 #[.complex .f64 t.1 t.2] w fun e w' => e = .returned (.int .i64 k) ∧ w = w' := by
  have hi := isWh_int hk h
  have hrun := fun w => run_convert_float_int (P := Try.prog) w 62 3 .f64 .i64 t.2 k (by rw [Try.underlying62]; rfl) Try.underlying3 hi
  go_enter Try.func45, Try.ntmps45
  go_wp2
  go_ret
  exact ⟨rfl, rfl⟩
set_option maxHeartbeats 400000 in
theorem todoOn_is (p k : Nat) (w : World) (hp : p < 2600) (hk : k < 2600) :
    Calls Try.prog 38 #[.complex .f64 (fN p) (fN k)] w fun e w' => e = .returned (.complex .f64 (fN p) (fN (k + 1))) ∧ w = w' := by
  have hi := sum_on hp hk
  have hrun := fun w => run_complex_sum (P := Try.prog) w .add (.inl rfl) 48 .f64 (fN p) (fN k) 0 4607182418800017408 (fN p) (fN (k + 1)) hi
  go_enter Try.func38, Try.ntmps38
  go_wp2
  go_ret
  exact ⟨rfl, rfl⟩
/-- Are two tasks the same? -/
def sameK (a b : Tk) : Bool := feq a.1 b.1 && feq a.2 b.2
def sameT : List Tk → List Tk → Bool
  | [], [] => true
  | a :: l, b :: m => sameK a b && sameT l m
  | _, _ => false
theorem sameT_len : ∀ {l m : List Tk}, sameT l m = true → l.length = m.length
  | [], [], _ => rfl
  | a :: l, b :: m, h => by
    unfold sameT at h
    rw [Bool.and_eq_true] at h
    simp [sameT_len h.2]
  | [], _ :: _, h => by simp [sameT] at h
  | _ :: _, [], h => by simp [sameT] at h
theorem sameT_all : ∀ {l m : List Tk}, l.length = m.length → (∀ k (hk : k < l.length) (hk2 : k < m.length), sameK l[k] m[k] = true) → sameT l m = true
  | [], [], _, _ => rfl
  | a :: l, b :: m, hl, h => by
    unfold sameT
    rw [Bool.and_eq_true]
    exact ⟨h 0 (by simp) (by simp), sameT_all (by simpa using hl) (fun k hk hk2 => h (k + 1) (by simp; omega) (by simp; omega))⟩
  | [], _ :: _, hl, _ => by simp at hl
  | _ :: _, [], hl, _ => by simp at hl
theorem sameT_at : ∀ {l m : List Tk}, sameT l m = true → ∀ k (hk : k < l.length) (hk2 : k < m.length), sameK l[k] m[k] = true
  | a :: l, b :: m, h, 0, _, _ => by unfold sameT at h; rw [Bool.and_eq_true] at h; exact h.1
  | a :: l, b :: m, h, k + 1, hk, hk2 => by
    unfold sameT at h
    rw [Bool.and_eq_true] at h
    exact sameT_at h.2 k (by simpa using hk) (by simpa using hk2)
  | [], _, _, _, hk, _ => by simp at hk
theorem sameT_no {l m : List Tk} {k : Nat} (hk : k < l.length) (hk2 : k < m.length) (h : sameK l[k] m[k] = false) : sameT l m = false := by
  cases hs : sameT l m
  · rfl
  · rw [sameT_at hs k hk hk2] at h; cases h
end Go.Proofs.Ytlbhcakjcklmgaa
namespace Go.Proofs.Ytlbhcakjcklmgaa
open Go.RowKit

/-- A block that holds these values, of that type, none of them frozen. -/
def TB (w : World) (k : Nat) (cs : Array Value) (t : TypeId) : Prop := w.heap[k]? = some (.cells cs t (0, 0))
theorem TB.bx {w : World} {k : Nat} {cs : Array Value} {t : TypeId} (h : TB w k cs t) : Bx w k cs := ⟨t, h⟩
theorem TB.lt {w : World} {k : Nat} {cs : Array Value} {t : TypeId} (h : TB w k cs t) : k < w.heap.size := h.bx.lt
theorem TB.ext {w w' : World} {k : Nat} {cs : Array Value} {t : TypeId} (h : TB w k cs t) (hx : Ext w w') : TB w' k cs t := (hx.block k h.lt).trans h
theorem TB.new (w : World) (cs : Array Value) (t : TypeId) : TB (w.alloc (.cells cs t)) w.heap.size cs t := heap_alloc_new w _
theorem TB.new' {w : World} {k : Nat} (hk : k = w.heap.size) (cs : Array Value) (t : TypeId) : TB (w.alloc (.cells cs t)) k cs t := by subst hk; exact TB.new w cs t
theorem TB.grown {w w' : World} {k : Nat} {cs : Array Value} {t : TypeId} {row : Option Nat} (h : TB w k cs t) (hg : w.grownBy w' row) (hne : some k ≠ row) : TB w' k cs t := (hg.block k h.lt hne).trans h
theorem TB.set {w : World} {k : Nat} {cs : Array Value} {t : TypeId} (h : TB w k cs t) (i : Nat) (v : Value) : TB (w.setCell ⟨k, i, none⟩ v) k (cs.setIfInBounds i v) t := heap_setCell_same w k i cs t v h
theorem TB.other {w : World} {k : Nat} {cs : Array Value} {t : TypeId} {p : Addr} (h : TB w k cs t) (hp : p.block ≠ k) (v : Value) : TB (w.setCell p v) k cs t := (Below.heap_setCell _ _ _ _ (by simpa using hp.symm)).trans h
/-- A slice of cells whose items lie in the elder world v; they lie there, or in a block that is a row of cells. -/
def HcR (v w : World) (R : Option Addr) (n q : Nat) (l : List HC) : Prop := HcV v w R n q l ∧ ∀ p, R = some p → p.block < v.heap.size ∨ ∃ cs fr, w.heap[p.block]? = some (.cells cs 38 fr)
theorem HcR.ext {v w w' : World} {R : Option Addr} {n q : Nat} {l : List HC} (h : HcR v w R n q l) (hx : Ext w w') : HcR v w' R n q l := by
  refine ⟨h.1.ext hx, fun p hp => (h.2 p hp).imp id ?_⟩
  rintro ⟨cs, fr, h1⟩
  exact ⟨cs, fr, (hx.block _ (Array.getElem?_eq_some_iff.1 h1).1).trans h1⟩
theorem HcR.sl {v w : World} {R : Option Addr} {n q : Nat} {l : List HC} (h : HcR v w R n q l) (hx : Ext v w) : HcSl w R n q l := h.1.sl hx
theorem HcR.grown {v w w' : World} {R : Option Addr} {n q : Nat} {l : List HC} (h : HcR v w R n q l) {k : Nat} (hg : w.grownBy w' (some k)) (hk : v.heap.size ≤ k) (hty : ∃ cs t fr, w.heap[k]? = some (.cells cs t fr) ∧ t ≠ 38) : HcR v w' R n q l := by
  obtain ⟨⟨h1, cs, h2, h3⟩, h4⟩ := h
  have hne : ∀ p, R = some p → some p.block ≠ some k := fun p hp e => by
    have e := Option.some.inj e
    rcases h4 p hp with h5 | ⟨cs', fr, h5⟩
    · omega
    · obtain ⟨cs2, t, fr2, h6, h7⟩ := hty
      rw [e, h6] at h5
      cases h5
      exact h7 rfl
  refine ⟨⟨h1, cs, h2.grown hg (fun _ p hp e => hne p hp e.symm), h3⟩, fun p hp => (h4 p hp).imp id ?_⟩
  rintro ⟨cs', fr, h5⟩
  exact ⟨cs', fr, (hg.block _ (Array.getElem?_eq_some_iff.1 h5).1 (hne p hp)).trans h5⟩
theorem HcR.start {w : World} {R : Option Addr} {n q : Nat} {l : List HC} (h : HcSl w R n q l) (hl : 0 < l.length) : HcR w w R n q l := by
  refine ⟨h, fun p hp => .inl ?_⟩
  obtain ⟨b, off, e, hb, _⟩ := h.cell hl
  rw [hp] at e
  cases e
  exact hb
theorem Own.hr {v w : World} {g cap n : Nat} {l : List HC} (h : Own v w g cap l) (hn : n = l.length) : HcR v w (some ⟨g, 0, none⟩) n cap l := by
  refine ⟨h.hx hn, fun p hp => .inr ?_⟩
  cases hp
  obtain ⟨cs, h1, _, _⟩ := h
  rcases h1.2 with ⟨e, _⟩ | ⟨g', cap', cur, e, _, hh, _⟩
  · cases e
  · cases e; exact ⟨_, _, hh⟩
theorem own_ty {w : World} {B e s n g cap : Nat} {xs : List Value} (h : w.ownsRow B e s (.slice (some ⟨g, 0, none⟩) n cap) n xs) : ∃ cur, w.heap[g]? = some (.cells cur e (0, 0)) := by
  rcases h.2 with ⟨e, _⟩ | ⟨g', cap', cur, e, _, hh, _⟩
  · cases e
  · cases e; exact ⟨_, hh⟩
/-- A row of the call's own, with less of it told. -/
theorem own_pre {w : World} {B e s n g cap k : Nat} {xs : List Value} (h : w.ownsRow B e s (.slice (some ⟨g, 0, none⟩) n cap) n xs) (hk : k ≤ n) : w.ownsRow B e s (.slice (some ⟨g, 0, none⟩) k cap) k (xs.take (k * s)) := by
  have hks : k * s ≤ n * s := Nat.mul_le_mul_right _ hk
  refine ⟨by rw [List.length_take, h.1]; omega, ?_⟩
  rcases h.2 with ⟨e, _⟩ | ⟨g', cap', cur, e, h1, h2, h3, h4, h5, h6⟩
  · cases e
  · cases e
    refine .inr ⟨g, cap, cur, rfl, h1, h2, by omega, h4, h5, ?_⟩
    rw [← h6, List.take_take, Nat.min_eq_left hks]
/-- A heap behind Loose. -/
theorem heapLoose_r (v : World) (R : Option Addr) (l : List HC) (n q : Nat) (keep : Int) (w : World) (p : Int) (hx : Ext v w) (hM : rightH ⟨l, keep⟩ = true) (hA : HcR v w R n q l) :
    Calls Try.prog 37 #[.agg #[.slice R n q, .int .i64 keep], .int .i64 p] w fun e w' => ∃ S d z, e = .returned (.tuple #[.agg #[.slice S n d, .int .i64 keep], .int .i64 z]) ∧ HcR v w' S n d (looseL (l.length + 1) l p) ∧ Ext w w' := by
  have hn := hA.1.1
  refine (heapLoose_x v R l n q keep w p hx hM hA.1).mono ?_
  rintro e w' ⟨S, d, rfl, h1, h2, h3⟩
  refine ⟨S, d, _, rfl, ?_, h3⟩
  rcases h2 with rfl | ⟨g, rfl, _, h2⟩
  · exact ⟨h1, (hA.ext h3).2⟩
  · exact h2.hr (by rw [loose_len]; exact hn)
theorem infoC : (Try.prog.info? 48).map (fun i => (i.zero, i.size, i.bytes)) = some (some (.complex .f64 0 0), 1, 16) := by kernel_rfl
theorem app_tk (w : World) {ops : Array Oper} {rest : List Oper} {o : Oper} {a : Act} {Q : Exit → Act → World → Prop} (hgd : o.guard = none) (s x : Operand)
    (ho : o.op = .call { callee := .builtin .append, args := #[s, x], argTypes := #[28, 28] })
    (B : Nat) (v : Value) (n : Nat) (l : List Tk) (hs : a.eval s = v) (hown : w.ownsRow B 48 1 v n (l.map cxv))
    (A : Option Addr) (m c : Nat) (k : List Tk) (hx : a.eval x = .slice A m c) (hl : k.length = m) (hS : Sl w A m c (k.map cxv))
    (hsz : n + m ≤ 1000000) (hB : B ≤ w.heap.size)
    (h : ∀ A' c' w', w'.ownsRow B 48 1 (.slice A' (n + m) c') (n + m) ((l ++ k).map cxv) → w.grownBy w' v.ownBlock → wpList Try.prog ops Q rest (a.put o.dst (.slice A' (n + m) c')) w') : wpList Try.prog ops Q (o :: rest) a w := by
  refine wpList_app_sl w hgd s x 28 ho B 48 (.complex .f64 0 0) 1 16 Try.underlying28 infoC rfl (by omega) v n (l.map cxv) hs hown A m c (k.map cxv) hx (by simp [hl]) hS (cxv_one k) (by unfold maxLen; omega) (by omega) hB ?_
  intro A' c' w' h1 h2
  rw [← List.map_append] at h1
  exact h A' c' w' h1 h2
set_option maxRecDepth 100000 in
set_option maxHeartbeats 400000 in
theorem cloneT_any (A : Option Addr) (l : List Tk) (n c : Nat) (w : World) (hn : n = l.length) (hb : n ≤ 10000) (hA : Sl w A n c (l.map cxv)) :
    Calls Try.prog 26 #[.slice A n c] w fun e w' => ∃ B d, e = .returned (.slice B n d) ∧ w'.ownsRow w.heap.size 48 1 (.slice B n d) n (l.map cxv) ∧ Ext w w' := by
  cases A with
  | none =>
    have h1 := hA.1 rfl
    have h2 := hA.2.1
    obtain rfl : n = 0 := by omega
    obtain rfl : c = 0 := h1
    obtain rfl : l = [] := List.eq_nil_of_length_eq_zero hn.symm
    have hq : ∀ w', (binOp .eql 28 (.slice none 0 0) (.slice none 0 0)).run Try.prog w' = .ok (.bool true) w' := fun w' => Lib.run_eql_slice_nil (P := Try.prog) w' 28 48 none 0 0 0 0 Try.underlying28
    clear h2 hA hn
    go_enter Try.func26, Try.ntmps26
    go_wp2_with fail
    go_ret
    exact ⟨none, 0, rfl, World.ownsRow_nil _ _ _ _, Ext.refl _⟩
  | some ad =>
    have HA := Lib.hid hA
    have HN := Lib.hid hn
    have hq : ∀ w', (binOp .eql 28 (.slice (some ad) n c) (.slice none 0 0)).run Try.prog w' = .ok (.bool false) w' := fun w' => Lib.run_eql_slice_nil (P := Try.prog) w' 28 48 (some ad) n c 0 0 Try.underlying28
    clear hA hn
    go_enter Try.func26, Try.ntmps26
    go_wp2_with (at_builtin; refine stop_here ?_)
    refine stop_on ?_
    refine app_tk _ rfl _ _ rfl w.heap.size _ 0 [] rfl (own_empty w 48 1) (some ad) n c l rfl HN.out.symm (HA.out.ext ((Ext.refl w).alloc _)) (by omega) (by simp) ?_
    intro A1 c1 w1 hown hg
    rw [List.nil_append, Nat.zero_add] at hown
    rw [Nat.zero_add]
    have HX1 := Lib.hid (show Ext w w1 from Below.grown ((Ext.refl w).alloc _) hg (by simp) (by intro q hq; cases hq; exact Nat.le_refl _))
    have HO1 := Lib.hid hown
    clear hown hg
    go_wp2_with fail
    go_ret
    exact ⟨_, _, rfl, HO1.out, HX1.out⟩

/-- Rows of tasks. -/
def TrowsAt (w : World) (cs : List Value) (rows : List (List Tk)) : Prop := cs.length = rows.length ∧ ∀ i (h : i < rows.length), ∃ A c, cs[i]? = some (.slice A rows[i].length c) ∧ Sl w A rows[i].length c (rows[i].map cxv)
theorem TrowsAt.ext {w w' : World} {cs : List Value} {rows : List (List Tk)} (h : TrowsAt w cs rows) (hx : Ext w w') : TrowsAt w' cs rows :=
  ⟨h.1, fun i hi => by obtain ⟨A, c, h1, h2⟩ := h.2 i hi; exact ⟨A, c, h1, h2.ext hx⟩⟩
theorem TrowsAt.nil (w : World) : TrowsAt w [] [] := ⟨rfl, fun i hi => by simp at hi⟩
theorem TrowsAt.cons {w : World} {A : Option Addr} {n c : Nat} {r : List Tk} {cs : List Value} {rows : List (List Tk)} (hn : n = r.length) (h : Sl w A n c (r.map cxv)) (hr : TrowsAt w cs rows) : TrowsAt w (.slice A n c :: cs) (r :: rows) := by
  subst hn
  refine ⟨by simp [hr.1], fun i hi => ?_⟩
  match i with
  | 0 => exact ⟨A, c, rfl, h⟩
  | i + 1 => simpa using hr.2 i (by simpa using hi)
/-- A slice of rows. -/
def TrowsSl (w : World) (R : Option Addr) (m q : Nat) (rows : List (List Tk)) : Prop := m = rows.length ∧ ∃ cs, Sl w R m q cs ∧ TrowsAt w cs rows
theorem TrowsSl.ext {w w' : World} {R : Option Addr} {m q : Nat} {rows : List (List Tk)} (h : TrowsSl w R m q rows) (hx : Ext w w') : TrowsSl w' R m q rows := by
  obtain ⟨h1, cs, h2, h3⟩ := h
  exact ⟨h1, cs, h2.ext hx, h3.ext hx⟩
theorem TrowsSl.row {w : World} {R : Option Addr} {m q : Nat} {rows : List (List Tk)} (h : TrowsSl w R m q rows) {k : Nat} (hk : k < rows.length) :
    ∃ b off, R = some ⟨b, off, none⟩ ∧ ∃ A c, w.cell? ⟨b, off + k, none⟩ = some (.slice A rows[k].length c) ∧ Sl w A rows[k].length c (rows[k].map cxv) := by
  obtain ⟨h1, cs, h2, h3⟩ := h
  obtain ⟨A, c, h4, h5⟩ := h3.2 k hk
  have hne : cs ≠ [] := by intro e; subst e; simp at h4
  obtain ⟨b, off, rfl, _, hc⟩ := h2.cells hne
  exact ⟨b, off, rfl, A, c, hc k _ h4, h5⟩
/-- append of noughts, told by their number, onto nothing. -/
theorem app_zerosT (w : World) {ops : Array Oper} {rest : List Oper} {o : Oper} {a : Act} {Q : Exit → Act → World → Prop} (hgd : o.guard = none) (s x : Operand)
    (ho : o.op = .call { callee := .builtin .append, args := #[s, x], argTypes := #[28, 3] })
    (n : Nat) (hs : a.eval s = .slice none 0 0) (hx : a.eval x = .int .i64 n) (hn : 0 < n) (hsz : n ≤ 100000)
    (h : ∀ g c w', w'.ownsRow w.heap.size 48 1 (.slice (some ⟨g, 0, none⟩) 0 c) 0 [] → n ≤ c → Ext w w' → wpList Try.prog ops Q rest (a.put o.dst (.slice (some ⟨g, 0, none⟩) n c)) w') : wpList Try.prog ops Q (o :: rest) a w := by
  obtain ⟨i0, hi, hz0, hz1, hz2⟩ := info_parts infoC
  have e0 : ¬ ((n : Int) < 0) := by omega
  have e1 : ¬ (281474976710656 < (n : Int) * (i0.bytes : Int)) := by rw [hz2]; omega
  have e2 : ¬ (n = 0) := by omega
  have e3 : ¬ (9223372036854775807 < (n : Int)) := by omega
  have e4 : ¬ (281474976710656 < Builtin.nextslicecap n 0 * i0.bytes) := by rw [nextslicecap_zero hn, hz2]; omega
  have e5 : IntKind.i64.wrap (n : Int) = (n : Int) := by rw [IntKind.wrap_i64]; omega
  have e6 : max (n : Int) 0 = (n : Int) := by rw [Int.max_def]; split <;> omega
  have hu := run_underlying (P := Try.prog) Try.underlying3
  have hr : (Builtin.append_ #[28, 3] o.type #[.slice none 0 0, .int .i64 n]).run Try.prog w = .ok (.slice (some ⟨w.heap.size, 0, none⟩) n (grownCap w n 0 48)) (w.drew.alloc (.cells (Builtin.zeroCells (Value.complex .f64 0 0).cells n ++ Builtin.zeroCells (Value.complex .f64 0 0).cells (grownCap w n 0 48 - n)) 48)) := by
    simp [Builtin.append_, run_underlying (P := Try.prog) Try.underlying28, hu, sizeOf, typeInfo, zeroValue, hi, hz0, hz1, asInt, asIntOf, e0, e1, e2, e3, e4, e5, e6, Question.forced, run_firstCells_none, newRow, grownCap]
  refine wpList_plain hgd fun K hK => ?_
  unfold Oper.wp execOp
  simp only [ho, resolve, invoke, builtin, Sem.run_bind, Sem.run_pure, Result.andThen_ok, List.map_toArray, List.map_cons, List.map_nil, hs, hx, hr]
  have hge := grownCap_ge w n 0 48
  have hcm : grownCap w n 0 48 ≤ maxLen := grownCap_le_maxLen w _ 0 48 (by unfold maxLen; omega)
  refine hK _ _ (h _ _ _ ?_ hge ((Ext.refl w).drew.alloc _))
  refine World.ownsRow_made (base := w.heap.size) (e := 48) (size := 1) w.drew _ _ (Nat.le_refl _) hcm ?_
  have hzc : (Value.complex .f64 0 0).cells.size = 1 := rfl
  simp only [Array.size_append, size_zeroCells, hzc]
  omega

set_option maxHeartbeats 400000 in
theorem growT_any (n : Nat) (w : World) (hn : n ≤ 100000) :
    Calls Try.prog 24 #[.slice none 0 0, .int .i64 n] w fun e w' => ∃ A c, e = .returned (.slice A 0 c) ∧ w'.ownsRow w.heap.size 48 1 (.slice A 0 c) 0 [] ∧ Ext w w' := by
  rcases Nat.eq_zero_or_pos n with h0 | h0
  · subst h0
    go_enter Try.func24, Try.ntmps24
    go_wp2
    go_ret
    exact ⟨none, 0, rfl, World.ownsRow_nil _ _ _ _, Ext.refl w⟩
  · go_enter Try.func24, Try.ntmps24
    go_wp2_with (at_builtin; refine stop_here ?_)
    refine stop_on ?_
    refine app_zerosT _ rfl _ _ rfl n rfl rfl h0 hn ?_
    intro g c w1 ho hc hx
    have HO := Lib.hid ho
    have HX := Lib.hid hx
    clear ho hx
    go_wp2
    go_ret
    exact ⟨_, _, rfl, HO.out, HX.out⟩

theorem flattenT_take_succ {rows : List (List Tk)} {k : Nat} (hk : k < rows.length) : (rows.take (k + 1)).flatten = (rows.take k).flatten ++ rows[k] := by
  rw [List.take_succ_eq_append_getElem hk, List.flatten_append]; simp
theorem flattenT_take_le {rows : List (List Tk)} (k : Nat) : (rows.take k).flatten.length ≤ rows.flatten.length := by
  have h : rows.flatten = (rows.take k).flatten ++ (rows.drop k).flatten := by rw [← List.flatten_append, List.take_append_drop]
  rw [h]; simp
set_option maxRecDepth 100000 in
set_option maxHeartbeats 1000000 in
theorem concatT_any (R : Option Addr) (rows : List (List Tk)) (m q : Nat) (w : World) (hb : rows.flatten.length ≤ 10000) (hR : TrowsSl w R m q rows) :
    Calls Try.prog 16 #[.slice R m q] w fun e w' => ∃ A c, e = .returned (.slice A rows.flatten.length c) ∧ Sl w' A rows.flatten.length c (rows.flatten.map cxv) ∧ Ext w w' := by
  have hm := hR.1
  have hml : m ≤ maxLen := by obtain ⟨_, cs, h, _⟩ := hR; exact h.len
  unfold maxLen at hml
  subst hm
  have HR := Lib.hid hR
  obtain ⟨N, hN⟩ : ∃ N, rows.flatten.length = N := ⟨_, rfl⟩
  rw [hN] at hb ⊢
  have HNN := Lib.hid hN
  have HLE := Lib.hid (fun k => (show (rows.take k).flatten.length ≤ N from by rw [← hN]; exact flattenT_take_le k))
  clear hR hN
  go_enter Try.func16, Try.ntmps16
  go_wp2_with fail
  go_loop [3, 11] (fun s i => ∃ k s0 : Nat, k ≤ rows.length ∧ i = .int .i64 k ∧ s = .int .i64 s0 ∧ s0 = (rows.take k).flatten.length) (fun _ i => rows.length - (intOf i).toNat)
  case atStart => exact ⟨0, 0, Nat.zero_le _, rfl, rfl, rfl⟩
  case round =>
    obtain ⟨k, s0, hk, rfl, rfl, hs⟩ := hrel
    have HS := Lib.hid hs
    have h9 : s0 ≤ N := by rw [hs]; exact HLE.out k
    clear hs
    rcases Nat.lt_or_ge k rows.length with hlt | hlt
    · obtain ⟨b, off, rfl, A0, c0, hc0, hs0⟩ := HR.out.row hlt
      have hki : (k : Int) < (rows.length : Int) := by omega
      have hsum : s0 + rows[k].length = (rows.take (k + 1)).flatten.length := by rw [flattenT_take_succ hlt, List.length_append, ← HS.out]
      have hle : s0 + rows[k].length ≤ N := by rw [hsum]; exact HLE.out (k + 1)
      have HSUM := Lib.hid hsum
      generalize rows[k].length = r0 at *
      have h5 : ¬ (s0 : Int) + (r0 : Int) < 0 := by omega
      have h6 : (s0 : Int) + (r0 : Int) ≤ 10000 := by omega
      clear hs0 hsum
      go_wp2_with fail
      go_round
      case rel => exact ⟨k + 1, s0 + r0, by omega, by go_num, by go_num, HSUM.out⟩
      case measure => simp [intOf]; omega
    · obtain rfl : k = rows.length := by omega
      obtain rfl : s0 = N := by rw [HS.out, List.take_length]; exact HNN.out
      have HG := Lib.hid (growT_any s0 w (by omega))
      clear hlt
      go_wp2_with (go_at_call 24; refine HG.out.mono ?_; rintro e w1 ⟨A, c, rfl, ho, hx⟩; have HO := Lib.hid ho; have HX := Lib.hid hx; clear ho hx)
      go_loopw [6, 27] (fun v i wr => ∃ k s1 : Nat, k ≤ rows.length ∧ i = .int .i64 k ∧ s1 = (rows.take k).flatten.length ∧ ∃ A' c', v = .slice A' s1 c' ∧ wr.ownsRow w.heap.size 48 1 (.slice A' s1 c') s1 ((rows.take k).flatten.map cxv) ∧ Ext w wr) (fun _ i _ => rows.length - (intOf i).toNat)
      case atStart => exact ⟨0, 0, Nat.zero_le _, rfl, rfl, A, c, rfl, HO.out, HX.out⟩
      case round =>
        obtain ⟨k, s1, hk, rfl, hs1, A1, c1, rfl, ho, hx⟩ := hrel
        have HO1 := Lib.hid ho
        have HX1 := Lib.hid hx
        have HS1 := Lib.hid hs1
        clear hs1 ho
        rcases Nat.lt_or_ge k rows.length with hlt | hlt
        · obtain ⟨b, off, rfl, A0, c0, hc0, hs0⟩ := (HR.out.ext hx).row hlt
          have hki : (k : Int) < (rows.length : Int) := by omega
          have HF := Lib.hid (flattenT_take_succ hlt)
          have hsum : s1 + rows[k].length = (rows.take (k + 1)).flatten.length := by rw [flattenT_take_succ hlt, List.length_append, ← HS1.out]
          have hle : s1 + rows[k].length ≤ s0 := by rw [hsum]; exact HLE.out (k + 1)
          have HSUM := Lib.hid hsum
          have HS0 := Lib.hid hs0
          obtain ⟨r, hr⟩ : ∃ r, rows[k] = r := ⟨_, rfl⟩
          rw [hr] at HF HSUM HS0 hc0 hle
          obtain ⟨m, hm⟩ : ∃ m, r.length = m := ⟨_, rfl⟩
          have HM := Lib.hid hm
          rw [hm] at HSUM HS0 hc0 hle
          clear hs0 hsum hx hr hm
          go_wp2_with (at_builtin; refine stop_here ?_)
          refine stop_on ?_
          refine app_tk _ rfl _ _ rfl w.heap.size _ s1 (rows.take k).flatten rfl HO1.out A0 m c0 r rfl HM.out HS0.out (by omega) HX1.out.size ?_
          intro A4 c4 w4 hown hg4
          have HX4 := Lib.hid (HX1.out.app HO1.out (Nat.le_refl _) hg4)
          rw [← HF.out] at hown
          have HO4 := Lib.hid hown
          clear hown hg4
          go_wp2_with fail
          go_roundw
          case rel => exact ⟨k + 1, s1 + m, by omega, by go_num, HSUM.out, A4, c4, rfl, HO4.out, HX4.out⟩
          case measure => simp [intOf]; omega
        · obtain rfl : k = rows.length := by omega
          obtain rfl : s1 = s0 := by rw [HS1.out, List.take_length]; exact HNN.out
          have HS := Lib.hid (own_sl HO1.out)
          rw [List.take_length] at HS
          clear hx hlt
          go_wp2_with fail
          go_ret
          exact ⟨_, _, rfl, HS.out, HX1.out⟩


set_option maxHeartbeats 400000 in
/-- Reverse of a row of one task, or none. -/
theorem revT_low (A : Option Addr) (m c : Nat) (w : World) (hm : m ≤ 1) :
    Calls Try.prog 27 #[.slice A m c] w fun e w' => e = .returned (.tuple #[]) ∧ w = w' := by
  have hw : IntKind.i64.wrap ((m : Int) - 1) = (m : Int) - 1 := by rw [IntKind.wrap_i64]; omega
  have hlt : ¬ (0 : Int) < (m : Int) - 1 := by omega
  go_enter Try.func27, Try.ntmps27
  go_wp2_with fail
  go_loop [2, 3] (fun i j => i = .int .i64 0 ∧ j = .int .i64 ((m : Int) - 1)) (fun _ _ => 0)
  case atStart => exact ⟨rfl, by first | rfl | rw [hw]⟩
  case round =>
    obtain ⟨rfl, rfl⟩ := hrel
    go_wp2_with fail
    go_end0
    exact ⟨rfl, rfl⟩
set_option maxHeartbeats 400000 in
theorem cleanReversed_low (A : Option Addr) (l : List Tk) (m c : Nat) (w : World) (hm : m = l.length) (h1 : m ≤ 1) (hA : Sl w A m c (l.map cxv)) :
    Calls Try.prog 19 #[.slice A m c] w fun e w' => ∃ B d, e = .returned (.slice B m d) ∧ w'.ownsRow w.heap.size 48 1 (.slice B m d) m (l.map cxv) ∧ Ext w w' := by
  have HC := Lib.hid (cloneT_any A l m c w hm (by omega) hA)
  clear hm hA
  go_enter Try.func19, Try.ntmps19
  go_wp2_with (first | (go_at_call 26; refine HC.out.mono ?_; rintro e w1 ⟨B, d, rfl, ho, hx⟩; have HO := Lib.hid ho; have HX := Lib.hid hx; clear ho hx) | (go_at_call 27; refine (revT_low _ _ _ _ h1).mono ?_; rintro e w2 ⟨rfl, rfl⟩))
  go_ret
  exact ⟨_, _, rfl, HO.out, HX.out⟩
end Go.Proofs.Ytlbhcakjcklmgaa
namespace Go.Proofs.Ytlbhcakjcklmgaa
open Go.RowKit
attribute [local go_sem ↓] Go.wp_at_zero Go.wp_at_succ

/-- The kind of step that a task comes to. -/
def kindV (c : HC) (p k : Nat) : Value :=
  if k = 0 ∧ (c.ref ≠ 1 ∨ c.leaf = true) then .iface 72 (.int .i64 p)
  else if k = 0 then .iface 76 (.agg #[])
  else if k ≤ c.it.length then .iface 78 (.int .i64 (c.it.getD (k - 1) (0, 0)).2)
  else .iface 79 (.int .i64 p)
set_option maxHeartbeats 800000 in
theorem cleanFirst_any (x : HC) (A : Option Addr) (m c p : Nat) (w : World) :
    Calls Try.prog 46 #[.agg #[.int .i64 x.ref, .bool x.pin, .bool x.leaf, .slice A m c], .int .i64 p] w fun e w' => e = .returned (kindV x p 0) ∧ Ext w w' := by
  have HX := Lib.hid ((Ext.refl w).alloc (.cells #[.int .i64 x.ref, .bool x.pin, .bool x.leaf, .slice A m c] 38))
  have hb := Bx.new w #[.int .i64 x.ref, .bool x.pin, .bool x.leaf, .slice A m c] 38
  obtain ⟨p0, p1, p2, p3⟩ := hb.read4
  clear hb
  have hK : kindV x p 0 = if x.ref ≠ 1 ∨ x.leaf = true then .iface 72 (.int .i64 p) else .iface 76 (.agg #[]) := by unfold kindV; simp
  rw [hK]
  clear hK
  generalize x.ref = r at *
  generalize x.pin = pn at *
  generalize x.leaf = lf at *
  by_cases h : r = 1
  · subst h
    cases lf
    · rw [if_neg (by simp)]
      go_enter Try.func46, Try.ntmps46
      go_wp2
      go_ret
      exact ⟨by first | rfl | simp, HX.out⟩
    · rw [if_pos (by simp)]
      go_enter Try.func46, Try.ntmps46
      go_wp2
      go_ret
      exact ⟨by first | rfl | simp, HX.out⟩
  · rw [if_pos (.inl h)]
    have d0 : (r != 1) = true := bne_iff_ne.2 h
    go_enter Try.func46, Try.ntmps46
    go_wp2
    go_ret
    exact ⟨by first | rfl | simp, HX.out⟩
set_option maxRecDepth 100000 in
set_option maxHeartbeats 1600000 in
theorem cleanKind_any (R : Option Addr) (l : List HC) (n q p k : Nat) (keep : Int) (w : World) (hp : p < l.length) (hn2 : n ≤ 2000) (hk : k ≤ 5) (hA : HcSl w R n q l) :
    Calls Try.prog 36 #[.agg #[.slice R n q, .int .i64 keep], .complex .f64 (fN p) (fN k)] w fun e w' => e = .returned (kindV l[p] p k) ∧ Ext w w' := by
  have hn := hA.1
  have HX := Lib.hid ((Ext.refl w).alloc (.cells #[.slice R n q, .int .i64 keep] 24))
  have HB := Lib.hid (Bx.new w #[.slice R n q, .int .i64 keep] 24)
  obtain ⟨b, off, rfl, hbl, A, c, r0, r1, r2, r3, hI⟩ := hA.cell hp
  have hlt : (p : Int) < (n : Int) := by omega
  have hp9 : ¬ (p : Int) < 0 := by omega
  have c0 := (HX.out.cell (p := ⟨b, off + p * 4, none⟩) hbl).trans r0
  have c1 := (HX.out.cell (p := ⟨b, off + p * 4 + 1, none⟩) hbl).trans r1
  have c2 := (HX.out.cell (p := ⟨b, off + p * 4 + 2, none⟩) hbl).trans r2
  have c3 := (HX.out.cell (p := ⟨b, off + p * 4 + 3, none⟩) hbl).trans r3
  obtain ⟨p0, p1, p2⟩ := HB.out.read2
  have HP := Lib.hid (fun w' => todoPlace_any (ofT p k) p w' (by omega) (isWh_fN p))
  have HD := Lib.hid (fun w' => todoDone_any (ofT p k) k w' (by omega) (isWh_fN k))
  have HF := Lib.hid (fun w' => cleanFirst_any l[p] A l[p].it.length c p w')
  obtain ⟨W, hW⟩ : ∃ W, w.alloc (.cells #[.slice (some ⟨b, off, none⟩) n q, .int .i64 keep] 24) = W := ⟨_, rfl⟩
  rw [hW] at c0 c1 c2 c3 p0 p1 p2
  rw [hW] at HX HB
  have HI := Lib.hid (hI.ext HX.out)
  clear hA hI r0 r1 r2 r3
  generalize l[p] = x at *
  clear hn hp
  by_cases hk0 : k = 0
  · subst hk0
    subst hW
    go_enter Try.func36, Try.ntmps36
    go_wp2_with (first | (go_at_call 44; refine (HP.out _).mono ?_; rintro e w2 ⟨rfl, rfl⟩) | (go_at_call 45; refine (HD.out _).mono ?_; rintro e w2 ⟨rfl, rfl⟩) | (go_at_call 46; refine (HF.out _).mono ?_; rintro e w2 ⟨rfl, hx⟩; have HX2 := Lib.hid (HX.out.trans hx); clear hx))
    go_ret
    exact ⟨rfl, HX2.out⟩
  · have d0 : ¬ (k : Int) < 1 := by omega
    have d1 : decide ((k : Int) < 1) = false := decide_eq_false (by omega)
    by_cases hkm : k ≤ x.it.length
    · have hK : kindV x p k = .iface 78 (.int .i64 (x.it.getD (k - 1) (0, 0)).2) := by unfold kindV; rw [if_neg (fun h => hk0 h.1), if_neg hk0, if_pos hkm]
      rw [hK]
      obtain ⟨j, rfl⟩ : ∃ j, k = j + 1 := ⟨k - 1, by omega⟩
      have hj : j < x.it.length := by omega
      obtain ⟨b2, o2, rfl, hb2, a0, a1⟩ := it_at HI.out hj
      have e1 : IntKind.i64.wrap (((j + 1 : Nat) : Int) - 1) = (j : Int) := by rw [IntKind.wrap_i64]; omega
      have e2 : x.it.getD (j + 1 - 1) (0, 0) = x.it[j] := by rw [Nat.add_sub_cancel, List.getD_eq_getElem?_getD, List.getElem?_eq_getElem hj]; rfl
      rw [e2]
      have d2 : decide (((j + 1 : Nat) : Int) ≤ (x.it.length : Int)) = true := decide_eq_true (by omega)
      have d3 : (j : Int) < (x.it.length : Int) := by omega
      clear a0 hK hk0 hkm e2 HI HF
      generalize x.it[j].2 = y at *
      clear hj
      generalize x.it.length = m at *
      subst hW
      go_enter Try.func36, Try.ntmps36
      go_wp2_with (first | (go_at_call 44; refine (HP.out _).mono ?_; rintro e w2 ⟨rfl, rfl⟩) | (go_at_call 45; refine (HD.out _).mono ?_; rintro e w2 ⟨rfl, rfl⟩))
      go_ret
      exact ⟨rfl, HX.out⟩
    · have hK : kindV x p k = .iface 79 (.int .i64 p) := by unfold kindV; rw [if_neg (fun h => hk0 h.1), if_neg hk0, if_neg hkm]
      rw [hK]
      have d2 : decide ((k : Int) ≤ (x.it.length : Int)) = false := decide_eq_false (by omega)
      have d4 : decide (k ≤ x.it.length) = false := decide_eq_false hkm
      clear hK hk0 hkm HI HF
      generalize x.it.length = m at *
      subst hW
      go_enter Try.func36, Try.ntmps36
      go_wp2_with (first | (go_at_call 44; refine (HP.out _).mono ?_; rintro e w2 ⟨rfl, rfl⟩) | (go_at_call 45; refine (HD.out _).mono ?_; rintro e w2 ⟨rfl, rfl⟩))
      go_ret
      exact ⟨rfl, HX.out⟩
set_option maxRecDepth 100000 in
set_option maxHeartbeats 400000 in
theorem cloneC_any (v : World) (R : Option Addr) (l : List HC) (n q : Nat) (w : World) (hx : Ext v w) (h0 : 0 < n) (hb : n ≤ 90000) (hA : HcV v w R n q l) :
    Calls Try.prog 49 #[.slice R n q] w fun e w' => ∃ g d, e = .returned (.slice (some ⟨g, 0, none⟩) n d) ∧ w.heap.size ≤ g ∧ Own v w' g d l ∧ Ext w w' := by
  obtain ⟨hn, cs, hsl, hat⟩ := hA
  cases R with
  | none =>
    have h1 := hsl.1 rfl
    have h2 := hsl.2.1
    omega
  | some ad =>
    have HA := Lib.hid hsl
    have HT := Lib.hid hat
    have HN := Lib.hid hn
    have HV := Lib.hid hx
    have hq : ∀ w', (binOp .eql 22 (.slice (some ad) n q) (.slice none 0 0)).run Try.prog w' = .ok (.bool false) w' := fun w' => Lib.run_eql_slice_nil (P := Try.prog) w' 22 38 (some ad) n q 0 0 Try.underlying22
    clear hsl hat hn hx
    go_enter Try.func49, Try.ntmps49
    go_wp2_with (at_builtin; refine stop_here ?_)
    refine stop_on ?_
    refine app_hcs _ rfl _ _ rfl w.heap.size _ 0 [] rfl (own_empty w 38 4) (some ad) n q cs rfl (by rw [HT.out.1, HN.out]) (HA.out.ext ((Ext.refl w).alloc _)) (hc_one HT.out) (by omega) (by simp) ?_
    intro A1 c1 w1 hown hg
    rw [List.nil_append, Nat.zero_add] at hown
    rw [Nat.zero_add]
    have HX1 := Lib.hid (show Ext w w1 from Below.grown ((Ext.refl w).alloc _) hg (by simp) (by intro q hq; cases hq; exact Nat.le_refl _))
    obtain ⟨g, rfl, hgw⟩ := own_some hown (by omega)
    have HO1 := Lib.hid (show Own v w1 g c1 l from ⟨cs, by rw [← HN.out]; exact own_base hown HV.out.size, HT.out, HV.out.trans HX1.out⟩)
    clear hown hg
    go_wp2_with fail
    go_ret
    exact ⟨g, _, rfl, hgw, HO1.out, HX1.out⟩
set_option maxRecDepth 100000 in
set_option maxHeartbeats 1600000 in
theorem cleanWithout_any (v : World) (R : Option Addr) (l : List HC) (n q k : Nat) (keep : Int) (w : World) (hx : Ext v w) (hk : k < l.length) (hb : n ≤ 90000) (hA : HcR v w R n q l) :
    Calls Try.prog 39 #[.agg #[.slice R n q, .int .i64 keep], .int .i64 k] w fun e w' => ∃ S d, e = .returned (.agg #[.slice S n d, .int .i64 keep]) ∧ HcR v w' S n d (l.set k ⟨0, true, false, []⟩) ∧ Ext w w' := by
  have hn := hA.1.1
  obtain ⟨W, hW⟩ : ∃ W, (w.alloc (.cells #[.slice R n q, .int .i64 keep] 24)).alloc (.cells #[.slice none 0 0, .int .i64 0] 24) = W := ⟨_, rfl⟩
  obtain ⟨hx0, hb0, hb1⟩ := allocs2 hW
  have hsz : W.heap.size = w.heap.size + 1 + 1 := by rw [← hW]; simp
  have HX := Lib.hid hx0
  have HXV := Lib.hid hx
  have HB0 := Lib.hid hb0
  have HB1 := Lib.hid hb1
  have HSZ := Lib.hid hsz
  have HC := Lib.hid (cloneC_any v R l n q W (hx.trans hx0) (by omega) hb (hA.1.ext hx0))
  have hkn : (k : Int) < (n : Int) := by omega
  have HN := Lib.hid hn
  obtain ⟨p0, p1, p2⟩ := hb0.read2
  obtain ⟨y0, y1⟩ := hb0.free2
  clear hx hx0 hb0 hb1 hsz hA hn
  go_enter Try.func39, Try.ntmps39
  go_upto_region 1 with fail
  generalize hW : World.alloc (World.alloc w _) _ = W at *
  clear hW
  go_cut [7] from 5 to 8 (fun s wx => ∃ g d, s = .slice (some ⟨g, 0, none⟩) n d ∧ Bx wx w.heap.size #[.slice (some ⟨g, 0, none⟩) n d, .int .i64 keep] ∧ Bx wx (w.heap.size + 1) #[.slice none 0 0, .int .i64 0] ∧ Own v wx g d l ∧ w.heap.size + 1 < g ∧ Ext w wx)
  case first =>
    go_wp2_with (go_at_call 49; refine stop_here ?_)
    refine stop_on ?_
    refine HC.out.mono ?_
    rintro e w1 ⟨g, d, rfl, hg, ho, hx1⟩
    have hsz := HSZ.out
    have hvs := HXV.out.size
    have HX1 := Lib.hid (HX.out.trans hx1)
    have HC0 := Lib.hid ((HB0.out.ext hx1).set 0 (.slice (some ⟨g, 0, none⟩) n d))
    have HC1 := Lib.hid ((HB1.out.ext hx1).set_other (p := ⟨w.heap.size, 0, none⟩) (by simp) (.slice (some ⟨g, 0, none⟩) n d))
    have HO := Lib.hid (ho.other (p := ⟨w.heap.size, 0, none⟩) (by simp; omega) (by simpa using hvs) (.slice (some ⟨g, 0, none⟩) n d))
    have HX2 := Lib.hid (HX1.out.set (p := ⟨w.heap.size, 0, none⟩) (by simp) (.slice (some ⟨g, 0, none⟩) n d))
    obtain ⟨z0, z1⟩ := (HB0.out.ext hx1).free2
    obtain ⟨z2, z3, z4⟩ := (HB0.out.ext hx1).read2
    have hgk : w.heap.size + 1 < g := by omega
    clear ho hx1 p0 p1 p2 y0 y1 hg hsz
    go_wp2_with fail
    go_meet
    exact ⟨g, d, rfl, HC0.out, HC1.out, HO.out, hgk, HX2.out⟩
  case rest =>
    obtain ⟨g, d, rfl, hb0, hb1, ho, hg, hx⟩ := hcut
    have HB20 := Lib.hid hb0
    have HB21 := Lib.hid hb1
    have HX2 := Lib.hid hx
    have hvs := HXV.out.size
    obtain ⟨z2, z3, z4⟩ := hb0.read2
    obtain ⟨A, c, r0, r1, r2, r3, _⟩ := ho.cell hk
    have e0 := ho.free (k * 4)
    have e1 := ho.free (k * 4 + 1)
    have e2 := ho.free (k * 4 + 2)
    have e3 := ho.free (k * 4 + 3)
    obtain ⟨y0, y1⟩ := hb1.free2
    obtain ⟨y2, y3, y4⟩ := hb1.read2
    have HOS := Lib.hid (ho.set hk ⟨0, true, false, []⟩ (A := none) (c := 0) (Sl.nil _))
    have HG4 := Lib.hid (grown_hc wc g (k * 4) (k * 4 + 1) (k * 4 + 2) (k * 4 + 3) (.int .i64 0) (.bool true) (.bool false) (.slice none 0 0))
    have HB30 := Lib.hid (hb0.grown HG4.out (fun e => by have := Option.some.inj e; omega))
    have HB31 := Lib.hid (hb1.grown HG4.out (fun e => by have := Option.some.inj e; omega))
    have HX3 := Lib.hid ((((hx.set (p := ⟨g, k * 4, none⟩) (by simp; omega) (.int .i64 0)).set (p := ⟨g, k * 4 + 1, none⟩) (by simp; omega) (.bool true)).set (p := ⟨g, k * 4 + 2, none⟩) (by simp; omega) (.bool false)).set (p := ⟨g, k * 4 + 3, none⟩) (by simp; omega) (.slice none 0 0))
    go_upto_region 3 with fail
    simp only [List.length_nil] at HOS
    generalize hW4 : World.setCell (World.setCell (World.setCell (World.setCell wc _ _) _ _) _ _) _ _ = W4 at *
    clear hW4 HG4 z2 z3 z4 r0 r1 r2 r3 e0 e1 e2 e3 y0 y1 y2 y3 y4 hb0 hb1 ho hx
    obtain ⟨z2, z3, z4⟩ := HB30.out.read2
    obtain ⟨y0, y1⟩ := HB31.out.free2
    obtain ⟨y2, y3, y4⟩ := HB31.out.read2
    have HOF := Lib.hid ((HOS.out.other (p := ⟨w.heap.size + 1, 0, none⟩) (by simp; omega) (by simp; omega) (.slice (some ⟨g, 0, none⟩) n d)).other (p := ⟨w.heap.size + 1, 1, none⟩) (by simp; omega) (by simp; omega) (.int .i64 keep))
    go_wp2_with fail
    refine ret2_cell (k := w.heap.size + 1) (x := .slice (some ⟨g, 0, none⟩) n d) (y := .int .i64 keep) (v := .agg #[.slice (some ⟨g, 0, none⟩) n d, .int .i64 keep]) ?hb4 (fun r0 r1 => by simp [results, Try.results39, go_sem, r0, r1]) rfl ?hx4
    case hb4 => exact HB31.out.set2 _ _
    case hx4 => exact ⟨_, _, rfl, HOF.out.hr (by rw [List.length_set]; exact HN.out), HX3.out.store2 (by omega) _ _⟩
end Go.Proofs.Ytlbhcakjcklmgaa
