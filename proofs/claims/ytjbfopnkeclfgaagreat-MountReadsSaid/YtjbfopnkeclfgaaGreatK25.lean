/- Rows of numbers and bools of the call's own, told by functions (as GpB and GrW4 have them, for seats without these). Walks of isPlace, Given and told of package audit, whatever the heap and the tasks are. Walks of count and firsts of package audit. The walk of Refs of package audit. What is held, step by step: the plain theory of the walk of Held of package audit. -/
import Derived.Test.YtjbfopnkeclfgaaGreatK06
import Derived.Test.YtjbfopnkeclfgaaGreatK05
import Derived.Test.YtjbfopnkeclfgaaGreatK22
import Derived.Test.YtjbfopnkeclfgaaGreatK23
import Derived.Deep.QuietTactic
import Derived.BigQuiet
import Derived.WalkMore
import Derived.ScopeJumps
namespace Go.Proofs.YtjbfopnkeclfgaaGreat
set_option maxRecDepth 20000
open Go.RowKit

def rwI (n : Nat) (f : Nat → Int) : List Value := (List.range n).map (fun k => iv (f k))
theorem rwI_len (n : Nat) (f : Nat → Int) : (rwI n f).length = n := by unfold rwI; simp
theorem rwI_set {n : Nat} {f : Nat → Int} {k : Nat} (_hk : k < n) (b : Int) : (rwI n f).set k (.int .i64 b) = rwI n (fun j => if j = k then b else f j) := by
  apply List.ext_getElem (by simp [rwI_len])
  intro j h1 h2
  by_cases h : k = j
  · subst h; simp [rwI, iv]
  · simp [rwI, iv, List.getElem_set_ne h, Ne.symm h]
theorem rwI_congr {n : Nat} {f g : Nat → Int} (h : ∀ k, k < n → f k = g k) : rwI n f = rwI n g := by
  unfold rwI
  exact List.map_congr_left (fun k hk => by rw [h k (List.mem_range.1 hk)])
theorem rwI_made (n : Nat) : (madeCells (Value.int .i64 0).cells (n * 1)).toList = rwI n (fun _ => 0) := by
  have hz : (Value.int .i64 0).cells = #[.int .i64 0] := by simp [Value.cells]
  rw [hz, Nat.mul_one]
  apply List.ext_getElem (by simp [rwI_len, size_madeCells])
  intro j h1 h2
  unfold rwI
  simp [madeCells, iv, Nat.mod_one]
/-- A row of numbers of the call's own that holds what f says. -/
def OnI (w : World) (B g n c : Nat) (f : Nat → Int) : Prop := B ≤ g ∧ w.ownsRow B 3 1 (.slice (some ⟨g, 0, none⟩) n c) n (rwI n f)
theorem OnI.free {w : World} {B g n c : Nat} {f : Nat → Int} (h : OnI w B g n c f) (k : Nat) : w.frozen? ⟨g, k, none⟩ = false := own_free h.2 k
theorem OnI.cell {w : World} {B g n c : Nat} {f : Nat → Int} (h : OnI w B g n c f) {k : Nat} (hk : k < n) : w.cell? ⟨g, k, none⟩ = some (.int .i64 (f k)) := (h.2.cellAt k (by omega)).trans (by unfold rwI; simp [hk, iv])
theorem OnI.ext {w w' : World} {B g n c : Nat} {f : Nat → Int} (h : OnI w B g n c f) (hx : Ext w w') : OnI w' B g n c f := ⟨h.1, own_ext h.2 hx⟩
theorem OnI.set {w : World} {B g n c : Nat} {f : Nat → Int} (h : OnI w B g n c f) {k : Nat} (hk : k < n) (b : Int) : OnI (w.setCell ⟨g, k, none⟩ (.int .i64 b)) B g n c (fun j => if j = k then b else f j) := ⟨h.1, by rw [← rwI_set hk]; exact own_set h.2 (by omega) _⟩
theorem OnI.congr {w : World} {B g n c : Nat} {f f' : Nat → Int} (h : OnI w B g n c f) (he : ∀ k, k < n → f k = f' k) : OnI w B g n c f' := ⟨h.1, by rw [← rwI_congr he]; exact h.2⟩
theorem OnI.made (w : World) (B n : Nat) (hB : B ≤ w.heap.size) (hn : n ≤ 90000) : OnI (w.alloc (.cells (madeCells (Value.int .i64 0).cells (n * 1)) 3)) B w.heap.size n n (fun _ => 0) :=
  ⟨hB, by rw [← rwI_made]; exact World.ownsRow_lit (base := B) (e := 3) (size := 1) w _ n hB (by unfold maxLen; omega) (by rw [size_madeCells])⟩
theorem infoI8 : (Tryz.prog.info? 3).map (fun i => (i.zero, i.size, i.bytes)) = some (some (.int .i64 0), 1, 8) := by kernel_rfl
theorem infoB8 : (Tryz.prog.info? 4).map (fun i => (i.zero, i.size, i.bytes)) = some (some (.bool false), 1, 1) := by kernel_rfl
def bo8 (b : Bool) : Value := .bool b
def rwB (n : Nat) (f : Nat → Bool) : List Value := (List.range n).map (fun k => bo8 (f k))
theorem rwB_len (n : Nat) (f : Nat → Bool) : (rwB n f).length = n := by unfold rwB; simp
theorem rwB_at {n : Nat} {f : Nat → Bool} {k : Nat} (hk : k < n) : (rwB n f)[k]? = some (.bool (f k)) := by unfold rwB; simp [hk, bo8]
theorem rwB_congr {n : Nat} {f g : Nat → Bool} (h : ∀ k, k < n → f k = g k) : rwB n f = rwB n g := by
  unfold rwB
  exact List.map_congr_left (fun k hk => by rw [h k (List.mem_range.1 hk)])
theorem rwB_set {n : Nat} {f : Nat → Bool} {k : Nat} (_hk : k < n) (b : Bool) : (rwB n f).set k (.bool b) = rwB n (fun j => if j = k then b else f j) := by
  apply List.ext_getElem (by simp [rwB_len])
  intro j h1 h2
  by_cases h : k = j
  · subst h; simp [rwB, bo8]
  · simp [rwB, bo8, List.getElem_set_ne h, Ne.symm h]
/-- A row of the call's own that holds what f says. -/
def OnB (w : World) (B g n c : Nat) (f : Nat → Bool) : Prop := B ≤ g ∧ w.ownsRow B 4 1 (.slice (some ⟨g, 0, none⟩) n c) n (rwB n f)
theorem OnB.read {w : World} {B g n c : Nat} {f : Nat → Bool} (h : OnB w B g n c f) {k : Nat} (hk : k < n) : w.cell? ⟨g, k, none⟩ = some (.bool (f k)) := (h.2.cellAt k (by omega)).trans (rwB_at hk)
theorem OnB.free {w : World} {B g n c : Nat} {f : Nat → Bool} (h : OnB w B g n c f) (k : Nat) : w.frozen? ⟨g, k, none⟩ = false := own_free h.2 k
theorem OnB.ext {w w' : World} {B g n c : Nat} {f : Nat → Bool} (h : OnB w B g n c f) (hx : Ext w w') : OnB w' B g n c f := ⟨h.1, own_ext h.2 hx⟩
theorem OnB.congr {w : World} {B g n c : Nat} {f f' : Nat → Bool} (h : OnB w B g n c f) (he : ∀ k, k < n → f k = f' k) : OnB w B g n c f' := ⟨h.1, by rw [← rwB_congr he]; exact h.2⟩
theorem OnB.set {w : World} {B g n c : Nat} {f : Nat → Bool} (h : OnB w B g n c f) {k : Nat} (hk : k < n) (b : Bool) : OnB (w.setCell ⟨g, k, none⟩ (.bool b)) B g n c (fun j => if j = k then b else f j) := ⟨h.1, by rw [← rwB_set hk]; exact own_set h.2 (by omega) _⟩
theorem OnB.other {w : World} {B g n c : Nat} {f : Nat → Bool} (h : OnB w B g n c f) {p : Addr} (hp : g ≠ p.block) (v : Value) : OnB (w.setCell p v) B g n c f := ⟨h.1, ownsRow_setCell_other h.2 (by simp [Value.ownBlock, hp]) v⟩
theorem OnB.lt {w : World} {B g n c : Nat} {f : Nat → Bool} (h : OnB w B g n c f) : g < w.heap.size := (h.2.lt g rfl).2
theorem OnB.base {w : World} {B B' g n c : Nat} {f : Nat → Bool} (h : OnB w B g n c f) (hB : B' ≤ B) : OnB w B' g n c f :=
  ⟨Nat.le_trans hB h.1, h.2.1, h.2.2.imp id (fun ⟨a, b, c, h1, h2, h3⟩ => ⟨a, b, c, h1, Nat.le_trans hB h2, h3⟩)⟩
theorem rwB_made (n : Nat) : (madeCells (Value.bool false).cells (n * 1)).toList = rwB n (fun _ => false) := by
  have hz : (Value.bool false).cells = #[.bool false] := by simp [Value.cells]
  rw [hz, Nat.mul_one]
  apply List.ext_getElem (by simp [rwB_len, size_madeCells])
  intro j h1 h2
  unfold rwB
  simp [madeCells, bo8, Nat.mod_one]
theorem OnB.made (w : World) (B n : Nat) (hB : B ≤ w.heap.size) (hn : n ≤ 90000) : OnB (w.alloc (.cells (madeCells (Value.bool false).cells (n * 1)) 4)) B w.heap.size n n (fun _ => false) :=
  ⟨hB, by rw [← rwB_made]; exact World.ownsRow_lit (base := B) (e := 4) (size := 1) w _ n hB (by unfold maxLen; omega) (by rw [size_madeCells])⟩
theorem iv_one1 (l : List Int) : ∀ u ∈ l.map iv, u.oneCell' = true := by
  intro u hu
  obtain ⟨_, _, rfl⟩ := List.mem_map.1 hu
  rfl
theorem app_iv1 (w : World) {ops : Array Oper} {rest : List Oper} {o : Oper} {a : Act} {Q : Exit → Act → World → Prop} (hgd : o.guard = none) (s x : Operand)
    (ho : o.op = .call { callee := .builtin .append, args := #[s, x], argTypes := #[76, 76] })
    (B : Nat) (v : Value) (n : Nat) (l : List Int) (hs : a.eval s = v) (hown : w.ownsRow B 3 1 v n (l.map iv))
    (A : Option Addr) (m c : Nat) (k : List Int) (hx : a.eval x = .slice A m c) (hl : k.length = m) (hS : Sl w A m c (k.map iv))
    (hsz : n + m ≤ 1000000) (hB : B ≤ w.heap.size)
    (h : ∀ A' c' w', w'.ownsRow B 3 1 (.slice A' (n + m) c') (n + m) ((l ++ k).map iv) → w.grownBy w' v.ownBlock → wpList Tryz.prog ops Q rest (a.put o.dst (.slice A' (n + m) c')) w') : wpList Tryz.prog ops Q (o :: rest) a w := by
  refine wpList_app_sl w hgd s x 76 ho B 3 (.int .i64 0) 1 8 Tryz.underlying76 infoI8 rfl (by omega) v n (l.map iv) hs hown A m c (k.map iv) hx (by simp [hl]) hS (iv_one1 k) (by unfold maxLen; omega) (by omega) hB ?_
  intro A' c' w' h1 h2
  rw [← List.map_append] at h1
  exact h A' c' w' h1 h2
theorem sl_lit3 {w : World} {z : Nat} (hz : z = w.heap.size) (e n : Nat) (xs : List Value) (hn : n ≤ maxLen) : Sl (w.alloc (.cells xs.toArray e)) (some ⟨z, 0, none⟩) n n xs := by subst hz; exact sl_lit w e n xs hn
end Go.Proofs.YtjbfopnkeclfgaaGreat
namespace Go.Proofs.YtjbfopnkeclfgaaGreat
set_option maxRecDepth 20000
open Go.RowKit

set_option maxHeartbeats 400000 in
theorem auIsPlace_any (p n : Int) (w : World) :
    Calls Tryz.prog 99 #[.int .i64 p, .int .i64 n] w fun e w' => e = .returned (.bool (isPl p n)) ∧ w = w' := by
  unfold isPl
  by_cases h : 0 ≤ p
  · have d0 : decide (0 ≤ p) = true := decide_eq_true h
    have d1 : decide (p ≥ 0) = true := decide_eq_true h
    go_enter Tryz.func99, Tryz.ntmps99
    go_wp2
    go_ret
    exact ⟨ret_bool (by rw [d0, Bool.true_and]), rfl⟩
  · have d0 : decide (0 ≤ p) = false := decide_eq_false h
    have d1 : decide (p ≥ 0) = false := decide_eq_false h
    go_enter Tryz.func99, Tryz.ntmps99
    go_wp2
    go_ret
    exact ⟨rfl, rfl⟩
/-- Tasks whose parts are whole numbers. -/
def WhT (l : List Tk) : Prop := ∀ t ∈ l, ∃ p k : Nat, p < 2600 ∧ k < 2600 ∧ isWh t.1 p ∧ isWh t.2 k
/-- P8.1: how many items of a cell are given back. -/
def givenP (l : List Tk) (p : Int) : Int := l.foldl (fun m t => if ((plN t.1 : Nat) : Int) = p then max m (((plN t.2 : Nat) : Int) - 1) else m) 0
theorem given_step {l : List Tk} {p : Int} {k : Nat} (h : k < l.length) : givenP (l.take (k + 1)) p = if ((plN l[k].1 : Nat) : Int) = p then max (givenP (l.take k) p) (((plN l[k].2 : Nat) : Int) - 1) else givenP (l.take k) p := by
  unfold givenP
  rw [List.take_succ_eq_append_getElem h, List.foldl_append]
  rfl
theorem given_pos (p : Int) : ∀ (l : List Tk), 0 ≤ givenP l p := by
  intro l
  unfold givenP
  suffices h : ∀ (l : List Tk) (m : Int), 0 ≤ m → 0 ≤ l.foldl (fun m t => if ((plN t.1 : Nat) : Int) = p then max m (((plN t.2 : Nat) : Int) - 1) else m) m from h l 0 (Int.le_refl _)
  intro l
  induction l with
  | nil => intro m h; exact h
  | cons t l ih =>
    intro m h
    rw [List.foldl_cons]
    refine ih _ ?_
    split <;> omega
set_option maxHeartbeats 800000 in
theorem auGiven_any (A : Option Addr) (l : List Tk) (n c : Nat) (p : Int) (w : World) (hn : n = l.length) (hl : WhT l) (hA : Sl w A n c (l.map cxv)) :
    Calls Tryz.prog 93 #[.slice A n c, .int .i64 p] w fun e w' => e = .returned (.int .i64 (givenP l p)) ∧ w = w' := by
  have hlen := hA.len
  unfold maxLen at hlen
  have HA := Lib.hid hA.cells
  have HN := Lib.hid hn
  have HW := Lib.hid hl
  clear hA hn hl
  go_enter Tryz.func93, Tryz.ntmps93
  go_wp2
  go_loop [5, 10] (fun m i => ∃ k : Nat, k ≤ n ∧ i = .int .i64 k ∧ m = .int .i64 (givenP (l.take k) p)) (fun _ i => n - (intOf i).toNat)
  case atStart => exact ⟨0, Nat.zero_le _, rfl, rfl⟩
  case round =>
    obtain ⟨k, hk, rfl, rfl⟩ := hrel
    rcases Nat.lt_or_ge k n with hlt | hge
    · have hkl : k < l.length := by rw [← HN.out]; exact hlt
      obtain ⟨b, off, rfl, _, hc⟩ := HA.out.tk hkl
      have hck := hc k hkl
      have hki : (k : Int) < (n : Int) := by omega
      have HST := Lib.hid (given_step (p := p) hkl)
      obtain ⟨pp, kk, hp, hkk, h1, h2⟩ := HW.out _ (List.getElem_mem hkl)
      rw [plN_is hp h1, plN_is hkk h2] at HST
      have HP := Lib.hid (fun w => todoPlace_any l[k] pp w hp h1)
      have HD := Lib.hid (fun w => todoDone_any l[k] kk w hkk h2)
      clear hc h1 h2
      obtain ⟨g1, hg1⟩ : ∃ g, givenP (l.take (k + 1)) p = g := ⟨_, rfl⟩
      rw [hg1] at HST
      have HG1 := Lib.hid hg1
      clear hg1
      generalize givenP (l.take k) p = g0 at *
      generalize l[k] = x at *
      have v1 : IntKind.i64.wrap ((kk : Int) - 1) = (kk : Int) - 1 := by rw [IntKind.wrap_i64]; omega
      rcases Decidable.em ((pp : Int) = p) with he | he
      · have d0 : ((pp : Int) == p) = true := beq_iff_eq.2 he
        have HG := Lib.hid (show g1 = max g0 ((kk : Int) - 1) from by rw [HST.out, if_pos he])
        clear he HST
        rcases Int.lt_or_le g0 ((kk : Int) - 1) with hm | hm
        · have HM := Lib.hid (show g1 = (kk : Int) - 1 from by rw [HG.out]; omega)
          have d1 : decide (g0 < (kk : Int) - 1) = true := decide_eq_true hm
          clear HG
          go_wp2_with (first
            | (go_at_call 91; refine (HP.out _).mono ?_; rintro e w2 ⟨rfl, rfl⟩)
            | (go_at_call 92; refine (HD.out _).mono ?_; rintro e w2 ⟨rfl, rfl⟩))
          go_round
          case rel => exact ⟨k + 1, by omega, by go_num, by rw [HG1.out, HM.out]⟩
          case measure => simp [intOf]; omega
        · have HM := Lib.hid (show g1 = g0 from by rw [HG.out]; omega)
          have d1 : decide (g0 < (kk : Int) - 1) = false := decide_eq_false (by omega)
          clear HG
          go_wp2_with (first
            | (go_at_call 91; refine (HP.out _).mono ?_; rintro e w2 ⟨rfl, rfl⟩)
            | (go_at_call 92; refine (HD.out _).mono ?_; rintro e w2 ⟨rfl, rfl⟩))
          go_round
          case rel => exact ⟨k + 1, by omega, by go_num, by rw [HG1.out, HM.out]⟩
          case measure => simp [intOf]; omega
      · have d0 : ((pp : Int) == p) = false := beq_eq_false_iff_ne.2 he
        have HM := Lib.hid (show g1 = g0 from by rw [HST.out, if_neg he])
        clear he HST
        go_wp2_with (first
          | (go_at_call 91; refine (HP.out _).mono ?_; rintro e w2 ⟨rfl, rfl⟩)
          | (go_at_call 92; refine (HD.out _).mono ?_; rintro e w2 ⟨rfl, rfl⟩))
        go_round
        case rel => exact ⟨k + 1, by omega, by go_num, by rw [HG1.out, HM.out]⟩
        case measure => simp [intOf]; omega
    · obtain rfl : n = k := by omega
      have HE := Lib.hid (show l.take n = l from by rw [HN.out, List.take_length])
      clear hge
      go_wp2
      go_ret
      exact ⟨by rw [HE.out]; rfl, rfl⟩
/-- Those items of a node that tell cells, and aren't given back. -/
def toldPA (leaf : Bool) (it : List It) (l : List Tk) (p : Int) : List It := if leaf then [] else it.drop (min (givenP l p).toNat it.length)
set_option maxHeartbeats 800000 in
theorem auTold_any (B A : Option Addr) (leaf : Bool) (it : List It) (l : List Tk) (m d n c : Nat) (p : Int) (w : World) (hm : m = it.length) (hn : n = l.length) (hl : WhT l) (hB : Sl w B m d (ivs it)) (hA : Sl w A n c (l.map cxv)) :
    Calls Tryz.prog 98 #[.agg #[.bool leaf, .slice B m d], .slice A n c, .int .i64 p] w fun e w' => ∃ T k e', e = .returned (.slice T k e') ∧ k = (toldPA leaf it l p).length ∧ (∀ W, Sl W B m d (ivs it) → Sl W T k e' (ivs (toldPA leaf it l p))) ∧ Ext w w' := by
  have hb := Bx.new w #[.bool leaf, .slice B m d] 59
  have HX := Lib.hid ((Ext.refl w).alloc (.cells #[.bool leaf, .slice B m d] 59))
  obtain ⟨p0, p1, z2⟩ := hb.read2
  have HB := Lib.hid hB
  have HM := Lib.hid hm
  have HG := Lib.hid (fun w' (hx : Ext w w') => (auGiven_any A l n c p w' hn hl (hA.ext hx)).mono (fun e w'' h => (show e = .returned (.int .i64 (givenP l p)) ∧ w'' = w' from ⟨h.1, h.2.symm⟩)))
  have HBB := Lib.hid hB
  have hmd := hB.2.1
  have hdm := hB.2.2.1
  unfold maxLen at hdm
  unfold toldPA
  obtain ⟨gn, hg⟩ := Int.eq_ofNat_of_zero_le (given_pos p l)
  rw [hg] at HG ⊢
  rw [Int.toNat_natCast]
  have HSI := Lib.hid (fun lo h W (hW : Sl W B m d (ivs it)) => hW.items hm lo m h (Nat.le_refl _))
  clear hb hB hm hA hn hg hl
  cases leaf
  · obtain ⟨lo, hlo⟩ : ∃ x, min gn m = x := ⟨_, rfl⟩
    have hlo2 : lo ≤ m := by omega
    have HL := Lib.hid (show min gn it.length = lo from by rw [← HM.out]; exact hlo)
    have HT := Lib.hid (HSI.out lo hlo2)
    obtain ⟨T, hT⟩ : ∃ X, (if d = lo then B else B.map (fun q => q.add (lo * 2))) = X := ⟨_, rfl⟩
    rw [hT] at HT
    have HTE := Lib.hid (show ((it.drop lo).take (m - lo)) = it.drop lo from by rw [HM.out, ← List.length_drop, List.take_length])
    have HTL := Lib.hid (show m - lo = (it.drop lo).length from by rw [HM.out, List.length_drop])
    have hml : (m : Int) - (lo : Int) = ((m - lo : Nat) : Int) := by omega
    rcases Nat.lt_or_ge gn m with hlt | hge
    · obtain rfl : gn = lo := by omega
      have d1 : decide ((gn : Int) < (m : Int)) = true := decide_eq_true (by omega)
      have d2 : decide ((m : Int) < (gn : Int)) = false := decide_eq_false (by omega)
      have d3 : decide (gn < m) = true := decide_eq_true hlt
      have d4 : decide (m < gn) = false := decide_eq_false (by omega)
      clear hlo
      go_enter Tryz.func98, Tryz.ntmps98
      go_wp2_with fail
      go_quiet ((go_at_call 93; exact Calls.quiet_of_same (HG.out _ (by first | exact HX.out.drewN _ | exact HX.out.drew | exact HX.out))))
      go_wp2
      go_ret
      have h1 := HT.out
      rw [HTE.out, ← hT, if_neg (by omega)] at h1
      refine ⟨_, _, _, rfl, ?_, ?_, HX.out.drewN _⟩
      · have h2 := HL.out
        have h3 := HM.out
        omega
      · rw [HL.out]; exact h1
    · obtain rfl : m = lo := by omega
      have d1 : decide ((gn : Int) < (m : Int)) = false := decide_eq_false (by omega)
      have d3 : decide (gn < m) = false := decide_eq_false (by omega)
      clear hlo
      go_enter Tryz.func98, Tryz.ntmps98
      go_wp2_with fail
      go_quiet ((go_at_call 93; exact Calls.quiet_of_same (HG.out _ (by first | exact HX.out.drewN _ | exact HX.out.drew | exact HX.out))))
      go_wp2
      all_goals
        go_ret
        refine ⟨_, _, _, rfl, ?_, ?_, ((Ext.refl w).alloc _).drewN _⟩
        · have h2 := HL.out
          have h3 := HM.out
          omega
        · have h2 := HM.out
          have h3 := HB.out.1
          rw [HL.out, List.drop_eq_nil_of_le (by omega)]
          intro W _
          refine ⟨fun e => ?_, Nat.zero_le _, by unfold maxLen; omega, Cells.nil _ _⟩
          first
            | omega
            | (have := h3 e; omega)
            | (rw [Option.map_eq_none_iff] at e; have := h3 e; omega)
  · go_enter Tryz.func98, Tryz.ntmps98
    go_wp2
    go_ret
    exact ⟨none, 0, 0, rfl, rfl, fun W _ => Sl.nil W, HX.out⟩
end Go.Proofs.YtjbfopnkeclfgaaGreat
namespace Go.Proofs.YtjbfopnkeclfgaaGreat
set_option maxRecDepth 20000
open Go.RowKit

/-- One more refers to a cell, if it is one. -/
def cntF (n : Nat) (f : Nat → Int) (p : Int) : Nat → Int := if isPl p n then (fun j => if j = p.toNat then IntKind.i64.wrap (f p.toNat + 1) else f j) else f
theorem grown_cell (w : World) (g j : Nat) (u : Value) : w.grownBy (w.setCell ⟨g, j, none⟩ u) (some g) :=
  ⟨rfl, rfl, rfl, by simp [World.setCell], fun i _ hi => by rw [Below.heap_setCell _ _ _ _ (by simpa using hi)]⟩
set_option maxHeartbeats 800000 in
theorem auCount_any (B g n c : Nat) (f : Nat → Int) (p : Int) (w : World) (_hc : c ≤ 100000) (_hnc : n ≤ c) (hO : OnI w B g n c f) :
    Calls Tryz.prog 97 #[.slice (some ⟨g, 0, none⟩) n c, .int .i64 p] w fun e w' => e = .returned (.tuple #[]) ∧ OnI w' B g n c (cntF n f p) ∧ w.grownBy w' (some g) := by
  have HO := Lib.hid hO
  have HP := Lib.hid (fun w' => auIsPlace_any p n w')
  unfold cntF
  clear hO
  cases hp : isPl p n
  · rw [hp] at HP
    clear hp
    go_enter Tryz.func97, Tryz.ntmps97
    go_wp2_with (go_at_call 99; refine (HP.out _).mono ?_; rintro e w2 ⟨rfl, rfl⟩)
    go_end0
    exact ⟨rfl, HO.out, rfl, rfl, rfl, Nat.le_refl _, fun _ _ _ => rfl⟩
  · have hb : 0 ≤ p ∧ p < n := by unfold isPl at hp; simpa using hp
    rw [hp] at HP
    obtain ⟨k, rfl⟩ := Int.eq_ofNat_of_zero_le hb.1
    have hk : k < n := by omega
    have hki : (k : Int) < (n : Int) := by omega
    have c0 := HO.out.cell hk
    have f0 := HO.out.free k
    rw [Int.toNat_natCast]
    generalize hv : IntKind.i64.wrap (f k + 1) = v
    clear hp hb
    go_enter Tryz.func97, Tryz.ntmps97
    go_wp2_with (go_at_call 99; refine (HP.out _).mono ?_; rintro e w2 ⟨rfl, rfl⟩)
    go_end0
    exact ⟨rfl, by rw [← hv] at *; exact HO.out.set hk _, grown_cell _ _ _ _⟩
set_option maxRecDepth 100000 in
set_option maxHeartbeats 400000 in
theorem cloneI_any (A : Option Addr) (l : List Int) (n c : Nat) (w : World) (hn : n = l.length) (hb : n ≤ 10000) (hA : Sl w A n c (l.map iv)) :
    Calls Tryz.prog 129 #[.slice A n c] w fun e w' => ∃ B d, e = .returned (.slice B n d) ∧ w'.ownsRow w.heap.size 3 1 (.slice B n d) n (l.map iv) ∧ Ext w w' := by
  cases A with
  | none =>
    have h1 := hA.1 rfl
    have h2 := hA.2.1
    obtain rfl : n = 0 := by omega
    obtain rfl : c = 0 := h1
    obtain rfl : l = [] := List.eq_nil_of_length_eq_zero hn.symm
    have hq : ∀ w', (binOp .eql 76 (.slice none 0 0) (.slice none 0 0)).run Tryz.prog w' = .ok (.bool true) w' := fun w' => Lib.run_eql_slice_nil (P := Tryz.prog) w' 76 3 none 0 0 0 0 Tryz.underlying76
    clear h2 hA hn
    go_enter Tryz.func129, Tryz.ntmps129
    go_wp2_with fail
    go_ret
    exact ⟨none, 0, rfl, World.ownsRow_nil _ _ _ _, Ext.refl _⟩
  | some ad =>
    have HA := Lib.hid hA
    have HN := Lib.hid hn
    have hq : ∀ w', (binOp .eql 76 (.slice (some ad) n c) (.slice none 0 0)).run Tryz.prog w' = .ok (.bool false) w' := fun w' => Lib.run_eql_slice_nil (P := Tryz.prog) w' 76 3 (some ad) n c 0 0 Tryz.underlying76
    clear hA hn
    go_enter Tryz.func129, Tryz.ntmps129
    go_wp2_with (at_builtin; refine stop_here ?_)
    refine stop_on ?_
    refine app_iv1 _ rfl _ _ rfl w.heap.size _ 0 [] rfl (own_empty w 3 1) (some ad) n c l rfl HN.out.symm (HA.out.ext ((Ext.refl w).alloc _)) (by omega) (by simp) ?_
    intro A1 c1 w1 hown hg
    rw [List.nil_append, Nat.zero_add] at hown
    rw [Nat.zero_add]
    have HX1 := Lib.hid (show Ext w w1 from Below.grown ((Ext.refl w).alloc _) hg (by simp) (by intro q hq; cases hq; exact Nat.le_refl _))
    have HO1 := Lib.hid hown
    clear hown hg
    go_wp2_with fail
    go_ret
    exact ⟨_, _, rfl, HO1.out, HX1.out⟩

/-- What is held whatever the cells tell. -/
def firstsP (roots : List Int) (l : List Tk) : List Int := roots ++ l.map (fun t => ((plN t.1 : Nat) : Int))
theorem firsts_step (roots : List Int) {l : List Tk} {k : Nat} (h : k < l.length) : firstsP roots (l.take (k + 1)) = firstsP roots (l.take k) ++ [((plN l[k].1 : Nat) : Int)] := by
  unfold firstsP
  rw [List.take_succ_eq_append_getElem h, List.map_append, List.append_assoc]
  rfl
set_option maxRecDepth 100000 in
set_option maxHeartbeats 800000 in
theorem auFirsts_any (A B : Option Addr) (roots : List Int) (l : List Tk) (m d n c : Nat) (w : World) (hm : m = roots.length) (hm2 : m ≤ 1000) (hn : n = l.length) (hn2 : n ≤ 1000) (hl : WhT l) (hA : Sl w A m d (roots.map iv)) (hB : Sl w B n c (l.map cxv)) :
    Calls Tryz.prog 96 #[.slice A m d, .slice B n c] w fun e w' => ∃ S e', e = .returned (.slice S (m + n) e') ∧ w'.ownsRow w.heap.size 3 1 (.slice S (m + n) e') (m + n) ((firstsP roots l).map iv) ∧ Ext w w' := by
  have HC := Lib.hid (cloneI_any A roots m d w hm (by omega) hA)
  have HB := Lib.hid hB
  have HN := Lib.hid hn
  have HW := Lib.hid hl
  clear hA hB hm hn hl
  go_enter Tryz.func96, Tryz.ntmps96
  go_wp2_with (go_at_call 129; refine HC.out.mono ?_; rintro e w1 ⟨S1, e1, rfl, ho, hx⟩; have HO := Lib.hid ho; have X1 := Lib.hid hx; clear ho hx)
  go_loopw [5, 12] (fun s i wr => ∃ (k : Nat) (S : Option Addr) (e : Nat), k ≤ n ∧ i = .int .i64 k ∧ s = .slice S (m + k) e ∧ wr.ownsRow w.heap.size 3 1 (.slice S (m + k) e) (m + k) ((firstsP roots (l.take k)).map iv) ∧ Ext w wr) (fun _ i _ => n - (intOf i).toNat)
  case atStart => exact ⟨0, S1, e1, Nat.zero_le _, rfl, rfl, by unfold firstsP; simpa using HO.out, X1.out⟩
  case round =>
    obtain ⟨k, S, e, hk, rfl, rfl, ho, hx⟩ := hrel
    have HO := Lib.hid ho
    have HX := Lib.hid hx
    clear ho hx
    rcases Nat.lt_or_ge k n with hlt | hge
    · have hkl : k < l.length := by rw [← HN.out]; exact hlt
      obtain ⟨b, off, rfl, _, hc⟩ := (HB.out.ext HX.out).cells.tk hkl
      have hck := hc k hkl
      have hki : (k : Int) < (n : Int) := by omega
      have HST := Lib.hid (firsts_step roots hkl)
      obtain ⟨pp, kk, hp, hkk, h1, h2⟩ := HW.out _ (List.getElem_mem hkl)
      rw [plN_is hp h1] at HST
      have HP := Lib.hid (fun w => todoPlace_any l[k] pp w hp h1)
      clear hc h1 h2
      generalize l[k] = x at *
      go_wp2_with (first
        | (go_at_call 91; refine (HP.out _).mono ?_; rintro e w2 ⟨rfl, rfl⟩)
        | (at_builtin; refine stop_here ?_))
      refine stop_on ?_
      have Y := Lib.hid (HX.out.alloc (.cells #[.int .i64 (pp : Int)] 3))
      refine app_iv1 _ rfl _ _ rfl w.heap.size (.slice S (m + k) e) (m + k) (firstsP roots (l.take k)) rfl (own_ext HO.out ((Ext.refl _).alloc _)) (some ⟨wr.heap.size, 0, none⟩) 1 1 [(pp : Int)] rfl rfl (sl_lit wr _ 1 ([(pp : Int)].map iv) (by unfold maxLen; omega)) (by omega) Y.out.size ?_
      intro S2 e2 w3 hown hg
      rw [← HST.out] at hown
      have X3 := Lib.hid (Y.out.app (own_ext HO.out ((Ext.refl _).alloc _)) (Nat.le_refl _) hg)
      have O3 := Lib.hid hown
      clear hown hg
      go_wp2
      go_roundw
      case rel => exact ⟨k + 1, S2, e2, by omega, by go_num, rfl, O3.out, X3.out⟩
      case measure => simp [intOf]; omega
    · obtain rfl : n = k := by omega
      have HE := Lib.hid (show l.take n = l from by rw [HN.out, List.take_length])
      clear hge
      go_wp2
      go_ret
      exact ⟨S, e, rfl, by have := HO.out; rw [HE.out] at this; exact this, HX.out⟩
end Go.Proofs.YtjbfopnkeclfgaaGreat
namespace Go.Proofs.YtjbfopnkeclfgaaGreat
set_option maxRecDepth 20000
open Go.RowKit

/-- What a cell's items tell, counted. -/
def cellF (n : Nat) (ts : List Tk) (y : HC) (p : Nat) (f : Nat → Int) : Nat → Int := if y.ref ≤ 0 then f else (toldPA y.leaf y.it ts p).foldl (fun f x => cntF n f x.2) f
def refsF0 (n : Nat) (roots : List Int) (ts : List Tk) : Nat → Int := (firstsP roots ts).foldl (cntF n) (fun _ => 0)
/-- P8.1: how many refer to each cell. -/
def refsF (c : List HC) (roots : List Int) (ts : List Tk) (k : Nat) : Nat → Int := (List.range k).foldl (fun f p => cellF c.length ts (c.getD p HC.none) p f) (refsF0 c.length roots ts)
theorem refsF_step (c : List HC) (roots : List Int) (ts : List Tk) {k : Nat} (h : k < c.length) : refsF c roots ts (k + 1) = cellF c.length ts c[k] k (refsF c roots ts k) := by
  unfold refsF
  rw [List.range_succ, List.foldl_append]
  show cellF _ _ (c.getD k HC.none) _ _ = _
  rw [List.getD_eq_getElem?_getD, List.getElem?_eq_getElem h]
  rfl
theorem foldl_step {α β : Type} (f : β → α → β) (b : β) {l : List α} {k : Nat} (h : k < l.length) : (l.take (k + 1)).foldl f b = f ((l.take k).foldl f b) l[k] := by
  rw [List.take_succ_eq_append_getElem h, List.foldl_append]; rfl
theorem own_apart {w w' : World} {B e s n m g : Nat} {S : Option Addr} {xs : List Value} (h : w.ownsRow B e s (.slice S n m) n xs) (hg : w.grownBy w' (some g)) (hB : g < B) : w'.ownsRow B e s (.slice S n m) n xs :=
  h.kept hg (by
    cases S with
    | none => simp [Value.ownBlock]
    | some a =>
      have := (h.lt a.block rfl).1
      simp [Value.ownBlock]
      omega)
theorem ext_at {w w1 w' : World} {g : Nat} (h : Ext w w1) (hg : w1.grownBy w' (some g)) (hB : w.heap.size ≤ g) : Ext w w' :=
  Below.grown h hg h.size (by intro q hq; cases hq; exact hB)
theorem OnI.kept {w w' : World} {B g n c : Nat} {f : Nat → Int} (h : OnI w B g n c f) {r : Option Nat} (hg : w.grownBy w' r) (hr : r ≠ some g) : OnI w' B g n c f :=
  ⟨h.1, h.2.kept hg (by simpa [Value.ownBlock] using (fun e => hr e.symm))⟩
theorem OnI.base {w : World} {B B' g n c : Nat} {f : Nat → Int} (h : OnI w B g n c f) (hB : B' ≤ B) : OnI w B' g n c f :=
  ⟨Nat.le_trans hB h.1, h.2.1, h.2.2.imp id (fun ⟨a, b, c, h1, h2, h3⟩ => ⟨a, b, c, h1, Nat.le_trans hB h2, h3⟩)⟩
theorem OnI.lt {w : World} {B g n c : Nat} {f : Nat → Int} (h : OnI w B g n c f) : g < w.heap.size := (h.2.lt g rfl).2
theorem bx_apart {w w' : World} {k g : Nat} {cs : Array Value} (h : Bx w k cs) (hg : w.grownBy w' (some g)) (hk : k ≠ g) : Bx w' k cs := by
  obtain ⟨t, h⟩ := h
  exact ⟨t, (hg.block k (Array.getElem?_eq_some_iff.1 h).1 (by intro e; exact hk (Option.some.inj e))).trans h⟩
set_option maxRecDepth 100000 in
set_option maxHeartbeats 1600000 in
theorem auRefs_any (R A B : Option Addr) (c : List HC) (roots : List Int) (ts : List Tk) (n q m d t e : Nat) (keep : Int) (w : World) (hn : n ≤ 2000) (hit : ∀ y ∈ c, y.it.length ≤ 1000) (hm : m = roots.length) (hm2 : m ≤ 1000) (ht : t = ts.length) (ht2 : t ≤ 1000) (hl : WhT ts) (hR : HcSl w R n q c) (hA : Sl w A m d (roots.map iv)) (hB : Sl w B t e (ts.map cxv)) :
    Calls Tryz.prog 59 #[.agg #[.slice R n q, .int .i64 keep], .slice A m d, .slice B t e] w fun e w' => ∃ g, e = .returned (.slice (some ⟨g, 0, none⟩) n n) ∧ OnI w' w.heap.size g n n (refsF c roots ts n) ∧ Ext w w' := by
  have hcn := hR.1
  have HCN := Lib.hid hcn
  have hb := Bx.new w #[.slice R n q, .int .i64 keep] 30
  have hx := (Ext.refl w).alloc (.cells #[.slice R n q, .int .i64 keep] 30)
  have HB0 := Lib.hid hb
  obtain ⟨p0, p1, z2⟩ := hb.read2
  obtain ⟨i0, hi, hz0, hz1, hz2⟩ := info_parts infoI8
  have HII := Lib.hid hi
  have HZ0 := Lib.hid hz0
  have HZ1 := Lib.hid hz1
  have HZ2 := Lib.hid hz2
  have HR := Lib.hid hR
  have HIT := Lib.hid hit
  have HF := Lib.hid (fun w' (hx : Ext w w') => auFirsts_any A B roots ts m d t e w' hm hm2 ht ht2 hl (hA.ext hx) (hB.ext hx))
  have HT := Lib.hid (fun (Bi : Option Addr) (leaf : Bool) (it : List It) (mi di : Nat) (p : Int) w' (hx : Ext w w') hmi hBi => auTold_any Bi B leaf it ts mi di t e p w' hmi ht hl hBi (hB.ext hx))
  have HFL := Lib.hid (show (firstsP roots ts).length = m + t from by unfold firstsP; rw [List.length_append, List.length_map, ← hm, ← ht])
  generalize hW : w.alloc _ = W0 at hb hx p0 p1 z2 HB0
  have HX0 := Lib.hid hx
  clear hb hx hR hit hA hB hm ht hl hi hz0 hz1 hz2 hcn
  go_enter Tryz.func59, Tryz.ntmps59
  go_wp2_with (at_make; refine stop_here ?_)
  refine stop_on ?_
  refine wpList_make_cap _ rfl _ _ 76 rfl 3 i0 _ Tryz.underlying76 HII.out HZ0.out _ _ _ _ n n rfl rfl (by omega) (by omega) (by omega) (by rw [HZ2.out]; omega) (by unfold maxLen; omega) ?_
  rw [HZ1.out]
  have HO0 := Lib.hid (OnI.made W0 w.heap.size n HX0.out.size (by omega))
  have HX1 := Lib.hid (HX0.out.alloc (.cells (madeCells (Value.int .i64 0).cells (n * 1)) 3))
  have HB1 := Lib.hid (HB0.out.ext ((Ext.refl W0).alloc (.cells (madeCells (Value.int .i64 0).cells (n * 1)) 3)))
  have hgl : w.heap.size < W0.heap.size := HB0.out.lt
  generalize hW : World.alloc W0 (.cells (madeCells (Value.int .i64 0).cells (n * 1)) 3) = W1 at *
  obtain ⟨g, hg⟩ : ∃ g, W0.heap.size = g := ⟨_, rfl⟩
  have hgl1 : g < W1.heap.size := by rw [← hW, World.size_alloc, hg]; omega
  rw [hg] at HO0 hgl ⊢
  clear hW hg p0 p1 z2
  obtain ⟨nf, hnf⟩ : ∃ k, m + t = k := ⟨_, rfl⟩
  rw [hnf] at HF HFL
  have hnf2 : nf ≤ 2000 := by omega
  clear hnf
  go_wp2_with (go_at_call 96; refine (HF.out _ HX1.out).mono ?_; rintro e w2 ⟨S, se, rfl, ho, hx⟩; have FO := Lib.hid ho; have X2 := Lib.hid (HX1.out.trans hx); have O2 := Lib.hid (HO0.out.ext hx); have B2 := Lib.hid (HB1.out.ext hx); clear ho hx)
  go_loopw [22] (fun i wr => ∃ k : Nat, k ≤ nf ∧ i = .int .i64 k ∧ OnI wr w.heap.size g n n (((firstsP roots ts).take k).foldl (cntF n) (fun _ => 0)) ∧ wr.ownsRow W1.heap.size 3 1 (.slice S nf se) nf ((firstsP roots ts).map iv) ∧ Bx wr w.heap.size #[.slice R n q, .int .i64 keep] ∧ Ext w wr) (fun i _ => nf - (intOf i).toNat)
  case atStart => exact ⟨0, Nat.zero_le _, rfl, O2.out, FO.out, B2.out, X2.out⟩
  case round =>
    obtain ⟨k, hk, rfl, ho, hf, hb, hx⟩ := hrel
    have HO := Lib.hid ho
    have HFO := Lib.hid hf
    have HBB := Lib.hid hb
    have HX := Lib.hid hx
    clear ho hf hb hx
    rcases Nat.lt_or_ge k nf with hlt | hge
    · have hkl : k < (firstsP roots ts).length := by rw [HFL.out]; exact hlt
      obtain ⟨b, off, rfl, _, hc⟩ := (own_sl HFO.out).cells.num hkl
      have hck := hc k hkl
      have hki : (k : Int) < (nf : Int) := by omega
      have HST := Lib.hid (foldl_step (cntF n) (fun _ => 0) hkl)
      generalize (firstsP roots ts)[k] = x at *
      have HC := Lib.hid (auCount_any w.heap.size g n n _ x wr (by omega) (Nat.le_refl _) HO.out)
      rw [← HST.out] at HC
      clear hc
      go_wp2_with (go_at_call 97; refine HC.out.mono ?_; rintro e w3 ⟨rfl, ho, hg⟩; have O3 := Lib.hid ho; have F3 := Lib.hid (own_apart HFO.out hg hgl1); have X3 := Lib.hid (ext_at HX.out hg (by omega)); have B3 := Lib.hid (show Bx w3 w.heap.size #[.slice R n q, .int .i64 keep] from bx_apart HBB.out hg (by omega)); clear ho hg)
      go_roundw
      case rel => exact ⟨k + 1, by omega, by go_num, O3.out, F3.out, B3.out, X3.out⟩
      case measure => simp [intOf]; omega
    · obtain rfl : nf = k := by omega
      have HE := Lib.hid (show ((firstsP roots ts).take nf).foldl (cntF n) (fun _ => 0) = refsF c roots ts 0 from by rw [← HFL.out, List.take_length]; unfold refsF refsF0; rw [← HCN.out]; rfl)
      rw [HE.out] at HO
      obtain ⟨p0, p1, z2⟩ := HBB.out.read2
      clear hge HFO HE HFL HF
      go_wp2_with fail
      generalize wr = wq at *
      clear p0 p1 z2
      go_loopw [33] (fun i wr => ∃ k : Nat, k ≤ n ∧ i = .int .i64 k ∧ OnI wr w.heap.size g n n (refsF c roots ts k) ∧ Ext w wr) (fun i _ => n - (intOf i).toNat)
      case atStart => exact ⟨0, Nat.zero_le _, rfl, HO.out, HX.out⟩
      case round =>
        clear HO HX HBB
        obtain ⟨k, hk, rfl, ho, hx⟩ := hrel
        have HO := Lib.hid ho
        have HX := Lib.hid hx
        clear ho hx
        rcases Nat.lt_or_ge k n with hlt | hge
        · have hkc : k < c.length := by rw [← HCN.out]; exact hlt
          have HST := Lib.hid (refsF_step c roots ts hkc)
          obtain ⟨b, off, rfl, hbl, Bi, di, rw0, rw1, rw2, rw3, hi⟩ := HR.out.cell hkc
          have r0 := (HX.out.cell (p := ⟨b, off + k * 4, none⟩) hbl).trans rw0
          have r1 := (HX.out.cell (p := ⟨b, off + k * 4 + 1, none⟩) hbl).trans rw1
          have r2 := (HX.out.cell (p := ⟨b, off + k * 4 + 2, none⟩) hbl).trans rw2
          have r3 := (HX.out.cell (p := ⟨b, off + k * 4 + 3, none⟩) hbl).trans rw3
          have hki : (k : Int) < (n : Int) := by omega
          have HI := Lib.hid hi
          have HI2 := Lib.hid (HIT.out _ (List.getElem_mem hkc))
          unfold cellF at HST
          rw [← HCN.out] at HST
          clear rw0 rw1 rw2 rw3 hi
          generalize c[k] = y at *
          obtain ⟨yr, yp, yl, yi⟩ := y
          simp only at r0 r1 r2 r3 HI HI2 HST
          obtain ⟨mi, hmi⟩ : ∃ x, yi.length = x := ⟨_, rfl⟩
          have HMI := Lib.hid hmi
          rw [hmi] at r3 HI HI2
          clear hmi
          have HBX := Lib.hid (Bx.new wr #[.int .i64 yr, .bool yp, .bool yl, .slice Bi mi di] 61)
          have Y1 := Lib.hid ((Ext.refl wr).alloc (.cells #[.int .i64 yr, .bool yp, .bool yl, .slice Bi mi di] 61))
          rcases Int.lt_or_le 0 yr with hyr | hyr
          rotate_left
          · have d0 : decide (yr ≤ 0) = true := decide_eq_true hyr
            rw [if_pos hyr] at HST
            clear hyr
            go_wp2
            go_roundw
            case rel => exact ⟨k + 1, by omega, by go_num, by rw [HST.out]; exact HO.out.ext Y1.out, HX.out.trans Y1.out⟩
            case measure => simp [intOf]; omega
          · have d0 : decide (yr ≤ 0) = false := decide_eq_false (by omega)
            rw [if_neg (by omega)] at HST
            have HTD := Lib.hid (fun w' (hx : Ext w w') => HT.out Bi yl yi mi di (k : Int) w' hx HMI.out.symm (HI.out.ext hx))
            clear hyr HT
            generalize toldPA yl yi ts (k : Int) = td at *
            go_wp2_with (go_at_call 98; refine stop_here ?_)
            refine stop_on ?_
            refine (HTD.out _ (HX.out.trans Y1.out)).mono ?_
            rintro e w3 ⟨T, tk, te, rfl, hk3, hT, hx⟩
            have HTK := Lib.hid hk3
            have HTT := Lib.hid hT
            have O3 := Lib.hid (HO.out.ext (Y1.out.trans hx))
            have X3 := Lib.hid (HX.out.trans (Y1.out.trans hx))
            have htk : tk ≤ 9223372036854775807 := by have := (hT w HI.out).len; unfold maxLen at this; omega
            clear hk3 hT hx r0 r1 r2 r3
            go_wp2_with fail
            go_loopw [47] (fun i wr => ∃ j : Nat, j ≤ tk ∧ i = .int .i64 j ∧ OnI wr w.heap.size g n n ((td.take j).foldl (fun f x => cntF n f x.2) (refsF c roots ts k)) ∧ Ext w wr) (fun i _ => tk - (intOf i).toNat)
            case atStart => exact ⟨0, Nat.zero_le _, rfl, O3.out, X3.out⟩
            case round =>
              clear HO HX HBX Y1 O3 X3
              obtain ⟨j, hj, rfl, ho, hx⟩ := hrel
              have HO := Lib.hid ho
              have HX := Lib.hid hx
              clear ho hx
              rcases Nat.lt_or_ge j tk with hlt2 | hge
              · have hjl : j < td.length := by rw [← HTK.out]; exact hlt2
                obtain ⟨b2, off2, rfl, _, hc⟩ := (HTT.out _ (HI.out.ext HX.out)).cells.it hjl
                obtain ⟨a0, a1⟩ := hc j hjl
                have hji : (j : Int) < (tk : Int) := by omega
                have HS3 := Lib.hid (foldl_step (fun f (x : It) => cntF n f x.2) (refsF c roots ts k) hjl)
                clear hc
                generalize td[j] = x at *
                obtain ⟨x1, x2⟩ := x
                simp only at a0 a1 HS3
                have Y2 := Lib.hid ((Ext.refl wr).alloc (.cells #[.int .i64 x1, .int .i64 x2] 146))
                have HC := Lib.hid (auCount_any w.heap.size g n n _ x2 _ (by omega) (Nat.le_refl _) (HO.out.ext Y2.out))
                rw [← HS3.out] at HC
                go_wp2_with (go_at_call 97; refine HC.out.mono ?_; rintro e w4 ⟨rfl, ho, hg⟩; have O4 := Lib.hid ho; have X4 := Lib.hid (ext_at (HX.out.trans Y2.out) hg (by omega)); clear ho hg)
                go_roundw
                case rel => exact ⟨j + 1, by omega, by go_num, O4.out, X4.out⟩
                case measure => simp [intOf]; omega
              · obtain rfl : tk = j := by omega
                have HE := Lib.hid (show td.take tk = td from by rw [HTK.out, List.take_length])
                rw [HE.out, ← HST.out] at HO
                clear hge
                go_wp2_with fail
                go_roundw
                case rel => exact ⟨k + 1, by omega, by go_num, HO.out, HX.out⟩
                case measure => simp [intOf]; omega
        · obtain rfl : n = k := by omega
          clear hge
          go_wp2
          go_ret
          exact ⟨g, rfl, HO.out, HX.out⟩
end Go.Proofs.YtjbfopnkeclfgaaGreat
namespace Go.Proofs.YtjbfopnkeclfgaaGreat
set_option maxRecDepth 20000
open Go.RowKit

theorem least_of {p : Nat → Prop} (h : ∃ n, p n) : ∃ n, p n ∧ ∀ m, p m → n ≤ m := by
  obtain ⟨n, hn⟩ := h
  induction n using Nat.strongRecOn with
  | _ n ih =>
    by_cases hm : ∃ m, m < n ∧ p m
    · obtain ⟨m, h1, h2⟩ := hm
      exact ih m h1 h2
    · exact ⟨n, hn, fun m h => by
        rcases Nat.lt_or_ge m n with h1 | h1
        · exact absurd ⟨m, h1, h⟩ hm
        · exact h1⟩
/-- A scope whose every jump back to one label goes on from less. -/
theorem wp_scope_less {P : Program} {a : Act} {w : World} {Q : Exit → Act → World → Prop} {c rest : Code} (l : Nat) (J : Nat → Act → World → Prop) (hf : findLabel c l = some rest)
    (first : c.wp P (Exit.jump l (fun a' w' => ∃ n, J n a' w') Q) a w)
    (pass : ∀ n a w, J n a w → rest.wp P (Exit.jump l (fun a' w' => ∃ m, m < n ∧ J m a' w') Q) a w) : (Code.scope c).wp P Q a w := by
  classical
  refine wp_scope_jumps l (fun a' w' => ∃ n, J n a' w') (fun a' w' => if h : ∃ n, J n a' w' then Classical.choose (least_of h) else 0) hf first ?_
  intro a w h
  have h1 := (Classical.choose_spec (least_of h)).1
  refine Code.wp_mono ?_ (pass _ a w h1)
  intro e a' w' he
  cases e <;> try exact he
  obtain ⟨e1, m, hm, hJ⟩ := he
  refine ⟨e1, ⟨m, hJ⟩, ?_⟩
  have h' : ∃ n, J n a' w' := ⟨m, hJ⟩
  simp only [dif_pos h, dif_pos h']
  exact Nat.lt_of_le_of_lt ((Classical.choose_spec (least_of h')).2 m hJ) hm
/-- As wp_scope_less, where the way to the label is walked alone. -/
theorem wp_scope_on {P : Program} {a : Act} {w : World} {Q : Exit → Act → World → Prop} {c rest : Code} (l : Nat) (J : Nat → Act → World → Prop) (hf : findLabel c l = some rest)
    (pass : ∀ n a w, J n a w → rest.wp P (Exit.jump l (fun a' w' => ∃ m, m < n ∧ J m a' w') Q) a w)
    (first : (∀ n a w, J n a w → rest.wp P (Exit.jump l (fun a' w' => ∃ n, J n a' w') Q) a w) → c.wp P (Exit.jump l (fun a' w' => ∃ n, J n a' w') Q) a w) : (Code.scope c).wp P Q a w :=
  wp_scope_less l J hf (first (fun n a w h => Code.wp_mono (by
    intro e a' w' he
    cases e <;> try exact he
    obtain ⟨e1, m, _, hJ⟩ := he
    exact ⟨e1, m, hJ⟩) (pass n a w h))) pass
/-- P8.1: which cells are held, from what is to be looked at yet on. -/
def heldR (c : List HC) (ts : List Tk) : Nat → List Int → (Nat → Bool) → (Nat → Bool)
  | 0, _, h => h
  | f + 1, ys, h => match ys.getLast? with
    | none => h
    | some p => if isPl p c.length && !h p.toNat then heldR c ts f (ys.dropLast ++ (toldPA (c.getD p.toNat HC.none).leaf (c.getD p.toNat HC.none).it ts p).map (·.2)) (fun j => if j = p.toNat then true else h j)
      else heldR c ts f ys.dropLast h
theorem heldR_nil (c : List HC) (ts : List Tk) : ∀ (f : Nat) (h : Nat → Bool), heldR c ts f [] h = h
  | 0, _ => rfl
  | _ + 1, _ => rfl
/-- How many items the cells have that aren't held. -/
def wtS (c : List HC) (h : Nat → Bool) : Nat → Nat
  | 0 => 0
  | n + 1 => wtS c h n + (if h n then 0 else (c.getD n HC.none).it.length)
theorem wt_out (c : List HC) {h : Nat → Bool} {p : Nat} : ∀ (n : Nat), n ≤ p → wtS c (fun j => if j = p then true else h j) n = wtS c h n
  | 0, _ => rfl
  | n + 1, hn => by
    rw [wtS, wtS, wt_out c n (by omega), if_neg (show ¬ (n = p) by omega)]
theorem wt_set (c : List HC) {h : Nat → Bool} {p : Nat} (hp : h p = false) : ∀ (n : Nat), p < n → wtS c (fun j => if j = p then true else h j) n + (c.getD p HC.none).it.length = wtS c h n
  | n + 1, hn => by
    rw [wtS, wtS]
    by_cases he : n = p
    · subst he
      rw [wt_out c n (Nat.le_refl _), if_pos rfl, hp]
      simp
    · rw [if_neg he]
      have := wt_set c hp n (by omega)
      omega
theorem told_len (leaf : Bool) (it : List It) (ts : List Tk) (p : Int) : (toldPA leaf it ts p).length ≤ it.length := by
  unfold toldPA
  split
  · exact Nat.zero_le _
  · rw [List.length_drop]; omega
/-- On the way: what is held yet to be looked at, and that it ends. -/
structure HeldJ (c : List HC) (ts : List Tk) (F : Nat) (y0 : List Int) (h0 : Nat → Bool) (f : Nat) (ys : List Int) (h : Nat → Bool) : Prop where
  same : heldR c ts f ys h = heldR c ts F y0 h0
  le : ys.length + wtS c h c.length ≤ f
theorem HeldJ.fin {c : List HC} {ts : List Tk} {F f : Nat} {y0 : List Int} {h0 h : Nat → Bool} (J : HeldJ c ts F y0 h0 f [] h) : h = heldR c ts F y0 h0 := by
  rw [← J.same, heldR_nil]
theorem HeldJ.skip {c : List HC} {ts : List Tk} {F f : Nat} {y0 ys : List Int} {p : Int} {h0 h : Nat → Bool} (J : HeldJ c ts F y0 h0 f (ys ++ [p]) h) (hp : (isPl p c.length && !h p.toNat) = false) : ∃ m, m < f ∧ HeldJ c ts F y0 h0 m ys h := by
  have h1 := J.le
  rw [List.length_append, List.length_singleton] at h1
  obtain ⟨m, rfl⟩ : ∃ m, f = m + 1 := ⟨f - 1, by omega⟩
  refine ⟨m, by omega, ?_, by omega⟩
  rw [← J.same, heldR, List.getLast?_concat]
  simp only [hp]
  rw [List.dropLast_concat]
  simp
theorem HeldJ.mark {c : List HC} {ts : List Tk} {F f k : Nat} {y0 ys : List Int} {h0 h : Nat → Bool} (J : HeldJ c ts F y0 h0 f (ys ++ [(k : Int)]) h) (hk : k < c.length) (hp : h k = false) :
    ∃ m, m < f ∧ HeldJ c ts F y0 h0 m (ys ++ (toldPA c[k].leaf c[k].it ts (k : Int)).map (·.2)) (fun j => if j = k then true else h j) := by
  have h1 := J.le
  rw [List.length_append, List.length_singleton] at h1
  obtain ⟨m, rfl⟩ : ∃ m, f = m + 1 := ⟨f - 1, by omega⟩
  have hc : c.getD k HC.none = c[k] := by rw [List.getD_eq_getElem?_getD, List.getElem?_eq_getElem hk]; rfl
  have h2 := wt_set c hp c.length hk
  rw [hc] at h2
  have h3 := told_len c[k].leaf c[k].it ts (k : Int)
  refine ⟨m, by omega, ?_, by rw [List.length_append, List.length_map]; omega⟩
  have h4 : (isPl (k : Int) c.length && !h (k : Int).toNat) = true := by
    rw [Int.toNat_natCast, hp]
    unfold isPl
    rw [decide_eq_true (by omega), decide_eq_true (by omega)]
    rfl
  rw [← J.same, heldR, List.getLast?_concat]
  simp only [h4, if_true]
  rw [List.dropLast_concat, Int.toNat_natCast, hc]
theorem list_end {α : Type} (l : List α) : l = [] ∨ ∃ r x, l = r ++ [x] := by
  rcases Nat.eq_zero_or_pos l.length with h | h
  · exact .inl (List.eq_nil_of_length_eq_zero h)
  · have hne : l ≠ [] := by intro e; subst e; simp at h
    exact .inr ⟨l.dropLast, l.getLast hne, (List.dropLast_concat_getLast hne).symm⟩
theorem own_some1 {w : World} {B e s n c : Nat} {S : Option Addr} {xs : List Value} (h : w.ownsRow B e s (.slice S n c) n xs) (hn : 0 < n) : ∃ g, S = some ⟨g, 0, none⟩ := by
  rcases h.2 with ⟨_, h0⟩ | ⟨g, cap, cur, e, _⟩
  · omega
  · cases e; exact ⟨g, rfl⟩
theorem onB_kept {w w' : World} {B g n c : Nat} {f : Nat → Bool} (h : OnB w B g n c f) {r : Option Nat} (hg : w.grownBy w' r) (hr : r ≠ some g) : OnB w' B g n c f :=
  ⟨h.1, h.2.kept hg (by simpa [Value.ownBlock] using (fun e => hr e.symm))⟩
theorem bx_kept {w w' : World} {k : Nat} {cs : Array Value} (h : Bx w k cs) {r : Option Nat} (hg : w.grownBy w' r) (hr : r ≠ some k) : Bx w' k cs := by
  obtain ⟨t, h⟩ := h
  exact ⟨t, (hg.block k (Array.getElem?_eq_some_iff.1 h).1 (fun e => hr e.symm)).trans h⟩
theorem sl_lit2 {w : World} {z : Nat} (hz : z = w.heap.size) (e n : Nat) (xs : List Value) (hn : n ≤ maxLen) : Sl (w.alloc (.cells xs.toArray e)) (some ⟨z, 0, none⟩) n n xs := by subst hz; exact sl_lit w e n xs hn
theorem own_less {w : World} {B e s g cap n k : Nat} {xs : List Value} (h : w.ownsRow B e s (.slice (some ⟨g, 0, none⟩) n cap) n xs) (hk : k ≤ n) : w.ownsRow B e s (.slice (some ⟨g, 0, none⟩) k cap) k (xs.take (k * s)) := by
  have hks : k * s ≤ n * s := Nat.mul_le_mul_right _ hk
  refine ⟨by rw [List.length_take, h.1]; omega, ?_⟩
  rcases h.2 with ⟨e, _⟩ | ⟨g', cap', cur, e, h1, h2, h3, h4, h5, h6⟩
  · cases e
  · cases e
    refine .inr ⟨g, cap, cur, rfl, h1, h2, by omega, h4, h5, ?_⟩
    rw [← h6, List.take_take, Nat.min_eq_left hks]
end Go.Proofs.YtjbfopnkeclfgaaGreat
