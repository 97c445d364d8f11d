/- Rows of numbers and bools of the call's own, told by functions (as GpB and GrW4 have them, for seats without these). The walk of Roots of package state, of any volumes. The walks of areRoots, areIds and isTold of package book. Regions that draw, walked by hand: an operation that is taken first, whether its guard is met or not. -/
import Derived.Test.YtnlkakbpcdfgfaaGreatK04
import Derived.Test.YtnlkakbpcdfgfaaGreatK18
import Derived.Test.YtnlkakbpcdfgfaaGreatK19
import Derived.Test.YtnlkakbpcdfgfaaGreatK01
import Derived.Deep.RegionHeld3
namespace Go.Proofs.YtnlkakbpcdfgfaaGreat
set_option maxRecDepth 20000
open Go.RowKit

def rwI (n : Nat) (f : Nat → Int) : List Value := (List.range n).map (fun k => iv (f k))
theorem rwI_len (n : Nat) (f : Nat → Int) : (rwI n f).length = n := by unfold rwI; simp
theorem rwI_set {n : Nat} {f : Nat → Int} {k : Nat} (_hk : k < n) (b : Int) : (rwI n f).set k (.int .i64 b) = rwI n (fun j => if j = k then b else f j) := by
  apply List.ext_getElem (by simp [rwI_len])
  intro j h1 h2
  by_cases h : k = j
  · subst h; simp [rwI, iv]
  · simp [rwI, iv, List.getElem_set_ne h, Ne.symm h]
theorem rwI_congr {n : Nat} {f g : Nat → Int} (h : ∀ k, k < n → f k = g k) : rwI n f = rwI n g := by
  unfold rwI
  exact List.map_congr_left (fun k hk => by rw [h k (List.mem_range.1 hk)])
theorem rwI_made (n : Nat) : (madeCells (Value.int .i64 0).cells (n * 1)).toList = rwI n (fun _ => 0) := by
  have hz : (Value.int .i64 0).cells = #[.int .i64 0] := by simp [Value.cells]
  rw [hz, Nat.mul_one]
  apply List.ext_getElem (by simp [rwI_len, size_madeCells])
  intro j h1 h2
  unfold rwI
  simp [madeCells, iv, Nat.mod_one]
/-- A row of numbers of the call's own that holds what f says. -/
def OnI (w : World) (B g n c : Nat) (f : Nat → Int) : Prop := B ≤ g ∧ w.ownsRow B 3 1 (.slice (some ⟨g, 0, none⟩) n c) n (rwI n f)
theorem OnI.free {w : World} {B g n c : Nat} {f : Nat → Int} (h : OnI w B g n c f) (k : Nat) : w.frozen? ⟨g, k, none⟩ = false := own_free h.2 k
theorem OnI.cell {w : World} {B g n c : Nat} {f : Nat → Int} (h : OnI w B g n c f) {k : Nat} (hk : k < n) : w.cell? ⟨g, k, none⟩ = some (.int .i64 (f k)) := (h.2.cellAt k (by omega)).trans (by unfold rwI; simp [hk, iv])
theorem OnI.ext {w w' : World} {B g n c : Nat} {f : Nat → Int} (h : OnI w B g n c f) (hx : Ext w w') : OnI w' B g n c f := ⟨h.1, own_ext h.2 hx⟩
theorem OnI.set {w : World} {B g n c : Nat} {f : Nat → Int} (h : OnI w B g n c f) {k : Nat} (hk : k < n) (b : Int) : OnI (w.setCell ⟨g, k, none⟩ (.int .i64 b)) B g n c (fun j => if j = k then b else f j) := ⟨h.1, by rw [← rwI_set hk]; exact own_set h.2 (by omega) _⟩
theorem OnI.congr {w : World} {B g n c : Nat} {f f' : Nat → Int} (h : OnI w B g n c f) (he : ∀ k, k < n → f k = f' k) : OnI w B g n c f' := ⟨h.1, by rw [← rwI_congr he]; exact h.2⟩
theorem OnI.made (w : World) (B n : Nat) (hB : B ≤ w.heap.size) (hn : n ≤ 90000) : OnI (w.alloc (.cells (madeCells (Value.int .i64 0).cells (n * 1)) 3)) B w.heap.size n n (fun _ => 0) :=
  ⟨hB, by rw [← rwI_made]; exact World.ownsRow_lit (base := B) (e := 3) (size := 1) w _ n hB (by unfold maxLen; omega) (by rw [size_madeCells])⟩
theorem infoI8 : (Tryz.prog.info? 3).map (fun i => (i.zero, i.size, i.bytes)) = some (some (.int .i64 0), 1, 8) := by kernel_rfl
theorem infoB8 : (Tryz.prog.info? 4).map (fun i => (i.zero, i.size, i.bytes)) = some (some (.bool false), 1, 1) := by kernel_rfl
def bo8 (b : Bool) : Value := .bool b
def rwB (n : Nat) (f : Nat → Bool) : List Value := (List.range n).map (fun k => bo8 (f k))
theorem rwB_len (n : Nat) (f : Nat → Bool) : (rwB n f).length = n := by unfold rwB; simp
theorem rwB_at {n : Nat} {f : Nat → Bool} {k : Nat} (hk : k < n) : (rwB n f)[k]? = some (.bool (f k)) := by unfold rwB; simp [hk, bo8]
theorem rwB_congr {n : Nat} {f g : Nat → Bool} (h : ∀ k, k < n → f k = g k) : rwB n f = rwB n g := by
  unfold rwB
  exact List.map_congr_left (fun k hk => by rw [h k (List.mem_range.1 hk)])
theorem rwB_set {n : Nat} {f : Nat → Bool} {k : Nat} (_hk : k < n) (b : Bool) : (rwB n f).set k (.bool b) = rwB n (fun j => if j = k then b else f j) := by
  apply List.ext_getElem (by simp [rwB_len])
  intro j h1 h2
  by_cases h : k = j
  · subst h; simp [rwB, bo8]
  · simp [rwB, bo8, List.getElem_set_ne h, Ne.symm h]
theorem rwB_one (n : Nat) (f : Nat → Bool) : ∀ u ∈ rwB n f, u.oneCell' = true := by
  intro u hu
  unfold rwB at hu
  obtain ⟨k, _, rfl⟩ := List.mem_map.1 hu
  rfl
/-- A row of the call's own that holds what f says. -/
def OnB (w : World) (B g n c : Nat) (f : Nat → Bool) : Prop := B ≤ g ∧ w.ownsRow B 4 1 (.slice (some ⟨g, 0, none⟩) n c) n (rwB n f)
theorem OnB.read {w : World} {B g n c : Nat} {f : Nat → Bool} (h : OnB w B g n c f) {k : Nat} (hk : k < n) : w.cell? ⟨g, k, none⟩ = some (.bool (f k)) := (h.2.cellAt k (by omega)).trans (rwB_at hk)
theorem OnB.free {w : World} {B g n c : Nat} {f : Nat → Bool} (h : OnB w B g n c f) (k : Nat) : w.frozen? ⟨g, k, none⟩ = false := own_free h.2 k
theorem OnB.ext {w w' : World} {B g n c : Nat} {f : Nat → Bool} (h : OnB w B g n c f) (hx : Ext w w') : OnB w' B g n c f := ⟨h.1, own_ext h.2 hx⟩
theorem OnB.congr {w : World} {B g n c : Nat} {f f' : Nat → Bool} (h : OnB w B g n c f) (he : ∀ k, k < n → f k = f' k) : OnB w B g n c f' := ⟨h.1, by rw [← rwB_congr he]; exact h.2⟩
theorem OnB.set {w : World} {B g n c : Nat} {f : Nat → Bool} (h : OnB w B g n c f) {k : Nat} (hk : k < n) (b : Bool) : OnB (w.setCell ⟨g, k, none⟩ (.bool b)) B g n c (fun j => if j = k then b else f j) := ⟨h.1, by rw [← rwB_set hk]; exact own_set h.2 (by omega) _⟩
theorem OnB.other {w : World} {B g n c : Nat} {f : Nat → Bool} (h : OnB w B g n c f) {p : Addr} (hp : g ≠ p.block) (v : Value) : OnB (w.setCell p v) B g n c f := ⟨h.1, ownsRow_setCell_other h.2 (by simp [Value.ownBlock, hp]) v⟩
theorem OnB.lt {w : World} {B g n c : Nat} {f : Nat → Bool} (h : OnB w B g n c f) : g < w.heap.size := (h.2.lt g rfl).2
theorem OnB.base {w : World} {B B' g n c : Nat} {f : Nat → Bool} (h : OnB w B g n c f) (hB : B' ≤ B) : OnB w B' g n c f :=
  ⟨Nat.le_trans hB h.1, h.2.1, h.2.2.imp id (fun ⟨a, b, c, h1, h2, h3⟩ => ⟨a, b, c, h1, Nat.le_trans hB h2, h3⟩)⟩
theorem rwB_made (n : Nat) : (madeCells (Value.bool false).cells (n * 1)).toList = rwB n (fun _ => false) := by
  have hz : (Value.bool false).cells = #[.bool false] := by simp [Value.cells]
  rw [hz, Nat.mul_one]
  apply List.ext_getElem (by simp [rwB_len, size_madeCells])
  intro j h1 h2
  unfold rwB
  simp [madeCells, bo8, Nat.mod_one]
theorem OnB.made (w : World) (B n : Nat) (hB : B ≤ w.heap.size) (hn : n ≤ 90000) : OnB (w.alloc (.cells (madeCells (Value.bool false).cells (n * 1)) 4)) B w.heap.size n n (fun _ => false) :=
  ⟨hB, by rw [← rwB_made]; exact World.ownsRow_lit (base := B) (e := 4) (size := 1) w _ n hB (by unfold maxLen; omega) (by rw [size_madeCells])⟩
theorem iv_one1 (l : List Int) : ∀ u ∈ l.map iv, u.oneCell' = true := by
  intro u hu
  obtain ⟨_, _, rfl⟩ := List.mem_map.1 hu
  rfl
theorem app_iv1 (w : World) {ops : Array Oper} {rest : List Oper} {o : Oper} {a : Act} {Q : Exit → Act → World → Prop} (hgd : o.guard = none) (s x : Operand)
    (ho : o.op = .call { callee := .builtin .append, args := #[s, x], argTypes := #[143, 143] })
    (B : Nat) (v : Value) (n : Nat) (l : List Int) (hs : a.eval s = v) (hown : w.ownsRow B 3 1 v n (l.map iv))
    (A : Option Addr) (m c : Nat) (k : List Int) (hx : a.eval x = .slice A m c) (hl : k.length = m) (hS : Sl w A m c (k.map iv))
    (hsz : n + m ≤ 1000000) (hB : B ≤ w.heap.size)
    (h : ∀ A' c' w', w'.ownsRow B 3 1 (.slice A' (n + m) c') (n + m) ((l ++ k).map iv) → w.grownBy w' v.ownBlock → wpList Tryz.prog ops Q rest (a.put o.dst (.slice A' (n + m) c')) w') : wpList Tryz.prog ops Q (o :: rest) a w := by
  refine wpList_app_sl w hgd s x 143 ho B 3 (.int .i64 0) 1 8 Tryz.underlying143 infoI8 rfl (by omega) v n (l.map iv) hs hown A m c (k.map iv) hx (by simp [hl]) hS (iv_one1 k) (by unfold maxLen; omega) (by omega) hB ?_
  intro A' c' w' h1 h2
  rw [← List.map_append] at h1
  exact h A' c' w' h1 h2
theorem sl_lit3 {w : World} {z : Nat} (hz : z = w.heap.size) (e n : Nat) (xs : List Value) (hn : n ≤ maxLen) : Sl (w.alloc (.cells xs.toArray e)) (some ⟨z, 0, none⟩) n n xs := by subst hz; exact sl_lit w e n xs hn
end Go.Proofs.YtnlkakbpcdfgfaaGreat
namespace Go.Proofs.YtnlkakbpcdfgfaaGreat
set_option maxRecDepth 20000
open Go.RowKit

set_option maxRecDepth 100000 in
set_option maxHeartbeats 800000 in
theorem stateRoots_any (R V L : Option Addr) (vs : List It) (n q m cv t cl : Nat) (keep next gen : Int) (w : World) (hm : m = vs.length) (hm2 : m ≤ 1000) (hV : Sl w V m cv (ivs vs)) :
    Calls Tryz.prog 135 #[.agg #[.slice R n q, .int .i64 keep, .slice V m cv, .slice L t cl, .int .i64 next, .int .i64 gen]] w fun e w' => ∃ S d, e = .returned (.slice S m d) ∧ Sl w' S m d ((vs.map (·.2)).map iv) ∧ Ext w w' := by
  have hb := Bx.new w #[.slice R n q, .int .i64 keep, .slice V m cv, .slice L t cl, .int .i64 next, .int .i64 gen] 33
  have HX0 := Lib.hid ((Ext.refl w).alloc (.cells #[.slice R n q, .int .i64 keep, .slice V m cv, .slice L t cl, .int .i64 next, .int .i64 gen] 33))
  obtain ⟨s0, s1, s2, s3, s4, s5⟩ := st_at6 hb
  have HV := Lib.hid hV
  have HM := Lib.hid hm
  clear hb hV hm
  go_enter Tryz.func135, Tryz.ntmps135
  go_wp2_with fail
  generalize hW : w.alloc _ = W0 at *
  clear s0 s1 s2 s3 s4 s5 hW
  go_loopw [3, 9] (fun s i wr => ∃ (k : Nat) (S : Option Addr) (d : Nat), k ≤ m ∧ i = .int .i64 k ∧ s = .slice S k d ∧ wr.ownsRow w.heap.size 3 1 (.slice S k d) k (((vs.take k).map (·.2)).map iv) ∧ Ext w wr) (fun _ i _ => m - (intOf i).toNat)
  case atStart => exact ⟨0, none, 0, Nat.zero_le _, rfl, rfl, World.ownsRow_nil _ _ _ _, HX0.out⟩
  case round =>
    obtain ⟨k, S, d, hk, rfl, rfl, ho, hx⟩ := hrel
    have HO := Lib.hid ho
    have HX := Lib.hid hx
    clear ho hx
    rcases Nat.lt_or_ge k m with hlt | hge
    · have hkl : k < vs.length := by rw [← HM.out]; exact hlt
      obtain ⟨b, off, rfl, _, hc⟩ := (HV.out.ext HX.out).cells.it hkl
      obtain ⟨a0, a1⟩ := hc k hkl
      have hki : (k : Int) < (m : Int) := by omega
      have HST := Lib.hid (show (vs.take (k + 1)).map (·.2) = (vs.take k).map (·.2) ++ [vs[k].2] from by rw [List.take_succ_eq_append_getElem hkl, List.map_append]; rfl)
      clear hc
      generalize vs[k] = x at *
      obtain ⟨x1, x2⟩ := x
      simp only at a0 a1 HST
      have Y1 := Lib.hid ((Ext.refl wr).alloc (.cells #[.int .i64 x1, .int .i64 x2] 91))
      go_wp2_with (at_builtin; refine stop_here ?_)
      refine stop_on ?_
      have Y2 := Lib.hid (Y1.out.alloc (.cells #[.int .i64 x2] 3))
      have Y := Lib.hid (HX.out.trans Y2.out)
      refine app_iv1 _ rfl _ _ rfl w.heap.size (.slice S k d) k ((vs.take k).map (·.2)) rfl (own_ext HO.out Y2.out) (some ⟨_, 0, none⟩) 1 1 [x2] rfl rfl (sl_lit3 (by simp) _ 1 ([x2].map iv) (by unfold maxLen; omega)) (by omega) Y.out.size ?_
      intro S2 d2 w3 hown hg
      rw [← HST.out] at hown
      have X3 := Lib.hid (Y.out.app (own_ext HO.out Y2.out) (Nat.le_refl _) hg)
      have O3 := Lib.hid hown
      clear hown hg
      go_wp2
      go_roundw
      case rel => exact ⟨k + 1, S2, d2, by omega, by go_num, rfl, O3.out, X3.out⟩
      case measure => simp [intOf]; omega
    · obtain rfl : m = k := by omega
      have HE := Lib.hid (show vs.take m = vs from by rw [HM.out, List.take_length])
      clear hge
      go_wp2
      go_ret
      exact ⟨S, d, rfl, by have := own_sl HO.out; rw [HE.out] at this; exact this, HX.out⟩
end Go.Proofs.YtnlkakbpcdfgfaaGreat
namespace Go.Proofs.YtnlkakbpcdfgfaaGreat
set_option maxRecDepth 20000
open Go.RowKit
attribute [local go_sem ↓] Go.wp_at_zero Go.wp_at_succ

theorem bk_num {w : World} {A : Option Addr} {l : List Int} (h : Cells w A (l.map iv)) {k : Nat} (hk : k < l.length) :
    ∃ b off, A = some ⟨b, off, none⟩ ∧ b < w.heap.size ∧ ∀ j (hj : j < l.length), w.cell? ⟨b, off + j, none⟩ = some (.int .i64 l[j]) := by
  obtain ⟨b, off, rfl, hlt, hc⟩ := h (by intro e; rw [List.map_eq_nil_iff] at e; subst e; simp at hk)
  exact ⟨b, off, rfl, hlt, fun j hj => hc j _ (by simp [iv, hj])⟩
set_option maxRecDepth 100000 in
set_option maxHeartbeats 1600000 in
theorem bkIdxRoot_any (f : Int → Bool) (kb : Nat) (S : Option Addr) (l : List Int) (t d : Nat) (w : World) (ht : t = l.length) (hS : Sl w S t d (l.map iv))
    (hF : ∀ p, Calls Tryz.prog 145 #[.int .i64 p, .pointer (some ⟨kb, 0, none⟩)] w fun e w' => e = .returned (.bool (f p)) ∧ w = w') :
    Calls Tryz.prog 150 #[.slice S t d, .func (.func 145) #[] #[.pointer (some ⟨kb, 0, none⟩)]] w fun e w' => e = .returned (.int .i64 (idxBy f l)) ∧ w = w' := by
  have hl := hS.len
  unfold maxLen at hl
  have HT := Lib.hid ht
  have HS := Lib.hid hS.cells
  have HF := Lib.hid hF
  clear ht hS hF
  go_enter Tryz.func150, Tryz.ntmps150
  go_wp2_with fail
  go_loopw [8] (fun i wr => ∃ k : Nat, k ≤ t ∧ i = .int .i64 k ∧ (∀ j (hj : j < l.length), j < k → f l[j] = false) ∧ w = wr) (fun i _ => t - (intOf i).toNat)
  case atStart => exact ⟨0, Nat.zero_le _, rfl, fun _ _ h => by omega, rfl⟩
  case round =>
    obtain ⟨k, hk, rfl, hb, rfl⟩ := hrel
    have HB := Lib.hid hb
    clear hb
    rcases Nat.lt_or_ge k t with hlt | hlt
    · have hkl : k < l.length := by rw [← HT.out]; exact hlt
      obtain ⟨b, off, rfl, hbl, hc⟩ := bk_num HS.out hkl
      have hck := hc k hkl
      have hki : (k : Int) < (t : Int) := by omega
      have HH := Lib.hid (fun h => idx_hit (f := f) hkl h HB.out)
      have HN := Lib.hid (fun (h : f l[k] = false) => (show ∀ j (hj : j < l.length), j < k + 1 → f l[j] = false from fun j hj hjk => by
        rcases Nat.lt_or_ge j k with h' | h'
        · exact HB.out j hj h'
        · obtain rfl : j = k := by omega
          exact h))
      have HC := Lib.hid (HF.out l[k])
      clear hc HB
      generalize l[k] = y at *
      generalize f y = fy at *
      cases fy
      · have HE := Lib.hid (HN.out rfl)
        clear HH HN
        go_wp2_with (go_at_call 145; refine HC.out.mono ?_; rintro e w1 ⟨rfl, rfl⟩)
        go_roundw
        case rel => exact ⟨k + 1, by omega, by go_num, HE.out, by first | rfl | trivial⟩
        case measure => simp [intOf]; omega
      · have HE := Lib.hid (HH.out rfl)
        clear HH HN
        go_wp2_with (go_at_call 145; refine HC.out.mono ?_; rintro e w1 ⟨rfl, rfl⟩)
        go_ret
        exact ⟨ret_int HE.out.symm, rfl⟩
    · obtain rfl : k = t := by omega
      have HE := Lib.hid (idx_none (f := f) (fun j hj => HB.out j hj (by rw [HT.out]; exact hj)))
      clear hlt
      go_wp2_with fail
      go_ret
      exact ⟨ret_int HE.out.symm, rfl⟩
set_option maxHeartbeats 800000 in
theorem bkHasRoot_any (f : Int → Bool) (kb : Nat) (S : Option Addr) (l : List Int) (t d : Nat) (w : World) (ht : t = l.length) (hS : Sl w S t d (l.map iv))
    (hF : ∀ p, Calls Tryz.prog 145 #[.int .i64 p, .pointer (some ⟨kb, 0, none⟩)] w fun e w' => e = .returned (.bool (f p)) ∧ w = w') :
    Calls Tryz.prog 144 #[.slice S t d, .func (.func 145) #[] #[.pointer (some ⟨kb, 0, none⟩)]] w fun e w' => e = .returned (.bool (l.any f)) ∧ w = w' := by
  have HI := Lib.hid (bkIdxRoot_any f kb S l t d w ht hS hF)
  rw [← idx_any f l]
  generalize idxBy f l = z at *
  clear ht hS hF
  go_enter Tryz.func144, Tryz.ntmps144
  go_wp2_with (go_at_call 150; refine HI.out.mono ?_; rintro e w1 ⟨rfl, rfl⟩)
  go_ret
  exact ⟨by first | rfl | simp, rfl⟩
set_option maxHeartbeats 800000 in
theorem bkRoots_any (c : List HC) (R S : Option Addr) (l : List Int) (n q t d : Nat) (w : World) (hA : HcSl w R n q c) (hn : n ≤ 1000000) (ht : t = l.length) (hS : Sl w S t d (l.map iv)) :
    Calls Tryz.prog 134 #[.slice S t d, .slice R n q] w fun e w' => e = .returned (.bool (!l.any (rootBad c))) ∧ Ext w w' := by
  obtain ⟨W, hW⟩ : ∃ W, w.alloc (.cells #[.slice R n q] 27) = W := ⟨_, rfl⟩
  have HX := Lib.hid (show Ext w W from hW ▸ Ext.alloc (Ext.refl _) _)
  have hb : W.cell? ⟨w.heap.size, 0, none⟩ = some (.slice R n q) := by subst hW; exact Cells.at_ (sl_lit w 27 1 [.slice R n q] (by unfold maxLen; omega)).cells _ rfl 0 _ rfl
  have HC := Lib.hid (bkHasRoot_any (rootBad c) w.heap.size S l t d W ht (hS.ext HX.out) (fun p => bkRootF_any c p R n q w.heap.size W (hA.ext HX.out) hn hb))
  generalize l.any (rootBad c) = r at *
  clear hS ht hA hb
  subst hW
  go_enter Tryz.func134, Tryz.ntmps134
  go_wp2_with (go_at_call 144; refine HC.out.mono ?_; rintro e w1 ⟨rfl, rfl⟩)
  go_ret
  exact ⟨rfl, HX.out⟩
/-- Do volumes' numbers rise, from one on, all below next? -/
def idsR (next : Int) : List It → Int → Bool
  | [], _ => true
  | v :: vs, least => fromP least v.1 (next - 1) && idsR next vs (v.1 + 1)
def idsP (vs : List It) (next : Int) : Bool := idsR next vs 1 && decide (vs.length ≤ 20)
set_option maxRecDepth 100000 in
set_option maxHeartbeats 1600000 in
theorem bkIds_any (V : Option Addr) (vs : List It) (m cv : Nat) (next : Int) (w : World) (hm : m = vs.length) (hm2 : m ≤ 1000) (h1 : 1 ≤ next) (h2 : next ≤ 4294967296) (hV : Sl w V m cv (ivs vs)) :
    Calls Tryz.prog 133 #[.slice V m cv, .int .i64 next] w fun e w' => e = .returned (.bool (idsP vs next)) ∧ Ext w w' := by
  have HV := Lib.hid hV
  have HM := Lib.hid hm
  have HF := Lib.hid (fun a b w' => bkFrom_any a b (next - 1) w')
  have hwr : IntKind.i64.wrap (next - 1) = next - 1 := by simp only [IntKind.wrap_i64]; omega
  obtain ⟨res, hres⟩ : ∃ r, idsP vs next = r := ⟨_, rfl⟩
  have HP := Lib.hid (show (idsR next vs 1 && decide (m ≤ 20)) = res from by rw [← hres, hm]; rfl)
  rw [hres]
  clear hV hm hres
  go_enter Tryz.func133, Tryz.ntmps133
  go_wp2_with fail
  go_loopw [5, 10] (fun z i wr => ∃ (k : Nat) (x : Int), k ≤ m ∧ i = .int .i64 k ∧ z = .int .i64 x ∧ 1 ≤ x ∧ x ≤ 4294967296 ∧ idsR next vs 1 = idsR next (vs.drop k) x ∧ Ext w wr) (fun _ i _ => m - (intOf i).toNat)
  case atStart => exact ⟨0, 1, Nat.zero_le _, rfl, rfl, by omega, by omega, rfl, Ext.refl _⟩
  case round =>
    obtain ⟨k, x, hk, rfl, rfl, hx1, hx2, hid, hx⟩ := hrel
    have HX := Lib.hid hx
    have HID := Lib.hid hid
    clear hx hid
    rcases Nat.lt_or_ge k m with hlt | hge
    · have hkl : k < vs.length := by rw [← HM.out]; exact hlt
      obtain ⟨b, off, rfl, _, hc⟩ := (HV.out.ext HX.out).cells.it hkl
      obtain ⟨a0, a1⟩ := hc k hkl
      have hki : (k : Int) < (m : Int) := by omega
      have HD := Lib.hid (show vs.drop k = vs[k] :: vs.drop (k + 1) from (List.getElem_cons_drop ..).symm)
      clear hc
      generalize vs[k] = y at *
      obtain ⟨y1, y2⟩ := y
      simp only at a0 a1
      have HB := Lib.hid (Bx.new wr #[.int .i64 y1, .int .i64 y2] 91)
      have HXA := Lib.hid (HX.out.alloc (.cells #[.int .i64 y1, .int .i64 y2] 91))
      have HG := Lib.hid (HF.out x y1)
      have HS := Lib.hid (show idsR next vs 1 = (fromP x y1 (next - 1) && idsR next (vs.drop (k + 1)) (y1 + 1)) from by rw [HID.out, HD.out]; rfl)
      obtain ⟨g0, g1, g2⟩ := HB.out.read2
      cases hf : fromP x y1 (next - 1) with
      | false =>
        rw [hf] at HG HS
        have HE := Lib.hid (show res = false from by rw [← HP.out, HS.out]; rfl)
        clear hf HS HID HD
        go_wp2_with (go_at_call 131; with_reducible refine (HG.out _).mono ?_; rintro e w' ⟨rfl, rfl⟩)
        go_ret
        exact ⟨by rw [HE.out]; rfl, HXA.out⟩
      | true =>
        rw [hf] at HG HS
        have hle : x ≤ y1 ∧ y1 ≤ next - 1 := by
          unfold fromP at hf
          simpa only [Bool.and_eq_true, decide_eq_true_eq] using hf
        have hw2 : IntKind.i64.wrap (y1 + 1) = y1 + 1 := by simp only [IntKind.wrap_i64]; omega
        clear hf HID HD
        go_wp2_with (go_at_call 131; with_reducible refine (HG.out _).mono ?_; rintro e w' ⟨rfl, rfl⟩)
        go_roundw
        case rel => exact ⟨k + 1, y1 + 1, by omega, by go_num, rfl, by omega, by omega, by rw [HS.out]; rfl, HXA.out⟩
        case measure => simp [intOf]; omega
    · obtain rfl : m = k := by omega
      have HE := Lib.hid (show res = decide (m ≤ 20) from by
        rw [← HP.out, HID.out, HM.out, List.drop_length]; rfl)
      clear hge HID
      go_wp2
      go_ret
      exact ⟨by rw [HE.out]; first | rfl | (congr 1; congr 1; simp; omega), HX.out⟩
end Go.Proofs.YtnlkakbpcdfgfaaGreat
namespace Go.Proofs.YtnlkakbpcdfgfaaGreat
set_option maxRecDepth 20000

theorem take_yes {P : Program} {md : Region.Mode} {ops : Array Oper} {Q : Exit → Act → World → Prop} {S : World → Prop} {i : Nat} {oi : Oper} {v : Value} {fuel : Nat} {listed : Array Bool} {a : Act} {w : World} (d : Option Tmp) (hi : ops[i]? = some oi) (hd : oi.dst = d)
    (hs : Region.noSelect ops = true) (hf : Region.free md ops listed i = true) (hr : (Region.ready md ops listed).contains i = true)
    (hQ : ∀ c a w, Q (.panic c) (a.put d v) w → Q (.panic c) a w) (hw : Region.wanted oi (yielded ops a.tmps) = true) (hS : S w) (hy : ∀ w, S w → (execOp a.eval oi).run P w = .ok (.value v) w)
    (h : wpAnyH P md ops Q S fuel (listed.setIfInBounds i true) (a.put d v) w) : wpAnyH P md ops Q S (fuel + 1) listed a w := by
  subst hd
  exact wpAnyH_take hi hs hf hr hQ (Or.inl ⟨hw, hy⟩) hS h
theorem take_no {P : Program} {md : Region.Mode} {ops : Array Oper} {Q : Exit → Act → World → Prop} {S : World → Prop} {i : Nat} {oi : Oper} {fuel : Nat} {listed : Array Bool} {a : Act} {w : World} (d : Option Tmp) (hi : ops[i]? = some oi) (hd : oi.dst = d)
    (hs : Region.noSelect ops = true) (hf : Region.free md ops listed i = true) (hr : (Region.ready md ops listed).contains i = true)
    (hQ : ∀ c a w, Q (.panic c) (a.put d undef) w → Q (.panic c) a w) (hw : Region.wanted oi (yielded ops a.tmps) = false) (hS : S w)
    (h : wpAnyH P md ops Q S fuel (listed.setIfInBounds i true) (a.put d undef) w) : wpAnyH P md ops Q S (fuel + 1) listed a w := by
  subst hd
  exact wpAnyH_take hi hs hf hr hQ (Or.inr ⟨hw, rfl⟩) hS h
/-- An operation that alone may come up, and does: behind it S is shown anew. -/
theorem take_run {P : Program} {md : Region.Mode} {ops : Array Oper} {Q : Exit → Act → World → Prop} {S : World → Prop} {i : Nat} {o : Oper} {fuel : Nat} {listed : Array Bool} {a : Act} {w : World} (ho : ops[i]? = some o) (hr : Region.ready md ops listed = [i]) (hw : Region.wanted o (yielded ops a.tmps) = true)
    (h : ∀ K' : Act → World → Prop, Shut (∀ a w, S w → (S w → wpAnyH P md ops Q S fuel (listed.setIfInBounds i true) a w) → K' a w) → Oper.wp P o a w K' Q) : wpAnyH P md ops Q S (fuel + 1) listed a w :=
  wpAnyH_ready hr (by simp) (AllReadyH.cons ho (fun K' hK => by rw [if_pos hw]; exact h K' hK) AllReadyH.nil)
end Go.Proofs.YtnlkakbpcdfgfaaGreat
