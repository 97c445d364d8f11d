/- Trees in a heap of cells, as plain functions; what is right about them. No program in sight. The walk of High of the reference of layer 7. Walks of isNumber and places of package grow, and of At of a leaf without items. Walks of grown, laid and over of package grow. -/
import Derived.Test.YtkoomcbiddanfaaGreatK03
import Derived.Deep.AppendLies
import Derived.Deep.RegionHeld3
import Derived.Deep.DeepCutAuto
import Derived.Deep.DrawnRows
import Derived.RegionTactic
import Derived.Test.YtkoomcbiddanfaaGreatK12
namespace Go.Proofs.YtkoomcbiddanfaaGreat
open Go.RowKit

/-- What is found below a node. -/
structure Gt where
  lo : Int
  hi : Int
  high : Int
  is : Bool
deriving DecidableEq
def Gt.no : Gt := ⟨0, 0, 0, false⟩
def cellT (l : List HC) (p : Int) : HC := l.getD p.toNat HC.none
def firstK (it : List It) : Int := (it.getD 0 (0, 0)).1
def lastK (it : List It) : Int := (it.getD (it.length - 1) (0, 0)).1
def badR (i : Nat) (x : It) (g o : Gt) : Bool := !g.is || (decide (g.lo ≠ x.1) || (decide (0 < i) && (decide (g.lo ≤ o.hi) || decide (o.high ≠ g.high + 1))))
def nextR (i : Nat) (g o : Gt) : Gt := ⟨if i = 0 then g.lo else o.lo, g.hi, if i = 0 then g.high + 1 else o.high, false⟩
def belRow (f : Int → Gt) : Nat → List It → Gt → Gt
  | _, [], o => ⟨o.lo, o.hi, o.high, true⟩
  | i, x :: r, o => if badR i x (f x.2) o then Gt.no else belRow f (i + 1) r (nextR i (f x.2) o)
def bel (l : List HC) : Nat → Int → Gt
  | 0, _ => Gt.no
  | m + 1, p => if (cellT l p).ref < 1 then Gt.no else if (cellT l p).leaf then ⟨firstK (cellT l p).it, lastK (cellT l p).it, 1, true⟩ else belRow (bel l m) 0 (cellT l p).it Gt.no
def rightR (h : Hp) (root : Int) : Bool := decide (root = -1) || (usedH h root && (bel h.c 20 root).is)
def highT (l : List HC) (root : Int) : Int := if root < 0 then 0 else (bel l 20 root).high
def listB (l : List HC) : Nat → Int → List It
  | 0, _ => []
  | m + 1, p => if (cellT l p).leaf then (cellT l p).it else (cellT l p).it.flatMap (fun x => listB l m x.2)
def listT (l : List HC) (root : Int) : List It := if root < 0 then [] else listB l 20 root
def scanT (l : List HC) (root lo hi : Int) : List It := (listT l root).filter (fun x => decide (lo ≤ x.1) && decide (x.1 < hi))
def getT (l : List HC) (root key : Int) : Option Int := ((listT l root).find? (fun x => decide (x.1 = key))).map (·.2)
def nodesB (l : List HC) : Nat → Int → List Int
  | 0, _ => []
  | m + 1, p => p :: (if (cellT l p).leaf then [] else (cellT l p).it.flatMap (fun x => nodesB l m x.2))
def nodesT (l : List HC) (root : Int) : List Int := if root < 0 then [] else nodesB l 20 root

/-- What each item of a row leads to is right, and as high as the others. -/
theorem belRow_is {f : Int → Gt} : ∀ {r : List It} {i : Nat} {o : Gt}, (belRow f i r o).is = true →
    (∀ x ∈ r, (f x.2).is = true ∧ (f x.2).lo = x.1) ∧ (∀ x ∈ r, (f x.2).high + 1 = (belRow f i r o).high) ∧ (0 < i → (belRow f i r o).high = o.high ∧ (belRow f i r o).lo = o.lo)
  | [], i, o, _ => ⟨by simp, by simp, fun _ => ⟨rfl, rfl⟩⟩
  | x :: r, i, o, h => by
    unfold belRow at h ⊢
    cases hb : badR i x (f x.2) o
    · rw [hb] at h
      simp only [Bool.false_eq_true, if_false] at h ⊢
      obtain ⟨h1, h2, h3⟩ := belRow_is h
      obtain ⟨h4, h5⟩ := h3 (by omega)
      unfold badR at hb
      simp only [Bool.or_eq_false_iff, Bool.not_eq_false', Bool.and_eq_false_iff, decide_eq_false_iff_not, Decidable.not_not] at hb
      obtain ⟨b1, b2, b3⟩ := hb
      have h6 : (f x.2).high + 1 = (belRow f (i + 1) r (nextR i (f x.2) o)).high := by
        rw [h4]
        unfold nextR
        split
        · rfl
        · rcases b3 with b | b
          · omega
          · exact b.2.symm
      refine ⟨fun y hy => ?_, fun y hy => ?_, fun hi => ?_⟩
      · rcases List.mem_cons.1 hy with rfl | hy
        · exact ⟨b1, b2⟩
        · exact h1 y hy
      · rcases List.mem_cons.1 hy with rfl | hy
        · exact h6
        · exact h2 y hy
      · rw [h4, h5]
        unfold nextR
        rw [if_neg (by omega), if_neg (by omega)]
        exact ⟨rfl, rfl⟩
    · rw [hb] at h
      simp [Gt.no] at h
/-- A right tree's root: a cell that is held; a leaf, or one whose items lead to right trees, all as high. -/
theorem bel_is {l : List HC} {m : Nat} {p : Int} (h : (bel l (m + 1) p).is = true) : 0 < (cellT l p).ref ∧ (((cellT l p).leaf = true ∧ bel l (m + 1) p = ⟨firstK (cellT l p).it, lastK (cellT l p).it, 1, true⟩) ∨ ((cellT l p).leaf = false ∧ bel l (m + 1) p = belRow (bel l m) 0 (cellT l p).it Gt.no ∧ ∀ x ∈ (cellT l p).it, (bel l m x.2).is = true ∧ (bel l m x.2).lo = x.1 ∧ (bel l m x.2).high + 1 = (bel l (m + 1) p).high)) := by
  rw [bel] at h ⊢
  by_cases h1 : (cellT l p).ref < 1
  · rw [if_pos h1] at h; simp [Gt.no] at h
  · rw [if_neg h1] at h ⊢
    refine ⟨by omega, ?_⟩
    cases h2 : (cellT l p).leaf
    · right
      rw [h2] at h
      simp only [Bool.false_eq_true, if_false] at h ⊢
      have h3 := belRow_is h
      exact ⟨trivial, trivial, fun x hx => ⟨(h3.1 x hx).1, (h3.1 x hx).2, h3.2.1 x hx⟩⟩
    · left; simp
theorem bel_zero {l : List HC} {p : Int} (h : (bel l 0 p).is = true) : False := by simp [bel, Gt.no] at h
/-- Cells of a right heap that are held have right nodes. -/
theorem cell_ok {n : Nat} {c : HC} (h : cellR n c = true) (hr : 0 < c.ref) : NdR c.it ∧ (c.leaf = false → ∀ x ∈ c.it, 0 ≤ x.2 ∧ x.2 < n) := by
  unfold cellR at h
  rw [if_neg (by omega)] at h
  simp only [Bool.and_eq_true, decide_eq_true_eq] at h
  refine ⟨(ndR_iff _).1 h.2.2.2.1, fun hl x hx => ?_⟩
  have h1 := h.2.2.2.2
  unfold placesC at h1
  rw [hl, Bool.false_or, List.all_eq_true] at h1
  have := h1 x hx
  simpa using this
theorem cellT_at {l : List HC} {k : Nat} (hk : k < l.length) : cellT l (k : Int) = l[k] := by
  unfold cellT
  rw [Int.toNat_natCast, List.getD_eq_getElem?_getD, List.getElem?_eq_getElem hk]
  rfl
/-- All cells are right. -/
def AllR (l : List HC) : Prop := ∀ k (hk : k < l.length), cellR l.length l[k] = true
end Go.Proofs.YtkoomcbiddanfaaGreat
namespace Go.Proofs.YtkoomcbiddanfaaGreat
open Go.RowKit
attribute [local go_sem ↓] Go.wp_at_zero Go.wp_at_succ

/-- A cell's node, its row opened. -/
theorem it_at {w : World} {A : Option Addr} {n c : Nat} {it : List It} (h : Sl w A n c (ivs it)) {k : Nat} (hk : k < it.length) : ∃ b off, A = some ⟨b, off, none⟩ ∧ b < w.heap.size ∧ w.cell? ⟨b, off + k * 2, none⟩ = some (.int .i64 it[k].1) ∧ w.cell? ⟨b, off + k * 2 + 1, none⟩ = some (.int .i64 it[k].2) := by
  obtain ⟨b, off, e, hlt, hc⟩ := h.cells.it hk
  exact ⟨b, off, e, hlt, hc k hk⟩
set_option maxRecDepth 100000 in
set_option maxHeartbeats 1600000 in
theorem ref07High_bel (l : List HC) (hl : AllR l) (hn : l.length ≤ 2000) : ∀ (m : Nat) (p : Int) (R : Option Addr) (n q : Nat) (keep : Int) (w : World), m ≤ 20 → 0 ≤ p → p < l.length → (bel l m p).is = true → HcSl w R n q l →
    Calls Tryz.prog 26 #[.agg #[.slice R n q, .int .i64 keep], .int .i64 p] w fun e w' => e = .returned (.int .i64 (bel l m p).high) ∧ ((bel l m p).high ≤ m ∧ 1 ≤ (bel l m p).high) ∧ Ext w w'
  | 0, p, R, n, q, keep, w, hm, h0, h1, h, hA => (bel_zero h).elim
  | m + 1, p, R, n, q, keep, w, hm, h0, h1, h, hA => by
    obtain ⟨k, rfl⟩ := Int.eq_ofNat_of_zero_le h0
    have hk : k < l.length := by omega
    have hnl := hA.1
    obtain ⟨hr, hc⟩ := bel_is h
    rw [cellT_at hk] at hr hc
    have hx0 := (Ext.refl w).alloc (.cells #[.slice R n q, .int .i64 keep] 24)
    have HB0 := Lib.hid (Bx.new w #[.slice R n q, .int .i64 keep] 24)
    have HX := Lib.hid hx0
    obtain ⟨p0, p1, p2⟩ := HB0.out.read2
    obtain ⟨b, off, rfl, hbl, A, c, r0, r1, r2, r3, hI⟩ := (hA.ext hx0).cell hk
    have hok := cell_ok (hl k hk) hr
    have hkn : k < n := by omega
    have hlen := hok.1.1
    rcases hc with ⟨hlf, hb⟩ | ⟨hlf, hb, hch⟩
    · rw [hb]
      rw [hlf] at r2
      clear hb h hok hA hI hx0 hlen hnl hr hlf h0 h1
      go_enter Tryz.func26, Tryz.ntmps26
      go_wp2
      go_ret
      exact ⟨rfl, ⟨by omega, by omega⟩, HX.out.alloc _⟩
    · have h0l : 0 < l[k].it.length := by omega
      obtain ⟨c1, c2, c3⟩ := hch l[k].it[0] (List.getElem_mem h0l)
      have hpl := hok.2 hlf l[k].it[0] (List.getElem_mem h0l)
      obtain ⟨bi, oi, rfl, hbi, i0, i1⟩ := it_at hI h0l
      rw [← c3]
      have HIH := Lib.hid (fun w' (hx : Ext w w') => ref07High_bel l hl hn m l[k].it[0].2 (some ⟨b, off, none⟩) n q keep w' (by omega) hpl.1 (by omega) c1 (hA.ext hx))
      rw [hlf] at r2
      generalize (bel l m l[k].it[0].2).high = g at *
      generalize l[k].it[0].2 = V at *
      generalize l[k].it[0].1 = K at *
      generalize l[k].it.length = li at *
      rw [show oi + 0 * 2 + 1 = oi + 1 by omega] at i1
      rw [show oi + 0 * 2 = oi by omega] at i0
      have hx1 := hx0.alloc (.cells #[.bool false, .slice (some ⟨bi, oi, none⟩) li c] 48)
      have HX1 := Lib.hid hx1
      have hst : Ext (w.alloc (.cells #[.slice (some ⟨b, off, none⟩) n q, .int .i64 keep] 24)) ((w.alloc (.cells #[.slice (some ⟨b, off, none⟩) n q, .int .i64 keep] 24)).alloc (.cells #[.bool false, .slice (some ⟨bi, oi, none⟩) li c] 48)) := (Ext.refl _).alloc _
      have HBN := Lib.hid (Bx.new (w.alloc (.cells #[.slice (some ⟨b, off, none⟩) n q, .int .i64 keep] 24)) #[.bool false, .slice (some ⟨bi, oi, none⟩) li c] 48)
      have HBH := Lib.hid (HB0.out.ext hst)
      have HRI := Lib.hid (show _ ∧ _ from ⟨(hst.cell (p := ⟨bi, oi, none⟩) hbi).trans i0, (hst.cell (p := ⟨bi, oi + 1, none⟩) hbi).trans i1⟩)
      rw [World.size_alloc] at HBN
      clear hb h hok hA hI hx0 hr hlf h0 h1 hch c1 c2 c3 hpl hnl hx1 hst i0 i1 HB0
      go_enter Tryz.func26, Tryz.ntmps26
      go_wp2
      generalize World.alloc (World.alloc w _) _ = W at *
      clear p0 p1 p2 r0 r1 r2 r3 hbl hbi HX
      obtain ⟨p0, p1, p2⟩ := HBH.out.read2
      obtain ⟨r0, r1, r2⟩ := HBN.out.read2
      obtain ⟨i0, i1⟩ := HRI.out
      go_region_law (first | ((go_simp; go_at_call 26; refine (HIH.out _ (HX1.out.drew)).mono ?_; rintro e w2 ⟨rfl, ⟨hg1, hg2⟩, hx⟩; have HX2 := Lib.hid (HX1.out.drew.trans hx))) | ((go_simp; go_at_call 26; refine (HIH.out _ HX1.out).mono ?_; rintro e w2 ⟨rfl, ⟨hg1, hg2⟩, hx⟩; have HX2 := Lib.hid (HX1.out.trans hx))))
      all_goals
        go_wp2
        go_ret
        have hgw : IntKind.i64.wrap (1 + g) = g + 1 := by rw [IntKind.wrap_i64]; omega
        rw [← hgw]
        exact ⟨rfl, ⟨by rw [hgw]; omega, by rw [hgw]; omega⟩, HX2.out⟩
theorem ref07High_any (R : Option Addr) (l : List HC) (n q : Nat) (keep p : Int) (w : World) (hl : AllR l) (hn : l.length ≤ 2000) (hr : rightR ⟨l, keep⟩ p = true) (hA : HcSl w R n q l) :
    Calls Tryz.prog 26 #[.agg #[.slice R n q, .int .i64 keep], .int .i64 p] w fun e w' => e = .returned (.int .i64 (highT l p)) ∧ (0 ≤ highT l p ∧ highT l p ≤ 20) ∧ Ext w w' := by
  unfold rightR at hr
  rw [Bool.or_eq_true, Bool.and_eq_true] at hr
  rcases Int.lt_or_le p 0 with h0 | h0
  · have HX := Lib.hid ((Ext.refl w).alloc (.cells #[.slice R n q, .int .i64 keep] 24))
    have d0 : decide (p < 0) = true := decide_eq_true h0
    have e : highT l p = 0 := by unfold highT; rw [if_pos h0]
    rw [e]
    clear hr hl hn hA e
    go_enter Tryz.func26, Tryz.ntmps26
    go_wp2
    go_ret
    exact ⟨rfl, ⟨by omega, by omega⟩, HX.out⟩
  · rcases hr with hr | ⟨hu, hb⟩
    · have := of_decide_eq_true hr; omega
    · obtain ⟨k, hk, rfl, _⟩ := usedC_iff (show usedC l p = true from hu)
      have e : highT l (k : Int) = (bel l 20 (k : Int)).high := by unfold highT; rw [if_neg (by omega)]
      rw [e]
      refine (ref07High_bel l hl hn 20 k R n q keep w (by omega) (by omega) (by omega) hb hA).mono ?_
      rintro e w' ⟨rfl, h1, hx⟩
      exact ⟨rfl, ⟨by omega, by omega⟩, hx⟩
end Go.Proofs.YtkoomcbiddanfaaGreat
namespace Go.Proofs.YtkoomcbiddanfaaGreat
open Go.RowKit
attribute [local go_sem ↓] Go.wp_at_zero Go.wp_at_succ

set_option maxHeartbeats 400000 in
theorem growIsNumber_any (x : Int) (w : World) :
    Calls Tryz.prog 19 #[.int .i64 x] w fun e w' => e = .returned (.bool (isNum x)) ∧ w = w' := by
  unfold isNum
  by_cases h0 : 0 ≤ x
  · by_cases h1 : x ≤ 2147483647
    · have d0 : decide (0 ≤ x) = true := decide_eq_true h0
      have d1 : decide (x ≤ 2147483647) = true := decide_eq_true h1
      go_enter Tryz.func19, Tryz.ntmps19
      go_wp2
      go_ret
      exact ⟨ret_bool (by first | rfl | (rw [d0, d1]; rfl)), rfl⟩
    · have d0 : decide (0 ≤ x) = true := decide_eq_true h0
      have d1 : decide (x ≤ 2147483647) = false := decide_eq_false h1
      go_enter Tryz.func19, Tryz.ntmps19
      go_wp2
      go_ret
      exact ⟨ret_bool (by first | rfl | (rw [d0, d1]; rfl)), rfl⟩
  · have d0 : decide (0 ≤ x) = false := decide_eq_false h0
    go_enter Tryz.func19, Tryz.ntmps19
    go_wp2
    go_ret
    exact ⟨ret_bool (by first | rfl | (rw [d0]; rfl)), rfl⟩
set_option maxHeartbeats 400000 in
theorem searchNone_any (v : Value) (w : World) :
    Calls Tryz.prog 85 #[.int .i64 0, v] w fun e w' => e = .returned (.int .i64 0) ∧ Ext w w' := by
  go_enter Tryz.func85, Tryz.ntmps85
  go_wp2
  go_loopw [5, 6] (fun s5 s6 wr => s5 = .int .i64 0 ∧ s6 = .int .i64 0 ∧ wr = w) (fun _ _ _ => 0)
  case atStart => exact ⟨rfl, rfl, rfl⟩
  case round =>
    obtain ⟨rfl, rfl, rfl⟩ := hrel
    go_wp2
    go_ret
    exact ⟨rfl, Ext.refl _⟩
set_option maxHeartbeats 800000 in
theorem nodeFirstNone_any (A : Option Addr) (c kb : Nat) (w : World) :
    Calls Tryz.prog 69 #[.slice A 0 c, .func (.func 70) #[] #[.pointer (some ⟨kb, 0, none⟩)]] w fun e w' => e = .returned (.int .i64 0) ∧ Ext w w' := by
  have HX := Lib.hid (((Ext.refl w).alloc (.cells #[.slice A 0 c] 27)).alloc (.cells #[.func (.func 70) #[] #[.pointer (some ⟨kb, 0, none⟩)]] 54))
  have H1 := Lib.hid ((Bx.new w #[.slice A 0 c] 27).ext ((Ext.refl _).alloc (.cells #[.func (.func 70) #[] #[.pointer (some ⟨kb, 0, none⟩)]] 54)))
  have r1 := H1.out.at 0 _ rfl
  go_enter Tryz.func69, Tryz.ntmps69
  go_wp2_with (go_at_call 85; refine stop_here ?_)
  refine stop_on ?_
  refine (searchNone_any _ _).mono ?_
  rintro e w1 ⟨rfl, hx⟩
  have HX2 := Lib.hid (HX.out.trans hx)
  clear hx
  go_wp2_with fail
  go_ret
  exact ⟨rfl, HX2.out⟩
set_option maxRecDepth 100000 in
set_option maxHeartbeats 1000000 in
theorem nodeAtNone_any (A : Option Addr) (c : Nat) (key : Int) (w : World) :
    Calls Tryz.prog 44 #[.agg #[.bool true, .slice A 0 c], .int .i64 key] w fun e w' => e = .returned (.tuple #[.int .i64 0, .bool false]) ∧ Ext w w' := by
  obtain ⟨W, hW⟩ : ∃ W, (w.alloc (.cells #[.bool true, .slice A 0 c] 48)).alloc (.cells #[.int .i64 key] 3) = W := ⟨_, rfl⟩
  obtain ⟨hx, hb0, hb1⟩ := allocs2 hW
  have HX := Lib.hid hx
  have HB0 := Lib.hid hb0
  have HB1 := Lib.hid hb1
  obtain ⟨b0, b1, b2⟩ := hb0.read2
  have k0 := hb1.at 0 _ rfl
  clear hx hb0 hb1
  go_enter Tryz.func44, Tryz.ntmps44
  go_wp2_with (go_at_call 69; refine stop_here ?_)
  refine stop_on ?_
  refine (nodeFirstNone_any _ _ _ _).mono ?_
  rintro e w1 ⟨rfl, hx1⟩
  have HX1 := Lib.hid (HX.out.trans hx1)
  obtain ⟨b0, b1, b2⟩ := (HB0.out.ext hx1).read2
  have k0 := (HB1.out.ext hx1).at 0 _ rfl
  clear hx1
  go_wp2_with fail
  go_quiet (fail)
  go_wp2
  go_ret2
  exact ⟨rfl, HX1.out.drewN _⟩
def rowI (n : Nat) (f : Nat → Int) : List Value := (List.range n).map (fun k => iv (f k))
theorem rowI_len (n : Nat) (f : Nat → Int) : (rowI n f).length = n := by unfold rowI; simp
theorem rowI_set {n : Nat} {f : Nat → Int} {k : Nat} (_hk : k < n) (b : Int) : (rowI n f).set k (.int .i64 b) = rowI n (fun j => if j = k then b else f j) := by
  apply List.ext_getElem (by simp [rowI_len])
  intro j h1 h2
  by_cases h : k = j
  · subst h; simp [rowI, iv]
  · simp [rowI, iv, List.getElem_set_ne h, Ne.symm h]
theorem rowI_congr {n : Nat} {f g : Nat → Int} (h : ∀ k, k < n → f k = g k) : rowI n f = rowI n g := by
  unfold rowI
  exact List.map_congr_left (fun k hk => by rw [h k (List.mem_range.1 hk)])
theorem rowI_made (n : Nat) : (madeCells (Value.int .i64 0).cells (n * 1)).toList = rowI n (fun _ => 0) := by
  have hz : (Value.int .i64 0).cells = #[.int .i64 0] := by simp [Value.cells]
  rw [hz, Nat.mul_one]
  apply List.ext_getElem (by simp [rowI_len, size_madeCells])
  intro j h1 h2
  unfold rowI
  simp [madeCells, iv, Nat.mod_one]
/-- A row of numbers of the call's own that holds what f says. -/
def OwnI (w : World) (B g n c : Nat) (f : Nat → Int) : Prop := B ≤ g ∧ w.ownsRow B 3 1 (.slice (some ⟨g, 0, none⟩) n c) n (rowI n f)
theorem OwnI.free {w : World} {B g n c : Nat} {f : Nat → Int} (h : OwnI w B g n c f) (k : Nat) : w.frozen? ⟨g, k, none⟩ = false := own_free h.2 k
theorem OwnI.cell {w : World} {B g n c : Nat} {f : Nat → Int} (h : OwnI w B g n c f) {k : Nat} (hk : k < n) : w.cell? ⟨g, k, none⟩ = some (.int .i64 (f k)) := (h.2.cellAt k (by omega)).trans (by unfold rowI; simp [hk, iv])
theorem OwnI.ext {w w' : World} {B g n c : Nat} {f : Nat → Int} (h : OwnI w B g n c f) (hx : Ext w w') : OwnI w' B g n c f := ⟨h.1, own_ext h.2 hx⟩
theorem OwnI.set {w : World} {B g n c : Nat} {f : Nat → Int} (h : OwnI w B g n c f) {k : Nat} (hk : k < n) (b : Int) : OwnI (w.setCell ⟨g, k, none⟩ (.int .i64 b)) B g n c (fun j => if j = k then b else f j) := ⟨h.1, by rw [← rowI_set hk]; exact own_set h.2 (by omega) _⟩
theorem OwnI.congr {w : World} {B g n c : Nat} {f f' : Nat → Int} (h : OwnI w B g n c f) (he : ∀ k, k < n → f k = f' k) : OwnI w B g n c f' := ⟨h.1, by rw [← rowI_congr he]; exact h.2⟩
theorem OwnI.made (w : World) (B n : Nat) (hB : B ≤ w.heap.size) (hn : n ≤ 90000) : OwnI (w.alloc (.cells (madeCells (Value.int .i64 0).cells (n * 1)) 3)) B w.heap.size n n (fun _ => 0) :=
  ⟨hB, by rw [← rowI_made]; exact World.ownsRow_lit (base := B) (e := 3) (size := 1) w _ n hB (by unfold maxLen; omega) (by rw [size_madeCells])⟩
/-- What items tell, the first ones of them. -/
def vF (it : List It) (j k : Nat) : Int := if k < j then (it.getD k (0, 0)).2 else 0
theorem vF_all (it : List It) {m : Nat} (hm : m = it.length) : rowI m (vF it m) = (it.map (·.2)).map iv := by
  apply List.ext_getElem (by simp [rowI_len, hm])
  intro j h1 h2
  have hj : j < it.length := by simpa using h2
  have e : it.getD j (0, 0) = it[j] := by rw [List.getD_eq_getElem?_getD, List.getElem?_eq_getElem hj]; rfl
  simp [rowI, vF, hm, hj]
theorem infoI : (Tryz.prog.info? 3).map (fun i => (i.zero, i.size, i.bytes)) = some (some (.int .i64 0), 1, 8) := by kernel_rfl
set_option maxRecDepth 100000 in
set_option maxHeartbeats 1600000 in
theorem growPlaces_any (A : Option Addr) (it : List It) (m c : Nat) (w : World) (hm : m = it.length) (hb : m ≤ 90000) (hI : Sl w A m c (ivs it)) :
    Calls Tryz.prog 46 #[.slice A m c] w fun e w' => ∃ S d, e = .returned (.slice S m d) ∧ Sl w' S m d ((it.map (·.2)).map iv) ∧ Ext w w' := by
  have HM := Lib.hid hm
  have HI := Lib.hid hI
  obtain ⟨i0, hi, hz0, hz1, hz2⟩ := info_parts infoI
  have HII := Lib.hid hi
  have HZ0 := Lib.hid hz0
  have HZ1 := Lib.hid hz1
  have HZ2 := Lib.hid hz2
  clear hm hI hi hz0 hz1 hz2
  go_enter Tryz.func46, Tryz.ntmps46
  go_wp2_with (at_make; refine stop_here ?_)
  refine stop_on ?_
  refine wpList_make_cap _ rfl _ _ 41 rfl 3 i0 _ Tryz.underlying41 HII.out HZ0.out _ _ _ _ m m rfl rfl (by omega) (by omega) (by omega) (by rw [HZ2.out]; omega) (by unfold maxLen; omega) ?_
  rw [HZ1.out]
  have HO0 := Lib.hid (OwnI.made w w.heap.size m (Nat.le_refl _) hb)
  have HX0 := Lib.hid ((Ext.refl w).alloc (.cells (madeCells (Value.int .i64 0).cells (m * 1)) 3))
  generalize hW : World.alloc w (.cells (madeCells (Value.int .i64 0).cells (m * 1)) 3) = W at *
  clear hW
  obtain ⟨g, hg⟩ : ∃ g, w.heap.size = g := ⟨_, rfl⟩
  have HG := Lib.hid hg
  rw [hg] at HO0
  rw [hg]
  clear hg
  go_wp2_with fail
  go_loopw [11] (fun i wr => ∃ j : Nat, j ≤ m ∧ i = .int .i64 j ∧ OwnI wr g g m m (vF it j) ∧ Ext w wr) (fun i _ => m - (intOf i).toNat)
  case atStart => exact ⟨0, Nat.zero_le _, rfl, HO0.out, HX0.out⟩
  case round =>
    obtain ⟨j, hj, rfl, ho, hx⟩ := hrel
    have HO := Lib.hid ho
    have HXR := Lib.hid hx
    clear ho hx
    rcases Nat.lt_or_ge j m with hlt | hlt
    · have hjl : j < it.length := by rw [← HM.out]; exact hlt
      obtain ⟨b2, off2, rfl, hb2, a0, a1⟩ := it_at HI.out hjl
      have i0 := (HXR.out.cell (p := ⟨b2, off2 + j * 2, none⟩) hb2).trans a0
      have i1 := (HXR.out.cell (p := ⟨b2, off2 + j * 2 + 1, none⟩) hb2).trans a1
      have hji : (j : Int) < (m : Int) := by omega
      have HV := Lib.hid (show ∀ k, k < m → (if k = j then it[j].2 else vF it j k) = vF it (j + 1) k from fun k _ => by
        unfold vF
        have e : it.getD j (0, 0) = it[j] := by rw [List.getD_eq_getElem?_getD, List.getElem?_eq_getElem hjl]; rfl
        by_cases h : k = j
        · subst h; rw [if_pos rfl, if_pos (by omega), e]
        · rw [if_neg h]
          by_cases h2 : k < j
          · rw [if_pos h2, if_pos (by omega)]
          · rw [if_neg h2, if_neg (by omega)])
      clear a0 a1 hb2
      generalize it[j].1 = x at *
      generalize it[j].2 = y at *
      clear hjl
      have HB5 := Lib.hid (Bx.new wr #[.int .i64 x, .int .i64 y] 26)
      have HX5 := Lib.hid ((Ext.refl wr).alloc (.cells #[.int .i64 x, .int .i64 y] 26))
      obtain ⟨c0, c1, c2⟩ := HB5.out.read2
      have f0 := (HO.out.ext HX5.out).free j
      have r0 := (HO.out.ext HX5.out).cell hlt
      go_wp2_with fail
      go_roundw
      case rel => exact ⟨j + 1, by omega, by go_num, ((HO.out.ext HX5.out).set hlt y).congr HV.out, (HXR.out.trans HX5.out).set (by show w.heap.size ≤ g; exact Nat.le_of_eq HG.out) _⟩
      case measure => simp [intOf]; omega
    · obtain rfl : m = j := by omega
      have d1 : decide ((m : Int) < (m : Int)) = false := decide_eq_false (by omega)
      have HE := Lib.hid (vF_all it HM.out)
      have hs := own_sl HO.out.2
      rw [HE.out] at hs
      have HS := Lib.hid hs
      clear hlt hs
      go_wp2
      go_ret
      exact ⟨_, m, rfl, HS.out, HXR.out⟩
end Go.Proofs.YtkoomcbiddanfaaGreat
namespace Go.Proofs.YtkoomcbiddanfaaGreat
open Go.RowKit
attribute [local go_sem ↓] Go.wp_at_zero Go.wp_at_succ

set_option maxRecDepth 100000 in
set_option maxHeartbeats 1600000 in
theorem growGrown_at (leaf is : Bool) (A B : Option Addr) (l more : List It) (n m c d i0 g0 : Nat) (key : Int) (w : World) (hn : n = l.length) (hm : m = more.length) (hg : g0 = if leaf && !is then 0 else 1) (h1 : i0 + g0 ≤ n) (hb1 : n ≤ 1000) (hb2 : m ≤ 1000) (hA : Sl w A n c (ivs l)) (hB : Sl w B m d (ivs more))
    (hat : ∀ w', Ext w w' → Calls Tryz.prog 44 #[.agg #[.bool leaf, .slice A n c], .int .i64 key] w' fun e w2 => e = .returned (.tuple #[.int .i64 i0, .bool is]) ∧ Ext w' w2) :
    Calls Tryz.prog 47 #[.agg #[.bool leaf, .slice A n c], .int .i64 key, .slice B m d] w fun e w' => ∃ R q, e = .returned (.slice R (i0 + m + (n - (i0 + g0))) q) ∧ Sl w' R (i0 + m + (n - (i0 + g0))) q (ivs (withS l i0 g0 more)) ∧ Ext w w' := by
  obtain ⟨W, hW⟩ : ∃ W, w.alloc (.cells #[.bool leaf, .slice A n c] 48) = W := ⟨_, rfl⟩
  obtain ⟨hx, hb0⟩ := allocs1 hW
  have HX := Lib.hid hx
  have HB0 := Lib.hid hb0
  have HAT := Lib.hid hat
  have HWI := Lib.hid (fun w' (hx : Ext w w') => nodeWith_any A B l more n m c d i0 g0 w' hn hm (by omega) h1 hb1 hb2 (hA.ext hx) (hB.ext hx))
  obtain ⟨b0, b1, b2⟩ := hb0.read2
  clear hx hb0 hn hm hb1 hb2 hA hB hat
  cases leaf <;> cases is <;> simp at hg <;> subst hg
  all_goals
    go_enter Tryz.func47, Tryz.ntmps47
    go_wp2_with (go_at_call 44; refine stop_here ?_)
    refine stop_on ?_
    refine (HAT.out _ HX.out).mono ?_
    rintro e w1 ⟨rfl, hx1⟩
    have HX1 := Lib.hid (HX.out.trans hx1)
    obtain ⟨b0, b1, b2⟩ := (HB0.out.ext hx1).read2
    clear hx1
    go_wp2_with (go_at_call 73; refine stop_here ?_)
    refine stop_on ?_
    refine (HWI.out _ HX1.out).mono ?_
    rintro e w2 ⟨R, q, rfl, hs, hx2⟩
    have HS := Lib.hid hs
    have HX2 := Lib.hid (HX1.out.trans hx2)
    clear hs hx2
    go_wp2_with fail
    go_ret
    exact ⟨R, q, rfl, HS.out, HX2.out⟩
set_option maxRecDepth 100000 in
set_option maxHeartbeats 1600000 in
theorem growLaid_any (b n : Nat) (keep : Int) (c : List HC) (leaf : Bool) (A : Option Addr) (it : List It) (m cc : Nat) (H : Option Addr) (held : List Int) (t d : Nat) (w : World) (hr : rightH ⟨c, keep⟩ = true) (hok : allocE c leaf it = 0) (hm10 : m ≤ 10) (ht20 : t ≤ 20) (hB : HBd w b keep n c) (hm : m = it.length) (hI : Sl w A m cc (ivs it)) (ht : t = held.length) (hH : Sl w H t d (held.map iv)) :
    Calls Tryz.prog 59 #[.pointer (some ⟨b, 0, none⟩), .agg #[.bool leaf, .slice A m cc], .slice H t d] w fun e w' => e = .returned (.int .i64 (allocP c leaf it : Nat)) ∧ HBd w' b keep n (allocL c leaf it held) ∧ Gx b keep w w' := by
  obtain ⟨S, q, hb, hs⟩ := hB
  have HGR := Lib.hid (fun w' (hx : Ext w w') => Gx.of_ext hb hx)
  have HAL := Lib.hid (fun w' (hx : Ext w w') => heapAlloc_right S c n q keep w' leaf A it m cc H held t d hr hm10 ht20 (hs.ext hx) hm (hI.ext hx) ht (hH.ext hx))
  rw [hok] at HAL
  have HBB := Lib.hid hb
  obtain ⟨W, hW⟩ : ∃ W, w.alloc (.cells #[.bool leaf, .slice A m cc] 48) = W := ⟨_, rfl⟩
  obtain ⟨hx, hb0⟩ := allocs1 hW
  have HX := Lib.hid hx
  have HB0 := Lib.hid hb0
  obtain ⟨b0, b1, b2⟩ := hb0.read2
  obtain ⟨k0, k1, k2, k3⟩ := (hb.ext hx).read3
  clear hx hb0 hr hok hm10 ht20 hm hI ht hH hs hb
  go_enter Tryz.func59, Tryz.ntmps59
  go_wp2_with fail
  go_region_law
    (first
      | ((go_simp
          go_at_call 76
          refine (HAL.out _ ?_).mono ?_
          (first | exact HX.out | exact HX.out.drew)
          rintro e w4 ⟨S4, d4, rfl, hs4, hx4⟩
          have E4 := Lib.hid (show Ext w w4 from by first | exact HX.out.trans hx4 | exact HX.out.drew.trans hx4)
          have HS4 := Lib.hid hs4
          have HB4 := Lib.hid (HBB.out.ext E4.out)
          obtain ⟨k0, k1, k2, k3⟩ := HB4.out.read3
          obtain ⟨f0, f1, f2⟩ := HB4.out.free3
          clear hs4 hx4)))
  all_goals
    go_wp2_with fail
    go_ret
    have hst := gx_store HB4.out S4 n d4
    exact ⟨rfl, ⟨S4, d4, hst.1, hst.2.hc HS4.out⟩, (HGR.out _ E4.out).trans hst.2⟩
set_option maxRecDepth 100000 in
set_option maxHeartbeats 1600000 in
theorem growOver_any (b n : Nat) (keep : Int) (c : List HC) (A : Option Addr) (it : List It) (m cc : Nat) (w : World) (hr : rightH ⟨c, keep⟩ = true) (hok : allocE c false it = 0) (hm10 : m ≤ 10) (hB : HBd w b keep n c) (hm : m = it.length) (hI : Sl w A m cc (ivs it)) :
    Calls Tryz.prog 32 #[.pointer (some ⟨b, 0, none⟩), .slice A m cc] w fun e w' => e = .returned (.int .i64 (allocP c false it : Nat)) ∧ HBd w' b keep n (allocL c false it (it.map (·.2))) ∧ Gx b keep w w' := by
  have HPL := Lib.hid (fun w' (hx : Ext w w') => growPlaces_any A it m cc w' hm (by omega) (hI.ext hx))
  have HLA := Lib.hid (fun w' H d (hx : Ext w w') (hH : Sl w' H m d ((it.map (·.2)).map iv)) => growLaid_any b n keep c false A it m cc H (it.map (·.2)) m d w' hr hok hm10 (by omega) (hB.ext hx) hm (hI.ext hx) (by rw [List.length_map]; exact hm) hH)
  have HG := Lib.hid (fun w' (hx : Ext w w') => hB.gx hx)
  clear hr hok hm10 hm hI hB
  go_enter Tryz.func32, Tryz.ntmps32
  go_wp2_with (go_at_call 46; refine stop_here ?_)
  refine stop_on ?_
  refine (HPL.out _ (by first | exact Ext.refl _ | exact (Ext.refl _).drew)).mono ?_
  rintro e w1 ⟨H, d, rfl, hs, hx⟩
  have HH := Lib.hid hs
  have HX := Lib.hid (show Ext w w1 from by first | exact hx | exact (Ext.refl _).drew.trans hx)
  clear hs hx
  go_wp2_with (go_at_call 59; refine stop_here ?_)
  refine stop_on ?_
  refine (HLA.out _ _ _ HX.out HH.out).mono ?_
  rintro e w2 ⟨rfl, hb, hg⟩
  have HB2 := Lib.hid hb
  have HG2 := Lib.hid ((HG.out _ HX.out).trans hg)
  clear hb hg
  go_wp2_with fail
  go_ret
  exact ⟨rfl, HB2.out, HG2.out⟩
end Go.Proofs.YtkoomcbiddanfaaGreat
