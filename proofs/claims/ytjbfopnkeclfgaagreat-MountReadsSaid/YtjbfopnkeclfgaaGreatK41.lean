/- The state that a disk holds, in plain words, and facts of it. What package mount's calls are to answer, and the example of layer 16 over it: the disk that is formatted. The example of layer 16 over what package mount's calls answer; so package mount is as the law asks it. What is read of an area, and of the cells, bit by bit; what the calls that tell whether a state is right answer, of a state that a disk tells. -/
import Derived.Test.YtjbfopnkeclfgaaGreatK19
import Derived.Test.YtjbfopnkeclfgaaGreatK31
import Derived.Test.YtjbfopnkeclfgaaGreatK33
import Derived.Test.YtjbfopnkeclfgaaGreatK15
import Derived.Test.YtjbfopnkeclfgaaGreatK35
import Derived.Test.YtjbfopnkeclfgaaGreatK10
import Derived.Test.YtjbfopnkeclfgaaGreatK36
import Derived.Test.YtjbfopnkeclfgaaGreatK14
import Derived.Test.YtjbfopnkeclfgaaGreatK39
import Derived.Test.YtjbfopnkeclfgaaGreatK22
import Derived.Test.YtjbfopnkeclfgaaGreatK40
import Derived.Test.YtjbfopnkeclfgaaGreatK26
namespace Go.Proofs.YtjbfopnkeclfgaaGreat
set_option maxRecDepth 20000
open Go.RowKit

/-- A block of a disk. -/
def blk (B : List ByteArray) (i : Nat) : ByteArray := B.getD i (ByteArray.mk #[])
/-- P16.1: what the slots tell. -/
def supM (B : List ByteArray) : Sup := if 2 ≤ B.length then pickX (blk B 0) (blk B 1) else sup0
def supME (B : List ByteArray) : Int := if 2 ≤ B.length then pickE (blk B 0) (blk B 1) else 4
/-- The first bytes of the blocks from one on. -/
def textM (B : List ByteArray) (at_ size : Nat) : List UInt8 := (((B.drop at_).map (fun b => b.data.toList)).flatten).take size
/-- A cell of that Ref, whose block that is. -/
def nodeM (b : ByteArray) (r : Int) : Option HC := if 0 < r then (match ndP b with | some p => some ⟨r, false, p.1, p.2⟩ | none => none) else some (hcOf r)
def nodesM : List ByteArray → List Int → Option (List HC)
  | _, [] => some []
  | [], _ :: _ => none
  | b :: bs, r :: rs => match nodeM b r with
    | none => none
    | some c => match nodesM bs rs with
      | none => none
      | some l => some (c :: l)
/-- May a task be? -/
def taskM (c : List HC) (keep : Int) (ts : List (Nat × Nat)) (t : Nat × Nat) : Bool :=
  if t.2 = 0 then rightR ⟨c, keep⟩ (t.1 : Nat) else !(c.getD t.1 HC.none).leaf && ((c.getD t.1 HC.none).ref == 1) && ((c.getD t.1 HC.none).it.drop (min (givenP (ts.map tkB2) (t.1 : Nat)).toNat (c.getD t.1 HC.none).it.length)).all (fun y => rightR ⟨c, keep⟩ y.2)
/-- P16.1: is a state right? -/
def wholeM (c : List HC) (keep : Int) (vs : List It) (ts : List (Nat × Nat)) (next gen : Int) : Bool :=
  (decide (1 ≤ next ∧ next ≤ 2147483647) && decide (0 ≤ gen ∧ gen ≤ 2147483647) && decide (vs.length ≤ 20) && idsP vs next) && rightH ⟨c, keep⟩ && rightP ts c.length && vs.all (fun v => rightR ⟨c, keep⟩ v.2) && ts.all (taskM c keep ts) && auditF c (vs.map (·.2)) (ts.map tkB2)
/-- P16.2: what the book and the cells tell. -/
def mountM (B : List ByteArray) : Option MSt :=
  if cellsP B.length = 0 ∨ 1631 + 2 * (cellsP B.length : Int) < (supM B).z then none else
  match bookT (textM B (2 + (supM B).g.toNat % 2 * areaP (cellsP B.length)) (supM B).z.toNat) (supM B).g with
  | none => none
  | some (rs, keep, vs, ts, next) =>
    if ((crc (textM B (2 + (supM B).g.toNat % 2 * areaP (cellsP B.length)) (supM B).z.toNat) : Nat) : Int) ≠ (supM B).s ∨ rs.length ≠ cellsP B.length then none else
    match nodesM (B.drop (baseP (cellsP B.length))) rs with
    | none => none
    | some c => if wholeM c keep vs ts next (supM B).g then some ⟨c, keep, vs, ts.map tkB2, next, (supM B).g⟩ else none
def st0 : MSt := ⟨[], 0, [], [], 0, 0⟩
/-- P16.2. -/
def stM (B : List ByteArray) : MSt := if supME B = 0 then (mountM B).getD st0 else st0
def erM (B : List ByteArray) : Int := if supME B = 0 then (if (mountM B).isSome then 0 else 2) else 4

theorem feq_self {n : Nat} (h : n < 65536) : feq (fN n) (fN n) = true := by
  unfold feq
  rw [fN_order (by omega) (by omega), Int.compare_eq_eq.2 rfl]
  rfl
theorem sameT_small : ∀ (l : List (Nat × Nat)), (∀ x ∈ l, x.1 < 65536 ∧ x.2 < 65536) → sameT (l.map tkB2) (l.map tkB2) = true
  | [], _ => rfl
  | x :: l, h => by
    show (sameK (tkB2 x) (tkB2 x) && sameT (l.map tkB2) (l.map tkB2)) = true
    rw [sameT_small l (fun y hy => h y (List.mem_cons_of_mem _ hy))]
    unfold sameK tkB2
    rw [feq_self (h x List.mem_cons_self).1, feq_self (h x List.mem_cons_self).2]
    rfl
/-- What is known of what a book tells. -/
theorem bookT_ok {l : List UInt8} {gen : Int} {rs : List Int} {keep : Int} {vs : List It} {ts : List (Nat × Nat)} {next : Int} (h : bookT l gen = some (rs, keep, vs, ts, next)) : (∀ x ∈ ts, x.1 < 65536 ∧ x.2 < 65536) ∧ toldP (rs.map hcOf) keep vs ts next gen = true := by
  unfold bookT at h
  split at h
  · cases h
  · split at h
    · cases h
    · split at h
      · cases h
      · next ht =>
        split at h
        · cases h
        · split at h
          · cases h
          · split at h
            · next hc =>
              cases h
              simp only [Bool.and_eq_true] at hc
              exact ⟨(tasksP_ok ht).2.2, hc.2⟩
            · cases h
theorem bookT_small {l : List UInt8} {gen : Int} {rs : List Int} {keep : Int} {vs : List It} {ts : List (Nat × Nat)} {next : Int} (h : bookT l gen = some (rs, keep, vs, ts, next)) : ∀ x ∈ ts, x.1 < 65536 ∧ x.2 < 65536 := (bookT_ok h).1
/-- What is known of the cells. -/
theorem nodesM_ok : ∀ {bs : List ByteArray} {rs : List Int} {c : List HC}, nodesM bs rs = some c → (∀ r ∈ rs, 0 ≤ r ∧ r < 65536) → c.length = rs.length ∧ ∀ y ∈ c, y.it.length ≤ 4 ∧ 0 ≤ y.ref ∧ y.ref < 65536
  | _, [], c, h, _ => by
    have h : some [] = some c := by unfold nodesM at h; exact h
    cases h
    exact ⟨rfl, fun y hy => by cases hy⟩
  | [], r :: rs, c, h, _ => by
    have h : (none : Option (List HC)) = some c := by unfold nodesM at h; exact h
    cases h
  | b :: bs, r :: rs, c, h, hr => by
    unfold nodesM at h
    split at h
    · cases h
    · next x hx =>
      split at h
      · cases h
      · next l hl =>
        cases h
        obtain ⟨h1, h2⟩ := nodesM_ok hl (fun y hy => hr y (List.mem_cons_of_mem _ hy))
        have hr0 := hr r List.mem_cons_self
        refine ⟨by simp [h1], fun y hy => ?_⟩
        rcases List.mem_cons.1 hy with rfl | hy
        · unfold nodeM at hx
          split at hx
          · split at hx
            · next p hp =>
              cases hx
              refine ⟨?_, hr0⟩
              unfold ndP at hp
              split at hp
              · next hh =>
                cases hp
                show (rawIt _ _).length ≤ 4
                rw [rawIt_length]
                exact hh.2.1
              · cases hp
            · cases hx
          · cases hx
            exact ⟨Nat.zero_le _, hr0⟩
        · exact h2 y hy
theorem nodesM_none : ∀ {bs : List ByteArray} {n : Nat}, n ≤ bs.length → nodesM bs (List.replicate n 0) = some (List.replicate n HC.none)
  | bs, 0, _ => by unfold nodesM; rfl
  | [], n + 1, h => by simp at h
  | b :: bs, n + 1, h => by
    show nodesM (b :: bs) (0 :: List.replicate n 0) = _
    unfold nodesM
    rw [show nodeM b 0 = some HC.none from rfl, nodesM_none (bs := bs) (n := n) (by simp at h; omega)]
    rfl
end Go.Proofs.YtjbfopnkeclfgaaGreat
namespace Go.Proofs.YtjbfopnkeclfgaaGreat
set_option maxRecDepth 20000
open Go.RowKit

/-- How many cells are used. -/
def usedM (s : MSt) : Nat := (s.c.filter (fun c => decide (0 < c.ref))).length
/-- What package mount's calls answer. -/
structure MtC : Prop where
  mount : ∀ (A A' : Option Addr) (b : List ByteArray) (l : List Wr) (c c' : Nat) (w : World), rightS b l = true → b.length ≤ 135 → l.length ≤ 200 → Sl w A b.length c (b.map sv) → Sl w A' l.length c' (wvs l) →
    Calls Tryz.prog 6 #[.agg #[.slice A b.length c, .slice A' l.length c']] w fun e w' => ∃ R V L q cv cl, e = .returned (.tuple #[(stM (writeL b l)).val R V L q cv cl, .int .i64 (erM (writeL b l))]) ∧ (stM (writeL b l)).at w' R V L q cv cl ∧ Ext w w'
  super : ∀ (A A' : Option Addr) (b : List ByteArray) (l : List Wr) (c c' : Nat) (w : World), rightS b l = true → b.length ≤ 135 → l.length ≤ 200 → Sl w A b.length c (b.map sv) → Sl w A' l.length c' (wvs l) →
    Calls Tryz.prog 8 #[.agg #[.slice A b.length c, .slice A' l.length c']] w fun e w' => e = .returned (.tuple #[.agg #[.int .i64 (supM (writeL b l)).g, .int .i64 (supM (writeL b l)).z, .int .i64 (supM (writeL b l)).s], .int .i64 (supME (writeL b l))]) ∧ Ext w w'
  check : ∀ (A A' : Option Addr) (b : List ByteArray) (l : List Wr) (c c' : Nat) (w : World), rightS b l = true → b.length ≤ 135 → l.length ≤ 200 → Sl w A b.length c (b.map sv) → Sl w A' l.length c' (wvs l) →
    Calls Tryz.prog 10 #[.agg #[.slice A b.length c, .slice A' l.length c']] w fun e w' => e = .returned (.tuple #[.int .i64 (usedM (stM (writeL b l))), .int .i64 (erM (writeL b l))]) ∧ Ext w w'
  right : ∀ (B : List ByteArray) (R V L : Option Addr) (q cv cl : Nat) (w : World), okD B → erM B = 0 → (stM B).at w R V L q cv cl →
    Calls Tryz.prog 12 #[(stM B).val R V L q cv cl] w fun e w' => e = .returned (.bool true) ∧ Ext w w'
  right0 : ∀ (w : World), Calls Tryz.prog 12 #[.agg #[.slice none 0 0, .int .i64 0, .slice none 0 0, .slice none 0 0, .int .i64 0, .int .i64 0]] w fun e w' => e = .returned (.bool false) ∧ Ext w w'

theorem pick_zero : pickE zb zb = 4 := by decide +kernel
theorem blk_rep {m i : Nat} (h : i < m) : blk (List.replicate m zb) i = zb := by
  unfold blk
  rw [List.getD_eq_getElem?_getD, List.getElem?_replicate, if_pos h]
  rfl
/-- A disk of noughts holds nothing. -/
theorem erM_zero (m : Nat) : erM (List.replicate m zb) = 4 := by
  unfold erM supME
  rw [List.length_replicate]
  by_cases h : 2 ≤ m
  · rw [if_pos h, blk_rep (by omega), blk_rep (by omega), pick_zero, if_neg (by decide)]
  · rw [if_neg h]
    rfl
theorem erM_one {B : List ByteArray} (h : B.length < 2) : erM B = 4 := by
  unfold erM supME
  rw [if_neg (by omega)]
theorem mountM_gen {B : List ByteArray} {s : MSt} (h : mountM B = some s) : s.gen = (supM B).g := by
  unfold mountM at h
  split at h
  · cases h
  · split at h
    · cases h
    · split at h
      · cases h
      · split at h
        · cases h
        · split at h
          · cases h; rfl
          · cases h
theorem erM_some {B : List ByteArray} (h : erM B = 0) : supME B = 0 ∧ ∃ s, mountM B = some s ∧ stM B = s := by
  unfold erM at h
  split at h
  · next h1 =>
    refine ⟨h1, ?_⟩
    split at h
    · next h2 =>
      obtain ⟨s, hs⟩ := Option.isSome_iff_exists.1 h2
      exact ⟨s, hs, by unfold stM; rw [if_pos h1, hs]; rfl⟩
    · cases h
  · cases h
theorem stM_gen {B : List ByteArray} (h : erM B = 0) : (stM B).gen = (supM B).g := by
  obtain ⟨_, s, h1, h2⟩ := erM_some h
  rw [h2]
  exact mountM_gen h1
theorem mountM_same {B : List ByteArray} {s : MSt} (h : mountM B = some s) : sameT s.l s.l = true := by
  unfold mountM at h
  split at h
  · cases h
  · split at h
    · cases h
    · next hb =>
      split at h
      · cases h
      · split at h
        · cases h
        · split at h
          · cases h
            exact sameT_small _ (bookT_small hb)
          · cases h
theorem stM_same (B : List ByteArray) : sameT (stM B).l (stM B).l = true := by
  unfold stM
  split
  · cases h : mountM B with
    | none => rfl
    | some s => exact mountM_same h
  · rfl
/-- What a disk that is formatted holds. -/
theorem mount135 : stM (done45 2 (newB 135) 46 1) = ⟨List.replicate 45 HC.none, 2, [], [], 1, 1⟩ ∧ erM (done45 2 (newB 135) 46 1) = 0 ∧ (supM (done45 2 (newB 135) 46 1)).g = 1 ∧ supME (done45 2 (newB 135) 46 1) = 0 := by
  have hl : (done45 2 (newB 135) 46 1).length = 135 := by rw [done_len]; decide +kernel
  have hc := cells135
  have h1 : supM (done45 2 (newB 135) 46 1) = ⟨1, 101, (supM (done45 2 (newB 135) 46 1)).s⟩ := by decide +kernel
  have h2 : supME (done45 2 (newB 135) 46 1) = 0 := by decide +kernel
  have h3 : bookT (textM (done45 2 (newB 135) 46 1) (2 + 1 % 2 * areaP 45) 101) 1 = some (List.replicate 45 0, 2, [], [], 1) := by kernel_rfl
  have h4 : ((crc (textM (done45 2 (newB 135) 46 1) (2 + 1 % 2 * areaP 45) 101) : Nat) : Int) = (supM (done45 2 (newB 135) 46 1)).s := by decide +kernel
  have h5 : nodesM ((done45 2 (newB 135) 46 1).drop (baseP 45)) (List.replicate 45 0) = some (List.replicate 45 HC.none) := by
    refine nodesM_none ?_
    rw [List.length_drop, hl]
    decide +kernel
  have h6 : wholeM (List.replicate 45 HC.none) 2 [] [] 1 1 = true := by decide +kernel
  have hm : mountM (done45 2 (newB 135) 46 1) = some ⟨List.replicate 45 HC.none, 2, [], [], 1, 1⟩ := by
    unfold mountM
    rw [hl, hc, h1]
    simp only
    rw [if_neg (by decide), show (1 : Int).toNat = 1 from rfl, show (101 : Int).toNat = 101 from rfl, h3]
    simp only
    rw [if_neg (by rw [h4, List.length_replicate]; simp), h5]
    simp only
    rw [h6]
    rfl
  refine ⟨?_, ?_, ?_, h2⟩
  · unfold stM; rw [if_pos h2, hm]; rfl
  · unfold erM; rw [if_pos h2, hm]; rfl
  · rw [h1]
end Go.Proofs.YtjbfopnkeclfgaaGreat
namespace Go.Proofs.YtjbfopnkeclfgaaGreat
set_option maxRecDepth 20000
open Go.RowKit
attribute [local go_sem ↓] Go.wp_at_zero Go.wp_at_succ

set_option maxRecDepth 100000 in
set_option maxHeartbeats 6400000 in
theorem mshown_any (G : MtC) (w : World) : Calls Tryz.prog 4 #[] w fun e w' => e = .returned (.bool true) ∧ Ext w w' := by
  have RF := Lib.hid (ref15Format_any 135 2 w)
  rw [fmt135] at RF
  have hl : (done45 2 (newB 135) 46 1).length = 135 := by rw [done_len]; decide +kernel
  have hok : okD (done45 2 (newB 135) 46 1) := ⟨by rw [hl]; omega, by rw [hl]; omega, by decide +kernel⟩
  have hr := right_of hok
  obtain ⟨hst, her, hsg, hse⟩ := mount135
  have hok1 : okD ((done45 2 (newB 135) 46 1).take 1) := ⟨by rw [List.length_take, hl]; decide, by rw [List.length_take, hl]; decide, by decide +kernel⟩
  have hl1 : ((done45 2 (newB 135) 46 1).take 1).length = 1 := by rw [List.length_take, hl]; rfl
  have her1 : erM ((done45 2 (newB 135) 46 1).take 1) = 4 := erM_one (by rw [hl1]; omega)
  generalize done45 2 (newB 135) 46 1 = B at *
  have GM := Lib.hid (fun A A' c c' w' h1 h2 => G.mount A A' B [] c c' w' hr (by omega) (by simp) h1 h2)
  have GS := Lib.hid (fun A A' c c' w' h1 h2 => G.super A A' B [] c c' w' hr (by omega) (by simp) h1 h2)
  have GK := Lib.hid (fun A A' c c' w' h1 h2 => G.check A A' B [] c c' w' hr (by omega) (by simp) h1 h2)
  have GO := Lib.hid (fun A A' c c' w' h1 h2 => G.mount A A' (B.take 1) [] c c' w' (right_of hok1) (by omega) (by simp) h1 h2)
  have GR := Lib.hid (fun R V L q cv cl w' h => G.right B R V L q cv cl w' hok her h)
  have G0 := Lib.hid (fun w' => G.right0 w')
  rw [show writeL B [] = B from rfl] at GM GS GK
  rw [show writeL (B.take 1) [] = B.take 1 from rfl, her1, hl1] at GO
  rw [her, hst] at GM
  rw [hse, hsg] at GS
  rw [her, hst] at GK
  rw [hst] at GR
  rw [show usedM ⟨List.replicate 45 HC.none, 2, [], [], 1, 1⟩ = 0 from by decide +kernel, show ((0 : Nat) : Int) = 0 from rfl] at GK
  rw [hl] at GM GS GK
  have RS := Lib.hid (fun R V L R' V' L' q cv cl q' cv' cl' w' h1 h2 => ref12Same_same ⟨List.replicate 45 HC.none, 2, [], [], 1, 1⟩ rfl R V L R' V' L' q cv cl q' cv' cl' w' h1 h2)
  unfold MSt.val at GM GR RS
  simp only [List.length_replicate, List.length_nil] at GM GR RS GS GK
  have HL := Lib.hid hl
  generalize supM B = sm at *
  obtain ⟨sg, sz, ss⟩ := sm
  simp only at GS
  clear hl hok hr hst her hsg hse hok1 hl1 her1
  go_enter Tryz.func4, Tryz.ntmps4
  go_wp2_with (go_at_call 13; refine stop_here ?_)
  refine stop_on ?_
  refine RF.out.mono ?_
  unfold FmtAns
  rintro e w1 ⟨D, S, d, rfl, ⟨A, c, A', c', rfl, hA, hA'⟩, hS, hx1⟩
  simp only [List.length_nil] at hA' ⊢
  have hl := HL.out
  obtain ⟨w2, hw2⟩ : ∃ W, (w1.alloc (.cells #[.slice A B.length c, .slice A' 0 c'] 25)).alloc (.cells #[.slice S 45 d, .int .i64 2, .slice none 0 0, .slice none 0 0, .int .i64 1, .int .i64 1] 34) = W := ⟨_, rfl⟩
  rw [hl] at hw2 hA ⊢
  obtain ⟨hx2, hb0, hb1⟩ := allocs2 hw2
  have D2 := Lib.hid hb0
  have S2 := Lib.hid hb1
  have A2 := Lib.hid (hA.ext hx2)
  have A2' := Lib.hid (hA'.ext hx2)
  have H2 := Lib.hid (hS.ext hx2)
  have X2 := Lib.hid (hx1.trans hx2)
  obtain ⟨p0, p1, _⟩ := hb0.read2
  clear hA hA' hS hx1 hx2 hb0 hb1
  go_wp2_with (go_at_call 6; refine stop_here ?_)
  refine stop_on ?_
  try rw [hw2]
  clear hw2
  refine (GM.out A A' c c' w2 A2.out A2'.out).mono ?_
  rintro e w3 ⟨R, V, L, q, cv, cl, rfl, ⟨hR, hV, hL⟩, hx3⟩
  obtain ⟨w4, hw4⟩ : ∃ W, w3.alloc (.cells #[.slice R 45 q, .int .i64 2, .slice V 0 cv, .slice L 0 cl, .int .i64 1, .int .i64 1] 34) = W := ⟨_, rfl⟩
  obtain ⟨hx4, hb4⟩ := allocs1 hw4
  have T4 := Lib.hid hb4
  have X4 := Lib.hid (hx3.trans hx4)
  have M4 := Lib.hid (MSt.at.ext ⟨hR, hV, hL⟩ hx4)
  obtain ⟨z0, z1, z2, z3, z4, z5⟩ := st_at6 (Bx.new w3 #[.slice none 0 0, .int .i64 0, .slice none 0 0, .slice none 0 0, .int .i64 0, .int .i64 0] 34)
  obtain ⟨f0, f1, f2, f3, f4, f5⟩ := st_free6 (Bx.new w3 #[.slice none 0 0, .int .i64 0, .slice none 0 0, .slice none 0 0, .int .i64 0, .int .i64 0] 34)
  have zl := (Bx.new w3 #[.slice none 0 0, .int .i64 0, .slice none 0 0, .slice none 0 0, .int .i64 0, .int .i64 0] 34).lt
  have HW4 := Lib.hid hw4
  have hc135 : 135 ≤ c := A2.out.2.1
  have hc1 : (1 : Int) ≤ (c : Int) := by omega
  have hc0 : ¬ c = 0 := by omega
  clear p0 p1
  obtain ⟨p0, p1, _⟩ := (D2.out.ext X4.out).read2
  rw [← hw4] at p0 p1
  clear hR hV hL hx3 hx4 hb4 hw4
  go_wp2_with (go_at_call 6; refine stop_here ?_)
  refine stop_on ?_
  rw [HW4.out]
  have hpre : Sl w4 A 1 c ((B.take 1).map sv) := by
    have h := A2.out.ext X4.out
    exact ⟨h.1, by have := h.2.1; omega, h.2.2.1, by rw [List.map_take]; exact h.cells.take 1⟩
  clear z0 z1 z2 z3 z4 z5 f0 f1 f2 f3 f4 f5 zl p0 p1
  refine (GO.out A none c 0 w4 hpre (Sl.nil _)).mono ?_
  rintro e w5 ⟨R5, V5, L5, q5, cv5, cl5, rfl, _, hx5⟩
  unfold MSt.val
  generalize stM (B.take 1) = s1
  obtain ⟨c1, k1, v1, l1, n1, g1⟩ := s1
  simp only
  obtain ⟨m1, hm1⟩ : ∃ x, c1.length = x := ⟨_, rfl⟩
  obtain ⟨m2, hm2⟩ : ∃ x, v1.length = x := ⟨_, rfl⟩
  obtain ⟨m3, hm3⟩ : ∃ x, l1.length = x := ⟨_, rfl⟩
  rw [hm1, hm2, hm3]
  clear hm1 hm2 hm3
  obtain ⟨w6, hw6⟩ : ∃ W, w5.alloc (.cells #[.slice R5 m1 q5, .int .i64 k1, .slice V5 m2 cv5, .slice L5 m3 cl5, .int .i64 n1, .int .i64 g1] 34) = W := ⟨_, rfl⟩
  obtain ⟨hx6, _⟩ := allocs1 hw6
  have X6 := Lib.hid (hx5.trans hx6)
  obtain ⟨z0, z1, z2, z3, z4, z5⟩ := st_at6 (Bx.new w5 #[.slice none 0 0, .int .i64 0, .slice none 0 0, .slice none 0 0, .int .i64 0, .int .i64 0] 34)
  obtain ⟨f0, f1, f2, f3, f4, f5⟩ := st_free6 (Bx.new w5 #[.slice none 0 0, .int .i64 0, .slice none 0 0, .slice none 0 0, .int .i64 0, .int .i64 0] 34)
  have zl := (Bx.new w5 #[.slice none 0 0, .int .i64 0, .slice none 0 0, .slice none 0 0, .int .i64 0, .int .i64 0] 34).lt
  have HW6 := Lib.hid hw6
  obtain ⟨p0, p1, _⟩ := (D2.out.ext (X4.out.trans X6.out)).read2
  rw [← hw6] at p0 p1
  clear hpre hx5 hx6 hw6
  go_wp2_with (go_at_call 8; refine stop_here ?_)
  refine stop_on ?_
  rw [HW6.out]
  clear z0 z1 z2 z3 z4 z5 f0 f1 f2 f3 f4 f5 zl p0 p1
  refine (GS.out A A' c c' w6 (A2.out.ext (X4.out.trans X6.out)) (A2'.out.ext (X4.out.trans X6.out))).mono ?_
  rintro e w7 ⟨rfl, hx7⟩
  obtain ⟨w8, hw8⟩ : ∃ W, w7.alloc (.cells #[.int .i64 1, .int .i64 sz, .int .i64 ss] 40) = W := ⟨_, rfl⟩
  obtain ⟨hx8, hb8⟩ := allocs1 hw8
  have P8 := Lib.hid hb8
  have X8 := Lib.hid (X6.out.trans (hx7.trans hx8))
  have y0 := (Bx.new w7 #[.int .i64 0, .int .i64 0, .int .i64 0] 40).at 0 _ rfl
  have y1 := (Bx.new w7 #[.int .i64 0, .int .i64 0, .int .i64 0] 40).at 1 _ rfl
  have y2 := (Bx.new w7 #[.int .i64 0, .int .i64 0, .int .i64 0] 40).at 2 _ rfl
  have g0 := (Bx.new w7 #[.int .i64 0, .int .i64 0, .int .i64 0] 40).free 0
  have g1 := (Bx.new w7 #[.int .i64 0, .int .i64 0, .int .i64 0] 40).free 1
  have g2 := (Bx.new w7 #[.int .i64 0, .int .i64 0, .int .i64 0] 40).free 2
  have zl := (Bx.new w7 #[.int .i64 0, .int .i64 0, .int .i64 0] 40).lt
  have HW8 := Lib.hid hw8
  obtain ⟨p0, p1, _⟩ := (D2.out.ext (X4.out.trans X8.out)).read2
  rw [← hw8] at p0 p1
  clear hx7 hx8 hb8 hw8
  go_wp2_with (go_at_call 10; refine stop_here ?_)
  refine stop_on ?_
  rw [HW8.out]
  clear y0 y1 y2 g0 g1 g2 zl p0 p1
  refine (GK.out A A' c c' w8 (A2.out.ext (X4.out.trans X8.out)) (A2'.out.ext (X4.out.trans X8.out))).mono ?_
  rintro e w9 ⟨rfl, hx9⟩
  have X9 := Lib.hid (X8.out.trans hx9)
  obtain ⟨s0, s1, s2, s3, s4, s5⟩ := st_at6 (S2.out.ext (X4.out.trans X9.out))
  obtain ⟨t0, t1, t2, t3, t4, t5⟩ := st_at6 (T4.out.ext X9.out)
  have r0 := (P8.out.ext hx9).at 0 _ rfl
  have P9 := Lib.hid (P8.out.ext hx9)
  clear hx9
  go_wp2_with (first
    | (go_at_call 11
       with_reducible refine (RS.out S none none R V L d 0 0 q cv cl w9 ?_ ?_).mono ?_
       exact ⟨H2.out.ext (X4.out.trans X9.out), Sl.nil _, Sl.nil _⟩
       exact M4.out.ext X9.out
       rintro e w10 ⟨rfl, hx10⟩
       have X10 := Lib.hid (X9.out.trans hx10)
       have P10 := Lib.hid (P9.out.ext hx10)
       clear hx10 s0 s1 s2 s3 s4 s5 t0 t1 t2 t3 t4 t5 r0
       obtain ⟨t0, t1, t2, t3, t4, t5⟩ := st_at6 (T4.out.ext X10.out)
       have r0 := P10.out.at 0 _ rfl)
    | (go_at_call 12
       with_reducible refine (GR.out R V L q cv cl w10 ?_).mono ?_
       exact M4.out.ext X10.out
       rintro e w11 ⟨rfl, hx11⟩
       have X11 := Lib.hid (X10.out.trans hx11)
       clear hx11)
    | (go_at_call 12
       with_reducible refine (G0.out w11).mono ?_
       rintro e w12 ⟨rfl, hx12⟩
       have X12 := Lib.hid (X11.out.trans hx12)
       clear hx12))
  go_ret
  exact ⟨rfl, X2.out.trans (X4.out.trans X12.out)⟩
/-- So package mount is as the law asks it. -/
noncomputable def mtOk_of (G : MtC) : MtOk where
  st := stM
  er := erM
  sup := fun B => ((supM B).g, (supM B).z, (supM B).s)
  ser := supME
  shown := mshown_any G
  mount := G.mount
  super := G.super
  check := fun A A' b l c c' w h1 h2 h3 h4 h5 => (G.check A A' b l c c' w h1 h2 h3 h4 h5).mono (fun _ _ h => ⟨_, h.1, h.2⟩)
  right := G.right
  same := fun B _ => stM_same B
  zero := fun m _ _ => erM_zero m
  gen := fun _ _ h => stM_gen h
end Go.Proofs.YtjbfopnkeclfgaaGreat
namespace Go.Proofs.YtjbfopnkeclfgaaGreat
set_option maxRecDepth 20000
open Go.RowKit

/-- So many blocks from one on, as bytes. -/
def areaL (B : List ByteArray) (a j : Nat) : List UInt8 := (((B.drop a).take j).map (fun b => b.data.toList)).flatten
theorem areaL_zero (B : List ByteArray) (a : Nat) : areaL B a 0 = [] := by unfold areaL; rw [List.take_zero]; rfl
theorem areaL_succ {B : List ByteArray} {a j : Nat} (h : a + j < B.length) : areaL B a (j + 1) = areaL B a j ++ (blk B (a + j)).data.toList := by
  have hj : j < (B.drop a).length := by rw [List.length_drop]; omega
  unfold areaL blk
  rw [List.take_succ_eq_append_getElem hj, List.map_append, List.flatten_append, List.getElem_drop, List.getD_eq_getElem?_getD, List.getElem?_eq_getElem h]
  simp
theorem toList_size (b : ByteArray) : b.data.toList.length = b.size := rfl
theorem blk_size' {B : List ByteArray} (h : B.all okB = true) {i : Nat} (hi : i < B.length) : (blk B i).size = 40 := by
  unfold blk
  rw [List.getD_eq_getElem?_getD, List.getElem?_eq_getElem hi, Option.getD_some]
  have := List.all_eq_true.1 h _ (List.getElem_mem hi)
  unfold okB at this
  have h2 : ((B[i].size : Int) == 40) = true := this
  simp only [beq_iff_eq] at h2
  omega
theorem areaL_length {B : List ByteArray} (hB : B.all okB = true) {a : Nat} : ∀ {j : Nat}, a + j ≤ B.length → (areaL B a j).length = 40 * j
  | 0, _ => by rw [areaL_zero]; rfl
  | j + 1, h => by
    rw [areaL_succ (by omega), List.length_append, areaL_length hB (j := j) (by omega), toList_size, blk_size' hB (by omega)]
    omega
theorem flat_take {L : List (List UInt8)} {n j size : Nat} (hL : ∀ x ∈ L, x.length = n) (hj : size ≤ n * j) : (L.flatten).take size = ((L.take j).flatten).take size := by
  induction L generalizing j size with
  | nil => simp
  | cons x L ih =>
    cases j with
    | zero =>
      have h0 : size = 0 := by omega
      subst h0
      simp
    | succ j =>
      have hx := hL x List.mem_cons_self
      rw [List.take_succ_cons, List.flatten_cons, List.flatten_cons, List.take_append, List.take_append, hx]
      congr 1
      exact ih (fun y hy => hL y (List.mem_cons_of_mem _ hy)) (by rw [Nat.mul_succ] at hj; omega)
/-- As many blocks as are needed tell the text. -/
theorem textM_area {B : List ByteArray} (hB : B.all okB = true) {a j size : Nat} (hs : size ≤ 40 * j) : textM B a size = (areaL B a j).take size := by
  have h40 : ∀ x ∈ (B.drop a).map (fun b => b.data.toList), x.length = 40 := fun x hx => by
    obtain ⟨b, hb, rfl⟩ := List.mem_map.1 hx
    have h := List.all_eq_true.1 hB b (List.mem_of_mem_drop hb)
    unfold okB at h
    have h2 : ((b.size : Int) == 40) = true := h
    simp only [beq_iff_eq] at h2
    rw [toList_size]
    omega
  unfold textM areaL
  rw [flat_take h40 hs, List.map_take]
theorem textM_length {B : List ByteArray} (hB : B.all okB = true) {a j size : Nat} (hs : size ≤ 40 * j) (ha : a + j ≤ B.length) : (textM B a size).length = size := by
  rw [textM_area hB hs, List.length_take, areaL_length hB ha]
  omega
theorem drop_cons {B : List ByteArray} {a : Nat} (h : a < B.length) : B.drop a = blk B a :: B.drop (a + 1) := by
  unfold blk
  rw [List.drop_eq_getElem_cons h, List.getD_eq_getElem?_getD, List.getElem?_eq_getElem h]
  rfl
/-- Where each cell's block is its node, those are the cells. -/
theorem nodesM_some {B : List ByteArray} (f : Nat → HC) : ∀ (rs : List Int) (a : Nat), a + rs.length ≤ B.length → (∀ k, k < rs.length → nodeM (blk B (a + k)) (rs.getD k 0) = some (f k)) → nodesM (B.drop a) rs = some ((List.range rs.length).map f)
  | [], a, _, _ => by
    cases B.drop a <;> (unfold nodesM; rfl)
  | r :: rs, a, h, hf => by
    simp only [List.length_cons] at h
    rw [drop_cons (by omega)]
    unfold nodesM
    have h0 := hf 0 (by simp)
    simp only [Nat.add_zero, List.getD_cons_zero] at h0
    rw [h0]
    simp only
    rw [nodesM_some (fun k => f (k + 1)) rs (a + 1) (by omega) (fun k hk => by
      have := hf (k + 1) (by simp; exact hk)
      rw [List.getD_cons_succ] at this
      rw [← this]
      congr 2
      omega)]
    simp only [List.length_cons]
    rw [List.range_succ_eq_map, List.map_cons, List.map_map]
    rfl
/-- Where one is none, there are none. -/
theorem nodesM_no {B : List ByteArray} : ∀ (rs : List Int) (a k : Nat), a + rs.length ≤ B.length → k < rs.length → nodeM (blk B (a + k)) (rs.getD k 0) = none → nodesM (B.drop a) rs = none
  | [], _, k, _, hk, _ => by simp at hk
  | r :: rs, a, k, h, hk, hn => by
    simp only [List.length_cons] at h hk
    rw [drop_cons (by omega)]
    unfold nodesM
    cases k with
    | zero =>
      simp only [Nat.add_zero, List.getD_cons_zero] at hn
      rw [hn]
    | succ k =>
      rw [List.getD_cons_succ] at hn
      have := nodesM_no (B := B) rs (a + 1) k (by omega) (by omega) (by rw [← hn]; congr 2; omega)
      rw [this]
      cases nodeM (blk B a) r <;> rfl

/-- A state whose sizes are those of one that a disk tells. -/
structure MsOk (c : List HC) (vs : List It) (ts : List (Nat × Nat)) : Prop where
  n60 : c.length ≤ 60
  it4 : ∀ y ∈ c, y.it.length ≤ 4
  ref : ∀ y ∈ c, y.ref < 65536
  vs : vs.length ≤ 1000
  tn : ts.length ≤ 1000
  ts : ∀ x ∈ ts, x.1 < 65536 ∧ x.2 < 65536
section
variable {c : List HC} {keep : Int} {vs : List It} {ts : List (Nat × Nat)} (H : MsOk c vs ts)
include H
theorem MsOk.small : smallH ⟨c, keep⟩ 60 = true := by
  unfold smallH
  rw [Bool.and_eq_true, decide_eq_true_eq, List.all_eq_true]
  refine ⟨by have := H.n60; simp only; omega, fun y hy => ?_⟩
  have h1 := H.it4 y hy
  have h2 := H.ref y hy
  rw [Bool.and_eq_true, decide_eq_true_eq, decide_eq_true_eq]
  omega
theorem MsOk.heap (R : Option Addr) (n q : Nat) (w : World) (hA : HcSl w R n q c) :
    Calls Tryz.prog 25 #[.agg #[.slice R n q, .int .i64 keep]] w fun e w' => e = .returned (.bool (rightH ⟨c, keep⟩)) ∧ Ext w w' := heapRight_any R c n q keep w H.small hA
theorem MsOk.tree (hr : rightH ⟨c, keep⟩ = true) (R : Option Addr) (n q : Nat) (p : Int) (w : World) (hA : HcSl w R n q c) :
    Calls Tryz.prog 56 #[.agg #[.slice R n q, .int .i64 keep], .int .i64 p] w fun e w' => e = .returned (.bool (rightR ⟨c, keep⟩ p)) ∧ Ext w w' := treeRight_any R c n q keep p w (fun k hk => by unfold rightH at hr; rw [Bool.and_eq_true] at hr; exact List.all_eq_true.1 hr.2 _ (List.getElem_mem hk)) (by have := H.n60; omega) hA
theorem MsOk.todo (S : Option Addr) (t d : Nat) (n : Int) (w : World) (ht : t = ts.length) (hS : Sl w S t d ((ts.map tkB2).map cxv)) :
    Calls Tryz.prog 26 #[.slice S t d, .int .i64 n] w fun e w' => e = .returned (.bool (rightP ts n)) ∧ Ext w w' := tdRight_any S ts t d n w ht H.ts hS
theorem MsOk.whole (hp : rightP ts c.length = true) : ∀ x ∈ ts, x.1 < 2600 ∧ x.2 < 2600 := fun x hx => by
  unfold rightP at hp
  simp only [Bool.and_eq_true] at hp
  have h := List.all_eq_true.1 hp.2 x hx
  unfold okP at h
  rw [Bool.and_eq_true, decide_eq_true_eq, decide_eq_true_eq] at h
  have := H.n60
  omega
theorem MsOk.wh (hp : rightP ts c.length = true) : WhT (ts.map tkB2) := fun t ht => by
  obtain ⟨x, hx, rfl⟩ := List.mem_map.1 ht
  have h := H.whole hp x hx
  exact ⟨x.1, x.2, h.1, h.2, isWh_fN _, isWh_fN _⟩
theorem MsOk.wt : wtS c (fun _ => false) c.length ≤ 80000 := by
  have h : ∀ n, wtS c (fun _ => false) n ≤ 4 * n := fun n => by
    induction n with
    | zero => exact Nat.le_refl _
    | succ n ih =>
      unfold wtS
      have h4 : (c.getD n HC.none).it.length ≤ 4 := by
        rw [List.getD_eq_getElem?_getD]
        by_cases hn : n < c.length
        · rw [List.getElem?_eq_getElem hn]; exact H.it4 _ (List.getElem_mem hn)
        · rw [List.getElem?_eq_none (by omega)]; exact Nat.zero_le _
      simp only [Bool.false_eq_true, if_false]
      omega
  have := h c.length
  have := H.n60
  omega
theorem MsOk.audit (hp : rightP ts c.length = true) (R A B : Option Addr) (q d e : Nat) (w : World) (hR : HcSl w R c.length q c) (hA : Sl w A vs.length d ((vs.map (·.2)).map iv)) (hB : Sl w B ts.length e ((ts.map tkB2).map cxv)) :
    Calls Tryz.prog 30 #[.agg #[.slice R c.length q, .int .i64 keep], .slice A vs.length d, .slice B ts.length e] w fun e w' => e = .returned (.bool (auditF c (vs.map (·.2)) (ts.map tkB2))) ∧ Ext w w' :=
  auSound_any R A B c (vs.map (·.2)) (ts.map tkB2) c.length q vs.length d ts.length e keep w (by have := H.n60; omega) (fun y hy => by have := H.it4 y hy; omega) (by simp) H.vs (by simp) H.tn (H.wh hp) H.wt hR hA hB
end
/-- What a book and the cells tell has these sizes. -/
theorem msOk_of {b : List UInt8} {gen : Int} {rs : List Int} {keep : Int} {vs : List It} {ts : List (Nat × Nat)} {next : Int} {bs : List ByteArray} {c : List HC} (h : bookT b gen = some (rs, keep, vs, ts, next)) (hc : nodesM bs rs = some c) (hn : rs.length ≤ 60) : MsOk c vs ts := by
  obtain ⟨h1, h2⟩ := bookT_ok h
  unfold toldP at h2
  simp only [Bool.and_eq_true] at h2
  obtain ⟨_, ⟨⟨h3, h4⟩, _⟩, h5⟩ := h2
  have hrs : ∀ r ∈ rs, 0 ≤ r ∧ r < 65536 := fun r hr => by
    have h6 : (rs.map hcOf).any refBad = false := by simpa using h3
    have h7 := List.any_eq_false.1 h6 (hcOf r) (List.mem_map.2 ⟨r, hr, rfl⟩)
    unfold refBad fromP hcOf at h7
    simp at h7
    omega
  obtain ⟨k1, k2⟩ := nodesM_ok hc hrs
  unfold idsP at h4
  simp only [Bool.and_eq_true, decide_eq_true_eq] at h4
  unfold rightP at h5
  simp only [Bool.and_eq_true, decide_eq_true_eq] at h5
  exact ⟨by omega, fun y hy => (k2 y hy).1, fun y hy => (k2 y hy).2.2, by omega, by omega, h1⟩
end Go.Proofs.YtjbfopnkeclfgaaGreat
