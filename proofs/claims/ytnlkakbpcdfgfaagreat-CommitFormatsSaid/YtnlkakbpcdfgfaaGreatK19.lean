/- The walks of vol, cell and both rows of package book's reader. What package plan asks of a commit: its turn, its slot, and the iterators over its writes. nodes of a commit that uses no cell: nothing. pages of a commit: the book's blocks, one by one. All that a commit of a state that uses no cell has ahead of its slot. The walks of both rows of package book's reader. The walks of isFrom, areRefs, areRoots and areIds of package book. -/
import Derived.Test.YtnlkakbpcdfgfaaGreatK18
import Derived.Test.YtnlkakbpcdfgfaaGreatK11
import Derived.Test.YtnlkakbpcdfgfaaGreatK16
import Derived.Test.YtnlkakbpcdfgfaaGreatK17
import Derived.Test.YtnlkakbpcdfgfaaGreatK10
import Derived.Test.YtnlkakbpcdfgfaaGreatK04
namespace Go.Proofs.YtnlkakbpcdfgfaaGreat
set_option maxRecDepth 20000
open Go.RowKit
attribute [local go_sem ↓] Go.wp_at_zero Go.wp_at_succ

/-- The volume whose bytes stand at a place. -/
def volP (l : List UInt8) (a : Int) : Option It :=
  match takeS l a 4 with
  | none => none
  | some i => match takeS l (a + 4) 2 with
    | none => none
    | some r => some ((i : Int), (r : Int) - 1)
theorem volP_small {l : List UInt8} {a : Int} {x : It} (h : volP l a = some x) : 0 ≤ a ∧ a + 6 ≤ l.length ∧ 0 ≤ x.1 ∧ -1 ≤ x.2 ∧ x.2 < 65535 := by
  unfold volP at h
  split at h
  · cases h
  · rename_i p h1
    split at h
    · cases h
    · rename_i k h2
      cases h
      have h3 := takeS_at h1
      have h4 := takeS_at h2
      have h5 := takeS_small h2 (by omega)
      refine ⟨h3.1, by omega, ?_, ?_, ?_⟩
      · show (0 : Int) ≤ (p : Int)
        omega
      · show (-1 : Int) ≤ (k : Int) - 1
        omega
      · show (k : Int) - 1 < 65535
        omega
/-- So many volumes whose bytes stand from a place on. -/
def rowV (l : List UInt8) : Nat → Int → Option (List It)
  | 0, _ => some []
  | m + 1, a => match volP l a with
    | none => none
    | some x => (rowV l m (a + 6)).map (x :: ·)
def volsP (l : List UInt8) (a : Int) : Option (List It × Int) :=
  match takeS l a 1 with
  | none => none
  | some n => (rowV l n (a + 1)).map (fun r => (r, a + 1 + 6 * n))
/-- So many Refs whose bytes stand from a place on. -/
def rowC (l : List UInt8) : Nat → Int → Option (List Int)
  | 0, _ => some []
  | m + 1, a => match takeS l a 2 with
    | none => none
    | some x => (rowC l m (a + 2)).map ((x : Int) :: ·)
def cellsR (l : List UInt8) (a : Int) : Option (List Int × Int) :=
  match takeS l a 2 with
  | none => none
  | some n => (rowC l n (a + 2)).map (fun r => (r, a + 2 + 2 * n))
/-- A cell without a node. -/
def hcOf (r : Int) : HC := ⟨r, false, false, []⟩
def hcV : List Int → List Value
  | [] => []
  | r :: l => .int .i64 r :: .bool false :: .bool false :: .slice none 0 0 :: hcV l
theorem hcV_app (l k : List Int) : hcV (l ++ k) = hcV l ++ hcV k := by
  induction l with
  | nil => rfl
  | cons x l ih => simp [hcV, ih]
theorem hcV_one (l : List Int) : ∀ u ∈ hcV l, u.oneCell' = true := by
  induction l with
  | nil => intro u h; cases h
  | cons x l ih =>
    intro u h
    simp only [hcV, List.mem_cons] at h
    rcases h with rfl | rfl | rfl | rfl | h
    · rfl
    · rfl
    · rfl
    · rfl
    · exact ih u h
theorem hcV_at (w : World) : ∀ l : List Int, HcAt w (hcV l) (l.map hcOf)
  | [] => HcAt.nil w
  | r :: l => by
    have h1 := HcAt.one (w := w) (A := none) (c := 0) (hcOf r) (by
      refine ⟨fun _ => rfl, Nat.le_refl _, by unfold maxLen; omega, Cells.nil _ _⟩)
    have h2 := hcV_at w l
    exact HcAt.app h1 h2
end Go.Proofs.YtnlkakbpcdfgfaaGreat
namespace Go.Proofs.YtnlkakbpcdfgfaaGreat
set_option maxRecDepth 20000
open Go.RowKit Go.Shelf

theorem flush_is (w : World) : Calls Tryz.prog 67 #[] w fun e w' => e = .returned (.agg #[.int .i64 (-1), .string (ByteArray.mk #[])]) ∧ Ext w w' := by
  have hb := Bx.new w #[.int .i64 0, .string (ByteArray.mk #[])] 58
  obtain ⟨p0, p1, p2⟩ := hb.read2
  have f0 := hb.free 0
  have f1 := hb.free 1
  clear hb
  go_enter Tryz.func67, Tryz.ntmps67
  go_wp2_with fail
  refine ret2_cell (k := w.heap.size) (x := .int .i64 (-1)) (y := .string (ByteArray.mk #[])) (v := .agg #[.int .i64 (-1), .string (ByteArray.mk #[])]) (Bx.new w _ 58) (fun r0 r1 => by simp [results, Tryz.results67, go_sem, r0, r1]) rfl ?_
  exact ⟨rfl, (Ext.refl w).alloc _⟩
theorem told_turn (n g z s : Nat) (A : Option Addr) (m c : Nat) (w : World) :
    Calls Tryz.prog 104 #[.agg #[.int .i64 n, .int .i64 g, .int .i64 z, .int .i64 s, .slice A m c]] w fun e w' => e = .returned (.int .i64 ((g % 2 : Nat) : Int)) ∧ Ext w w' := by
  have hb := Bx.new w #[.int .i64 n, .int .i64 g, .int .i64 z, .int .i64 s, .slice A m c] 124
  have HX := Lib.hid ((Ext.refl w).alloc (.cells #[.int .i64 n, .int .i64 g, .int .i64 z, .int .i64 s, .slice A m c] 124))
  have p1 := hb.at 1 _ rfl
  have g1 : ((g : Int)).tmod 2 = ((g % 2 : Nat) : Int) := by rw [Int.tmod_eq_emod_of_nonneg (by omega)]; omega
  have g2 : IntKind.i64.wrap ((g % 2 : Nat) : Int) = ((g % 2 : Nat) : Int) := by rw [IntKind.wrap_i64]; omega
  generalize g % 2 = q at *
  clear hb
  go_enter Tryz.func104, Tryz.ntmps104
  go_wp2_with fail
  go_ret
  exact ⟨rfl, HX.out⟩
set_option maxHeartbeats 1600000 in
theorem told_slot (n g z s : Nat) (A : Option Addr) (m c : Nat) (w : World) :
    Calls Tryz.prog 68 #[.agg #[.int .i64 n, .int .i64 g, .int .i64 z, .int .i64 s, .slice A m c]] w fun e w' => e = .returned (.agg #[.int .i64 ((g % 2 : Nat) : Int), .string (supB ⟨g, z, s⟩)]) ∧ Ext w w' := by
  have hb1 := (Bx.new w #[.int .i64 n, .int .i64 g, .int .i64 z, .int .i64 s, .slice A m c] 124).ext ((Ext.refl _).alloc (.cells #[.int .i64 0, .string (ByteArray.mk #[])] 58))
  have hb2 := Bx.new (w.alloc (.cells #[.int .i64 n, .int .i64 g, .int .i64 z, .int .i64 s, .slice A m c] 124)) #[.int .i64 0, .string (ByteArray.mk #[])] 58
  rw [World.size_alloc] at hb2
  have hx := ((Ext.refl w).alloc (.cells #[.int .i64 n, .int .i64 g, .int .i64 z, .int .i64 s, .slice A m c] 124)).alloc (.cells #[.int .i64 0, .string (ByteArray.mk #[])] 58)
  have HB := Lib.hid hb1
  have HB2 := Lib.hid hb2
  have HX := Lib.hid hx
  have p0 := hb1.at 0 _ rfl
  have p1 := hb1.at 1 _ rfl
  have p2 := hb1.at 2 _ rfl
  have p3 := hb1.at 3 _ rfl
  have p4 := hb1.at 4 _ rfl
  have HP := Lib.hid (fun w' => slotPrint_any (g : Int) z s w')
  have HT := Lib.hid (fun w' => told_turn n g z s A m c w')
  generalize supB ⟨(g : Int), (z : Int), (s : Int)⟩ = sb at *
  generalize supE ⟨(g : Int), (z : Int), (s : Int)⟩ = se at *
  clear hb1 hb2 hx
  go_enter Tryz.func68, Tryz.ntmps68
  go_wp2_with (first
    | (go_at_call 103; refine (HP.out _).mono ?_; rintro e w1 ⟨rfl, hx⟩; have HX1 := Lib.hid (HX.out.trans hx); have HB1 := Lib.hid (HB.out.ext hx); have HC1 := Lib.hid (HB2.out.ext hx); clear hx p0 p1 p2 p3 p4; have p0 := HB1.out.at 0 _ rfl; have p1 := HB1.out.at 1 _ rfl; have p2 := HB1.out.at 2 _ rfl; have p3 := HB1.out.at 3 _ rfl; have p4 := HB1.out.at 4 _ rfl)
    | (go_at_call 104; refine (HT.out _).mono ?_; rintro e w2 ⟨rfl, hx⟩; have HX2 := Lib.hid (HX1.out.trans hx); have HC2 := Lib.hid (HC1.out.ext hx); clear hx p0 p1 p2 p3 p4; obtain ⟨c0, c1, c2⟩ := HC2.out.read2; have f0 := HC2.out.free 0; have f1 := HC2.out.free 1))
  refine ret2_cell (k := w.heap.size + 1) (x := .int .i64 ((g % 2 : Nat) : Int)) (y := .string sb) (v := .agg #[.int .i64 ((g % 2 : Nat) : Int), .string sb]) (HC2.out.set2 _ _) (fun r0 r1 => by simp [results, Tryz.results68, go_sem, r0, r1]) rfl ?_
  exact ⟨rfl, HX2.out.store2 (by omega) _ _⟩
theorem ahead_in (d : Nat) (cs : Array Value) (w : World) :
    CallsIn Fence.wide d Tryz.prog 65 #[.agg cs] w fun e w' =>
      e = .returned (.func (.func 98) #[] #[.pointer (some ⟨w.heap.size, 0, none⟩)]) ∧ w' = w.alloc (.cells cs 126) := by
  refine callsIn_of_wp Tryz.func65 rfl trivial ?_ rfl
  simp only [Tryz.ntmps65, List.size_toArray, List.length_cons, List.length_nil, Nat.reduceAdd, Nat.reduceSub, Array.replicate_succ, Array.replicate_zero, List.push_toArray, List.append_toArray, List.nil_append, List.cons_append]
  gi_wp2
  go_ret
  exact ⟨rfl, rfl⟩
theorem nodes_in (d : Nat) (cs : Array Value) (w : World) :
    CallsIn Fence.wide d Tryz.prog 99 #[.agg cs] w fun e w' =>
      e = .returned (.func (.func 121) #[] #[.pointer (some ⟨w.heap.size, 0, none⟩)]) ∧ w' = w.alloc (.cells cs 126) := by
  refine callsIn_of_wp Tryz.func99 rfl trivial ?_ rfl
  simp only [Tryz.ntmps99, List.size_toArray, List.length_cons, List.length_nil, Nat.reduceAdd, Nat.reduceSub, Array.replicate_succ, Array.replicate_zero, List.push_toArray, List.append_toArray, List.nil_append, List.cons_append]
  gi_wp2
  go_ret
  exact ⟨rfl, rfl⟩
theorem pages_in (d : Nat) (cs : Array Value) (w : World) :
    CallsIn Fence.wide d Tryz.prog 100 #[.agg cs] w fun e w' =>
      e = .returned (.func (.func 123) #[] #[.pointer (some ⟨w.heap.size, 0, none⟩)]) ∧ w' = w.alloc (.cells cs 124) := by
  refine callsIn_of_wp Tryz.func100 rfl trivial ?_ rfl
  simp only [Tryz.ntmps100, List.size_toArray, List.length_cons, List.length_nil, Nat.reduceAdd, Nat.reduceSub, Array.replicate_succ, Array.replicate_zero, List.push_toArray, List.append_toArray, List.nil_append, List.cons_append]
  gi_wp2
  go_ret
  exact ⟨rfl, rfl⟩
end Go.Proofs.YtnlkakbpcdfgfaaGreat
namespace Go.Proofs.YtnlkakbpcdfgfaaGreat
set_option maxRecDepth 20000
open Go.RowKit Go.Shelf
attribute [local go_sem] Oper.semAt_some

def encW (x : Wr) : Array Value := #[.agg #[.int .i64 x.1, .string x.2]]
set_option maxRecDepth 100000 in
set_option maxHeartbeats 1600000 in
theorem nodes_none (n q bc n₀ n0 : Nat) (g z s keep : Int) (R BA : Option Addr) (bm bq : Nat) (w : World) (hn2 : n ≤ 2000) (hR : HcSl w R n q (List.replicate n HC.none)) (hb : Bt w bc 126 #[.int .i64 n0, .int .i64 g, .int .i64 z, .int .i64 s, .slice BA bm bq, .slice R n q, .int .i64 keep]) :
    SeqW Tryz.prog 121 #[.pointer (some ⟨bc, 0, none⟩)] encW n₀ (fun k => k = bc) [] w := by
  intro r J Jx W d hx hJ hJx hY h0
  refine (callsIn_wide (n := d)).2 (callsIn_wide.1 (?_ : CallsIn Fence.wide 3 _ _ _ _ _))
  have H0 := Lib.hid h0
  have HR := Lib.hid (hR.ext hx)
  have c5 := (hb.below hx).bx.at 5 _ rfl
  clear hJ hJx hY h0 hR hb
  refine callsIn_of_wp Tryz.func121 rfl trivial ?_ rfl
  simp only [Tryz.ntmps121, List.size_toArray, List.length_cons, List.length_nil, Nat.reduceAdd, Nat.reduceSub, Array.replicate_succ, Array.replicate_zero, List.push_toArray, List.append_toArray, List.nil_append, List.cons_append]
  gi_wp2
  clear c5
  gi_loopw [11] (fun v wr => ∃ k : Nat, k ≤ n ∧ v = .int .i64 k ∧ Ext W wr) (fun v _ => n - (intOf v).toNat)
  case atStart => exact ⟨0, Nat.zero_le _, rfl, Ext.refl _⟩
  case round =>
    obtain ⟨k, hk, rfl, hy⟩ := hrel
    have HY := Lib.hid hy
    rcases Nat.lt_or_ge k n with hlt | hge
    · have hkl : k < (List.replicate n HC.none).length := by rw [List.length_replicate]; exact hlt
      obtain ⟨b5, off, rfl, _, A5, c5, r0, r1, r2, r3, _⟩ := (HR.out.ext hy).cell hkl
      rw [List.getElem_replicate] at r0 r1 r2 r3
      have r0 := (show wr.cell? ⟨b5, off + k * 4, none⟩ = some (.int .i64 0) from r0)
      have r1 := (show wr.cell? ⟨b5, off + k * 4 + 1, none⟩ = some (.bool false) from r1)
      have r2 := (show wr.cell? ⟨b5, off + k * 4 + 2, none⟩ = some (.bool false) from r2)
      have r3 := (show wr.cell? ⟨b5, off + k * 4 + 3, none⟩ = some (.slice A5 0 c5) from r3)
      have hki : (k : Int) < (n : Int) := by omega
      have b6 := (Bx.new wr #[.int .i64 0, .bool false, .bool false, .slice A5 0 c5] 72).at 0 _ rfl
      clear hy
      gi_wp2
      go_roundw
      case rel => exact ⟨k + 1, by omega, by go_num, HY.out.alloc _⟩
      case measure => simp [intOf]; omega
    · obtain rfl : n = k := by omega
      clear hge
      gi_wp2
      go_end0
      exact ⟨⟨_, rfl⟩, wr, HY.out, .inl (H0.out _ HY.out)⟩
end Go.Proofs.YtnlkakbpcdfgfaaGreat
namespace Go.Proofs.YtnlkakbpcdfgfaaGreat
set_option maxRecDepth 20000
open Go.RowKit Go.Shelf
attribute [local go_sem] Oper.semAt_some

/-- What a region leaves: this frame, and of the world this. -/
def atN (a0 : Act) (R : World → Prop) : Exit → Act → World → Prop
  | .normal, a, w => a = a0 ∧ R w
  | _, _, _ => False
theorem atN_is {a0 : Act} {R : World → Prop} {e : Exit} {a : Act} {w : World} (h : atN a0 R e a w) : e = .normal ∧ a = a0 ∧ R w := by
  cases e <;> first | exact ⟨rfl, h.1, h.2⟩ | exact h.elim
/-- Writes of these blocks, from that place on. -/
def pgs (first : Nat) (L : List ByteArray) : List Wr := L.mapIdx (fun i s => (((first + i : Nat) : Int), s))
theorem pgs_len (first : Nat) (L : List ByteArray) : (pgs first L).length = L.length := by unfold pgs; simp
theorem pgs_at {first : Nat} {L : List ByteArray} {k : Nat} (h : k < L.length) : (pgs first L)[k]'(by rw [pgs_len]; exact h) = (((first + k : Nat) : Int), L[k]) := by unfold pgs; simp
theorem take_pre {α : Type} {L : List α} {k : Nat} (h : k < L.length) : L.take k ++ [L[k]] <+: L := by
  rw [← List.take_succ_eq_append_getElem h]
  exact List.take_prefix _ _
set_option maxRecDepth 100000 in
set_option maxHeartbeats 1600000 in
theorem pages_seq (n g z s m c bt n₀ : Nat) (A : Option Addr) (l : Bl) (w : World) (hn : n ≤ 2000) (hl : m = l.length) (hm : m ≤ 100000) (hA : Sl w A m c (l.map bv)) (hb : Bt w bt 124 #[.int .i64 n, .int .i64 g, .int .i64 z, .int .i64 s, .slice A m c]) :
    SeqW Tryz.prog 123 #[.pointer (some ⟨bt, 0, none⟩)] encW n₀ (fun k => k = bt) (pgs (2 + g % 2 * areaP n) (chB l)) w := by
  obtain ⟨PG, hPG⟩ : ∃ PG, pgs (2 + g % 2 * areaP n) (chB l) = PG := ⟨_, rfl⟩
  rw [hPG]
  intro r J Jx W d hx hJ hJx hY h0
  refine (callsIn_wide (n := d)).2 (callsIn_wide.1 (?_ : CallsIn Fence.wide 3 _ _ _ _ _))
  have HB := Lib.hid (hb.below hx)
  have HA := Lib.hid (hA.ext hx)
  have HJ := Lib.hid hJ
  have HY := Lib.hid hY
  have H0 := Lib.hid h0
  have HT := Lib.hid (fun w' => told_turn n g z s A m c w')
  have HR := Lib.hid (fun w' => layArea_any n w' (by omega))
  have HC := Lib.hid (fun w' h => planChunks_any A l m c w' hl (by omega) h)
  have har : areaP n ≤ 200 := by unfold areaP; omega
  obtain ⟨par, hpar⟩ : ∃ p, g % 2 = p := ⟨_, rfl⟩
  have hp2 : par ≤ 1 := by omega
  rw [hpar] at HT hPG
  generalize areaP n = ar at *
  obtain ⟨mm, hmm⟩ : ∃ m, par * ar = m := ⟨_, rfl⟩
  have hmm2 : mm ≤ 200 := by rw [← hmm]; exact Nat.le_trans (Nat.mul_le_mul_right ar hp2) (by omega)
  have g3 : IntKind.i64.wrap ((par : Int) * (ar : Int)) = (mm : Int) := by
    rw [show (par : Int) * (ar : Int) = ((par * ar : Nat) : Int) by simp, hmm, IntKind.wrap_i64]; omega
  rw [hmm] at hPG
  obtain ⟨first, hfi⟩ : ∃ m, 2 + mm = m := ⟨_, rfl⟩
  have g4 : IntKind.i64.wrap (2 + (mm : Int)) = (first : Int) := by rw [IntKind.wrap_i64]; omega
  have hfi2 : first ≤ 202 := by omega
  rw [hfi] at hPG
  have HPG := Lib.hid hPG
  clear hPG
  have HRD := Lib.hid (fun w' (hy : Ext W w') => (show w'.cell? ⟨bt, 0, none⟩ = some (.int .i64 n) ∧ w'.cell? ⟨bt, 1, none⟩ = some (.int .i64 g) ∧ w'.cell? ⟨bt, 2, none⟩ = some (.int .i64 z) ∧ w'.cell? ⟨bt, 3, none⟩ = some (.int .i64 s) ∧ w'.cell? ⟨bt, 4, none⟩ = some (.slice A m c) from ⟨(HB.out.below hy).bx.at 0 _ rfl, (HB.out.below hy).bx.at 1 _ rfl, (HB.out.below hy).bx.at 2 _ rfl, (HB.out.below hy).bx.at 3 _ rfl, (HB.out.below hy).bx.at 4 _ rfl⟩))
  have HW := Lib.hid (Ext.refl W)
  have HWD := Lib.hid ((Ext.refl W).drew)
  obtain ⟨p0, p1, p2, p3, p4⟩ := HRD.out _ HWD.out
  have HLM := Lib.hid hl
  clear hb hA hJ hJx hY h0 hl hfi hmm hpar
  refine callsIn_of_wp Tryz.func123 rfl trivial ?_ rfl
  simp only [Tryz.ntmps123, List.size_toArray, List.length_cons, List.length_nil, Nat.reduceAdd, Nat.reduceSub, Array.replicate_succ, Array.replicate_zero, List.push_toArray, List.append_toArray, List.nil_append, List.cons_append]
  gi_wp2
  refine wpIn_wide.2 ?_
  refine Code.wp_mono (Q := atN { tmps := #[.func (.yield r) #[] #[], .pointer (some ⟨bt, 0, none⟩), undef, .int .i64 first, undef, undef, .agg #[.int .i64 n, .int .i64 g, .int .i64 z, .int .i64 s, .slice A m c], .int .i64 par, .pointer (some ⟨bt, 0, none⟩), .agg #[.int .i64 n], .int .i64 ar, .int .i64 mm, .int .i64 first, undef, undef, undef, undef, undef, undef, undef, undef, undef, undef, undef, undef, undef, undef, undef, undef, undef, undef], defers := [] } (Ext W)) ?mono ?region
  case region =>
    go_region_with (first
      | (go_at_call 104; refine (HT.out _).mono ?_; rintro e w2 ⟨rfl, hx2⟩; have HW3 := Lib.hid (Below.trans HWD.out (hx2.mono HWD.out.size)); have HWD := Lib.hid HW3.out; obtain ⟨p0, p1, p2, p3, p4⟩ := HRD.out _ HWD.out; clear hx2)
      | (go_at_call 82; refine (HR.out _).mono ?_; rintro e w2 ⟨rfl, hx2⟩; have HW3 := Lib.hid (Below.trans HWD.out (hx2.mono HWD.out.size)); have HWD := Lib.hid HW3.out; obtain ⟨p0, p1, p2, p3, p4⟩ := HRD.out _ HWD.out; clear hx2))
    all_goals exact ⟨rfl, HWD.out⟩
  case mono =>
    intro e a' w1 h1
    obtain ⟨rfl, rfl, hx1⟩ := atN_is h1
    clear h1
    have HX1 := Lib.hid hx1
    clear p0 p1 p2 p3 p4
    obtain ⟨p0, p1, p2, p3, p4⟩ := HRD.out _ hx1
    clear hx1
    gi_wp2_with (refine ⟨trivial, ?_⟩; gi_at_call 124; refine (callsIn_wide.2 (HC.out _ (HA.out.ext HX1.out))).mono ?_; rintro e w2 ⟨B, q, rfl, ho, hx2⟩)
    have X2 := Lib.hid (HX1.out.trans hx2)
    have HO := Lib.hid ho
    have HN := Lib.hid (show (pgs first (chB l)).length = pieces m from by rw [pgs_len, chB_len, chunks_len, ← HLM.out])
    have HNL := Lib.hid (show (chB l).length = pieces m from by rw [chB_len, chunks_len, ← HLM.out])
    have HJ2 := Lib.hid (HJ.out w2 X2.out)
    have HY2 := Lib.hid (fun pre x W1 m => HY.out w2 pre x W1 m X2.out)
    have H02 := Lib.hid (H0.out w2 X2.out)
    have hpc : pieces m ≤ 100000 := by unfold pieces; omega
    generalize pieces m = N at *
    generalize chB l = L at *
    obtain rfl := HPG.out
    clear ho hx2 p0 p1 p2 p3 p4
    gi_loopw [17] (fun v wr => ∃ k : Nat, k ≤ N ∧ v = .int .i64 k ∧ J w2 ((pgs first L).take k) wr ∧ Kp n₀ (fun k => k = bt ∨ (W.heap.size ≤ k ∧ k < w2.heap.size)) w2 wr) (fun v _ => N - (intOf v).toNat)
    case atStart => exact ⟨0, Nat.zero_le _, rfl, by rw [List.take_zero]; exact H02.out, Kp.refl _ _ _⟩
    case round =>
      obtain ⟨k, hk, rfl, hJk, hKk⟩ := hrel
      have HJK := Lib.hid hJk
      have HKK := Lib.hid hKk
      have HZK := Lib.hid hKk.old.size
      rcases Nat.lt_or_ge k N with hlt | hge
      · have hkL : k < L.length := by rw [HNL.out]; exact hlt
        have hkP : k < (pgs first L).length := by rw [pgs_len]; exact hkL
        have HS := Lib.hid (own_sl (own_keptP HO.out hKk (fun g h1 h2 => .inr ⟨Nat.le_trans HX1.out.size h1, h2⟩)))
        obtain ⟨bb, off, rfl, _, hcc⟩ := HS.out.cells.str hkL
        have r1 := hcc k hkL
        have HPA := Lib.hid (pgs_at (first := first) hkL)
        have HTP := Lib.hid (take_pre hkP)
        have HTK := Lib.hid (show (pgs first L).take (k + 1) = (pgs first L).take k ++ [(pgs first L)[k]] from List.take_succ_eq_append_getElem hkP)
        obtain ⟨fn, tmps, assign, body, hy, hR⟩ := HY2.out _ ((pgs first L)[k]) wr 2 HJK.out HZK.out HTP.out
        rw [HPA.out] at hy
        generalize L[k] = x at *
        have hki : (k : Int) < (N : Int) := by omega
        have g6 : IntKind.i64.wrap ((first : Int) + (k : Int)) = ((first + k : Nat) : Int) := by rw [IntKind.wrap_i64]; omega
        simp only [encW, Int.natCast_add] at hy
        clear hcc hJk hKk
        gi_wp2
        refine hR.mono ?_
        rintro e W3 ⟨hk3, (⟨rfl, hJ3⟩ | ⟨rfl, hJx3⟩)⟩
        · have HJ3 := Lib.hid hJ3
          have HK3 := Lib.hid (HKK.out.trans hk3)
          clear hk3 hJ3
          gi_wp2
          go_roundw
          case rel => exact ⟨k + 1, by omega, by go_num, by rw [HTK.out]; exact HJ3.out, HK3.out⟩
          case measure => simp [intOf]; omega
        · have HJ3 := Lib.hid hJx3
          clear hk3 hJx3
          gi_wp2
          refine bodyPost_ret (results_none rfl _ _ _) rfl ?_
          exact ⟨⟨_, rfl⟩, w2, X2.out, .inr ⟨_, HTP.out, HJ3.out⟩⟩
      · obtain rfl : N = k := by omega
        clear hge hJk hKk
        have HJE := Lib.hid (show J w2 (pgs first L) wr from by have h := HJK.out; rwa [← HN.out, List.take_length] at h)
        gi_wp2
        go_end0
        exact ⟨⟨_, rfl⟩, w2, X2.out, .inl HJE.out⟩
end Go.Proofs.YtnlkakbpcdfgfaaGreat
namespace Go.Proofs.YtnlkakbpcdfgfaaGreat
set_option maxRecDepth 20000
open Go.RowKit Go.Shelf
attribute [local go_sem] Oper.semAt_some

theorem bts2 {w W : World} {c0 c1 : Array Value} {t0 t1 : TypeId} (h : (w.alloc (.cells c0 t0)).alloc (.cells c1 t1) = W) : Ext w W ∧ W.heap.size = w.heap.size + 2 ∧ Bt W w.heap.size t0 c0 ∧ Bt W (w.heap.size + 1) t1 c1 := by
  subst h
  have b0 := Bt.new w c0 t0
  have b1 := Bt.new (w.alloc (.cells c0 t0)) c1 t1
  rw [World.size_alloc] at b1
  exact ⟨((Ext.refl w).alloc _).alloc _, by simp, b0.below ((Ext.refl _).alloc _), b1⟩
theorem bts1 {w W : World} {c0 : Array Value} {t0 : TypeId} (h : w.alloc (.cells c0 t0) = W) : Ext w W ∧ W.heap.size = w.heap.size + 1 ∧ Bt W w.heap.size t0 c0 := by
  subst h
  exact ⟨(Ext.refl w).alloc _, by simp, Bt.new w c0 t0⟩
theorem run_store_func (P : Program) (w : World) (a : Addr) (m : Mode) (f : Fn) (x y : Array Value) : (store a (.func f x y) m).run P w = stored P w a (.func f x y) m := run_store P w a _ m rfl
attribute [local go_sem] run_store_func
set_option maxRecDepth 100000 in
set_option maxHeartbeats 3200000 in
theorem ahead_seq (n q g z s m c bc n₀ : Nat) (keep : Int) (R A : Option Addr) (l : Bl) (w : World) (hn : n ≤ 2000) (hl : m = l.length) (hm : m ≤ 100000) (hR : HcSl w R n q (List.replicate n HC.none)) (hA : Sl w A m c (l.map bv))
    (hb : Bt w bc 126 #[.int .i64 n, .int .i64 g, .int .i64 z, .int .i64 s, .slice A m c, .slice R n q, .int .i64 keep]) (hn0 : n₀ ≤ w.heap.size) :
    SeqW Tryz.prog 98 #[.pointer (some ⟨bc, 0, none⟩)] encW n₀ (fun k => k = bc) (pgs (2 + g % 2 * areaP n) (chB l)) w := by
  intro r J Jx W d hx hJ hJx hY h0
  refine (callsIn_wide (n := d)).2 (callsIn_wide.1 (?_ : CallsIn Fence.wide 5 _ _ _ _ _))
  have HB := Lib.hid (hb.below hx)
  have HR := Lib.hid (hR.ext hx)
  have HA := Lib.hid (hA.ext hx)
  have HJ := Lib.hid hJ
  have HJX := Lib.hid hJx
  have HY := Lib.hid hY
  have H0 := Lib.hid h0
  have HL := Lib.hid hl
  have hnW := Nat.le_trans hn0 hx.size
  have hbl := (hb.below hx).lt
  have HPS := Lib.hid (fun (V : World) (bt : Nat) (hV : Ext W V) (h : Bt V bt 124 #[.int .i64 n, .int .i64 g, .int .i64 z, .int .i64 s, .slice A m c]) => pages_seq n g z s m c bt n₀ A l V hn HL.out hm (HA.out.ext hV) h)
  generalize pgs (2 + g % 2 * areaP n) (chB l) = PG at *
  have HRD := Lib.hid (fun w' (hy : Ext W w') => (show w'.cell? ⟨bc, 0, none⟩ = some (.int .i64 n) ∧ w'.cell? ⟨bc, 1, none⟩ = some (.int .i64 g) ∧ w'.cell? ⟨bc, 2, none⟩ = some (.int .i64 z) ∧ w'.cell? ⟨bc, 3, none⟩ = some (.int .i64 s) ∧ w'.cell? ⟨bc, 4, none⟩ = some (.slice A m c) ∧ w'.cell? ⟨bc, 5, none⟩ = some (.slice R n q) ∧ w'.cell? ⟨bc, 6, none⟩ = some (.int .i64 keep) from ⟨(HB.out.below hy).bx.at 0 _ rfl, (HB.out.below hy).bx.at 1 _ rfl, (HB.out.below hy).bx.at 2 _ rfl, (HB.out.below hy).bx.at 3 _ rfl, (HB.out.below hy).bx.at 4 _ rfl, (HB.out.below hy).bx.at 5 _ rfl, (HB.out.below hy).bx.at 6 _ rfl⟩))
  have HW1 := Lib.hid ((Ext.refl W).alloc (.cells #[.func (.yield r) #[] #[]] 169))
  obtain ⟨p0, p1, p2, p3, p4, p5, p6⟩ := HRD.out _ HW1.out
  clear hb hA hJ hJx hY h0 hl hR
  refine callsIn_of_wp_marks Tryz.func98 rfl trivial ?_ rfl
  simp only [Tryz.ntmps98, List.size_toArray, List.length_cons, List.length_nil, Nat.reduceAdd, Nat.reduceSub, Array.replicate_succ, Array.replicate_zero, List.push_toArray, List.append_toArray, List.nil_append, List.cons_append]
  gi_wp2_with (refine ⟨trivial, ?_⟩; gi_at_call 99; refine (nodes_in _ _ _).mono ?_; rintro e w' ⟨rfl, rfl⟩)
  obtain ⟨W2, hW2⟩ : ∃ W2, (W.alloc (.cells #[.func (.yield r) #[] #[]] 169)).alloc (.cells #[.int .i64 n, .int .i64 g, .int .i64 z, .int .i64 s, .slice A m c, .slice R n q, .int .i64 keep] 126) = W2 := ⟨_, rfl⟩
  obtain ⟨hx2, hz2, b0, b1⟩ := bts2 hW2
  rw [hW2]
  have hz22 : W.heap.size + 2 ≤ W2.heap.size := by omega
  clear hz2 hW2 p0 p1 p2 p3 p4 p5 p6
  refine range_ownW rfl (m := 3) (gf := 121) (lb := #[.pointer (some ⟨W.heap.size + 1, 0, none⟩)]) rfl (enters_of Tryz.func121 (by kernel_rfl) rfl)
    (nodes_none n q (W.heap.size + 1) W2.heap.size n g z s keep R A m c W2 hn (HR.out.ext hx2) b1) (Ext.refl _) (Nat.le_refl _) (fun k hk => by omega) (fun _ => rfl)
    (fun W0 pre V => Ext W2 V) (fun _ _ _ _ => False)
    (fun W0 h => stays_below W2 (Nat.le_refl _) (Nat.le_refl _)) (fun _ _ _ _ _ _ h _ => h) (fun W0 h => h)
    (fun _ _ _ _ => False) (fun _ _ _ _ _ _ _ h _ => h)
    ?assign ?body ?done ?stop
  case assign => exact fun _ _ _ _ _ _ _ _ _ hp _ => absurd hp (by simp)
  case body => exact fun _ _ _ _ _ _ _ _ h _ _ => h.elim
  case stop => exact fun _ _ _ _ _ _ _ _ _ h _ => h.elim
  case done =>
    rintro D W0 V rfl hx0 hd2 hV hK
    have HV := Lib.hid (hx2.trans hV)
    obtain ⟨p0, p1, p2, p3, p4, p5, p6⟩ := HRD.out _ HV.out
    have HBV := Lib.hid (b0.below hV)
    have HK1 := Lib.hid hK
    have HZV := Lib.hid hV.size
    clear hV hK b0 b1 hx0 hd2
    gi_wp2_with (refine ⟨trivial, ?_⟩; gi_at_call 100; refine (pages_in _ _ _).mono ?_; rintro e w' ⟨rfl, rfl⟩)
    obtain ⟨V2, hV2⟩ : ∃ V2, V.alloc (.cells #[.int .i64 n, .int .i64 g, .int .i64 z, .int .i64 s, .slice A m c] 124) = V2 := ⟨_, rfl⟩
    obtain ⟨hxv, hzv, t0⟩ := bts1 hV2
    rw [hV2]
    have hzv2 : V.heap.size + 1 ≤ V2.heap.size := by omega
    clear hzv hV2 p0 p1 p2 p3 p4 p5 p6
    have hD1 : V2.heap[W2.heap.size]? = some (.deferred (some [])) := (hxv.block _ (Array.getElem?_eq_some_iff.1 HK1.out).1).trans HK1.out
    have hy2 : Bt V2 W.heap.size 169 #[.func (.yield r) #[] #[]] := HBV.out.below hxv
    have HXV := Lib.hid (HV.out.trans hxv)
    have hsz1 : W.heap.size ≤ V2.heap.size := HXV.out.size
    have hsz2 : W2.heap.size < V2.heap.size := (Array.getElem?_eq_some_iff.1 hD1).1
    have hsz3 := HZV.out
    refine range_ownW rfl (m := 3) (gf := 123) (lb := #[.pointer (some ⟨V.heap.size, 0, none⟩)]) rfl (enters_of Tryz.func123 (by kernel_rfl) rfl)
      (HPS.out V2 V.heap.size HXV.out t0) (Ext.refl _) (Nat.le_trans hnW hsz1) (fun k hk => by omega) (fun _ => rfl)
      (fun W0 pre X => J W0 pre X ∧ (Bt X W.heap.size 169 #[.func (.yield r) #[] #[]] ∧ X.heap[W2.heap.size]? = some (.deferred (some []))))
      (fun W0 cd u X => cd = .ret ∧ Jx W0 u X ∧ X.heap[W2.heap.size]? = some (.deferred (some [])))
      (fun W0 h u X Y hs ho => ⟨HJ.out W0 (HXV.out.trans h) u X Y hs.1 (ho.sup (by omega) (by have := h.size; omega)), (ho.same _ hs.2.1.lt (.inl (by omega))).trans hs.2.1, (ho.same _ (Array.getElem?_eq_some_iff.1 hs.2.2).1 (.inl (by omega))).trans hs.2.2⟩)
      (fun W0 cd h u X Y hs ho => ⟨hs.1, HJX.out W0 (HXV.out.trans h) u X Y hs.2.1 (ho.sup (by omega) (by have := h.size; omega)), (ho.same _ (Array.getElem?_eq_some_iff.1 hs.2.2).1 (.inl (by omega))).trans hs.2.2⟩)
      (fun W0 h => ⟨H0.out W0 (HXV.out.trans h), hy2.below h, (h.block _ (by omega)).trans hD1⟩)
      (fun W0 x a' X => ∃ Bx, W0.heap.size ≤ Bx ∧ Bt X Bx 58 #[.int .i64 x.1, .string x.2] ∧ a' = { tmps := #[.func (.yield r) #[] #[], .pointer (some ⟨bc, 0, none⟩), .pointer (some ⟨W.heap.size, 0, none⟩), undef, .pointer (some ⟨Bx, 0, none⟩), .agg #[.int .i64 n, .int .i64 g, .int .i64 z, .int .i64 s, .slice A m c, .slice R n q, .int .i64 keep], .func (.func 121) #[] #[.pointer (some ⟨W.heap.size + 1, 0, none⟩)], undef, undef, undef, undef, undef, .pointer (some ⟨bc, 0, none⟩), .agg #[.int .i64 n, .int .i64 g, .int .i64 z, .int .i64 s, .slice A m c], .func (.func 123) #[] #[.pointer (some ⟨V.heap.size, 0, none⟩)], .agg #[.int .i64 x.1, .string x.2], undef, undef, undef, undef], defers := [] })
      (fun W0 x a' h u X Y hs ho => ⟨hs.choose, hs.choose_spec.1, (ho.same _ hs.choose_spec.2.1.lt (.inr (by have := hs.choose_spec.1; have := h.size; omega))).trans hs.choose_spec.2.1, hs.choose_spec.2.2⟩)
      ?assign2 ?body2 ?done2 ?stop2
    case assign2 =>
      rintro l2 W0 pre ⟨xa, xs⟩ X K hx0 ⟨hj, hy, hd⟩ hz hp hK
      have HX := Lib.hid (show Ext X (X.alloc (.cells #[.int .i64 xa, .string xs] 58)) from (Ext.refl X).alloc _)
      have HJX1 := Lib.hid (HJ.out W0 (HXV.out.trans hx0) _ _ _ hj (.ext HX.out))
      have HYX := Lib.hid (hy.below HX.out)
      have HDX := Lib.hid ((HX.out.block _ (Array.getElem?_eq_some_iff.1 hd).1).trans hd)
      have HKX := Lib.hid hK
      have HS0 := Lib.hid (Nat.le_trans (Nat.le_trans (Nat.le_trans hnW hsz1) hx0.size) hz)
      clear hj hy hd hK
      show Code.wpIn _ _ _ _ _ _ _
      simp only [encW]
      gi_wp2
      exact HKX.out _ _ (Kp.ext _ HX.out HS0.out) ⟨HJX1.out, HYX.out, HDX.out⟩ ⟨X.heap.size, hz, Bt.new X _ _, rfl⟩
    case body2 =>
      rintro l2 W0 pre ⟨xa, xs⟩ a' X hx0 ⟨hj, hy, hd⟩ ⟨Bx, hBx, bX, rfl⟩ hz hp
      have hzz := hx0.size
      obtain ⟨n0, n1, n2⟩ := bX.bx.read2
      have y0 := hy.bx.at 0 _ rfl
      have HYX := Lib.hid hy
      have HDX := Lib.hid hd
      obtain ⟨fn, tmps, assign, body, hyy, hRR⟩ := HY.out W0 pre (xa, xs) X 2 (HXV.out.trans hx0) hj hz hp
      simp only [encW] at hyy
      have HZ := Lib.hid (show W.heap.size < W0.heap.size ∧ W2.heap.size < W0.heap.size ∧ W.heap.size ≤ W2.heap.size from by omega)
      have HSUB := Lib.hid (show ∀ k, (k = V.heap.size ∨ (V2.heap.size ≤ k ∧ k < W0.heap.size)) → (k = bc ∨ (W.heap.size ≤ k ∧ k < W0.heap.size)) from fun k h => by right; omega)
      clear hj hy hd bX
      gi_wp2
      refine hRR.mono ?_
      rintro e W3 ⟨hk3, (⟨rfl, hJ3⟩ | ⟨rfl, hJx3⟩)⟩
      · have HK3 := Lib.hid (hk3.sub HSUB.out)
        have HJ3 := Lib.hid hJ3
        have HY3 := Lib.hid (HYX.out.keptP hk3 (.inr ⟨Nat.le_refl _, HZ.out.1⟩))
        have HD3 := Lib.hid ((hk3.same W2.heap.size (.inr ⟨HZ.out.2.2, HZ.out.2.1⟩) (Array.getElem?_eq_some_iff.1 HDX.out).1).trans HDX.out)
        clear hk3 hJ3
        gi_wp2
        exact ⟨HK3.out, HJ3.out, HY3.out, HD3.out⟩
      · have HK3 := Lib.hid (hk3.sub HSUB.out)
        have HJ3 := Lib.hid hJx3
        have HD3 := Lib.hid ((hk3.same W2.heap.size (.inr ⟨HZ.out.2.2, HZ.out.2.1⟩) (Array.getElem?_eq_some_iff.1 HDX.out).1).trans HDX.out)
        clear hk3 hJx3
        gi_wp2
        exact ⟨HK3.out, rfl, HJ3.out, HD3.out⟩
    case done2 =>
      rintro D W0' X rfl hx0 hd2 ⟨hj, hy, hd⟩ hK2
      have HXW := Lib.hid (HXV.out.trans hx0)
      have HJ3 := Lib.hid (HJ.out W0' HXW.out _ _ _ (HJ.out W0' HXW.out _ _ _ hj (.put _ (k := V2.heap.size) (.deferred none) (by omega) (by omega))) (.put _ (k := W2.heap.size) (.deferred none) (by omega) (by omega)))
      have HD3 := Lib.hid (show (X.putObj V2.heap.size (.deferred none)).heap[W2.heap.size]? = some (.deferred (some [])) from (World.putObj_heap_other (by omega)).trans hd)
      have HK := Lib.hid hK2
      clear hj hy hd hK2
      gi_wp2
      exact ⟨by simp, .inl ⟨_, _, rfl, run_takeDeferred HK.out, ⟨by simp, .inl ⟨_, _, rfl, run_takeDeferred HD3.out, _, results_none rfl _ _ _, ⟨_, rfl⟩, W0', HXW.out, .inl HJ3.out⟩⟩⟩⟩
    case stop2 =>
      rintro D W0' cd u X rfl hx0 hd2 hu ⟨rfl, hj, hd⟩ hK2
      have HXW := Lib.hid (HXV.out.trans hx0)
      have HJ3 := Lib.hid (HJX.out W0' HXW.out _ _ _ (HJX.out W0' HXW.out _ _ _ hj (.put _ (k := V2.heap.size) (.deferred none) (by omega) (by omega))) (.put _ (k := W2.heap.size) (.deferred none) (by omega) (by omega)))
      have HD3 := Lib.hid (show (X.putObj V2.heap.size (.deferred none)).heap[W2.heap.size]? = some (.deferred (some [])) from (World.putObj_heap_other (by omega)).trans hd)
      have HK := Lib.hid hK2
      have HU := Lib.hid hu
      clear hj hd hK2 hu
      gi_wp2
      exact ⟨by simp, .inl ⟨_, _, rfl, run_takeDeferred HK.out, ⟨by simp, .inl ⟨_, _, rfl, run_takeDeferred HD3.out, _, results_none rfl _ _ _, ⟨_, rfl⟩, W0', HXW.out, .inr ⟨_, HU.out, HJ3.out⟩⟩⟩⟩⟩
end Go.Proofs.YtnlkakbpcdfgfaaGreat
namespace Go.Proofs.YtnlkakbpcdfgfaaGreat
set_option maxRecDepth 20000
open Go.RowKit
attribute [local go_sem ↓] Go.wp_at_zero Go.wp_at_succ

theorem infoVol : (Tryz.prog.info? 91).map (fun i => (i.zero, i.size, i.bytes)) = some (some (.agg #[.int .i64 0, .int .i64 0]), 2, 16) := by kernel_rfl
theorem app_vol (w : World) {ops : Array Oper} {rest : List Oper} {o : Oper} {a : Act} {Q : Exit → Act → World → Prop} (hgd : o.guard = none) (s x : Operand)
    (ho : o.op = .call { callee := .builtin .append, args := #[s, x], argTypes := #[30, 30] })
    (B : Nat) (v : Value) (n : Nat) (l : List It) (hs : a.eval s = v) (hown : w.ownsRow B 91 2 v n (ivs l))
    (A : Option Addr) (m c : Nat) (k : List It) (hx : a.eval x = .slice A m c) (hl : k.length = m) (hS : Sl w A m c (ivs k))
    (hsz : n + m ≤ 100000) (hB : B ≤ w.heap.size)
    (h : ∀ A' c' w', w'.ownsRow B 91 2 (.slice A' (n + m) c') (n + m) (ivs (l ++ k)) → w.grownBy w' v.ownBlock → wpList Tryz.prog ops Q rest (a.put o.dst (.slice A' (n + m) c')) w') : wpList Tryz.prog ops Q (o :: rest) a w := by
  refine wpList_app_sl w hgd s x 30 ho B 91 (.agg #[.int .i64 0, .int .i64 0]) 2 16 Tryz.underlying30 infoVol rfl (by omega) v n (ivs l) hs hown A m c (ivs k) hx (by rw [ivs_length, hl]) hS (ivs_oneCell k) (by unfold maxLen; omega) (by omega) hB ?_
  intro A' c' w' h1 h2
  rw [← ivs_append] at h1
  exact h A' c' w' h1 h2
theorem takeS_one {l : List UInt8} {a : Int} {n : Nat} (h : takeS l a 1 = some n) : n < 256 := by
  obtain ⟨h1, h2, h3, h4, rfl⟩ := takeS_at h
  have h5 := leNat_lt ((l.drop a.toNat).take (1 : Int).toNat)
  have h6 : ((l.drop a.toNat).take (1 : Int).toNat).length ≤ 1 := by rw [List.length_take]; exact Nat.min_le_left _ _
  have h7 : 256 ^ ((l.drop a.toNat).take (1 : Int).toNat).length ≤ 256 ^ 1 := Nat.pow_le_pow_right (by omega) h6
  omega
end Go.Proofs.YtnlkakbpcdfgfaaGreat
namespace Go.Proofs.YtnlkakbpcdfgfaaGreat
set_option maxRecDepth 20000
open Go.RowKit
attribute [local go_sem ↓] Go.wp_at_zero Go.wp_at_succ

def fromP (lo x hi : Int) : Bool := decide (lo ≤ x) && decide (x ≤ hi)
theorem bkFrom_any (lo x hi : Int) (w : World) :
    Calls Tryz.prog 131 #[.int .i64 lo, .int .i64 x, .int .i64 hi] w fun e w' => e = .returned (.bool (fromP lo x hi)) ∧ w = w' := by
  unfold fromP
  rcases Int.lt_or_le x lo with h | h
  · have d1 : decide (lo ≤ x) = false := decide_eq_false (by omega)
    rw [d1]
    go_enter Tryz.func131, Tryz.ntmps131
    go_wp2
    go_ret
    exact ⟨rfl, rfl⟩
  · have d1 : decide (lo ≤ x) = true := decide_eq_true h
    rw [d1]
    rcases Int.lt_or_le hi x with k | k
    · have d2 : decide (x ≤ hi) = false := decide_eq_false (by omega)
      rw [d2]
      go_enter Tryz.func131, Tryz.ntmps131
      go_wp2
      go_ret
      exact ⟨rfl, rfl⟩
    · have d2 : decide (x ≤ hi) = true := decide_eq_true k
      rw [d2]
      go_enter Tryz.func131, Tryz.ntmps131
      go_wp2
      go_ret
      exact ⟨rfl, rfl⟩
/-- Is a cell's Ref one that no book tells? -/
def refBad (x : HC) : Bool := !fromP 0 x.ref 65535
theorem bkRefF_any (x : HC) (A : Option Addr) (m c : Nat) (w : World) :
    Calls Tryz.prog 143 #[.agg #[.int .i64 x.ref, .bool x.pin, .bool x.leaf, .slice A m c]] w fun e w' => e = .returned (.bool (refBad x)) ∧ Ext w w' := by
  unfold refBad
  obtain ⟨r, p, l, it⟩ := x
  simp only
  have HF := Lib.hid (fun w' => bkFrom_any 0 r 65535 w')
  have hb := Bx.new w #[.int .i64 r, .bool p, .bool l, .slice A m c] 72
  have HX := Lib.hid ((Ext.refl w).alloc (.cells #[.int .i64 r, .bool p, .bool l, .slice A m c] 72))
  obtain ⟨p0, p1, p2, p3⟩ := hb.read4
  generalize fromP 0 r 65535 = b at *
  clear hb
  go_enter Tryz.func143, Tryz.ntmps143
  go_wp2_with (go_at_call 131; with_reducible refine (HF.out _).mono ?_; rintro e w' ⟨rfl, rfl⟩)
  go_ret
  exact ⟨rfl, HX.out⟩
set_option maxRecDepth 100000 in
set_option maxHeartbeats 1600000 in
theorem bkIdxRef_any (S : Option Addr) (l : List HC) (t d : Nat) (w : World) (hS : HcSl w S t d l) (hl : t ≤ 1000000) :
    Calls Tryz.prog 118 #[.slice S t d, .func (.func 143) #[] #[]] w fun e w' => e = .returned (.int .i64 (idxBy refBad l)) ∧ Ext w w' := by
  have HT := Lib.hid hS.1
  have HS := Lib.hid hS
  have HF := Lib.hid (fun x A m c w => bkRefF_any x A m c w)
  clear hS
  go_enter Tryz.func118, Tryz.ntmps118
  go_wp2_with fail
  go_loopw [8] (fun i wr => ∃ k : Nat, k ≤ t ∧ i = .int .i64 k ∧ (∀ j (hj : j < l.length), j < k → refBad l[j] = false) ∧ Ext w wr) (fun i _ => t - (intOf i).toNat)
  case atStart => exact ⟨0, Nat.zero_le _, rfl, fun _ _ h => by omega, Ext.refl _⟩
  case round =>
    obtain ⟨k, hk, rfl, hb, hx⟩ := hrel
    have HB := Lib.hid hb
    have HX := Lib.hid hx
    clear hb hx
    rcases Nat.lt_or_ge k t with hlt | hlt
    · have hkl : k < l.length := by rw [← HT.out]; exact hlt
      obtain ⟨b, off, rfl, hbl, A, c, c0, c1, c2, c3, _⟩ := (HS.out.ext HX.out).cell hkl
      have hki : (k : Int) < (t : Int) := by omega
      have HH := Lib.hid (fun h => idx_hit (f := refBad) hkl h HB.out)
      have HN := Lib.hid (fun (h : refBad l[k] = false) => (show ∀ j (hj : j < l.length), j < k + 1 → refBad l[j] = false from fun j hj hjk => by
        rcases Nat.lt_or_ge j k with h' | h'
        · exact HB.out j hj h'
        · obtain rfl : j = k := by omega
          exact h))
      have HC := Lib.hid (HF.out l[k] A l[k].it.length c wr)
      clear HB
      generalize refBad l[k] = fy at *
      generalize l[k] = y at *
      obtain ⟨r, p, lf, it⟩ := y
      simp only at c0 c1 c2 c3 HC
      cases fy
      · have HE := Lib.hid (HN.out rfl)
        clear HH HN
        go_wp2_with (go_at_call 143; refine HC.out.mono ?_; rintro e w1 ⟨rfl, hx⟩; have X1 := Lib.hid (HX.out.trans hx); clear hx)
        go_roundw
        case rel => exact ⟨k + 1, by omega, by go_num, HE.out, X1.out⟩
        case measure => simp [intOf]; omega
      · have HE := Lib.hid (HH.out rfl)
        clear HH HN
        go_wp2_with (go_at_call 143; refine HC.out.mono ?_; rintro e w1 ⟨rfl, hx⟩; have X1 := Lib.hid (HX.out.trans hx); clear hx)
        go_ret
        exact ⟨ret_int HE.out.symm, X1.out⟩
    · obtain rfl : k = t := by omega
      have HE := Lib.hid (idx_none (f := refBad) (fun j hj => HB.out j hj (by rw [HT.out]; exact hj)))
      clear hlt
      go_wp2_with fail
      go_ret
      exact ⟨ret_int HE.out.symm, HX.out⟩
set_option maxHeartbeats 800000 in
theorem bkRefs_any (S : Option Addr) (l : List HC) (t d : Nat) (w : World) (hS : HcSl w S t d l) (hl : t ≤ 1000000) :
    Calls Tryz.prog 132 #[.slice S t d] w fun e w' => e = .returned (.bool (!l.any refBad)) ∧ Ext w w' := by
  have HI := Lib.hid (show Calls Tryz.prog 93 #[.slice S t d, .func (.func 143) #[] #[]] w fun e w' => e = .returned (.bool (l.any refBad)) ∧ Ext w w' from by
    have HI := Lib.hid (bkIdxRef_any S l t d w hS hl)
    rw [← idx_any refBad l]
    generalize idxBy refBad l = z at *
    clear hS hl
    go_enter Tryz.func93, Tryz.ntmps93
    go_wp2_with (go_at_call 118; refine HI.out.mono ?_; rintro e w1 ⟨rfl, hx⟩; have X1 := Lib.hid hx; clear hx)
    go_ret
    exact ⟨by first | rfl | simp, X1.out⟩)
  generalize l.any refBad = z at *
  clear hS hl
  go_enter Tryz.func132, Tryz.ntmps132
  go_wp2_with (go_at_call 93; refine HI.out.mono ?_; rintro e w1 ⟨rfl, hx⟩; have X1 := Lib.hid hx; clear hx)
  go_ret
  exact ⟨rfl, X1.out⟩
/-- Is a root neither that of no tree nor a cell that something refers to? -/
def rootBad (c : List HC) (p : Int) : Bool := if p = -1 then false else if 0 ≤ p ∧ p < c.length then decide ((c.getD p.toNat HC.none).ref = 0) else true
set_option maxHeartbeats 1600000 in
theorem bkRootF_any (c : List HC) (p : Int) (R : Option Addr) (n q kb : Nat) (w : World) (hA : HcSl w R n q c) (hn : n ≤ 1000000) (hb : w.cell? ⟨kb, 0, none⟩ = some (.slice R n q)) :
    Calls Tryz.prog 145 #[.int .i64 p, .pointer (some ⟨kb, 0, none⟩)] w fun e w' => e = .returned (.bool (rootBad c p)) ∧ w = w' := by
  have HF := Lib.hid (fun w' => bkFrom_any 0 p ((n : Int) - 1) w')
  have hwr : IntKind.i64.wrap ((n : Int) - 1) = (n : Int) - 1 := by simp only [IntKind.wrap_i64]; omega
  unfold rootBad
  rw [← hA.1]
  by_cases h1 : p = -1
  · have d1 : (p != -1) = false := by simp [h1]
    rw [if_pos h1]
    clear hA hb
    subst h1
    go_enter Tryz.func145, Tryz.ntmps145
    go_wp2
    go_ret
    exact ⟨rfl, rfl⟩
  rw [if_neg h1]
  have d1 : (p != -1) = true := by simpa using h1
  by_cases h2 : 0 ≤ p ∧ p < n
  · rw [if_pos h2]
    obtain ⟨k, rfl⟩ : ∃ k : Nat, p = k := ⟨p.toNat, by omega⟩
    have hf : fromP 0 k ((n : Int) - 1) = true := by unfold fromP; simp; omega
    rw [hf] at HF
    have hkl : k < c.length := by rw [← hA.1]; omega
    obtain ⟨b, off, rfl, hbl, A, cc, c0, c1, c2, c3, _⟩ := hA.cell hkl
    have hg : c.getD k HC.none = c[k] := by rw [List.getD_eq_getElem?_getD, List.getElem?_eq_getElem hkl]; rfl
    rw [Int.toNat_natCast, hg]
    have h2b := h2.2
    generalize c[k].ref = r at *
    clear hA hf h1 hg c1 c2 c3
    go_enter Tryz.func145, Tryz.ntmps145
    go_wp2_with (go_at_call 131; with_reducible refine (HF.out _).mono ?_; rintro e w' ⟨rfl, rfl⟩)
    go_ret
    exact ⟨by first | rfl | (simp; done), rfl⟩
  · rw [if_neg h2]
    have hf : fromP 0 p ((n : Int) - 1) = false := by
      unfold fromP
      rw [Bool.eq_false_iff]
      intro h
      simp only [Bool.and_eq_true, decide_eq_true_eq] at h
      omega
    rw [hf] at HF
    clear hA h2 hf h1
    go_enter Tryz.func145, Tryz.ntmps145
    go_wp2_with (go_at_call 131; with_reducible refine (HF.out _).mono ?_; rintro e w' ⟨rfl, rfl⟩)
    go_ret
    exact ⟨rfl, rfl⟩
end Go.Proofs.YtnlkakbpcdfgfaaGreat
