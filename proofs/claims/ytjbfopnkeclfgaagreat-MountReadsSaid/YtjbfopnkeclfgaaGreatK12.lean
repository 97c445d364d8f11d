/- Where everything stands on a disk, and a book's blocks: the plain theory. No program in sight. Walks of Area, Base, Cells and Chunks of the reference of layer 14. What the laws of layer 14 ask of package plan; PlanRoom. -/
import Derived.Test.YtjbfopnkeclfgaaGreatK03
import Derived.Test.YtjbfopnkeclfgaaGreatRows
import Derived.Deep.QuietTactic
import Derived.BigQuiet
namespace Go.Proofs.YtjbfopnkeclfgaaGreat
set_option maxRecDepth 20000
open Go.RowKit

/-- P14.1 -/
def areaP (n : Nat) : Nat := (1670 + 2 * n) / 40
def baseP (n : Nat) : Nat := 2 + 2 * areaP n
def cellsF (b : Nat) : Nat → Nat → Nat
  | 0, n => n
  | f + 1, n => if baseP (n + 1) + n + 1 ≤ b then cellsF b f (n + 1) else n
def cellsP (b : Nat) : Nat := cellsF b 2000 0
theorem area_room (n : Nat) : 1631 + 2 * n ≤ 40 * areaP n ∧ 40 * areaP n < 1631 + 2 * n + 40 := by unfold areaP; omega
theorem cellsF_facts (b : Nat) : ∀ (f n : Nat), n ≤ cellsF b f n ∧ cellsF b f n ≤ n + f ∧ (n < cellsF b f n → baseP (cellsF b f n) + cellsF b f n ≤ b) ∧ (cellsF b f n = n + f ∨ b < baseP (cellsF b f n + 1) + cellsF b f n + 1)
  | 0, n => by
    rw [cellsF]
    exact ⟨by omega, by omega, fun h => by omega, .inl rfl⟩
  | f + 1, n => by
    rw [cellsF]
    split
    · rename_i h
      obtain ⟨h1, h2, h3, h4⟩ := cellsF_facts b f (n + 1)
      refine ⟨by omega, by omega, fun _ => ?_, ?_⟩
      · rcases Nat.lt_or_ge (n + 1) (cellsF b f (n + 1)) with g | g
        · exact h3 g
        · have e : cellsF b f (n + 1) = n + 1 := by omega
          rw [e]; omega
      · rcases h4 with h4 | h4
        · left; omega
        · right; exact h4
    · rename_i h
      exact ⟨by omega, by omega, fun h => by omega, .inr (by omega)⟩
theorem cells_facts (b : Nat) : cellsP b ≤ 2000 ∧ (0 < cellsP b → baseP (cellsP b) + cellsP b ≤ b) ∧ (cellsP b = 2000 ∨ b < baseP (cellsP b + 1) + cellsP b + 1) := by
  obtain ⟨_, h2, h3, h4⟩ := cellsF_facts b 2000 0
  unfold cellsP
  exact ⟨by omega, h3, by rcases h4 with h | h; exact .inl (by omega); exact .inr h⟩
/-- P14.1: a book's blocks. -/
abbrev Bl := List UInt8
def padB (l : Bl) : Bl := l ++ List.replicate (40 - l.length) 0
def chunkF : Nat → Bl → List Bl
  | 0, _ => []
  | f + 1, l => if l = [] then [] else padB (l.take 40) :: chunkF f (l.drop 40)
def chunksP (l : Bl) : List Bl := chunkF l.length l
theorem chunkF_fuel : ∀ (f g : Nat) (l : Bl), l.length ≤ f → l.length ≤ g → chunkF f l = chunkF g l
  | 0, 0, _, _, _ => rfl
  | 0, g + 1, l, h, _ => by
    obtain rfl : l = [] := List.eq_nil_of_length_eq_zero (by omega)
    simp [chunkF]
  | f + 1, 0, l, _, h => by
    obtain rfl : l = [] := List.eq_nil_of_length_eq_zero (by omega)
    simp [chunkF]
  | f + 1, g + 1, l, h1, h2 => by
    rw [chunkF, chunkF]
    split
    · rfl
    · rename_i hl
      have hp : 0 < l.length := by cases l with | nil => exact absurd rfl hl | cons a r => simp
      rw [chunkF_fuel f g (l.drop 40) (by simp; omega) (by simp; omega)]
theorem chunks_nil : chunksP [] = [] := rfl
theorem chunks_cons {l : Bl} (h : l ≠ []) : chunksP l = padB (l.take 40) :: chunksP (l.drop 40) := by
  have hp : 0 < l.length := by cases l with | nil => exact absurd rfl h | cons a r => simp
  unfold chunksP
  obtain ⟨k, hk⟩ : ∃ k, l.length = k + 1 := ⟨l.length - 1, by omega⟩
  rw [hk, chunkF, if_neg h]
  congr 1
  exact chunkF_fuel _ _ _ (by simp; omega) (Nat.le_refl _)
end Go.Proofs.YtjbfopnkeclfgaaGreat
namespace Go.Proofs.YtjbfopnkeclfgaaGreat
set_option maxRecDepth 20000
open Go.RowKit

set_option maxHeartbeats 800000 in
theorem ref14Area_any (n : Nat) (w : World) (hn : n ≤ 100000) :
    Calls Tryz.prog 100 #[.int .i64 n] w fun e w' => e = .returned (.int .i64 (areaP n : Nat)) ∧ w = w' := by
  have ha := area_room n
  generalize areaP n = a at *
  go_enter Tryz.func100, Tryz.ntmps100
  go_wp2_with fail
  go_loop [3] (fun k => ∃ j : Nat, j ≤ a ∧ k = .int .i64 j) (fun k => a - (intOf k).toNat)
  case atStart => exact ⟨0, Nat.zero_le _, rfl⟩
  case round =>
    obtain ⟨j, hj, rfl⟩ := hrel
    have w1 : IntKind.i64.wrap (40 * (j : Int)) = 40 * (j : Int) := by rw [IntKind.wrap_i64]; omega
    have w2 : IntKind.i64.wrap (2 * (n : Int)) = 2 * (n : Int) := by rw [IntKind.wrap_i64]; omega
    have w3 : IntKind.i64.wrap (1631 + 2 * (n : Int)) = 1631 + 2 * (n : Int) := by rw [IntKind.wrap_i64]; omega
    rcases Nat.lt_or_ge j a with hlt | hlt
    · have d1 : decide (40 * (j : Int) < 1631 + 2 * (n : Int)) = true := decide_eq_true (by omega)
      have d2 : 40 * (j : Int) < 1631 + 2 * (n : Int) := by omega
      go_wp2_with fail
      go_round
      case rel => exact ⟨j + 1, by omega, by go_num⟩
      case measure => simp [intOf]; omega
    · obtain rfl : j = a := by omega
      have d1 : decide (40 * (j : Int) < 1631 + 2 * (n : Int)) = false := decide_eq_false (by omega)
      have d2 : ¬ 40 * (j : Int) < 1631 + 2 * (n : Int) := by omega
      go_wp2_with fail
      go_ret
      exact ⟨rfl, rfl⟩
set_option maxHeartbeats 800000 in
theorem ref14Base_any (n : Nat) (w : World) (hn : n ≤ 100000) :
    Calls Tryz.prog 62 #[.int .i64 n] w fun e w' => e = .returned (.int .i64 (baseP n : Nat)) ∧ w = w' := by
  have HA := Lib.hid (ref14Area_any n w hn)
  have ha := area_room n
  unfold baseP
  generalize areaP n = a at *
  have w1 : IntKind.i64.wrap (2 * (a : Int)) = 2 * (a : Int) := by rw [IntKind.wrap_i64]; omega
  have w2 : IntKind.i64.wrap (2 + 2 * (a : Int)) = 2 + 2 * (a : Int) := by rw [IntKind.wrap_i64]; omega
  go_enter Tryz.func62, Tryz.ntmps62
  go_wp2_with (go_at_call 100; refine HA.out.mono ?_; rintro e w2 ⟨rfl, rfl⟩)
  go_ret
  exact ⟨by first | rfl | (congr 2; omega), rfl⟩
set_option maxHeartbeats 800000 in
theorem ref14Cells_any (b : Nat) (w : World) (hb : b ≤ 1000000) :
    Calls Tryz.prog 33 #[.int .i64 b] w fun e w' => e = .returned (.int .i64 (cellsP b : Nat)) ∧ w = w' := by
  go_enter Tryz.func33, Tryz.ntmps33
  go_wp2_with fail
  go_loop [3] (fun k => ∃ j : Nat, j ≤ 2000 ∧ k = .int .i64 j ∧ cellsF b (2000 - j) j = cellsP b) (fun k => 2000 - (intOf k).toNat)
  case atStart => exact ⟨0, Nat.zero_le _, rfl, rfl⟩
  case round =>
    obtain ⟨j, hj, rfl, hc⟩ := hrel
    rcases Nat.lt_or_ge j 2000 with hlt | hlt
    · obtain ⟨i, hi⟩ : ∃ i, 2000 - j = i + 1 := ⟨2000 - j - 1, by omega⟩
      have hi2 : 2000 - (j + 1) = i := by omega
      rw [hi, cellsF] at hc
      have HB := Lib.hid (ref14Base_any (j + 1) w (by omega))
      have hba := area_room (j + 1)
      have hbb : baseP (j + 1) = 2 + 2 * areaP (j + 1) := rfl
      have d0 : decide ((j : Int) < 2000) = true := decide_eq_true (by omega)
      have d1 : decide (j < 2000) = true := decide_eq_true hlt
      have HI2 := Lib.hid hi2
      clear hi hi2
      obtain ⟨B, hB⟩ : ∃ B, baseP (j + 1) = B := ⟨_, rfl⟩
      rw [hB] at hc HB hbb
      have hBb : B ≤ 1000 := by omega
      clear hB hbb hba
      by_cases hle : B + j + 1 ≤ b
      · have HC := Lib.hid (show cellsF b (2000 - (j + 1)) (j + 1) = cellsP b from by rw [HI2.out]; rw [if_pos hle] at hc; exact hc)
        have d2 : decide ((B : Int) + (j : Int) + 1 ≤ (b : Int)) = true := decide_eq_true (by omega)
        clear hc
        go_wp2_with (go_at_call 62; refine HB.out.mono ?_; rintro e w2 ⟨rfl, rfl⟩)
        go_round
        case rel => exact ⟨j + 1, by omega, by go_num, HC.out⟩
        case measure => simp [intOf]; omega
      · have HC := Lib.hid (show j = cellsP b from by rw [if_neg hle] at hc; exact hc)
        have d2 : decide ((B : Int) + (j : Int) + 1 ≤ (b : Int)) = false := decide_eq_false (by omega)
        have d3 : decide (B + j + 1 ≤ b) = false := decide_eq_false hle
        have d4 : ¬ (B : Int) + (j : Int) + 1 ≤ (b : Int) := by omega
        clear hc
        go_wp2_with (go_at_call 62; refine HB.out.mono ?_; rintro e w2 ⟨rfl, rfl⟩)
        go_ret
        exact ⟨by rw [← HC.out]; rfl, rfl⟩
    · obtain rfl : j = 2000 := by omega
      have HC := Lib.hid (show 2000 = cellsP b from hc)
      clear hc
      go_wp2_with fail
      go_ret
      exact ⟨by rw [← HC.out]; rfl, rfl⟩
theorem infoU : (Tryz.prog.info? 5).map (fun i => (i.zero, i.size, i.bytes)) = some (some (.int .u8 0), 1, 1) := by kernel_rfl
theorem infoSt : (Tryz.prog.info? 9).map (fun i => (i.zero, i.size, i.bytes)) = some (some (.string (ByteArray.mk #[])), 1, 16) := by kernel_rfl
theorem app_sv (w : World) {ops : Array Oper} {rest : List Oper} {o : Oper} {a : Act} {Q : Exit → Act → World → Prop} (hgd : o.guard = none) (s x : Operand)
    (ho : o.op = .call { callee := .builtin .append, args := #[s, x], argTypes := #[22, 22] })
    (B : Nat) (v : Value) (n : Nat) (l : List ByteArray) (hs : a.eval s = v) (hown : w.ownsRow B 9 1 v n (l.map sv))
    (A : Option Addr) (m c : Nat) (k : List ByteArray) (hx : a.eval x = .slice A m c) (hl : k.length = m) (hS : Sl w A m c (k.map sv))
    (hsz : n + m ≤ 1000000) (hB : B ≤ w.heap.size)
    (h : ∀ A' c' w', w'.ownsRow B 9 1 (.slice A' (n + m) c') (n + m) ((l ++ k).map sv) → w.grownBy w' v.ownBlock → wpList Tryz.prog ops Q rest (a.put o.dst (.slice A' (n + m) c')) w') : wpList Tryz.prog ops Q (o :: rest) a w := by
  refine wpList_app_sl w hgd s x 22 ho B 9 (.string (ByteArray.mk #[])) 1 16 Tryz.underlying22 infoSt rfl (by omega) v n (l.map sv) hs hown A m c (k.map sv) hx (by simp [hl]) hS (svs_oneCell k) (by unfold maxLen; omega) (by omega) hB ?_
  intro A' c' w' h1 h2
  rw [← List.map_append] at h1
  exact h A' c' w' h1 h2
theorem own_setU {w : World} {B e n g cap : Nat} {xs : List Value} (h : w.ownsRow B e 1 (.slice (some ⟨g, 0, none⟩) n cap) n xs) {j : Nat} (u : Value) :
    (w.setCell ⟨g, j, none⟩ u).ownsRow B e 1 (.slice (some ⟨g, 0, none⟩) n cap) n (xs.set j u) := by
  refine ⟨by rw [List.length_set]; exact h.1, ?_⟩
  rcases h.2 with ⟨e0, _⟩ | ⟨g', cap', cur, e0, hg, hh, hnc, hcm, hsz, ht⟩
  · cases e0
  · cases e0
    refine .inr ⟨g, cap, _, rfl, hg, heap_setCell_same w g j cur e u hh, hnc, hcm, by simp [hsz], ?_⟩
    rw [Array.toList_setIfInBounds, List.take_set, ht]
theorem own_freeU {w : World} {B e s n g cap : Nat} {xs : List Value} (h : w.ownsRow B e s (.slice (some ⟨g, 0, none⟩) n cap) n xs) (j : Nat) : w.frozen? ⟨g, j, none⟩ = false := by
  rcases h.2 with ⟨e0, _⟩ | ⟨g', cap', cur, e0, hg, hh, _⟩
  · cases e0
  · cases e0
    exact Bx.free ⟨_, hh⟩ j
abbrev txP (s : ByteArray) : Bl := s.data.toList
/-- A block on its way: so many bytes of it are there. -/
def partB (l : Bl) (k : Nat) : Bl := l.take k ++ List.replicate (40 - k) 0
theorem partB_len {l : Bl} {k : Nat} (h : k ≤ l.length) (h4 : k ≤ 40) : (partB l k).length = 40 := by unfold partB; simp; omega
theorem partB_set {l : Bl} {k : Nat} (h : k < l.length) (h4 : k < 40) : (partB l k).set k l[k] = partB l (k + 1) := by
  unfold partB
  obtain ⟨r, hr⟩ : ∃ r, 40 - k = r + 1 := ⟨40 - k - 1, by omega⟩
  rw [hr, List.replicate_succ, List.set_append_right _ _ (by simp; omega), show k - (l.take k).length = 0 by simp; omega, List.set_cons_zero, List.take_succ_eq_append_getElem h, List.append_assoc, show 40 - (k + 1) = r by omega]
  rfl
theorem partB_end {l : Bl} {k : Nat} (h : k = min 40 l.length) : partB l k = padB (l.take 40) := by
  subst h
  unfold partB padB
  congr 1
  · rcases Nat.lt_or_ge 40 l.length with g | g
    · rw [Nat.min_eq_left (by omega)]
    · rw [Nat.min_eq_right g, List.take_length, List.take_of_length_le g]
  · rw [List.length_take]
theorem slU_lit {w : World} {z : Nat} (hz : z = w.heap.size) (e n : Nat) (xs : List Value) (hn : n ≤ maxLen) : Sl (w.alloc (.cells xs.toArray e)) (some ⟨z, 0, none⟩) n n xs := by subst hz; exact sl_lit w e n xs hn
theorem own_40 (w : World) : (w.alloc (.cells (madeCells (Value.int .u8 0).cells (40 * 1)) 5)).ownsRow w.heap.size 5 1 (.slice (some ⟨w.heap.size, 0, none⟩) 40 40) 40 ((List.replicate 40 (0 : UInt8)).map bv) :=
  ⟨by simp, .inr ⟨w.heap.size, 40, _, rfl, Nat.le_refl _, heap_alloc_new w _, Nat.le_refl _, by unfold maxLen; omega, by simp [madeCells], by simp [madeCells, bv]; rfl⟩⟩
theorem byte_at {w : World} {A : Option Addr} {l : Bl} (h : Cells w A (l.map bv)) {k : Nat} (hk : k < l.length) : ∃ b off, A = some ⟨b, off, none⟩ ∧ b < w.heap.size ∧ w.cell? ⟨b, off + k, none⟩ = some (.int .u8 (l[k].toNat : Int)) := by
  obtain ⟨b, off, rfl, hlt, hc⟩ := h (by intro e; rw [List.map_eq_nil_iff] at e; subst e; simp at hk)
  exact ⟨b, off, rfl, hlt, hc k _ (by simp [hk, bv])⟩
theorem conv_40 (w : World) (B g : Nat) (l : Bl) (hl : l.length = 40) (h : w.ownsRow B 5 1 (.slice (some ⟨g, 0, none⟩) 40 40) 40 (l.map bv)) : (convert 68 9 (.slice (some ⟨g, 0, none⟩) 40 40)).run Tryz.prog w = .ok (.string ⟨l.toArray⟩) w := by
  have h2 := run_convert_bytes_back (P := Tryz.prog) w 68 9 5 ⟨g, 0, none⟩ 40 l Tryz.underlying68 Tryz.underlying5 Tryz.underlying9 (fun j hj => by
    rw [Addr.add_lit, Nat.zero_add, h.cellAt j (by omega)]
    simp [hj, bv])
  rw [hl] at h2
  exact h2
set_option maxRecDepth 100000 in
set_option maxHeartbeats 1600000 in
theorem ref14Chunks_any (A : Option Addr) (l : Bl) (n c : Nat) (w : World) (hn : n = l.length) (hb : n ≤ 100000) (hA : Sl w A n c (l.map bv)) :
    Calls Tryz.prog 104 #[.slice A n c] w fun e w' => ∃ (B : Option Addr) (d : Nat) (L : List ByteArray), e = .returned (.slice B (chunksP l).length d) ∧ Sl w' B (chunksP l).length d (L.map sv) ∧ L.map txP = chunksP l ∧ Ext w w' := by
  have HA := Lib.hid hA.cells
  have HN := Lib.hid hn
  clear hA hn
  obtain ⟨i0, hi, hz0, hz1, hz2⟩ := info_parts infoU
  go_enter Tryz.func104, Tryz.ntmps104
  go_wp2_with fail
  go_loopw [3, 4] (fun o i wr => ∃ k : Nat, ∃ L : List ByteArray, ∃ O oc, i = .int .i64 k ∧ L.map txP ++ chunksP (l.drop k) = chunksP l ∧ k ≤ n + 40 ∧ o = .slice O L.length oc ∧ L.length ≤ k ∧ wr.ownsRow w.heap.size 9 1 (.slice O L.length oc) L.length (L.map sv) ∧ Ext w wr) (fun _ i _ => n - (intOf i).toNat)
  case atStart => exact ⟨0, [], none, 0, rfl, rfl, by omega, rfl, Nat.le_refl _, World.ownsRow_nil _ _ _ _, Ext.refl w⟩
  case round =>
    obtain ⟨k, L, O, oc, rfl, hL, hk, rfl, hLk, ho, hx⟩ := hrel
    have HL := Lib.hid hL
    have HO := Lib.hid ho
    have HX := Lib.hid hx
    clear hL ho hx
    rcases Nat.lt_or_ge k n with hlt | hlt
    · have hki : (k : Int) < (n : Int) := by omega
      generalize wr = wq at *
      clear wr
      go_wp2_with (at_make; refine stop_here ?_)
      refine stop_on ?_
      refine wpList_make_cap _ rfl _ _ 68 rfl 5 i0 _ Tryz.underlying68 hi hz0 _ _ _ _ 40 40 rfl rfl (by omega) (by omega) (by omega) (by rw [hz2]; omega) (by unfold maxLen; omega) ?_
      rw [hz1]
      have HO0 := Lib.hid (own_40 wq)
      have HX0 := Lib.hid ((Ext.refl wq).alloc (.cells (madeCells (Value.int .u8 0).cells (40 * 1)) 5))
      generalize hW : World.alloc wq (.cells (madeCells (Value.int .u8 0).cells (40 * 1)) 5) = W at *
      clear hW
      have HNE := Lib.hid (show l.drop k ≠ [] from fun e => by have h := congrArg List.length e; rw [List.length_drop, ← HN.out] at h; simp at h; omega)
      obtain ⟨M, hM⟩ : ∃ M, min 40 (n - k) = M := ⟨_, rfl⟩
      have hM40 : M ≤ 40 := by omega
      have hMn : k + M ≤ n := by omega
      have hMe : M = 40 ∨ k + M = n := by omega
      clear hM
      go_wp2_with fail
      go_loopw [6] (fun jv wj => ∃ j : Nat, jv = .int .i64 j ∧ j ≤ M ∧ wj.ownsRow wq.heap.size 5 1 (.slice (some ⟨wq.heap.size, 0, none⟩) 40 40) 40 ((partB (l.drop k) j).map bv) ∧ Ext wq wj) (fun jv _ => M - (intOf jv).toNat)
      case atStart => exact ⟨0, rfl, Nat.zero_le _, HO0.out, HX0.out⟩
      case round =>
        obtain ⟨j, rfl, hj, hoj, hxj⟩ := hrel
        have HOJ := Lib.hid hoj
        have HXJ := Lib.hid hxj
        clear hoj hxj
        have w1 : IntKind.i64.wrap ((k : Int) + (j : Int)) = (k : Int) + (j : Int) := by rw [IntKind.wrap_i64]; omega
        have w2 : ((k : Int) + (j : Int)).toNat = k + j := by omega
        rcases Nat.lt_or_ge j M with hjM | hjM
        · have hjl : k + j < l.length := by rw [← HN.out]; omega
          have hjd : j < (l.drop k).length := by rw [List.length_drop]; omega
          obtain ⟨b, off, rfl, hbl, hcb⟩ := byte_at (HA.out.ext (HX.out.trans HXJ.out)) hjl
          have HST := Lib.hid (partB_set (l := l.drop k) hjd (by omega))
          have HGE := Lib.hid (show (l.drop k)[j] = l[k + j] from by rw [List.getElem_drop])
          rw [HGE.out] at HST
          have j1 : (j : Int) < 40 := by omega
          have j2 : decide (j < 40) = true := decide_eq_true (by omega)
          have j3 : (k : Int) + (j : Int) < (n : Int) := by omega
          have j4 : decide (k + j < n) = true := decide_eq_true (by omega)
          have j5 : decide ((k : Int) + (j : Int) < (n : Int)) = true := decide_eq_true j3
          have f0 := own_freeU HOJ.out j
          have f1 := HOJ.out.cellAt j (by omega)
          have HOS := Lib.hid (own_setU (j := j) HOJ.out (bv l[k + j]))
          have HMS := Lib.hid (show ((partB (l.drop k) j).map bv).set j (bv l[k + j]) = (partB (l.drop k) (j + 1)).map bv from by rw [← HST.out, List.map_set])
          rw [HMS.out] at HOS
          obtain ⟨v0, hv0⟩ : ∃ v, ((partB (l.drop k) j).map bv)[j]? = some v := ⟨_, List.getElem?_eq_getElem (by rw [List.length_map, partB_len (by omega) (by omega)]; omega)⟩
          rw [hv0] at f1
          have HXS := Lib.hid (HXJ.out.set (p := ⟨wq.heap.size, j, none⟩) (by simp) (bv l[k + j]))
          unfold bv at HOS HXS
          clear hv0 HGE HST HMS
          go_wp2_with fail
          go_roundw
          case rel => exact ⟨j + 1, by go_num, by omega, HOS.out, HXS.out⟩
          case measure => simp [intOf]; omega
        · obtain rfl : j = M := by omega
          rcases Nat.lt_or_ge j 40 with h40 | h40
          · have hkn : k + j = n := by omega
            have j1 : (j : Int) < 40 := by omega
            have j2 : decide (j < 40) = true := decide_eq_true (by omega)
            have j3 : ¬ (k : Int) + (j : Int) < (n : Int) := by omega
            have j4 : decide (k + j < n) = false := decide_eq_false (by omega)
            have j5 : decide ((k : Int) + (j : Int) < (n : Int)) = false := decide_eq_false j3
            clear hkn
            have HCV := Lib.hid (conv_40 wr wq.heap.size wq.heap.size _ (partB_len (l := l.drop k) (k := j) (by rw [List.length_drop, ← HN.out]; omega) (by omega)) HOJ.out)
            have HPB := Lib.hid (partB_end (l := l.drop k) (k := j) (by rw [List.length_drop, ← HN.out]; omega))
            have hcv := HCV.out
            rw [HPB.out] at hcv
            have HS := Lib.hid (show (L ++ [(⟨(padB ((l.drop k).take 40)).toArray⟩ : ByteArray)]).map txP ++ chunksP (l.drop (k + 40)) = chunksP l from by
              rw [List.map_append, List.append_assoc, ← HL.out, chunks_cons (l := l.drop k) HNE.out, List.drop_drop]
              simp [txP])
            clear HCV
            generalize (⟨(padB ((l.drop k).take 40)).toArray⟩ : ByteArray) = sx at *
            go_wp2_with (at_builtin; refine stop_here ?_)
            refine stop_on ?_
            refine app_sv _ rfl _ _ rfl w.heap.size _ L.length L rfl (own_ext HO.out (HXJ.out.trans ((Ext.refl wr).alloc _))) (some ⟨wr.heap.size, 0, none⟩) 1 1 [sx] rfl rfl (slU_lit rfl _ 1 [sv sx] (by unfold maxLen; omega)) (by omega) (by have := HX.out.size; have := HXJ.out.size; simp; omega) ?_
            intro A5 c5 w5 hown hg
            have X5 := Lib.hid (show Ext w w5 from Below.grown ((HX.out.trans HXJ.out).alloc (.cells #[sv sx] 9)) hg (by have := HX.out.size; have := HXJ.out.size; simp; omega) (fun q hq => (HO.out.lt q hq).1))
            have O5 := Lib.hid hown
            have HLL := Lib.hid (show (L ++ [sx]).length = L.length + 1 from by simp)
            clear hown hg
            go_wp2_with fail
            go_roundw
            case rel => exact ⟨k + 40, L ++ [sx], A5, c5, by go_num, HS.out, by omega, by rw [HLL.out], by rw [HLL.out]; omega, by rw [HLL.out]; exact O5.out, X5.out⟩
            case measure => simp [intOf]; omega
          · have j1 : ¬ (j : Int) < 40 := by omega
            have j2 : decide (j < 40) = false := decide_eq_false (by omega)
            have j5 : decide ((j : Int) < 40) = false := decide_eq_false j1
            have HCV := Lib.hid (conv_40 wr wq.heap.size wq.heap.size _ (partB_len (l := l.drop k) (k := j) (by rw [List.length_drop, ← HN.out]; omega) (by omega)) HOJ.out)
            have HPB := Lib.hid (partB_end (l := l.drop k) (k := j) (by rw [List.length_drop, ← HN.out]; omega))
            have hcv := HCV.out
            rw [HPB.out] at hcv
            have HS := Lib.hid (show (L ++ [(⟨(padB ((l.drop k).take 40)).toArray⟩ : ByteArray)]).map txP ++ chunksP (l.drop (k + 40)) = chunksP l from by
              rw [List.map_append, List.append_assoc, ← HL.out, chunks_cons (l := l.drop k) HNE.out, List.drop_drop]
              simp [txP])
            clear HCV
            generalize (⟨(padB ((l.drop k).take 40)).toArray⟩ : ByteArray) = sx at *
            go_wp2_with (at_builtin; refine stop_here ?_)
            refine stop_on ?_
            refine app_sv _ rfl _ _ rfl w.heap.size _ L.length L rfl (own_ext HO.out (HXJ.out.trans ((Ext.refl wr).alloc _))) (some ⟨wr.heap.size, 0, none⟩) 1 1 [sx] rfl rfl (slU_lit rfl _ 1 [sv sx] (by unfold maxLen; omega)) (by omega) (by have := HX.out.size; have := HXJ.out.size; simp; omega) ?_
            intro A5 c5 w5 hown hg
            have X5 := Lib.hid (show Ext w w5 from Below.grown ((HX.out.trans HXJ.out).alloc (.cells #[sv sx] 9)) hg (by have := HX.out.size; have := HXJ.out.size; simp; omega) (fun q hq => (HO.out.lt q hq).1))
            have O5 := Lib.hid hown
            have HLL := Lib.hid (show (L ++ [sx]).length = L.length + 1 from by simp)
            clear hown hg
            go_wp2_with fail
            go_roundw
            case rel => exact ⟨k + 40, L ++ [sx], A5, c5, by go_num, HS.out, by omega, by rw [HLL.out], by rw [HLL.out]; omega, by rw [HLL.out]; exact O5.out, X5.out⟩
            case measure => simp [intOf]; omega
    · have hki : ¬ (k : Int) < (n : Int) := by omega
      have hd : l.drop k = [] := List.drop_eq_nil_of_le (by rw [← HN.out]; exact hlt)
      have HE := Lib.hid (show L.map txP = chunksP l from by rw [← HL.out, hd, chunks_nil, List.append_nil])
      have HLE := Lib.hid (show (chunksP l).length = L.length from by rw [← HE.out, List.length_map])
      have d1 : decide ((k : Int) < (n : Int)) = false := decide_eq_false hki
      clear hd
      go_wp2_with fail
      go_ret
      exact ⟨O, oc, by rw [HLE.out]; rfl, L, by rw [HLE.out]; exact own_sl HO.out, HE.out, HX.out⟩
end Go.Proofs.YtjbfopnkeclfgaaGreat
namespace Go.Proofs.YtjbfopnkeclfgaaGreat
set_option maxRecDepth 20000
open Go.RowKit

end Go.Proofs.YtjbfopnkeclfgaaGreat
