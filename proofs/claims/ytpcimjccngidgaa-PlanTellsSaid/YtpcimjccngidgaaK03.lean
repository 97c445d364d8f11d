/- Walks of Area, Base, Cells and Chunks of the reference of layer 14. What the laws of layer 14 ask of package plan; PlanRoom. Walks of the small functions of package num and of the reference: isWidth, limit, xor, fold. Walks of Take, Sum and Row. Walks of Take. Rows of bytes that are compared. -/
import Derived.Test.YtpcimjccngidgaaK02
import Derived.Test.YtpcimjccngidgaaRows
import Derived.Deep.QuietTactic
import Derived.BigQuiet
import Derived.Test.YtpcimjccngidgaaK01
import Derived.WalkKit
import Derived.WalkSpells
import Derived.WalkLawsBesides
import Derived.Lib.Hide
namespace Go.Proofs.Ytpcimjccngidgaa
set_option maxRecDepth 20000
open Go.RowKit

set_option maxHeartbeats 800000 in
theorem ref14Area_any (n : Nat) (w : World) (hn : n ≤ 100000) :
    Calls Try.prog 10 #[.int .i64 n] w fun e w' => e = .returned (.int .i64 (areaP n : Nat)) ∧ w = w' := by
  have ha := area_room n
  generalize areaP n = a at *
  go_enter Try.func10, Try.ntmps10
  go_wp2_with fail
  go_loop [3] (fun k => ∃ j : Nat, j ≤ a ∧ k = .int .i64 j) (fun k => a - (intOf k).toNat)
  case atStart => exact ⟨0, Nat.zero_le _, rfl⟩
  case round =>
    obtain ⟨j, hj, rfl⟩ := hrel
    have w1 : IntKind.i64.wrap (40 * (j : Int)) = 40 * (j : Int) := by rw [IntKind.wrap_i64]; omega
    have w2 : IntKind.i64.wrap (2 * (n : Int)) = 2 * (n : Int) := by rw [IntKind.wrap_i64]; omega
    have w3 : IntKind.i64.wrap (1631 + 2 * (n : Int)) = 1631 + 2 * (n : Int) := by rw [IntKind.wrap_i64]; omega
    rcases Nat.lt_or_ge j a with hlt | hlt
    · have d1 : decide (40 * (j : Int) < 1631 + 2 * (n : Int)) = true := decide_eq_true (by omega)
      have d2 : 40 * (j : Int) < 1631 + 2 * (n : Int) := by omega
      go_wp2_with fail
      go_round
      case rel => exact ⟨j + 1, by omega, by go_num⟩
      case measure => simp [intOf]; omega
    · obtain rfl : j = a := by omega
      have d1 : decide (40 * (j : Int) < 1631 + 2 * (n : Int)) = false := decide_eq_false (by omega)
      have d2 : ¬ 40 * (j : Int) < 1631 + 2 * (n : Int) := by omega
      go_wp2_with fail
      go_ret
      exact ⟨rfl, rfl⟩
set_option maxHeartbeats 800000 in
theorem ref14Base_any (n : Nat) (w : World) (hn : n ≤ 100000) :
    Calls Try.prog 12 #[.int .i64 n] w fun e w' => e = .returned (.int .i64 (baseP n : Nat)) ∧ w = w' := by
  have HA := Lib.hid (ref14Area_any n w hn)
  have ha := area_room n
  unfold baseP
  generalize areaP n = a at *
  have w1 : IntKind.i64.wrap (2 * (a : Int)) = 2 * (a : Int) := by rw [IntKind.wrap_i64]; omega
  have w2 : IntKind.i64.wrap (2 + 2 * (a : Int)) = 2 + 2 * (a : Int) := by rw [IntKind.wrap_i64]; omega
  go_enter Try.func12, Try.ntmps12
  go_wp2_with (go_at_call 10; refine HA.out.mono ?_; rintro e w2 ⟨rfl, rfl⟩)
  go_ret
  exact ⟨by first | rfl | (congr 2; omega), rfl⟩
set_option maxHeartbeats 800000 in
theorem ref14Cells_any (b : Nat) (w : World) (hb : b ≤ 1000000) :
    Calls Try.prog 14 #[.int .i64 b] w fun e w' => e = .returned (.int .i64 (cellsP b : Nat)) ∧ w = w' := by
  go_enter Try.func14, Try.ntmps14
  go_wp2_with fail
  go_loop [3] (fun k => ∃ j : Nat, j ≤ 2000 ∧ k = .int .i64 j ∧ cellsF b (2000 - j) j = cellsP b) (fun k => 2000 - (intOf k).toNat)
  case atStart => exact ⟨0, Nat.zero_le _, rfl, rfl⟩
  case round =>
    obtain ⟨j, hj, rfl, hc⟩ := hrel
    rcases Nat.lt_or_ge j 2000 with hlt | hlt
    · obtain ⟨i, hi⟩ : ∃ i, 2000 - j = i + 1 := ⟨2000 - j - 1, by omega⟩
      have hi2 : 2000 - (j + 1) = i := by omega
      rw [hi, cellsF] at hc
      have HB := Lib.hid (ref14Base_any (j + 1) w (by omega))
      have hba := area_room (j + 1)
      have hbb : baseP (j + 1) = 2 + 2 * areaP (j + 1) := rfl
      have d0 : decide ((j : Int) < 2000) = true := decide_eq_true (by omega)
      have d1 : decide (j < 2000) = true := decide_eq_true hlt
      have HI2 := Lib.hid hi2
      clear hi hi2
      obtain ⟨B, hB⟩ : ∃ B, baseP (j + 1) = B := ⟨_, rfl⟩
      rw [hB] at hc HB hbb
      have hBb : B ≤ 1000 := by omega
      clear hB hbb hba
      by_cases hle : B + j + 1 ≤ b
      · have HC := Lib.hid (show cellsF b (2000 - (j + 1)) (j + 1) = cellsP b from by rw [HI2.out]; rw [if_pos hle] at hc; exact hc)
        have d2 : decide ((B : Int) + (j : Int) + 1 ≤ (b : Int)) = true := decide_eq_true (by omega)
        clear hc
        go_wp2_with (go_at_call 12; refine HB.out.mono ?_; rintro e w2 ⟨rfl, rfl⟩)
        go_round
        case rel => exact ⟨j + 1, by omega, by go_num, HC.out⟩
        case measure => simp [intOf]; omega
      · have HC := Lib.hid (show j = cellsP b from by rw [if_neg hle] at hc; exact hc)
        have d2 : decide ((B : Int) + (j : Int) + 1 ≤ (b : Int)) = false := decide_eq_false (by omega)
        have d3 : decide (B + j + 1 ≤ b) = false := decide_eq_false hle
        have d4 : ¬ (B : Int) + (j : Int) + 1 ≤ (b : Int) := by omega
        clear hc
        go_wp2_with (go_at_call 12; refine HB.out.mono ?_; rintro e w2 ⟨rfl, rfl⟩)
        go_ret
        exact ⟨by rw [← HC.out]; rfl, rfl⟩
    · obtain rfl : j = 2000 := by omega
      have HC := Lib.hid (show 2000 = cellsP b from hc)
      clear hc
      go_wp2_with fail
      go_ret
      exact ⟨by rw [← HC.out]; rfl, rfl⟩
theorem infoU : (Try.prog.info? 5).map (fun i => (i.zero, i.size, i.bytes)) = some (some (.int .u8 0), 1, 1) := by kernel_rfl
theorem infoSt : (Try.prog.info? 9).map (fun i => (i.zero, i.size, i.bytes)) = some (some (.string (ByteArray.mk #[])), 1, 16) := by kernel_rfl
theorem app_sv (w : World) {ops : Array Oper} {rest : List Oper} {o : Oper} {a : Act} {Q : Exit → Act → World → Prop} (hgd : o.guard = none) (s x : Operand)
    (ho : o.op = .call { callee := .builtin .append, args := #[s, x], argTypes := #[25, 25] })
    (B : Nat) (v : Value) (n : Nat) (l : List ByteArray) (hs : a.eval s = v) (hown : w.ownsRow B 9 1 v n (l.map sv))
    (A : Option Addr) (m c : Nat) (k : List ByteArray) (hx : a.eval x = .slice A m c) (hl : k.length = m) (hS : Sl w A m c (k.map sv))
    (hsz : n + m ≤ 1000000) (hB : B ≤ w.heap.size)
    (h : ∀ A' c' w', w'.ownsRow B 9 1 (.slice A' (n + m) c') (n + m) ((l ++ k).map sv) → w.grownBy w' v.ownBlock → wpList Try.prog ops Q rest (a.put o.dst (.slice A' (n + m) c')) w') : wpList Try.prog ops Q (o :: rest) a w := by
  refine wpList_app_sl w hgd s x 25 ho B 9 (.string (ByteArray.mk #[])) 1 16 Try.underlying25 infoSt rfl (by omega) v n (l.map sv) hs hown A m c (k.map sv) hx (by simp [hl]) hS (svs_oneCell k) (by unfold maxLen; omega) (by omega) hB ?_
  intro A' c' w' h1 h2
  rw [← List.map_append] at h1
  exact h A' c' w' h1 h2
theorem own_setU {w : World} {B e n g cap : Nat} {xs : List Value} (h : w.ownsRow B e 1 (.slice (some ⟨g, 0, none⟩) n cap) n xs) {j : Nat} (u : Value) :
    (w.setCell ⟨g, j, none⟩ u).ownsRow B e 1 (.slice (some ⟨g, 0, none⟩) n cap) n (xs.set j u) := by
  refine ⟨by rw [List.length_set]; exact h.1, ?_⟩
  rcases h.2 with ⟨e0, _⟩ | ⟨g', cap', cur, e0, hg, hh, hnc, hcm, hsz, ht⟩
  · cases e0
  · cases e0
    refine .inr ⟨g, cap, _, rfl, hg, heap_setCell_same w g j cur e u hh, hnc, hcm, by simp [hsz], ?_⟩
    rw [Array.toList_setIfInBounds, List.take_set, ht]
theorem own_freeU {w : World} {B e s n g cap : Nat} {xs : List Value} (h : w.ownsRow B e s (.slice (some ⟨g, 0, none⟩) n cap) n xs) (j : Nat) : w.frozen? ⟨g, j, none⟩ = false := by
  rcases h.2 with ⟨e0, _⟩ | ⟨g', cap', cur, e0, hg, hh, _⟩
  · cases e0
  · cases e0
    exact Bx.free ⟨_, hh⟩ j
abbrev txP (s : ByteArray) : Bl := s.data.toList
/-- A block on its way: so many bytes of it are there. -/
def partB (l : Bl) (k : Nat) : Bl := l.take k ++ List.replicate (40 - k) 0
theorem partB_len {l : Bl} {k : Nat} (h : k ≤ l.length) (h4 : k ≤ 40) : (partB l k).length = 40 := by unfold partB; simp; omega
theorem partB_set {l : Bl} {k : Nat} (h : k < l.length) (h4 : k < 40) : (partB l k).set k l[k] = partB l (k + 1) := by
  unfold partB
  obtain ⟨r, hr⟩ : ∃ r, 40 - k = r + 1 := ⟨40 - k - 1, by omega⟩
  rw [hr, List.replicate_succ, List.set_append_right _ _ (by simp; omega), show k - (l.take k).length = 0 by simp; omega, List.set_cons_zero, List.take_succ_eq_append_getElem h, List.append_assoc, show 40 - (k + 1) = r by omega]
  rfl
theorem partB_end {l : Bl} {k : Nat} (h : k = min 40 l.length) : partB l k = padB (l.take 40) := by
  subst h
  unfold partB padB
  congr 1
  · rcases Nat.lt_or_ge 40 l.length with g | g
    · rw [Nat.min_eq_left (by omega)]
    · rw [Nat.min_eq_right g, List.take_length, List.take_of_length_le g]
  · rw [List.length_take]
theorem slU_lit {w : World} {z : Nat} (hz : z = w.heap.size) (e n : Nat) (xs : List Value) (hn : n ≤ maxLen) : Sl (w.alloc (.cells xs.toArray e)) (some ⟨z, 0, none⟩) n n xs := by subst hz; exact sl_lit w e n xs hn
theorem own_40 (w : World) : (w.alloc (.cells (madeCells (Value.int .u8 0).cells (40 * 1)) 5)).ownsRow w.heap.size 5 1 (.slice (some ⟨w.heap.size, 0, none⟩) 40 40) 40 ((List.replicate 40 (0 : UInt8)).map bv) :=
  ⟨by simp, .inr ⟨w.heap.size, 40, _, rfl, Nat.le_refl _, heap_alloc_new w _, Nat.le_refl _, by unfold maxLen; omega, by simp [madeCells], by simp [madeCells, bv]; rfl⟩⟩
theorem byte_at {w : World} {A : Option Addr} {l : Bl} (h : Cells w A (l.map bv)) {k : Nat} (hk : k < l.length) : ∃ b off, A = some ⟨b, off, none⟩ ∧ b < w.heap.size ∧ w.cell? ⟨b, off + k, none⟩ = some (.int .u8 (l[k].toNat : Int)) := by
  obtain ⟨b, off, rfl, hlt, hc⟩ := h (by intro e; rw [List.map_eq_nil_iff] at e; subst e; simp at hk)
  exact ⟨b, off, rfl, hlt, hc k _ (by simp [hk, bv])⟩
theorem conv_40 (w : World) (B g : Nat) (l : Bl) (hl : l.length = 40) (h : w.ownsRow B 5 1 (.slice (some ⟨g, 0, none⟩) 40 40) 40 (l.map bv)) : (convert 23 9 (.slice (some ⟨g, 0, none⟩) 40 40)).run Try.prog w = .ok (.string ⟨l.toArray⟩) w := by
  have h2 := run_convert_bytes_back (P := Try.prog) w 23 9 5 ⟨g, 0, none⟩ 40 l Try.underlying23 Try.underlying5 Try.underlying9 (fun j hj => by
    rw [Addr.add_lit, Nat.zero_add, h.cellAt j (by omega)]
    simp [hj, bv])
  rw [hl] at h2
  exact h2
set_option maxRecDepth 100000 in
set_option maxHeartbeats 1600000 in
theorem ref14Chunks_any (A : Option Addr) (l : Bl) (n c : Nat) (w : World) (hn : n = l.length) (hb : n ≤ 100000) (hA : Sl w A n c (l.map bv)) :
    Calls Try.prog 8 #[.slice A n c] w fun e w' => ∃ (B : Option Addr) (d : Nat) (L : List ByteArray), e = .returned (.slice B (chunksP l).length d) ∧ Sl w' B (chunksP l).length d (L.map sv) ∧ L.map txP = chunksP l ∧ Ext w w' := by
  have HA := Lib.hid hA.cells
  have HN := Lib.hid hn
  clear hA hn
  obtain ⟨i0, hi, hz0, hz1, hz2⟩ := info_parts infoU
  go_enter Try.func8, Try.ntmps8
  go_wp2_with fail
  go_loopw [3, 4] (fun o i wr => ∃ k : Nat, ∃ L : List ByteArray, ∃ O oc, i = .int .i64 k ∧ L.map txP ++ chunksP (l.drop k) = chunksP l ∧ k ≤ n + 40 ∧ o = .slice O L.length oc ∧ L.length ≤ k ∧ wr.ownsRow w.heap.size 9 1 (.slice O L.length oc) L.length (L.map sv) ∧ Ext w wr) (fun _ i _ => n - (intOf i).toNat)
  case atStart => exact ⟨0, [], none, 0, rfl, rfl, by omega, rfl, Nat.le_refl _, World.ownsRow_nil _ _ _ _, Ext.refl w⟩
  case round =>
    obtain ⟨k, L, O, oc, rfl, hL, hk, rfl, hLk, ho, hx⟩ := hrel
    have HL := Lib.hid hL
    have HO := Lib.hid ho
    have HX := Lib.hid hx
    clear hL ho hx
    rcases Nat.lt_or_ge k n with hlt | hlt
    · have hki : (k : Int) < (n : Int) := by omega
      generalize wr = wq at *
      clear wr
      go_wp2_with (at_make; refine stop_here ?_)
      refine stop_on ?_
      refine wpList_make_cap _ rfl _ _ 23 rfl 5 i0 _ Try.underlying23 hi hz0 _ _ _ _ 40 40 rfl rfl (by omega) (by omega) (by omega) (by rw [hz2]; omega) (by unfold maxLen; omega) ?_
      rw [hz1]
      have HO0 := Lib.hid (own_40 wq)
      have HX0 := Lib.hid ((Ext.refl wq).alloc (.cells (madeCells (Value.int .u8 0).cells (40 * 1)) 5))
      generalize hW : World.alloc wq (.cells (madeCells (Value.int .u8 0).cells (40 * 1)) 5) = W at *
      clear hW
      have HNE := Lib.hid (show l.drop k ≠ [] from fun e => by have h := congrArg List.length e; rw [List.length_drop, ← HN.out] at h; simp at h; omega)
      obtain ⟨M, hM⟩ : ∃ M, min 40 (n - k) = M := ⟨_, rfl⟩
      have hM40 : M ≤ 40 := by omega
      have hMn : k + M ≤ n := by omega
      have hMe : M = 40 ∨ k + M = n := by omega
      clear hM
      go_wp2_with fail
      go_loopw [6] (fun jv wj => ∃ j : Nat, jv = .int .i64 j ∧ j ≤ M ∧ wj.ownsRow wq.heap.size 5 1 (.slice (some ⟨wq.heap.size, 0, none⟩) 40 40) 40 ((partB (l.drop k) j).map bv) ∧ Ext wq wj) (fun jv _ => M - (intOf jv).toNat)
      case atStart => exact ⟨0, rfl, Nat.zero_le _, HO0.out, HX0.out⟩
      case round =>
        obtain ⟨j, rfl, hj, hoj, hxj⟩ := hrel
        have HOJ := Lib.hid hoj
        have HXJ := Lib.hid hxj
        clear hoj hxj
        have w1 : IntKind.i64.wrap ((k : Int) + (j : Int)) = (k : Int) + (j : Int) := by rw [IntKind.wrap_i64]; omega
        have w2 : ((k : Int) + (j : Int)).toNat = k + j := by omega
        rcases Nat.lt_or_ge j M with hjM | hjM
        · have hjl : k + j < l.length := by rw [← HN.out]; omega
          have hjd : j < (l.drop k).length := by rw [List.length_drop]; omega
          obtain ⟨b, off, rfl, hbl, hcb⟩ := byte_at (HA.out.ext (HX.out.trans HXJ.out)) hjl
          have HST := Lib.hid (partB_set (l := l.drop k) hjd (by omega))
          have HGE := Lib.hid (show (l.drop k)[j] = l[k + j] from by rw [List.getElem_drop])
          rw [HGE.out] at HST
          have j1 : (j : Int) < 40 := by omega
          have j2 : decide (j < 40) = true := decide_eq_true (by omega)
          have j3 : (k : Int) + (j : Int) < (n : Int) := by omega
          have j4 : decide (k + j < n) = true := decide_eq_true (by omega)
          have j5 : decide ((k : Int) + (j : Int) < (n : Int)) = true := decide_eq_true j3
          have f0 := own_freeU HOJ.out j
          have f1 := HOJ.out.cellAt j (by omega)
          have HOS := Lib.hid (own_setU (j := j) HOJ.out (bv l[k + j]))
          have HMS := Lib.hid (show ((partB (l.drop k) j).map bv).set j (bv l[k + j]) = (partB (l.drop k) (j + 1)).map bv from by rw [← HST.out, List.map_set])
          rw [HMS.out] at HOS
          obtain ⟨v0, hv0⟩ : ∃ v, ((partB (l.drop k) j).map bv)[j]? = some v := ⟨_, List.getElem?_eq_getElem (by rw [List.length_map, partB_len (by omega) (by omega)]; omega)⟩
          rw [hv0] at f1
          have HXS := Lib.hid (HXJ.out.set (p := ⟨wq.heap.size, j, none⟩) (by simp) (bv l[k + j]))
          unfold bv at HOS HXS
          clear hv0 HGE HST HMS
          go_wp2_with fail
          go_roundw
          case rel => exact ⟨j + 1, by go_num, by omega, HOS.out, HXS.out⟩
          case measure => simp [intOf]; omega
        · obtain rfl : j = M := by omega
          rcases Nat.lt_or_ge j 40 with h40 | h40
          · have hkn : k + j = n := by omega
            have j1 : (j : Int) < 40 := by omega
            have j2 : decide (j < 40) = true := decide_eq_true (by omega)
            have j3 : ¬ (k : Int) + (j : Int) < (n : Int) := by omega
            have j4 : decide (k + j < n) = false := decide_eq_false (by omega)
            have j5 : decide ((k : Int) + (j : Int) < (n : Int)) = false := decide_eq_false j3
            clear hkn
            have HCV := Lib.hid (conv_40 wr wq.heap.size wq.heap.size _ (partB_len (l := l.drop k) (k := j) (by rw [List.length_drop, ← HN.out]; omega) (by omega)) HOJ.out)
            have HPB := Lib.hid (partB_end (l := l.drop k) (k := j) (by rw [List.length_drop, ← HN.out]; omega))
            have hcv := HCV.out
            rw [HPB.out] at hcv
            have HS := Lib.hid (show (L ++ [(⟨(padB ((l.drop k).take 40)).toArray⟩ : ByteArray)]).map txP ++ chunksP (l.drop (k + 40)) = chunksP l from by
              rw [List.map_append, List.append_assoc, ← HL.out, chunks_cons (l := l.drop k) HNE.out, List.drop_drop]
              simp [txP])
            clear HCV
            generalize (⟨(padB ((l.drop k).take 40)).toArray⟩ : ByteArray) = sx at *
            go_wp2_with (at_builtin; refine stop_here ?_)
            refine stop_on ?_
            refine app_sv _ rfl _ _ rfl w.heap.size _ L.length L rfl (own_ext HO.out (HXJ.out.trans ((Ext.refl wr).alloc _))) (some ⟨wr.heap.size, 0, none⟩) 1 1 [sx] rfl rfl (slU_lit rfl _ 1 [sv sx] (by unfold maxLen; omega)) (by omega) (by have := HX.out.size; have := HXJ.out.size; simp; omega) ?_
            intro A5 c5 w5 hown hg
            have X5 := Lib.hid (show Ext w w5 from Below.grown ((HX.out.trans HXJ.out).alloc (.cells #[sv sx] 9)) hg (by have := HX.out.size; have := HXJ.out.size; simp; omega) (fun q hq => (HO.out.lt q hq).1))
            have O5 := Lib.hid hown
            have HLL := Lib.hid (show (L ++ [sx]).length = L.length + 1 from by simp)
            clear hown hg
            go_wp2_with fail
            go_roundw
            case rel => exact ⟨k + 40, L ++ [sx], A5, c5, by go_num, HS.out, by omega, by rw [HLL.out], by rw [HLL.out]; omega, by rw [HLL.out]; exact O5.out, X5.out⟩
            case measure => simp [intOf]; omega
          · have j1 : ¬ (j : Int) < 40 := by omega
            have j2 : decide (j < 40) = false := decide_eq_false (by omega)
            have j5 : decide ((j : Int) < 40) = false := decide_eq_false j1
            have HCV := Lib.hid (conv_40 wr wq.heap.size wq.heap.size _ (partB_len (l := l.drop k) (k := j) (by rw [List.length_drop, ← HN.out]; omega) (by omega)) HOJ.out)
            have HPB := Lib.hid (partB_end (l := l.drop k) (k := j) (by rw [List.length_drop, ← HN.out]; omega))
            have hcv := HCV.out
            rw [HPB.out] at hcv
            have HS := Lib.hid (show (L ++ [(⟨(padB ((l.drop k).take 40)).toArray⟩ : ByteArray)]).map txP ++ chunksP (l.drop (k + 40)) = chunksP l from by
              rw [List.map_append, List.append_assoc, ← HL.out, chunks_cons (l := l.drop k) HNE.out, List.drop_drop]
              simp [txP])
            clear HCV
            generalize (⟨(padB ((l.drop k).take 40)).toArray⟩ : ByteArray) = sx at *
            go_wp2_with (at_builtin; refine stop_here ?_)
            refine stop_on ?_
            refine app_sv _ rfl _ _ rfl w.heap.size _ L.length L rfl (own_ext HO.out (HXJ.out.trans ((Ext.refl wr).alloc _))) (some ⟨wr.heap.size, 0, none⟩) 1 1 [sx] rfl rfl (slU_lit rfl _ 1 [sv sx] (by unfold maxLen; omega)) (by omega) (by have := HX.out.size; have := HXJ.out.size; simp; omega) ?_
            intro A5 c5 w5 hown hg
            have X5 := Lib.hid (show Ext w w5 from Below.grown ((HX.out.trans HXJ.out).alloc (.cells #[sv sx] 9)) hg (by have := HX.out.size; have := HXJ.out.size; simp; omega) (fun q hq => (HO.out.lt q hq).1))
            have O5 := Lib.hid hown
            have HLL := Lib.hid (show (L ++ [sx]).length = L.length + 1 from by simp)
            clear hown hg
            go_wp2_with fail
            go_roundw
            case rel => exact ⟨k + 40, L ++ [sx], A5, c5, by go_num, HS.out, by omega, by rw [HLL.out], by rw [HLL.out]; omega, by rw [HLL.out]; exact O5.out, X5.out⟩
            case measure => simp [intOf]; omega
    · have hki : ¬ (k : Int) < (n : Int) := by omega
      have hd : l.drop k = [] := List.drop_eq_nil_of_le (by rw [← HN.out]; exact hlt)
      have HE := Lib.hid (show L.map txP = chunksP l from by rw [← HL.out, hd, chunks_nil, List.append_nil])
      have HLE := Lib.hid (show (chunksP l).length = L.length from by rw [← HE.out, List.length_map])
      have d1 : decide ((k : Int) < (n : Int)) = false := decide_eq_false hki
      clear hd
      go_wp2_with fail
      go_ret
      exact ⟨O, oc, by rw [HLE.out]; rfl, L, by rw [HLE.out]; exact own_sl HO.out, HE.out, HX.out⟩
end Go.Proofs.Ytpcimjccngidgaa
namespace Go.Proofs.Ytpcimjccngidgaa
set_option maxRecDepth 20000
open Go.RowKit

/-- What the calls of package plan answer, where the laws that can be stated ask it. -/
structure PlOk : Prop where
  shown : ∀ w, Calls Try.prog 6 #[] w fun e w' => e = .returned (.bool true) ∧ Ext w w'
  area : ∀ (n : Nat) (w : World), 1 ≤ n → n ≤ 2000 → Calls Try.prog 9 #[.int .i64 n] w fun e w' => e = .returned (.int .i64 (areaP n : Nat)) ∧ Ext w w'
  base : ∀ (n : Nat) (w : World), 1 ≤ n → n ≤ 2000 → Calls Try.prog 11 #[.int .i64 n] w fun e w' => e = .returned (.int .i64 (baseP n : Nat)) ∧ Ext w w'
  cells : ∀ (b : Nat) (w : World), b ≤ 5000 → Calls Try.prog 13 #[.int .i64 b] w fun e w' => e = .returned (.int .i64 (cellsP b : Nat)) ∧ Ext w w'
  chunks : ∀ (A : Option Addr) (l : Bl) (n c : Nat) (w : World), n = l.length → n ≤ 1000 → Sl w A n c (l.map bv) → Calls Try.prog 7 #[.slice A n c] w fun e w' => ∃ (B : Option Addr) (d : Nat) (L : List ByteArray), e = .returned (.slice B (chunksP l).length d) ∧ Sl w' B (chunksP l).length d (L.map sv) ∧ L.map txP = chunksP l ∧ Ext w w'
theorem rem_2000 {n : Int} (h0 : 0 ≤ n) : ∃ r : Nat, n.tmod 2000 = (r : Int) ∧ r < 2000 := by
  refine ⟨(n % 2000).toNat, ?_, by omega⟩
  rw [Int.tmod_eq_emod_of_nonneg h0]; omega
theorem rem_5000 {n : Int} (h0 : 0 ≤ n) : ∃ r : Nat, n.tmod 5000 = (r : Int) ∧ r < 5000 := by
  refine ⟨(n % 5000).toNat, ?_, by omega⟩
  rw [Int.tmod_eq_emod_of_nonneg h0]; omega
set_option maxRecDepth 100000 in
set_option maxHeartbeats 6400000 in
theorem proom_any (G : PlOk) (n b : Int) (w : World) (h0 : 0 ≤ n) (h1 : n < 65536) (g0 : 0 ≤ b) (g1 : b < 65536) :
    Calls Try.prog 4 #[.int .u16 n, .int .u16 b] w fun e w' => e = .returned (.bool true) ∧ Ext w w' := by
  have HX := Lib.hid (Ext.refl w)
  obtain ⟨r, hr, hr2⟩ := rem_2000 h0
  obtain ⟨m, hm, hm2⟩ := rem_5000 g0
  have v1 : IntKind.i64.wrap n = n := by rw [IntKind.wrap_i64]; omega
  have v2 : IntKind.i64.wrap b = b := by rw [IntKind.wrap_i64]; omega
  have v3 : IntKind.i64.wrap (r : Int) = (r : Int) := by rw [IntKind.wrap_i64]; omega
  have v4 : IntKind.i64.wrap (m : Int) = (m : Int) := by rw [IntKind.wrap_i64]; omega
  have v5 : IntKind.i64.wrap (1 + (r : Int)) = ((r + 1 : Nat) : Int) := by rw [IntKind.wrap_i64]; omega
  obtain ⟨k, hk⟩ : ∃ k, r + 1 = k := ⟨_, rfl⟩
  rw [hk] at v5
  have GA := Lib.hid (fun w' => G.area k w' (by omega) (by omega))
  have GB := Lib.hid (fun w' => G.base k w' (by omega) (by omega))
  have GC := Lib.hid (fun w' => G.cells m w' (by omega))
  obtain ⟨c1, c2, c3⟩ := cells_facts m
  have GD := Lib.hid (fun w' (h : 1 ≤ cellsP m) => G.base (cellsP m) w' h c1)
  have GE := Lib.hid (fun w' (h : cellsP m < 2000) => G.base (cellsP m + 1) w' (by omega) (by omega))
  obtain ⟨a1, a2⟩ := area_room k
  have bk : baseP k = 2 + 2 * areaP k := rfl
  have b1 : baseP (cellsP m) ≤ 300 := by unfold baseP areaP; omega
  have b2 : baseP (cellsP m + 1) ≤ 300 := by unfold baseP areaP; omega
  generalize baseP k = B at *
  generalize areaP k = a at *
  generalize baseP (cellsP m) = bc at *
  generalize baseP (cellsP m + 1) = bd at *
  generalize cellsP m = c at *
  subst bk
  have hk0 : k ≤ 2000 := by omega
  clear hk
  have e1 : IntKind.i64.wrap (40 * (a : Int)) = 40 * (a : Int) := by rw [IntKind.wrap_i64]; omega
  have e2 : IntKind.i64.wrap (2 * (k : Int)) = 2 * (k : Int) := by rw [IntKind.wrap_i64]; omega
  have e3 : IntKind.i64.wrap (1631 + 2 * (k : Int)) = 1631 + 2 * (k : Int) := by rw [IntKind.wrap_i64]; omega
  have e4 : IntKind.i64.wrap ((a : Int) - 1) = (a : Int) - 1 := by rw [IntKind.wrap_i64]; omega
  have e5 : IntKind.i64.wrap (40 * ((a : Int) - 1)) = 40 * ((a : Int) - 1) := by rw [IntKind.wrap_i64]; omega
  have e6 : IntKind.i64.wrap (2 * (a : Int)) = 2 * (a : Int) := by rw [IntKind.wrap_i64]; omega
  have e7 : IntKind.i64.wrap (2 + 2 * (a : Int)) = ((2 + 2 * a : Nat) : Int) := by rw [IntKind.wrap_i64]; omega
  have e8 : IntKind.i64.wrap ((bc : Int) + c) = (bc : Int) + c := by rw [IntKind.wrap_i64]; omega
  have e9 : IntKind.i64.wrap ((c : Int) + 1) = ((c + 1 : Nat) : Int) := by rw [IntKind.wrap_i64]; omega
  have e10 : IntKind.i64.wrap ((bd : Int) + c) = (bd : Int) + c := by rw [IntKind.wrap_i64]; omega
  have e11 : IntKind.i64.wrap ((bd : Int) + c + 1) = (bd : Int) + c + 1 := by rw [IntKind.wrap_i64]; omega
  have d1 : decide (40 * (a : Int) < 1631 + 2 * (k : Int)) = false := decide_eq_false (by omega)
  have d2 : decide (1631 + 2 * (k : Int) ≤ 40 * ((a : Int) - 1)) = false := decide_eq_false (by omega)
  have d3 : decide ((c : Int) < 0) = false := decide_eq_false (by omega)
  have d4 : decide (2000 < (c : Int)) = false := decide_eq_false (by omega)
  rcases Nat.eq_zero_or_pos c with hc | hc
  · have d5 : decide (0 < (c : Int)) = false := decide_eq_false (by omega)
    have d6 : ((c : Int) == 2000) = false := beq_eq_false_iff_ne.2 (by omega)
    have d7 : decide ((m : Int) < (bd : Int) + c + 1) = true := decide_eq_true (by omega)
    have hlt : c < 2000 := by omega
    subst hc
    have GE1 := Lib.hid (fun w' => (show Calls Try.prog 11 #[.int .i64 1] w' fun e w'' => e = .returned (.int .i64 (bd : Nat)) ∧ Ext w' w'' from GE.out w' hlt))
    have e12 : IntKind.i64.wrap (bd : Int) = (bd : Int) := by rw [IntKind.wrap_i64]; omega
    have e13 : IntKind.i64.wrap ((bd : Int) + 1) = (bd : Int) + 1 := by rw [IntKind.wrap_i64]; omega
    have d9 : decide ((m : Int) < (bd : Int) + 1) = true := decide_eq_true (by omega)
    go_enter Try.func4, Try.ntmps4
    go_wp2_with (first
      | (go_at_call 6; refine (G.shown _).mono ?_; rintro e w1 ⟨rfl, hx⟩; have HX := Lib.hid (HX.out.trans hx); clear hx)
      | (go_at_call 9; refine (GA.out _).mono ?_; rintro e w1 ⟨rfl, hx⟩; have HX := Lib.hid (HX.out.trans hx); clear hx)
      | (go_at_call 11; first | with_reducible refine (GB.out _).mono ?_ | with_reducible refine (GE1.out _).mono ?_
         rintro e w1 ⟨rfl, hx⟩; have HX := Lib.hid (HX.out.trans hx); clear hx)
      | (go_at_call 13; refine (GC.out _).mono ?_; rintro e w1 ⟨rfl, hx⟩; have HX := Lib.hid (HX.out.trans hx); clear hx))
    go_ret
    exact ⟨rfl, HX.out⟩
  have d5 : decide (0 < (c : Int)) = true := decide_eq_true (by omega)
  have hcm := c2 hc
  have d8 : decide ((m : Int) < (bc : Int) + c) = false := decide_eq_false (by omega)
  have hc1 : 1 ≤ c := hc
  rcases Nat.lt_or_ge c 2000 with hlt | hge
  · have d6 : ((c : Int) == 2000) = false := beq_eq_false_iff_ne.2 (by omega)
    have d7 : decide ((m : Int) < (bd : Int) + c + 1) = true := decide_eq_true (by omega)
    have GE1 := Lib.hid (fun w' => (show Calls Try.prog 11 #[.int .i64 ((c : Int) + 1)] w' fun e w'' => e = .returned (.int .i64 (bd : Nat)) ∧ Ext w' w'' from GE.out w' hlt))
    go_enter Try.func4, Try.ntmps4
    go_wp2_with (first
      | (go_at_call 6; refine (G.shown _).mono ?_; rintro e w1 ⟨rfl, hx⟩; have HX := Lib.hid (HX.out.trans hx); clear hx)
      | (go_at_call 9; refine (GA.out _).mono ?_; rintro e w1 ⟨rfl, hx⟩; have HX := Lib.hid (HX.out.trans hx); clear hx)
      | (go_at_call 11; first | with_reducible refine (GB.out _).mono ?_ | with_reducible refine (GD.out _ hc1).mono ?_ | with_reducible refine (GE.out _ hlt).mono ?_ | with_reducible refine (GE1.out _).mono ?_
         rintro e w1 ⟨rfl, hx⟩; have HX := Lib.hid (HX.out.trans hx); clear hx)
      | (go_at_call 13; refine (GC.out _).mono ?_; rintro e w1 ⟨rfl, hx⟩; have HX := Lib.hid (HX.out.trans hx); clear hx))
    go_ret
    exact ⟨rfl, HX.out⟩
  · obtain rfl : c = 2000 := by omega
    have GD1 := Lib.hid (fun w' => (show Calls Try.prog 11 #[.int .i64 2000] w' fun e w'' => e = .returned (.int .i64 (bc : Nat)) ∧ Ext w' w'' from GD.out w' hc1))
    have e13 : IntKind.i64.wrap ((bc : Int) + 2000) = (bc : Int) + 2000 := by rw [IntKind.wrap_i64]; omega
    have d9 : decide ((m : Int) < (bc : Int) + 2000) = false := decide_eq_false (by omega)
    go_enter Try.func4, Try.ntmps4
    go_wp2_with (first
      | (go_at_call 6; refine (G.shown _).mono ?_; rintro e w1 ⟨rfl, hx⟩; have HX := Lib.hid (HX.out.trans hx); clear hx)
      | (go_at_call 9; refine (GA.out _).mono ?_; rintro e w1 ⟨rfl, hx⟩; have HX := Lib.hid (HX.out.trans hx); clear hx)
      | (go_at_call 11; first | with_reducible refine (GB.out _).mono ?_ | with_reducible refine (GD1.out _).mono ?_
         rintro e w1 ⟨rfl, hx⟩; have HX := Lib.hid (HX.out.trans hx); clear hx)
      | (go_at_call 13; refine (GC.out _).mono ?_; rintro e w1 ⟨rfl, hx⟩; have HX := Lib.hid (HX.out.trans hx); clear hx))
    go_ret
    exact ⟨rfl, HX.out⟩
end Go.Proofs.Ytpcimjccngidgaa
namespace Go.Proofs.Ytpcimjccngidgaa
set_option maxRecDepth 20000
open Go.RowKit

def isW (w : Int) : Bool := decide (1 ≤ w) && decide (w ≤ 4)

set_option maxHeartbeats 400000 in
theorem numIsWidth_any (n : Int) (w : World) :
    Calls Try.prog 82 #[.int .i64 n] w fun e w' => e = .returned (.bool (isW n)) ∧ w = w' := by
  unfold isW
  by_cases h1 : 1 ≤ n <;> by_cases h2 : n ≤ 4
  all_goals
    go_enter Try.func82, Try.ntmps82
    go_wp2
    go_ret
    exact ⟨by simp [*], rfl⟩

def lim : Nat → Int
  | 0 => 1
  | n+1 => lim n * 256
theorem lim_pow (n : Nat) : lim n = 256 ^ n := by
  induction n with
  | zero => rfl
  | succ n ih => rw [lim, ih, Int.pow_succ]
theorem lim_bd (n : Nat) (h : n ≤ 4) : 1 ≤ lim n ∧ lim n ≤ 4294967296 := by
  match n, h with
  | 0, _ => decide
  | 1, _ => decide
  | 2, _ => decide
  | 3, _ => decide
  | 4, _ => decide

theorem foldS_odd (c : Nat) (h : c < 4294967296) (ho : c % 2 = 1) : bits BinOp.xor IntKind.u32 ((c : Int) / 2) 3988292384 = (foldS c : Nat) ∧ (bits BinOp.and IntKind.u32 (↑c) 1 == 1) = true := by
  unfold foldS
  rw [if_pos ho]
  refine ⟨u32_xor_nat (c/2) 3988292384 (by omega) (by omega), ?_⟩
  have := u32_and_nat c 1 h (by omega)
  rw [nat_mask1, ho] at this
  rw [show ((1 : Int)) = ((1 : Nat) : Int) from rfl, this]; rfl
theorem foldS_even (c : Nat) (h : c < 4294967296) (ho : ¬ c % 2 = 1) : (c : Int) / 2 = (foldS c : Nat) ∧ (bits BinOp.and IntKind.u32 (↑c) 1 == 1) = false := by
  unfold foldS
  rw [if_neg ho]
  refine ⟨by omega, ?_⟩
  have := u32_and_nat c 1 h (by omega)
  rw [nat_mask1, show c % 2 = 0 by omega] at this
  rw [show ((1 : Int)) = ((1 : Nat) : Int) from rfl, this]; rfl

set_option maxHeartbeats 400000 in
theorem numFold_any (c : Nat) (hc : c < 4294967296) (w : World) :
    Calls Try.prog 80 #[.int .u32 c] w fun e w' => e = .returned (.int .u32 (foldN 8 c : Nat)) ∧ w = w' := by
  go_enter Try.func80, Try.ntmps80
  go_wp2
  refine wp_scope_jumps 0 (fun a' w' => w' = w ∧ ∃ (k m : Nat) (u4 u5 u6 u7 u8 u9 u10 u11 u12 u13 u14 u15 u16 : Value), a' = { tmps := #[.int .u32 m, undef, .int .u32 0, .int .i64 k, u4, u5, u6, u7, u8, u9, u10, u11, u12, u13, u14, u15, u16, undef], defers := [] } ∧ 1 ≤ k ∧ k ≤ 8 ∧ m < 4294967296 ∧ foldN k m = foldN 8 c) (fun a' _ => (intOf (a'.tmps.getD 3 undef)).toNat) rfl ?_ ?_
  · go_wp2
    go_step3
    have hl := foldS_lt c hc
    by_cases ho : c % 2 = 1
    · obtain ⟨e1, t⟩ := foldS_odd c hc ho
      have H := Lib.hid e1; clear e1
      go_wp2
      go_step3
      rw [H.out]
      exact ⟨rfl, rfl, 7, foldS c, _, _, _, _, _, _, _, _, _, _, _, _, _, rfl, by omega, by omega, hl, rfl⟩
    · obtain ⟨e1, t⟩ := foldS_even c hc ho
      have H := Lib.hid e1; clear e1
      go_wp2
      go_step3
      rw [H.out]
      exact ⟨rfl, rfl, 7, foldS c, _, _, _, _, _, _, _, _, _, _, _, _, _, rfl, by omega, by omega, hl, rfl⟩
  · rintro a' w' ⟨rfl, k, m, u4, u5, u6, u7, u8, u9, u10, u11, u12, u13, u14, u15, u16, rfl, hk1, hk8, hm, he⟩
    obtain ⟨j, rfl⟩ : ∃ j, k = j + 1 := ⟨k - 1, by omega⟩
    have hl := foldS_lt m hm
    have he' : foldN j (foldS m) = foldN 8 c := he
    have HE := Lib.hid he'; clear he he'
    have fin : ∀ (h0 : ¬ 0 < j) (x : Int), x = (foldS m : Nat) → Ending.returned (Value.int .u32 x) = .returned (.int .u32 (foldN 8 c : Nat)) := by
      intro h0 x hx
      obtain rfl : j = 0 := by omega
      have e := HE.out
      rw [hx, ← e]; rfl
    have FIN := Lib.hid fin; clear fin
    by_cases ho : m % 2 = 1
    · obtain ⟨e1, t⟩ := foldS_odd m hm ho
      have H := Lib.hid e1; clear e1
      by_cases hj : 0 < j
      · go_wp2
        go_step3
        rw [H.out]
        exact ⟨rfl, ⟨rfl, j, foldS m, _, _, _, _, _, _, _, _, _, _, _, _, _, rfl, by omega, by omega, hl, HE.out⟩, by simp [intOf]⟩
      · have hj0 : (j : Int) ≤ 0 := by omega
        go_wp2
        simp only [Exit.jump]
        go_ret
        exact ⟨FIN.out hj _ H.out, rfl⟩
    · obtain ⟨e1, t⟩ := foldS_even m hm ho
      have H := Lib.hid e1; clear e1
      by_cases hj : 0 < j
      · go_wp2
        go_step3
        rw [H.out]
        exact ⟨rfl, ⟨rfl, j, foldS m, _, _, _, _, _, _, _, _, _, _, _, _, _, rfl, by omega, by omega, hl, HE.out⟩, by simp [intOf]⟩
      · have hj0 : (j : Int) ≤ 0 := by omega
        go_wp2
        simp only [Exit.jump]
        go_ret
        exact ⟨FIN.out hj _ H.out, rfl⟩

end Go.Proofs.Ytpcimjccngidgaa
namespace Go.Proofs.Ytpcimjccngidgaa
set_option maxRecDepth 20000
open Go.RowKit

theorem bits_xor_byte (c : Nat) (u : UInt8) (h : c < 4294967296) : bits BinOp.xor IntKind.u32 (c : Int) ((u.toNat : Int) % 4294967296) = ((c ^^^ u.toNat : Nat) : Int) := by
  have := u.toNat_lt
  rw [show ((u.toNat : Int) % 4294967296) = (u.toNat : Int) by omega]
  exact u32_xor_nat c u.toNat h (by omega)
theorem bits_ones (c : Nat) (h : c < 4294967296) : wrap64 (bits BinOp.xor IntKind.u32 (c : Int) 4294967295) = ((c ^^^ 4294967295 : Nat) : Int) := by
  have := u32_xor_nat c 4294967295 h (by omega)
  rw [show (4294967295 : Int) = ((4294967295 : Nat) : Int) from rfl, this]
  have := xor_lt32 (b := 4294967295) h (by omega)
  unfold wrap64; omega

set_option maxHeartbeats 400000 in
theorem numSum_any (A : Option Addr) (l : List UInt8) (c : Nat) (w : World) (hl : l.length ≤ maxLen) (hA : Cells w A (l.map bv)) :
    Calls Try.prog 61 #[.slice A l.length c] w fun e w' => e = .returned (.int .i64 (crc l : Nat)) ∧ w = w' := by
  unfold maxLen at hl
  go_enter Try.func61, Try.ntmps61
  go_wp2
  go_loop [3, 7] (fun m i => ∃ k : Nat, k ≤ l.length ∧ i = .int .i64 k ∧ m = .int .u32 (reg 4294967295 (l.take k) : Nat)) (fun _ i => l.length - (intOf i).toNat)
  case atStart => exact ⟨0, Nat.zero_le _, rfl, rfl⟩
  case round =>
    obtain ⟨k, hk, rfl, rfl⟩ := hrel
    have b1 := reg_lt (l.take k) 4294967295 (by omega)
    by_cases hlt : k < l.length
    · have HR := Lib.hid (reg_take l k hlt 4294967295)
      obtain ⟨b, off, rfl, _, hc⟩ := hA.byte hlt
      have hck := hc k hlt
      go_wp2_with (go_at_call 80; rw [bits_xor_byte _ _ b1]; refine (numFold_any _ (xor_lt32 b1 (by have := l[k].toNat_lt; omega)) _).mono ?_; rintro e w' ⟨rfl, rfl⟩)
      go_round
      case rel => exact ⟨k + 1, by omega, by go_num, by rw [HR.out]; rfl⟩
      case measure => simp [intOf]; omega
    · obtain rfl : k = l.length := by omega
      rw [List.take_length]
      rw [List.take_length] at b1
      have HB := Lib.hid (bits_ones _ b1)
      go_wp2
      go_ret
      exact ⟨ret_int HB.out, rfl⟩

/-- The three results of Take, with the word for a fault. -/
def takeV (l : List UInt8) (at_ w : Int) (none_ : Int) : Value := match takeS l at_ w with
  | some n => .tuple #[.int .i64 (n : Int), .int .i64 (at_ + w), .int .i64 0]
  | none => .tuple #[.int .i64 0, .int .i64 0, .int .i64 none_]

end Go.Proofs.Ytpcimjccngidgaa
namespace Go.Proofs.Ytpcimjccngidgaa
set_option maxRecDepth 20000
open Go.RowKit

theorem take_drop_succ (l : List UInt8) (a k : Nat) (h : a + k < l.length) : (l.drop a).take (k + 1) = (l.drop a).take k ++ [l[a + k]] := by
  rw [List.take_succ_eq_append_getElem (by simp; omega), List.getElem_drop]
theorem leNat_take_succ (l : List UInt8) (a k : Nat) (h : a + k < l.length) : leNat ((l.drop a).take (k + 1)) = leNat ((l.drop a).take k) + 256 ^ k * (l[a + k]).toNat := by
  rw [take_drop_succ l a k h, leNat_snoc, List.length_take, List.length_drop, Nat.min_eq_left (by omega)]
theorem leNat_take_lt (l : List UInt8) (a k : Nat) : leNat ((l.drop a).take k) < 256 ^ k :=
  Nat.lt_of_lt_of_le (leNat_lt _) (Nat.pow_le_pow_right (by omega) (by simp; omega))

theorem i64_or (a b : Nat) (ha : a < 9223372036854775808) (hb : b < 9223372036854775808) : bits .or .i64 (a : Int) (b : Int) = ((a ||| b : Nat) : Int) := by
  have hx : a ||| b < 2 ^ 63 := Nat.or_lt_two_pow (by omega) (by omega)
  have e : ∀ n : Nat, n < 9223372036854775808 → (BitVec.ofInt 64 (n : Int)).toNat = n := fun n hn => by
    rw [BitVec.ofInt_natCast, BitVec.toNat_ofNat]; exact Nat.mod_eq_of_lt (by omega)
  show IntKind.i64.wrap ((BitVec.ofInt 64 (a : Int) ||| BitVec.ofInt 64 (b : Int)).toNat : Int) = _
  rw [BitVec.toNat_or, e a ha, e b hb, IntKind.wrap_i64]
  omega
theorem or_byte (x k u : Nat) (hk : k < 4) (hx : x < 256 ^ k) (hu : u < 256) : bits BinOp.or .i64 (x : Int) (wrap64 ((u : Int) * 2 ^ (8 * k))) = ((x + 256 ^ k * u : Nat) : Int) := by
  have hp : (256 : Nat) ^ k = 2 ^ (8 * k) := by rw [show (256 : Nat) = 2 ^ 8 from rfl, ← Nat.pow_mul]
  have hle : (256 : Nat) ^ k ≤ 256 ^ 3 := Nat.pow_le_pow_right (by omega) (by omega)
  have hmul : 256 ^ k * u ≤ 256 ^ 3 * 255 := Nat.mul_le_mul hle (by omega)
  have e : ((u : Int) * 2 ^ (8 * k)) = ((256 ^ k * u : Nat) : Int) := by
    rw [hp, Int.natCast_mul, Int.natCast_pow, Int.mul_comm]; rfl
  have e2 : wrap64 ((256 ^ k * u : Nat) : Int) = ((256 ^ k * u : Nat) : Int) := by unfold wrap64; omega
  rw [e, e2, i64_or _ _ (by omega) (by omega)]
  congr 1
  rw [Nat.or_comm, nat_join (8 * k) _ _ (by rw [← hp]; exact Nat.mul_mod_right _ _) (by rw [← hp]; exact hx)]
  omega

theorem takeV_some {l : List UInt8} {a m : Nat} {z : Int} (h1 : 1 ≤ m) (h2 : m ≤ 4) (h3 : a + m ≤ l.length) :
    takeV l a m z = .tuple #[.int .i64 (leNat ((l.drop a).take m) : Nat), .int .i64 ((a : Int) + m), .int .i64 0] := by
  unfold takeV takeS; rw [if_pos (by omega)]; rfl
theorem takeV_none {l : List UInt8} {a m z : Int} (h : ¬ (1 ≤ m ∧ m ≤ 4 ∧ 0 ≤ a ∧ a + m ≤ l.length)) :
    takeV l a m z = .tuple #[.int .i64 0, .int .i64 0, .int .i64 z] := by
  unfold takeV takeS; rw [if_neg h]

theorem leNat_from (l : List UInt8) (a m i : Nat) (h : a + m ≤ l.length) (hi : i < m) :
    leNat ((l.drop (a + i)).take (m - i)) = leNat ((l.drop (a + (i + 1))).take (m - (i + 1))) * 256 + l[a + i].toNat := by
  rw [List.drop_eq_getElem_cons (by omega : a + i < l.length), show m - i = (m - (i + 1)) + 1 by omega, List.take_succ_cons, leNat]
  rw [show a + (i + 1) = a + i + 1 by omega]; omega

/-- Are two lists of bytes one? -/
def rowB (a b : List UInt8) : Bool := a == b
theorem take_succ_eq (a b : List UInt8) (k : Nat) (ha : k < a.length) (hb : k < b.length) (h : a.take k = b.take k) (he : a[k] = b[k]) : a.take (k + 1) = b.take (k + 1) := by
  rw [List.take_succ_eq_append_getElem ha, List.take_succ_eq_append_getElem hb, h, he]

end Go.Proofs.Ytpcimjccngidgaa
namespace Go.Proofs.Ytpcimjccngidgaa
set_option maxRecDepth 20000
open Go.RowKit

theorem rowB_false (a b : List UInt8) (h : a ≠ b) : rowB a b = false := by unfold rowB; simpa using h
theorem rowB_true (a b : List UInt8) (h : a = b) : rowB a b = true := by unfold rowB; simpa using h
theorem Cells.drewN {w : World} {A : Option Addr} {xs : List Value} (h : Cells w A xs) (n : Nat) : Cells (w.drewN n) A xs := h

end Go.Proofs.Ytpcimjccngidgaa
