/- Walks of Area, Base, Cells and Chunks of the reference of layer 14. Plan of the reference of layer 14, of a state that uses no cell and holds no volumes and tasks. New of the reference of layer 12. -/
import Derived.Test.YtnlkakbpcdfgfaaGreatK11
import Derived.Test.YtnlkakbpcdfgfaaGreatRows
import Derived.Deep.QuietTactic
import Derived.BigQuiet
import Derived.Test.YtnlkakbpcdfgfaaGreatK05
import Derived.Test.YtnlkakbpcdfgfaaGreatK10
import Derived.Deep.RegionHeld3
namespace Go.Proofs.YtnlkakbpcdfgfaaGreat
set_option maxRecDepth 20000
open Go.RowKit

set_option maxHeartbeats 800000 in
theorem ref14Area_any (n : Nat) (w : World) (hn : n ≤ 100000) :
    Calls Tryz.prog 39 #[.int .i64 n] w fun e w' => e = .returned (.int .i64 (areaP n : Nat)) ∧ w = w' := by
  have ha := area_room n
  generalize areaP n = a at *
  go_enter Tryz.func39, Tryz.ntmps39
  go_wp2_with fail
  go_loop [3] (fun k => ∃ j : Nat, j ≤ a ∧ k = .int .i64 j) (fun k => a - (intOf k).toNat)
  case atStart => exact ⟨0, Nat.zero_le _, rfl⟩
  case round =>
    obtain ⟨j, hj, rfl⟩ := hrel
    have w1 : IntKind.i64.wrap (40 * (j : Int)) = 40 * (j : Int) := by rw [IntKind.wrap_i64]; omega
    have w2 : IntKind.i64.wrap (2 * (n : Int)) = 2 * (n : Int) := by rw [IntKind.wrap_i64]; omega
    have w3 : IntKind.i64.wrap (1631 + 2 * (n : Int)) = 1631 + 2 * (n : Int) := by rw [IntKind.wrap_i64]; omega
    rcases Nat.lt_or_ge j a with hlt | hlt
    · have d1 : decide (40 * (j : Int) < 1631 + 2 * (n : Int)) = true := decide_eq_true (by omega)
      have d2 : 40 * (j : Int) < 1631 + 2 * (n : Int) := by omega
      go_wp2_with fail
      go_round
      case rel => exact ⟨j + 1, by omega, by go_num⟩
      case measure => simp [intOf]; omega
    · obtain rfl : j = a := by omega
      have d1 : decide (40 * (j : Int) < 1631 + 2 * (n : Int)) = false := decide_eq_false (by omega)
      have d2 : ¬ 40 * (j : Int) < 1631 + 2 * (n : Int) := by omega
      go_wp2_with fail
      go_ret
      exact ⟨rfl, rfl⟩
set_option maxHeartbeats 800000 in
theorem ref14Base_any (n : Nat) (w : World) (hn : n ≤ 100000) :
    Calls Tryz.prog 25 #[.int .i64 n] w fun e w' => e = .returned (.int .i64 (baseP n : Nat)) ∧ w = w' := by
  have HA := Lib.hid (ref14Area_any n w hn)
  have ha := area_room n
  unfold baseP
  generalize areaP n = a at *
  have w1 : IntKind.i64.wrap (2 * (a : Int)) = 2 * (a : Int) := by rw [IntKind.wrap_i64]; omega
  have w2 : IntKind.i64.wrap (2 + 2 * (a : Int)) = 2 + 2 * (a : Int) := by rw [IntKind.wrap_i64]; omega
  go_enter Tryz.func25, Tryz.ntmps25
  go_wp2_with (go_at_call 39; refine HA.out.mono ?_; rintro e w2 ⟨rfl, rfl⟩)
  go_ret
  exact ⟨by first | rfl | (congr 2; omega), rfl⟩
set_option maxHeartbeats 800000 in
theorem ref14Cells_any (b : Nat) (w : World) (hb : b ≤ 1000000) :
    Calls Tryz.prog 10 #[.int .i64 b] w fun e w' => e = .returned (.int .i64 (cellsP b : Nat)) ∧ w = w' := by
  go_enter Tryz.func10, Tryz.ntmps10
  go_wp2_with fail
  go_loop [3] (fun k => ∃ j : Nat, j ≤ 2000 ∧ k = .int .i64 j ∧ cellsF b (2000 - j) j = cellsP b) (fun k => 2000 - (intOf k).toNat)
  case atStart => exact ⟨0, Nat.zero_le _, rfl, rfl⟩
  case round =>
    obtain ⟨j, hj, rfl, hc⟩ := hrel
    rcases Nat.lt_or_ge j 2000 with hlt | hlt
    · obtain ⟨i, hi⟩ : ∃ i, 2000 - j = i + 1 := ⟨2000 - j - 1, by omega⟩
      have hi2 : 2000 - (j + 1) = i := by omega
      rw [hi, cellsF] at hc
      have HB := Lib.hid (ref14Base_any (j + 1) w (by omega))
      have hba := area_room (j + 1)
      have hbb : baseP (j + 1) = 2 + 2 * areaP (j + 1) := rfl
      have d0 : decide ((j : Int) < 2000) = true := decide_eq_true (by omega)
      have d1 : decide (j < 2000) = true := decide_eq_true hlt
      have HI2 := Lib.hid hi2
      clear hi hi2
      obtain ⟨B, hB⟩ : ∃ B, baseP (j + 1) = B := ⟨_, rfl⟩
      rw [hB] at hc HB hbb
      have hBb : B ≤ 1000 := by omega
      clear hB hbb hba
      by_cases hle : B + j + 1 ≤ b
      · have HC := Lib.hid (show cellsF b (2000 - (j + 1)) (j + 1) = cellsP b from by rw [HI2.out]; rw [if_pos hle] at hc; exact hc)
        have d2 : decide ((B : Int) + (j : Int) + 1 ≤ (b : Int)) = true := decide_eq_true (by omega)
        clear hc
        go_wp2_with (go_at_call 25; refine HB.out.mono ?_; rintro e w2 ⟨rfl, rfl⟩)
        go_round
        case rel => exact ⟨j + 1, by omega, by go_num, HC.out⟩
        case measure => simp [intOf]; omega
      · have HC := Lib.hid (show j = cellsP b from by rw [if_neg hle] at hc; exact hc)
        have d2 : decide ((B : Int) + (j : Int) + 1 ≤ (b : Int)) = false := decide_eq_false (by omega)
        have d3 : decide (B + j + 1 ≤ b) = false := decide_eq_false hle
        have d4 : ¬ (B : Int) + (j : Int) + 1 ≤ (b : Int) := by omega
        clear hc
        go_wp2_with (go_at_call 25; refine HB.out.mono ?_; rintro e w2 ⟨rfl, rfl⟩)
        go_ret
        exact ⟨by rw [← HC.out]; rfl, rfl⟩
    · obtain rfl : j = 2000 := by omega
      have HC := Lib.hid (show 2000 = cellsP b from hc)
      clear hc
      go_wp2_with fail
      go_ret
      exact ⟨by rw [← HC.out]; rfl, rfl⟩
theorem infoU : (Tryz.prog.info? 5).map (fun i => (i.zero, i.size, i.bytes)) = some (some (.int .u8 0), 1, 1) := by kernel_rfl
theorem infoSt : (Tryz.prog.info? 9).map (fun i => (i.zero, i.size, i.bytes)) = some (some (.string (ByteArray.mk #[])), 1, 16) := by kernel_rfl
theorem app_sv (w : World) {ops : Array Oper} {rest : List Oper} {o : Oper} {a : Act} {Q : Exit → Act → World → Prop} (hgd : o.guard = none) (s x : Operand)
    (ho : o.op = .call { callee := .builtin .append, args := #[s, x], argTypes := #[23, 23] })
    (B : Nat) (v : Value) (n : Nat) (l : List ByteArray) (hs : a.eval s = v) (hown : w.ownsRow B 9 1 v n (l.map sv))
    (A : Option Addr) (m c : Nat) (k : List ByteArray) (hx : a.eval x = .slice A m c) (hl : k.length = m) (hS : Sl w A m c (k.map sv))
    (hsz : n + m ≤ 1000000) (hB : B ≤ w.heap.size)
    (h : ∀ A' c' w', w'.ownsRow B 9 1 (.slice A' (n + m) c') (n + m) ((l ++ k).map sv) → w.grownBy w' v.ownBlock → wpList Tryz.prog ops Q rest (a.put o.dst (.slice A' (n + m) c')) w') : wpList Tryz.prog ops Q (o :: rest) a w := by
  refine wpList_app_sl w hgd s x 23 ho B 9 (.string (ByteArray.mk #[])) 1 16 Tryz.underlying23 infoSt rfl (by omega) v n (l.map sv) hs hown A m c (k.map sv) hx (by simp [hl]) hS (svs_oneCell k) (by unfold maxLen; omega) (by omega) hB ?_
  intro A' c' w' h1 h2
  rw [← List.map_append] at h1
  exact h A' c' w' h1 h2
theorem own_setU {w : World} {B e n g cap : Nat} {xs : List Value} (h : w.ownsRow B e 1 (.slice (some ⟨g, 0, none⟩) n cap) n xs) {j : Nat} (u : Value) :
    (w.setCell ⟨g, j, none⟩ u).ownsRow B e 1 (.slice (some ⟨g, 0, none⟩) n cap) n (xs.set j u) := by
  refine ⟨by rw [List.length_set]; exact h.1, ?_⟩
  rcases h.2 with ⟨e0, _⟩ | ⟨g', cap', cur, e0, hg, hh, hnc, hcm, hsz, ht⟩
  · cases e0
  · cases e0
    refine .inr ⟨g, cap, _, rfl, hg, heap_setCell_same w g j cur e u hh, hnc, hcm, by simp [hsz], ?_⟩
    rw [Array.toList_setIfInBounds, List.take_set, ht]
theorem own_freeU {w : World} {B e s n g cap : Nat} {xs : List Value} (h : w.ownsRow B e s (.slice (some ⟨g, 0, none⟩) n cap) n xs) (j : Nat) : w.frozen? ⟨g, j, none⟩ = false := by
  rcases h.2 with ⟨e0, _⟩ | ⟨g', cap', cur, e0, hg, hh, _⟩
  · cases e0
  · cases e0
    exact Bx.free ⟨_, hh⟩ j
abbrev txP (s : ByteArray) : Bl := s.data.toList
/-- A block on its way: so many bytes of it are there. -/
def partB (l : Bl) (k : Nat) : Bl := l.take k ++ List.replicate (40 - k) 0
theorem partB_len {l : Bl} {k : Nat} (h : k ≤ l.length) (h4 : k ≤ 40) : (partB l k).length = 40 := by unfold partB; simp; omega
theorem partB_set {l : Bl} {k : Nat} (h : k < l.length) (h4 : k < 40) : (partB l k).set k l[k] = partB l (k + 1) := by
  unfold partB
  obtain ⟨r, hr⟩ : ∃ r, 40 - k = r + 1 := ⟨40 - k - 1, by omega⟩
  rw [hr, List.replicate_succ, List.set_append_right _ _ (by simp; omega), show k - (l.take k).length = 0 by simp; omega, List.set_cons_zero, List.take_succ_eq_append_getElem h, List.append_assoc, show 40 - (k + 1) = r by omega]
  rfl
theorem partB_end {l : Bl} {k : Nat} (h : k = min 40 l.length) : partB l k = padB (l.take 40) := by
  subst h
  unfold partB padB
  congr 1
  · rcases Nat.lt_or_ge 40 l.length with g | g
    · rw [Nat.min_eq_left (by omega)]
    · rw [Nat.min_eq_right g, List.take_length, List.take_of_length_le g]
  · rw [List.length_take]
theorem slU_lit {w : World} {z : Nat} (hz : z = w.heap.size) (e n : Nat) (xs : List Value) (hn : n ≤ maxLen) : Sl (w.alloc (.cells xs.toArray e)) (some ⟨z, 0, none⟩) n n xs := by subst hz; exact sl_lit w e n xs hn
theorem own_40 (w : World) : (w.alloc (.cells (madeCells (Value.int .u8 0).cells (40 * 1)) 5)).ownsRow w.heap.size 5 1 (.slice (some ⟨w.heap.size, 0, none⟩) 40 40) 40 ((List.replicate 40 (0 : UInt8)).map bv) :=
  ⟨by simp, .inr ⟨w.heap.size, 40, _, rfl, Nat.le_refl _, heap_alloc_new w _, Nat.le_refl _, by unfold maxLen; omega, by simp [madeCells], by simp [madeCells, bv]; rfl⟩⟩
theorem byte_at {w : World} {A : Option Addr} {l : Bl} (h : Cells w A (l.map bv)) {k : Nat} (hk : k < l.length) : ∃ b off, A = some ⟨b, off, none⟩ ∧ b < w.heap.size ∧ w.cell? ⟨b, off + k, none⟩ = some (.int .u8 (l[k].toNat : Int)) := by
  obtain ⟨b, off, rfl, hlt, hc⟩ := h (by intro e; rw [List.map_eq_nil_iff] at e; subst e; simp at hk)
  exact ⟨b, off, rfl, hlt, hc k _ (by simp [hk, bv])⟩
theorem conv_40 (w : World) (B g : Nat) (l : Bl) (hl : l.length = 40) (h : w.ownsRow B 5 1 (.slice (some ⟨g, 0, none⟩) 40 40) 40 (l.map bv)) : (convert 83 9 (.slice (some ⟨g, 0, none⟩) 40 40)).run Tryz.prog w = .ok (.string ⟨l.toArray⟩) w := by
  have h2 := run_convert_bytes_back (P := Tryz.prog) w 83 9 5 ⟨g, 0, none⟩ 40 l Tryz.underlying83 Tryz.underlying5 Tryz.underlying9 (fun j hj => by
    rw [Addr.add_lit, Nat.zero_add, h.cellAt j (by omega)]
    simp [hj, bv])
  rw [hl] at h2
  exact h2
set_option maxRecDepth 100000 in
set_option maxHeartbeats 1600000 in
theorem ref14Chunks_any (A : Option Addr) (l : Bl) (n c : Nat) (w : World) (hn : n = l.length) (hb : n ≤ 100000) (hA : Sl w A n c (l.map bv)) :
    Calls Tryz.prog 56 #[.slice A n c] w fun e w' => ∃ (B : Option Addr) (d : Nat) (L : List ByteArray), e = .returned (.slice B (chunksP l).length d) ∧ Sl w' B (chunksP l).length d (L.map sv) ∧ L.map txP = chunksP l ∧ Ext w w' := by
  have HA := Lib.hid hA.cells
  have HN := Lib.hid hn
  clear hA hn
  obtain ⟨i0, hi, hz0, hz1, hz2⟩ := info_parts infoU
  go_enter Tryz.func56, Tryz.ntmps56
  go_wp2_with fail
  go_loopw [3, 4] (fun o i wr => ∃ k : Nat, ∃ L : List ByteArray, ∃ O oc, i = .int .i64 k ∧ L.map txP ++ chunksP (l.drop k) = chunksP l ∧ k ≤ n + 40 ∧ o = .slice O L.length oc ∧ L.length ≤ k ∧ wr.ownsRow w.heap.size 9 1 (.slice O L.length oc) L.length (L.map sv) ∧ Ext w wr) (fun _ i _ => n - (intOf i).toNat)
  case atStart => exact ⟨0, [], none, 0, rfl, rfl, by omega, rfl, Nat.le_refl _, World.ownsRow_nil _ _ _ _, Ext.refl w⟩
  case round =>
    obtain ⟨k, L, O, oc, rfl, hL, hk, rfl, hLk, ho, hx⟩ := hrel
    have HL := Lib.hid hL
    have HO := Lib.hid ho
    have HX := Lib.hid hx
    clear hL ho hx
    rcases Nat.lt_or_ge k n with hlt | hlt
    · have hki : (k : Int) < (n : Int) := by omega
      generalize wr = wq at *
      clear wr
      go_wp2_with (at_make; refine stop_here ?_)
      refine stop_on ?_
      refine wpList_make_cap _ rfl _ _ 83 rfl 5 i0 _ Tryz.underlying83 hi hz0 _ _ _ _ 40 40 rfl rfl (by omega) (by omega) (by omega) (by rw [hz2]; omega) (by unfold maxLen; omega) ?_
      rw [hz1]
      have HO0 := Lib.hid (own_40 wq)
      have HX0 := Lib.hid ((Ext.refl wq).alloc (.cells (madeCells (Value.int .u8 0).cells (40 * 1)) 5))
      generalize hW : World.alloc wq (.cells (madeCells (Value.int .u8 0).cells (40 * 1)) 5) = W at *
      clear hW
      have HNE := Lib.hid (show l.drop k ≠ [] from fun e => by have h := congrArg List.length e; rw [List.length_drop, ← HN.out] at h; simp at h; omega)
      obtain ⟨M, hM⟩ : ∃ M, min 40 (n - k) = M := ⟨_, rfl⟩
      have hM40 : M ≤ 40 := by omega
      have hMn : k + M ≤ n := by omega
      have hMe : M = 40 ∨ k + M = n := by omega
      clear hM
      go_wp2_with fail
      go_loopw [6] (fun jv wj => ∃ j : Nat, jv = .int .i64 j ∧ j ≤ M ∧ wj.ownsRow wq.heap.size 5 1 (.slice (some ⟨wq.heap.size, 0, none⟩) 40 40) 40 ((partB (l.drop k) j).map bv) ∧ Ext wq wj) (fun jv _ => M - (intOf jv).toNat)
      case atStart => exact ⟨0, rfl, Nat.zero_le _, HO0.out, HX0.out⟩
      case round =>
        obtain ⟨j, rfl, hj, hoj, hxj⟩ := hrel
        have HOJ := Lib.hid hoj
        have HXJ := Lib.hid hxj
        clear hoj hxj
        have w1 : IntKind.i64.wrap ((k : Int) + (j : Int)) = (k : Int) + (j : Int) := by rw [IntKind.wrap_i64]; omega
        have w2 : ((k : Int) + (j : Int)).toNat = k + j := by omega
        rcases Nat.lt_or_ge j M with hjM | hjM
        · have hjl : k + j < l.length := by rw [← HN.out]; omega
          have hjd : j < (l.drop k).length := by rw [List.length_drop]; omega
          obtain ⟨b, off, rfl, hbl, hcb⟩ := byte_at (HA.out.ext (HX.out.trans HXJ.out)) hjl
          have HST := Lib.hid (partB_set (l := l.drop k) hjd (by omega))
          have HGE := Lib.hid (show (l.drop k)[j] = l[k + j] from by rw [List.getElem_drop])
          rw [HGE.out] at HST
          have j1 : (j : Int) < 40 := by omega
          have j2 : decide (j < 40) = true := decide_eq_true (by omega)
          have j3 : (k : Int) + (j : Int) < (n : Int) := by omega
          have j4 : decide (k + j < n) = true := decide_eq_true (by omega)
          have j5 : decide ((k : Int) + (j : Int) < (n : Int)) = true := decide_eq_true j3
          have f0 := own_freeU HOJ.out j
          have f1 := HOJ.out.cellAt j (by omega)
          have HOS := Lib.hid (own_setU (j := j) HOJ.out (bv l[k + j]))
          have HMS := Lib.hid (show ((partB (l.drop k) j).map bv).set j (bv l[k + j]) = (partB (l.drop k) (j + 1)).map bv from by rw [← HST.out, List.map_set])
          rw [HMS.out] at HOS
          obtain ⟨v0, hv0⟩ : ∃ v, ((partB (l.drop k) j).map bv)[j]? = some v := ⟨_, List.getElem?_eq_getElem (by rw [List.length_map, partB_len (by omega) (by omega)]; omega)⟩
          rw [hv0] at f1
          have HXS := Lib.hid (HXJ.out.set (p := ⟨wq.heap.size, j, none⟩) (by simp) (bv l[k + j]))
          unfold bv at HOS HXS
          clear hv0 HGE HST HMS
          go_wp2_with fail
          go_roundw
          case rel => exact ⟨j + 1, by go_num, by omega, HOS.out, HXS.out⟩
          case measure => simp [intOf]; omega
        · obtain rfl : j = M := by omega
          rcases Nat.lt_or_ge j 40 with h40 | h40
          · have hkn : k + j = n := by omega
            have j1 : (j : Int) < 40 := by omega
            have j2 : decide (j < 40) = true := decide_eq_true (by omega)
            have j3 : ¬ (k : Int) + (j : Int) < (n : Int) := by omega
            have j4 : decide (k + j < n) = false := decide_eq_false (by omega)
            have j5 : decide ((k : Int) + (j : Int) < (n : Int)) = false := decide_eq_false j3
            clear hkn
            have HCV := Lib.hid (conv_40 wr wq.heap.size wq.heap.size _ (partB_len (l := l.drop k) (k := j) (by rw [List.length_drop, ← HN.out]; omega) (by omega)) HOJ.out)
            have HPB := Lib.hid (partB_end (l := l.drop k) (k := j) (by rw [List.length_drop, ← HN.out]; omega))
            have hcv := HCV.out
            rw [HPB.out] at hcv
            have HS := Lib.hid (show (L ++ [(⟨(padB ((l.drop k).take 40)).toArray⟩ : ByteArray)]).map txP ++ chunksP (l.drop (k + 40)) = chunksP l from by
              rw [List.map_append, List.append_assoc, ← HL.out, chunks_cons (l := l.drop k) HNE.out, List.drop_drop]
              simp [txP])
            clear HCV
            generalize (⟨(padB ((l.drop k).take 40)).toArray⟩ : ByteArray) = sx at *
            go_wp2_with (at_builtin; refine stop_here ?_)
            refine stop_on ?_
            refine app_sv _ rfl _ _ rfl w.heap.size _ L.length L rfl (own_ext HO.out (HXJ.out.trans ((Ext.refl wr).alloc _))) (some ⟨wr.heap.size, 0, none⟩) 1 1 [sx] rfl rfl (slU_lit rfl _ 1 [sv sx] (by unfold maxLen; omega)) (by omega) (by have := HX.out.size; have := HXJ.out.size; simp; omega) ?_
            intro A5 c5 w5 hown hg
            have X5 := Lib.hid (show Ext w w5 from Below.grown ((HX.out.trans HXJ.out).alloc (.cells #[sv sx] 9)) hg (by have := HX.out.size; have := HXJ.out.size; simp; omega) (fun q hq => (HO.out.lt q hq).1))
            have O5 := Lib.hid hown
            have HLL := Lib.hid (show (L ++ [sx]).length = L.length + 1 from by simp)
            clear hown hg
            go_wp2_with fail
            go_roundw
            case rel => exact ⟨k + 40, L ++ [sx], A5, c5, by go_num, HS.out, by omega, by rw [HLL.out], by rw [HLL.out]; omega, by rw [HLL.out]; exact O5.out, X5.out⟩
            case measure => simp [intOf]; omega
          · have j1 : ¬ (j : Int) < 40 := by omega
            have j2 : decide (j < 40) = false := decide_eq_false (by omega)
            have j5 : decide ((j : Int) < 40) = false := decide_eq_false j1
            have HCV := Lib.hid (conv_40 wr wq.heap.size wq.heap.size _ (partB_len (l := l.drop k) (k := j) (by rw [List.length_drop, ← HN.out]; omega) (by omega)) HOJ.out)
            have HPB := Lib.hid (partB_end (l := l.drop k) (k := j) (by rw [List.length_drop, ← HN.out]; omega))
            have hcv := HCV.out
            rw [HPB.out] at hcv
            have HS := Lib.hid (show (L ++ [(⟨(padB ((l.drop k).take 40)).toArray⟩ : ByteArray)]).map txP ++ chunksP (l.drop (k + 40)) = chunksP l from by
              rw [List.map_append, List.append_assoc, ← HL.out, chunks_cons (l := l.drop k) HNE.out, List.drop_drop]
              simp [txP])
            clear HCV
            generalize (⟨(padB ((l.drop k).take 40)).toArray⟩ : ByteArray) = sx at *
            go_wp2_with (at_builtin; refine stop_here ?_)
            refine stop_on ?_
            refine app_sv _ rfl _ _ rfl w.heap.size _ L.length L rfl (own_ext HO.out (HXJ.out.trans ((Ext.refl wr).alloc _))) (some ⟨wr.heap.size, 0, none⟩) 1 1 [sx] rfl rfl (slU_lit rfl _ 1 [sv sx] (by unfold maxLen; omega)) (by omega) (by have := HX.out.size; have := HXJ.out.size; simp; omega) ?_
            intro A5 c5 w5 hown hg
            have X5 := Lib.hid (show Ext w w5 from Below.grown ((HX.out.trans HXJ.out).alloc (.cells #[sv sx] 9)) hg (by have := HX.out.size; have := HXJ.out.size; simp; omega) (fun q hq => (HO.out.lt q hq).1))
            have O5 := Lib.hid hown
            have HLL := Lib.hid (show (L ++ [sx]).length = L.length + 1 from by simp)
            clear hown hg
            go_wp2_with fail
            go_roundw
            case rel => exact ⟨k + 40, L ++ [sx], A5, c5, by go_num, HS.out, by omega, by rw [HLL.out], by rw [HLL.out]; omega, by rw [HLL.out]; exact O5.out, X5.out⟩
            case measure => simp [intOf]; omega
    · have hki : ¬ (k : Int) < (n : Int) := by omega
      have hd : l.drop k = [] := List.drop_eq_nil_of_le (by rw [← HN.out]; exact hlt)
      have HE := Lib.hid (show L.map txP = chunksP l from by rw [← HL.out, hd, chunks_nil, List.append_nil])
      have HLE := Lib.hid (show (chunksP l).length = L.length from by rw [← HE.out, List.length_map])
      have d1 : decide ((k : Int) < (n : Int)) = false := decide_eq_false hki
      clear hd
      go_wp2_with fail
      go_ret
      exact ⟨O, oc, by rw [HLE.out]; rfl, L, by rw [HLE.out]; exact own_sl HO.out, HE.out, HX.out⟩
end Go.Proofs.YtnlkakbpcdfgfaaGreat
namespace Go.Proofs.YtnlkakbpcdfgfaaGreat
set_option maxRecDepth 20000
open Go.RowKit
attribute [local go_sem ↓] Go.wp_at_zero Go.wp_at_succ

theorem chunkF_le : ∀ (f : Nat) (l : Bl), (chunkF f l).length ≤ f
  | 0, _ => by simp [chunkF]
  | f + 1, l => by
    rw [chunkF]
    split
    · simp
    · rw [List.length_cons]; have := chunkF_le f (l.drop 40); omega
theorem chunks_le (l : Bl) : (chunksP l).length ≤ l.length := chunkF_le _ _
/-- A book's blocks, as texts. -/
def chB (l : Bl) : List ByteArray := (chunksP l).map (fun c => (⟨c.toArray⟩ : ByteArray))
theorem chB_of {L : List ByteArray} {l : Bl} (h : L.map txP = chunksP l) : L = chB l := by
  unfold chB
  rw [← h, List.map_map]
  conv => lhs; rw [← List.map_id L]
  exact List.map_congr_left (fun s _ => by cases s; simp [txP])
theorem chB_len (l : Bl) : (chB l).length = (chunksP l).length := by unfold chB; rw [List.length_map]
/-- P14.2: what is asked of the disk, block for block. -/
def asks (b : List ByteArray) (dl : List Wr) (base : Nat) (L : List ByteArray) : Nat → List Wr
  | 0 => []
  | k + 1 => askW b dl ((base + k : Nat) : Int) (L[k]?.getD ⟨#[]⟩) (asks b dl base L k)
def planW (b : List ByteArray) (dl : List Wr) (n keep next gen : Nat) : List Wr :=
  asks b dl (2 + (gen + 1) % 2 * areaP n) (chB (bookP next keep (List.replicate n 0))) (chB (bookP next keep (List.replicate n 0))).length ++ [(-1, ⟨#[]⟩)] ++ [((((gen + 1) % 2 : Nat) : Int), supB ⟨((gen + 1 : Nat) : Int), ((11 + 2 * n : Nat) : Int), (crc (bookP next keep (List.replicate n 0)) : Nat)⟩)] ++ [(-1, ⟨#[]⟩)]
set_option maxRecDepth 100000 in
set_option maxHeartbeats 6400000 in
theorem ref14Plan_new (A A' R : Option Addr) (b : List ByteArray) (dl : List Wr) (n q c c' next keep gen : Nat) (w : World) (hb : b.length ≤ 4000) (hdl : dl.length ≤ maxLen) (hn : cellsP b.length = n) (hn2 : n ≤ 2000) (hnx : next < 4294967296) (hk : keep < 65536) (hgn : gen < 2147483647)
    (hA : Sl w A b.length c (b.map sv)) (hA' : Sl w A' dl.length c' (wvs dl)) (hR : HcSl w R n q (List.replicate n HC.none)) :
    Calls Tryz.prog 35 #[.agg #[.slice A b.length c, .slice A' dl.length c'], .agg #[.slice R n q, .int .i64 keep, .slice none 0 0, .slice none 0 0, .int .i64 next, .int .i64 gen]] w fun e w' => ∃ P m cp, e = .returned (.tuple #[.slice P m cp, .int .i64 0]) ∧ w'.ownsRow w.heap.size 58 2 (.slice P m cp) m (wvs (planW b dl n keep next gen)) ∧ Ext w w' := by
  have hbd := (Bx.new w #[.slice A b.length c, .slice A' dl.length c'] 26).ext ((Ext.refl _).alloc (.cells #[.slice R n q, .int .i64 keep, .slice none 0 0, .slice none 0 0, .int .i64 next, .int .i64 gen] 33))
  have hbs := Bx.new (w.alloc (.cells #[.slice A b.length c, .slice A' dl.length c'] 26)) #[.slice R n q, .int .i64 keep, .slice none 0 0, .slice none 0 0, .int .i64 next, .int .i64 gen] 33
  rw [World.size_alloc] at hbs
  have hx := ((Ext.refl w).alloc (.cells #[.slice A b.length c, .slice A' dl.length c'] 26)).alloc (.cells #[.slice R n q, .int .i64 keep, .slice none 0 0, .slice none 0 0, .int .i64 next, .int .i64 gen] 33)
  have HD := Lib.hid hbd
  have HS := Lib.hid hbs
  have HX := Lib.hid hx
  have HA := Lib.hid hA
  have HA' := Lib.hid hA'
  have HR := Lib.hid hR
  have p0 := HD.out.at 0 _ rfl
  have p1 := HD.out.at 1 _ rfl
  obtain ⟨s0, s1, s2, s3, s4⟩ := st_at HS.out
  have s5 := HS.out.at 5 _ rfl
  have RC := Lib.hid (fun w' => ref14Cells_any b.length w' (by omega))
  rw [hn] at RC
  have HN := Lib.hid hn
  obtain ⟨gg, hgg⟩ : ∃ gg, gen + 1 = gg := ⟨_, rfl⟩
  have hv1 : (gen : Int) + 1 = (gg : Int) := by omega
  have HPW := Lib.hid (show planW b dl n keep next gen = asks b dl (2 + (gen + 1) % 2 * areaP n) (chB (bookP next keep (List.replicate n 0))) (chB (bookP next keep (List.replicate n 0))).length ++ [(-1, ⟨#[]⟩)] ++ [((((gen + 1) % 2 : Nat) : Int), supB ⟨((gen + 1 : Nat) : Int), ((11 + 2 * n : Nat) : Int), (crc (bookP next keep (List.replicate n 0)) : Nat)⟩)] ++ [(-1, ⟨#[]⟩)] from rfl)
  rw [hgg] at HPW
  have HGG := Lib.hid hgg
  have hgg2 : gg ≤ 2147483647 := by omega
  clear hgg
  generalize planW b dl n keep next gen = PW at *
  have RP := Lib.hid (fun w' (h : HcSl w' R n q (List.replicate n HC.none)) => ref13Print_any R (List.replicate n HC.none) n q next keep gen w' hnx hk hn2 (fun y hy => by obtain ⟨_, rfl⟩ := List.mem_replicate.1 hy; exact ⟨by decide, by decide⟩) h)
  rw [List.map_replicate, show HC.none.ref.toNat = 0 from rfl] at RP
  have RA := Lib.hid (fun w' => ref14Area_any n w' (by omega))
  have d0 : ((n : Int) != (n : Int)) = false := by simp
  have d1 : ((gen : Int) == 2147483647) = false := beq_eq_false_iff_ne.2 (by omega)
  have d2 : (gen == 2147483647) = false := beq_eq_false_iff_ne.2 (by omega)
  have v1 : IntKind.i64.wrap ((gen : Int) + 1) = (gg : Int) := by rw [IntKind.wrap_i64]; omega
  clear hv1
  have har : areaP n ≤ 200 := by have := area_room n; omega
  have HBL := Lib.hid (show (bookP next keep (List.replicate n 0)).length = 11 + 2 * n from by
    rw [← bookR_end (refs := List.replicate n 0) (n := n) (by simp)]
    unfold bookR bookH
    simp [putL_length]
    omega)
  generalize bookP next keep (List.replicate n 0) = bk at *
  have hz9 : 11 + 2 * n ≤ 4011 := by omega
  generalize 11 + 2 * n = z at *
  generalize areaP n = ar at *
  clear hA hA' hR hbd hbs hx hn hnx hk
  go_enter Tryz.func35, Tryz.ntmps35
  go_wp2_with (first
    | (go_at_call 10; refine (RC.out _).mono ?_; rintro e w1 ⟨rfl, rfl⟩)
    | (go_at_call 53; refine (RP.out _ (HR.out.ext HX.out)).mono ?_; rintro e w1 ⟨A1, c1, rfl, hs, hx⟩; have S1 := Lib.hid hs; have D1 := Lib.hid (HD.out.ext hx); have T1 := Lib.hid (HS.out.ext hx); have X1 := Lib.hid (HX.out.trans hx); clear hs hx p0 p1 s0 s1 s2 s3 s4 s5; obtain ⟨s0, s1, s2, s3, s4⟩ := st_at T1.out; have s5 := T1.out.at 5 _ rfl; have p0 := D1.out.at 0 _ rfl; have p1 := D1.out.at 1 _ rfl))
  go_loop [10, 11] (fun o i => ∃ k : Nat, k ≤ n ∧ i = .int .i64 k ∧ o = .slice none 0 0) (fun _ i => n - (intOf i).toNat)
  case atStart => exact ⟨0, Nat.zero_le _, rfl, rfl⟩
  case round =>
  obtain ⟨k, hk, rfl, rfl⟩ := hrel
  rcases Nat.lt_or_ge k n with hlt | hge
  · have hkl : k < (List.replicate n HC.none).length := by rw [List.length_replicate]; exact hlt
    obtain ⟨b5, off, rfl, _, A5, c5, r0, _, _, _, _⟩ := (HR.out.ext X1.out).cell hkl
    rw [List.getElem_replicate] at r0
    have r1 := (show w1.cell? ⟨b5, off + k * 4, none⟩ = some (.int .i64 0) from r0)
    clear r0
    have hki : (k : Int) < (n : Int) := by omega
    go_wp2_with fail
    go_round
    case rel => exact ⟨k + 1, by omega, by go_num, rfl⟩
    case measure => simp [intOf]; omega
  · obtain rfl : n = k := by omega
    clear hge
    have RH := Lib.hid (ref14Chunks_any A1 bk z c1 w1 HBL.out.symm (by omega) S1.out)
    go_wp2_with (go_at_call 56; refine RH.out.mono ?_; rintro e w2 ⟨B2, c2, L, rfl, hs, hl, hx⟩; have S2 := Lib.hid hs; have E2 := Lib.hid (chB_of hl); have D2 := Lib.hid (D1.out.ext hx); have T2 := Lib.hid (T1.out.ext hx); have X2 := Lib.hid (X1.out.trans hx); have SB := Lib.hid (S1.out.ext hx); clear hs hx hl p0 p1 s0 s1 s2 s3 s4 s5)
    have HLN := Lib.hid (show L.length = (chunksP bk).length from by rw [E2.out, chB_len])
    have hNb : (chunksP bk).length ≤ z := by rw [← HBL.out]; exact chunks_le bk
    have HL := Lib.hid (chB_len bk)
    rw [HL.out, ← E2.out] at HPW
    clear HL RH
    generalize (chunksP bk).length = N at *
    obtain ⟨par, hpar⟩ : ∃ p, gg % 2 = p := ⟨_, rfl⟩
    rw [hpar] at HPW
    have hp2 : par ≤ 1 := by omega
    obtain ⟨mm, hmm⟩ : ∃ m, par * ar = m := ⟨_, rfl⟩
    have hmm2 : mm ≤ 200 := by rw [← hmm]; exact Nat.le_trans (Nat.mul_le_mul_right ar hp2) (by omega)
    rw [hmm] at HPW
    have g1 : ((gg : Int)).tmod 2 = (par : Int) := by rw [Int.tmod_eq_emod_of_nonneg (by omega)]; omega
    have g1b : (gg : Int) % 2 = (par : Int) := by omega
    have g2 : IntKind.i64.wrap (par : Int) = (par : Int) := by rw [IntKind.wrap_i64]; omega
    have g3 : IntKind.i64.wrap ((par : Int) * (ar : Int)) = (mm : Int) := by
      rw [show (par : Int) * (ar : Int) = ((par * ar : Nat) : Int) by simp, hmm, IntKind.wrap_i64]; omega
    obtain ⟨m2, hm2⟩ : ∃ m, 2 + mm = m := ⟨_, rfl⟩
    have g4 : IntKind.i64.wrap (2 + (mm : Int)) = (m2 : Int) := by rw [IntKind.wrap_i64]; omega
    rw [hm2] at HPW
    have hm22 : m2 ≤ 202 := by omega
    clear hpar hmm hm2 v1 d1 d2 d0
    go_loopw [10, 15] (fun o i wr => ∃ k m : Nat, ∃ O oc, k ≤ N ∧ m ≤ k ∧ i = .int .i64 k ∧ o = .slice O m oc ∧ wr.ownsRow w2.heap.size 58 2 (.slice O m oc) m (wvs (asks b dl m2 L k)) ∧ Ext w2 wr) (fun _ i _ => N - (intOf i).toNat)
    case atStart => exact ⟨0, 0, none, 0, Nat.zero_le _, Nat.le_refl _, rfl, rfl, World.ownsRow_nil _ _ _ _, Ext.refl _⟩
    case round =>
      obtain ⟨k, m, O, oc, hk2, hmk, rfl, rfl, ho, hx⟩ := hrel
      have HO := Lib.hid ho
      have HW := Lib.hid hx
      have D3 := Lib.hid (D2.out.ext hx)
      have p0 := D3.out.at 0 _ rfl
      have p1 := D3.out.at 1 _ rfl
      rcases Nat.lt_or_ge k N with hlt | hge
      · have hkl : k < L.length := by rw [HLN.out]; exact hlt
        obtain ⟨b6, o6, rfl, hb6, hc6⟩ := S2.out.cells.str hkl
        have r6w := hc6 k hkl
        have hki : (k : Int) < (N : Int) := by omega
        obtain ⟨pos, hpos⟩ : ∃ p, m2 + k = p := ⟨_, rfl⟩
        have HST := Lib.hid (show asks b dl m2 L (k + 1) = askW b dl (pos : Int) L[k] (asks b dl m2 L k) from by
          show askW _ _ _ (L[k]?.getD _) _ = _
          rw [List.getElem?_eq_getElem hkl, hpos]; rfl)
        generalize L[k] = x at *
        have HK := Lib.hid (fun w' (hy : Ext w2 w') => (show w'.cell? ⟨w.heap.size, 0, none⟩ = some (.slice A b.length c) ∧ w'.cell? ⟨w.heap.size, 1, none⟩ = some (.slice A' dl.length c') ∧ w'.cell? ⟨b6, o6 + k, none⟩ = some (.string x) from ⟨(D2.out.ext hy).at 0 _ rfl, (D2.out.ext hy).at 1 _ rfl, (hy.cell (p := ⟨b6, o6 + k, none⟩) hb6).trans r6w⟩))
        have r6 := (HK.out _ hx).2.2
        have g5 : IntKind.i64.wrap ((m2 : Int) + (k : Int)) = (pos : Int) := by rw [IntKind.wrap_i64]; omega
        have HQ := Lib.hid (fun w' (hy : Ext wr w') => ref14asked_any A A' O b dl (asks b dl m2 L k) c c' m oc w2.heap.size (pos : Int) x w' (by unfold maxLen; omega) hdl (by omega) (Nat.le_trans HW.out.size hy.size) (HA.out.ext ((X2.out.trans HW.out).trans hy)) (HA'.out.ext ((X2.out.trans HW.out).trans hy)) (own_ext HO.out hy))
        rw [← HST.out] at HQ
        clear hc6 ho hx HST r6w hpos
        go_wp2_with fail
        go_region_held3 (fun w' => w'.cell? ⟨w.heap.size, 0, none⟩ = some (.slice A b.length c) ∧ w'.cell? ⟨w.heap.size, 1, none⟩ = some (.slice A' dl.length c') ∧ w'.cell? ⟨b6, o6 + k, none⟩ = some (.string x))
          (first | exact HK.out _ X5.out | exact HK.out _ HW.out.drew | exact HK.out _ HW.out)
          (first
            | ((go_at_call 55
                with_reducible refine (HQ.out _ ?_).mono ?_
                (first | exact Ext.refl _ | exact (Ext.refl _).drew)
                rintro e w5 ⟨O', m', oc', hm', rfl, ho5, hg5⟩
                have O5 := Lib.hid ho5
                have X5 := Lib.hid (show Ext w2 w5 from by first | exact HW.out.app HO.out (Nat.le_refl _) hg5 | exact HW.out.drew.app HO.out.drew (Nat.le_refl _) hg5)
                clear ho5 hg5))
            | ((go_at_call 39
                with_reducible refine (RA.out _).mono ?_
                rintro e w4 ⟨rfl, rfl⟩)))
        all_goals
          go_wp2_with fail
          go_roundw
          case rel => exact ⟨k + 1, m', O', oc', by omega, by omega, by go_num, rfl, O5.out, X5.out⟩
          case measure => simp [intOf]; omega
      · obtain rfl : N = k := by omega
        clear hge hx
        have RBk := Lib.hid (ref03Book_any A1 bk z c1 wr HBL.out.symm (SB.out.ext HW.out))
        have RPr := Lib.hid (fun w' (y : Nat) => ref03Print_any (gg : Int) (z : Int) (y : Int) w')
        generalize crc bk = y at *
        have RPr := Lib.hid (fun w' => RPr.out w' y)
        generalize supB ⟨(gg : Int), (z : Int), (y : Int)⟩ = sb at *
        generalize supE ⟨(gg : Int), (z : Int), (y : Int)⟩ = se at *
        generalize asks b dl m2 L N = ws at *
        go_wp2_with (first
          | (go_at_call 57; refine RBk.out.mono ?_; rintro e w4 ⟨rfl, rfl⟩)
          | (go_at_call 58; with_reducible refine (RPr.out _).mono ?_; rintro e w4 ⟨rfl, hx⟩; have X4 := Lib.hid (HW.out.trans hx); have O4 := Lib.hid (own_ext ho hx); clear hx)
          | (at_builtin; refine stop_here ?_))
        refine stop_on ?_
        have Y1 := Lib.hid (X4.out.alloc (.cells #[.int .i64 (-1), .string ⟨#[]⟩] 58))
        refine app_wvs _ rfl _ _ rfl w2.heap.size (.slice O m oc) (m) (ws) rfl (O4.out.alloc _) (some ⟨w4.heap.size, 0, none⟩) 1 1 [((-1), ⟨#[]⟩)] rfl rfl (sl_lit w4 _ 1 (wvs [((-1), ⟨#[]⟩)]) (by unfold maxLen; omega)) (by omega) Y1.out.size ?_
        intro Q1 z1 W1 hown hg
        have X5 := Lib.hid (Y1.out.app (O4.out.alloc _) (Nat.le_refl _) hg)
        have O5 := Lib.hid hown
        clear hown hg
        go_wp2_with (at_builtin; refine stop_here ?_)
        refine stop_on ?_
        have Y2 := Lib.hid (X5.out.alloc (.cells #[.int .i64 (par : Int), .string sb] 58))
        refine app_wvs _ rfl _ _ rfl w2.heap.size (.slice Q1 (m + 1) z1) (m + 1) (ws ++ [(-1, ⟨#[]⟩)]) rfl (O5.out.alloc _) (some ⟨W1.heap.size, 0, none⟩) 1 1 [((par : Int), sb)] rfl rfl (sl_lit W1 _ 1 (wvs [((par : Int), sb)]) (by unfold maxLen; omega)) (by omega) Y2.out.size ?_
        intro Q2 z2 W2 hown hg
        have X6 := Lib.hid (Y2.out.app (O5.out.alloc _) (Nat.le_refl _) hg)
        have O6 := Lib.hid hown
        clear hown hg
        go_wp2_with (at_builtin; refine stop_here ?_)
        refine stop_on ?_
        have Y3 := Lib.hid (X6.out.alloc (.cells #[.int .i64 (-1), .string ⟨#[]⟩] 58))
        refine app_wvs _ rfl _ _ rfl w2.heap.size (.slice Q2 (m + 1 + 1) z2) (m + 1 + 1) (ws ++ [(-1, ⟨#[]⟩)] ++ [((par : Int), sb)]) rfl (O6.out.alloc _) (some ⟨W2.heap.size, 0, none⟩) 1 1 [((-1), ⟨#[]⟩)] rfl rfl (sl_lit W2 _ 1 (wvs [((-1), ⟨#[]⟩)]) (by unfold maxLen; omega)) (by omega) Y3.out.size ?_
        intro Q3 z3 W3 hown hg
        have X7 := Lib.hid (Y3.out.app (O6.out.alloc _) (Nat.le_refl _) hg)
        have O7 := Lib.hid hown
        clear hown hg
        go_wp2_with fail
        go_ret2
        exact ⟨Q3, m + 1 + 1 + 1, z3, rfl, by rw [HPW.out]; exact own_low O7.out X2.out.size, X2.out.trans X7.out⟩
end Go.Proofs.YtnlkakbpcdfgfaaGreat
namespace Go.Proofs.YtnlkakbpcdfgfaaGreat
set_option maxRecDepth 20000
open Go.RowKit
attribute [local go_sem ↓] Go.wp_at_zero Go.wp_at_succ

theorem st_at6 {w : World} {k : Nat} {a b c d e f : Value} (h : Bx w k #[a, b, c, d, e, f]) : w.cell? ⟨k, 0, none⟩ = some a ∧ w.cell? ⟨k, 1, none⟩ = some b ∧ w.cell? ⟨k, 2, none⟩ = some c ∧ w.cell? ⟨k, 3, none⟩ = some d ∧ w.cell? ⟨k, 4, none⟩ = some e ∧ w.cell? ⟨k, 5, none⟩ = some f :=
  ⟨h.at 0 _ rfl, h.at 1 _ rfl, h.at 2 _ rfl, h.at 3 _ rfl, h.at 4 _ rfl, h.at 5 _ rfl⟩
theorem st_free6 {w : World} {k : Nat} {cs : Array Value} (h : Bx w k cs) : w.frozen? ⟨k, 0, none⟩ = false ∧ w.frozen? ⟨k, 1, none⟩ = false ∧ w.frozen? ⟨k, 2, none⟩ = false ∧ w.frozen? ⟨k, 3, none⟩ = false ∧ w.frozen? ⟨k, 4, none⟩ = false ∧ w.frozen? ⟨k, 5, none⟩ = false :=
  ⟨h.free 0, h.free 1, h.free 2, h.free 3, h.free 4, h.free 5⟩
/-- A function's end whose first result lies in a box of six. -/
theorem ret6_cell {P : Program} {fn : Func} {R : Ending → World → Prop} {a : Act} {W : World} {v : Value} {k : Nat} {x y z u s t : Value} (hb : Bx W k #[x, y, z, u, s, t])
    (h : W.cell? ⟨k, 0, none⟩ = some x → W.cell? ⟨k, 1, none⟩ = some y → W.cell? ⟨k, 2, none⟩ = some z → W.cell? ⟨k, 3, none⟩ = some u → W.cell? ⟨k, 4, none⟩ = some s → W.cell? ⟨k, 5, none⟩ = some t → (results fn a.tmps).run P W = .ok v W) (hd : a.defers = []) (hR : R (.returned v) W) : bodyPost P fn R .ret a W := by
  obtain ⟨h0, h1, h2, h3, h4, h5⟩ := st_at6 hb
  exact bodyPost_ret (h h0 h1 h2 h3 h4 h5) hd hR
theorem st_set6 {w : World} {k : Nat} {a b c d e f : Value} (h : Bx w k #[a, b, c, d, e, f]) (x y z u s t : Value) : Bx ((((((w.setCell ⟨k, 0, none⟩ x).setCell ⟨k, 1, none⟩ y).setCell ⟨k, 2, none⟩ z).setCell ⟨k, 3, none⟩ u).setCell ⟨k, 4, none⟩ s).setCell ⟨k, 5, none⟩ t) k #[x, y, z, u, s, t] :=
  (((((h.set 0 x).set 1 y).set 2 z).set 3 u).set 4 s).set 5 t
theorem ext_store6 {w0 w : World} (h : Ext w0 w) {k : Nat} (hk : w0.heap.size ≤ k) (x y z u s t : Value) : Ext w0 ((((((w.setCell ⟨k, 0, none⟩ x).setCell ⟨k, 1, none⟩ y).setCell ⟨k, 2, none⟩ z).setCell ⟨k, 3, none⟩ u).setCell ⟨k, 4, none⟩ s).setCell ⟨k, 5, none⟩ t) :=
  (((((h.set (p := ⟨k, 0, none⟩) hk x).set (p := ⟨k, 1, none⟩) hk y).set (p := ⟨k, 2, none⟩) hk z).set (p := ⟨k, 3, none⟩) hk u).set (p := ⟨k, 4, none⟩) hk s).set (p := ⟨k, 5, none⟩) hk t
theorem grown_one (w : World) (k j : Nat) (x : Value) : w.grownBy (w.setCell ⟨k, j, none⟩ x) (some k) :=
  ⟨rfl, rfl, rfl, by simp [World.setCell], fun i _ hi => by rw [Below.heap_setCell _ _ _ _ (by simpa using hi)]⟩
theorem grown_store6 (w : World) (k : Nat) (x y z u s t : Value) : w.grownBy ((((((w.setCell ⟨k, 0, none⟩ x).setCell ⟨k, 1, none⟩ y).setCell ⟨k, 2, none⟩ z).setCell ⟨k, 3, none⟩ u).setCell ⟨k, 4, none⟩ s).setCell ⟨k, 5, none⟩ t) (some k) :=
  grown_trans (grown_trans (grown_trans (grown_trans (grown_trans (grown_one _ _ _ _) (grown_one _ _ _ _)) (grown_one _ _ _ _)) (grown_one _ _ _ _)) (grown_one _ _ _ _)) (grown_one _ _ _ _)
theorem no_box6 {w : World} {b off k : Nat} {A1 A2 A3 : Option Addr} {n1 c1 n2 c2 n3 c3 : Nat} {z y x : Int} (hb : Bx w k #[.slice A1 n1 c1, .int .i64 z, .slice A2 n2 c2, .slice A3 n3 c3, .int .i64 y, .int .i64 x]) {r : Int} {u : Bool} (h0 : w.cell? ⟨b, off, none⟩ = some (.int .i64 r)) (h1 : w.cell? ⟨b, off + 1, none⟩ = some (.bool u)) : k ≠ b := fun e => by
  subst e
  obtain ⟨t, hb⟩ := hb
  unfold World.cell? at h0 h1
  rw [show w.heap[(⟨k, off, none⟩ : Addr).block]? = _ from hb] at h0
  rw [show w.heap[(⟨k, off + 1, none⟩ : Addr).block]? = _ from hb] at h1
  match off, h0, h1 with
  | 0, h0, _ => simp at h0
  | 1, _, h1 => simp at h1
  | 2, h0, _ => simp at h0
  | 3, h0, _ => simp at h0
  | 4, _, h1 => simp at h1
  | 5, _, h1 => simp at h1
  | n + 6, h0, _ => simp at h0
/-- Cells without items lie in no state's box. -/
theorem hcs_boxed6 {w : World} {R : Option Addr} {m q : Nat} {l : List HC} (hit : ∀ y ∈ l, y.it = []) (h : HcSl w R m q l) {k : Nat} {A1 A2 A3 : Option Addr} {n1 c1 n2 c2 n3 c3 : Nat} {z1 y1 x1 : Int} (hb : Bx w k #[.slice A1 n1 c1, .int .i64 z1, .slice A2 n2 c2, .slice A3 n3 c3, .int .i64 y1, .int .i64 x1]) (x y z u s t : Value) :
    HcSl ((((((w.setCell ⟨k, 0, none⟩ x).setCell ⟨k, 1, none⟩ y).setCell ⟨k, 2, none⟩ z).setCell ⟨k, 3, none⟩ u).setCell ⟨k, 4, none⟩ s).setCell ⟨k, 5, none⟩ t) R m q l := by
  obtain ⟨h1, cs, h2, h3⟩ := h
  refine ⟨h1, cs, ?_, h3.1, fun i hi => ?_⟩
  · refine h2.grown (grown_store6 w k x y z u s t) (fun hx p hp e => ?_)
    obtain ⟨b, off, e', hlt, hc⟩ := h2.cells hx
    rw [hp] at e'
    cases e'
    have hl := h3.1
    have hpos : 0 < l.length := by
      rcases Nat.eq_zero_or_pos l.length with h0 | h0
      · rw [h0] at hl; exact absurd (List.eq_nil_of_length_eq_zero hl) hx
      · exact h0
    obtain ⟨A, c, e1, e2, _⟩ := h3.2 0 hpos
    have g0 := hc _ _ e1
    have g1 := hc _ _ e2
    simp only [Nat.zero_mul, Nat.add_zero, Nat.zero_add] at g0 g1
    exact no_box6 hb g0 g1 (Option.some.inj e)
  · obtain ⟨A, c, e1, e2, e3, e4, h5⟩ := h3.2 i hi
    have hn := hit _ (List.getElem_mem hi)
    refine ⟨A, c, e1, e2, e3, e4, h5.1, h5.2.1, h5.2.2.1, ?_⟩
    rw [hn]
    exact Cells.nil _ _
set_option maxRecDepth 100000 in
set_option maxHeartbeats 3200000 in
theorem ref12New_any (n keep : Int) (w : World) :
    Calls Tryz.prog 19 #[.int .i64 n, .int .i64 keep] w fun e w' => ∃ S d, e = .returned (.tuple #[.agg #[.slice S (newH n keep).c.length d, .int .i64 (newH n keep).keep, .slice none 0 0, .slice none 0 0, .int .i64 (1 - newHE n keep), .int .i64 0], .int .i64 (newHE n keep)]) ∧ HcSl w' S (newH n keep).c.length d (newH n keep).c ∧ Ext w w' := by
  have hb := Bx.new w #[.slice none 0 0, .int .i64 0, .slice none 0 0, .slice none 0 0, .int .i64 0, .int .i64 0] 33
  have HB := Lib.hid hb
  have HX := Lib.hid ((Ext.refl w).alloc (.cells #[.slice none 0 0, .int .i64 0, .slice none 0 0, .slice none 0 0, .int .i64 0, .int .i64 0] 33))
  clear hb
  have RN := Lib.hid (fun w' => ref05New_any n keep w')
  by_cases hok : newOk n keep
  · have he : newHE n keep = 0 := by unfold newHE; rw [if_pos hok]
    rw [he] at RN ⊢
    have HIT := Lib.hid (show ∀ y ∈ (newH n keep).c, y.it = [] from by
      unfold newH; rw [if_pos hok]
      intro y hy
      obtain ⟨_, rfl⟩ := List.mem_replicate.1 hy
      rfl)
    clear he hok
    generalize newH n keep = h at *
    obtain ⟨l, kp⟩ := h
    simp only at RN HIT ⊢
    generalize hm : l.length = m at *
    go_enter Tryz.func19, Tryz.ntmps19
    go_wp2_with (go_at_call 34; refine (RN.out _).mono ?_; rintro e w2 ⟨S, d, rfl, hs, hx⟩; have HS := Lib.hid hs; have X2 := Lib.hid (HX.out.trans hx); have B2 := Lib.hid (HB.out.ext hx); have z2 := B2.out.lt; obtain ⟨f0, f1, f2, f3, f4, f5⟩ := st_free6 B2.out; obtain ⟨q0, q1, q2, q3, q4, q5⟩ := st_at6 B2.out; clear hs hx)
    refine ret6_cell (k := w.heap.size) (v := .tuple #[.agg #[.slice S m d, .int .i64 kp, .slice none 0 0, .slice none 0 0, .int .i64 1, .int .i64 0], .int .i64 0]) ((st_set6 B2.out _ _ _ _ _ _).ext ((Ext.refl _).alloc _)) (fun r0 r1 r2 r3 r4 r5 => by simp [results, Tryz.results19, go_sem, r0, r1, r2, r3, r4, r5]) rfl ⟨S, d, rfl, (hcs_boxed6 HIT.out HS.out B2.out _ _ _ _ _ _).ext ((Ext.refl _).alloc _), (ext_store6 X2.out (Nat.le_refl _) _ _ _ _ _ _).alloc _⟩
  · have he : newHE n keep = 1 := by unfold newHE; rw [if_neg hok]
    have hh : newH n keep = ⟨[], 0⟩ := by unfold newH; rw [if_neg hok]
    rw [he, hh] at RN ⊢
    clear he hh hok
    simp only [List.length_nil] at RN ⊢
    go_enter Tryz.func19, Tryz.ntmps19
    go_wp2_with (go_at_call 34; refine (RN.out _).mono ?_; rintro e w2 ⟨S, d, rfl, hs, hx⟩; have HS := Lib.hid hs; have X2 := Lib.hid (HX.out.trans hx); have B2 := Lib.hid (HB.out.ext hx); have z2 := B2.out.lt; obtain ⟨f0, f1, f2, f3, f4, f5⟩ := st_free6 B2.out; obtain ⟨q0, q1, q2, q3, q4, q5⟩ := st_at6 B2.out; clear hs hx)
    refine ret6_cell (k := w.heap.size) (v := .tuple #[.agg #[.slice none 0 0, .int .i64 0, .slice none 0 0, .slice none 0 0, .int .i64 0, .int .i64 0], .int .i64 1]) ((st_set6 B2.out _ _ _ _ _ _).ext ((Ext.refl _).alloc _)) (fun r0 r1 r2 r3 r4 r5 => by simp [results, Tryz.results19, go_sem, r0, r1, r2, r3, r4, r5]) rfl ⟨none, 0, rfl, ⟨rfl, [], Sl.nil _, HcAt.nil _⟩, (ext_store6 X2.out (Nat.le_refl _) _ _ _ _ _ _).alloc _⟩
end Go.Proofs.YtnlkakbpcdfgfaaGreat
