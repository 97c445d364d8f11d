/- The walk of NodePuts, where the key stands. -/
import Derived.Test.YtpcchbcibcfldaaNodeL7p
namespace Go.Proofs.Ytpcchbcibcfldaa
open Go.RowKit
attribute [local go_sem ↓] Go.wp_at_zero Go.wp_at_succ

set_option maxRecDepth 100000 in
set_option maxHeartbeats 4000000 in
theorem puts_t (A : Option Addr) (l : List It) (c : Nat) (K V : Int) (w : World) (hr : ndR l = true) (h0 : ¬ K < 0) (h1 : ¬ 2147483647 < K) (h2 : ¬ V < 0) (h3 : ¬ 2147483647 < V) (hb : atB l K = true) (hA : Sl w A l.length c (ivs l)) :
    Calls Try.prog 9 #[.agg #[.bool true, .slice A l.length c], .agg #[.int .i64 K, .int .i64 V]] w fun e w' => e = .returned (.bool true) ∧ Ext w w' := by
  have HA := Lib.hid hA
  have X0 := Lib.hid (((Ext.refl w).alloc (.cells #[.bool true, .slice A l.length c] 24)).alloc (.cells #[.int .i64 K, .int .i64 V] 50))
  have B0 := Lib.hid ((Bx.new w #[.bool true, .slice A l.length c] 24).ext ((Ext.refl _).alloc (.cells #[.int .i64 K, .int .i64 V] 50)))
  have D0 := Lib.hid (Bx.new (w.alloc (.cells #[.bool true, .slice A l.length c] 24)) #[.int .i64 K, .int .i64 V] 50)
  rw [show (w.alloc (.cells #[.bool true, .slice A l.length c] 24)).heap.size = w.heap.size + 1 by simp] at D0
  have HR := Lib.hid (fun w' (hx : Ext w w') => ref04Right_is true A l l.length c w' rfl (HA.out.ext hx) hr)
  have hN := (ndR_iff l).1 hr
  have h4 : l.length ≤ 4 := hN.1.2
  have h1l : 1 ≤ l.length := hN.1.1
  have hokx : okIt (K, V) := by unfold okIt; simp only; omega
  have p0 : decide (K < 0) = false := decide_eq_false h0
  have p1 : decide (2147483647 < K) = false := decide_eq_false h1
  have p2 : decide (V < 0) = false := decide_eq_false h2
  have p3 : decide (2147483647 < V) = false := decide_eq_false h3
  obtain ⟨i, hi, hil, _, hie, hk⟩ := leads (leaf := true) hN K
  have HT := Lib.hid (fun w' (hx : Ext w w') => nodeAt_any true A l l.length c K w' rfl hr (HA.out.ext hx))
  rw [hi, hb] at HT
  rw [hb] at hk hie
  obtain ⟨hil4, hik⟩ := hie rfl
  have hig : i + 1 ≤ l.length := hil4
  have hpr := put_rows hN hokx (i := i) (gone := 1) hig (fun k hk' h => ((hk k hk').2.1 rfl).1 h) (fun k hk' h => by have := hN.rise k i hk' (by omega); omega)
  obtain ⟨m, hm⟩ : ∃ m, withS l i 1 [(K, V)] = m := ⟨_, rfl⟩
  have hml : i + 1 + (l.length - (i + 1)) = m.length := by rw [← hm]; exact withS_len rfl rfl hig
  obtain ⟨p, hp⟩ : ∃ p, i + 1 + (l.length - (i + 1)) = p := ⟨_, rfl⟩
  have hp8 : p ≤ 8 := by omega
  rw [hp] at hml
  rw [hm] at hpr
  obtain ⟨rows, hrows⟩ : ∃ r, splitS m = r := ⟨_, rfl⟩
  rw [hrows] at hpr
  obtain ⟨⟨hr1, hr2⟩, hrk⟩ := hpr
  have HRK := Lib.hid hrk
  have HM := Lib.hid hm
  have HP := Lib.hid hp
  have HML := Lib.hid hml
  have HROWS := Lib.hid hrows
  have HIG := Lib.hid hig
  clear hr hN hk hie hi hb hm hp hml hrows hrk hokx h0 h1 h2 h3 hA
  go_enter Try.func9, Try.ntmps9
  go_wp2_with (first
    | (go_at_call 10; refine (shown_any _).mono ?_; rintro e w1 ⟨rfl, hx⟩; have X1 := Lib.hid (X0.out.trans hx); have B1 := Lib.hid (B0.out.ext hx); have D1 := Lib.hid (D0.out.ext hx); obtain ⟨b0, b1, b2⟩ := B1.out.read2; obtain ⟨x0, x1, x2⟩ := D1.out.read2; clear hx)
    | (go_at_call 15; refine (HR.out _ X1.out).mono ?_; rintro e w2 ⟨rfl, hx⟩; have X2 := Lib.hid (X1.out.trans hx); have B2 := Lib.hid (B1.out.ext hx); have D2 := Lib.hid (D1.out.ext hx); clear hx b0 b1 b2 x0 x1 x2; obtain ⟨b0, b1, b2⟩ := B2.out.read2; obtain ⟨x0, x1, x2⟩ := D2.out.read2)
    | (go_at_call 19; refine stop_here ?_))
  refine stop_on ?_
  refine (HT.out _ X2.out).mono ?_
  rintro e w3 ⟨rfl, hx⟩
  have X3 := Lib.hid (X2.out.trans hx)
  clear b0 b1 b2 x0 x1 x2
  obtain ⟨b0, b1, b2⟩ := (B2.out.ext hx).read2
  obtain ⟨x0, x1, x2⟩ := (D2.out.ext hx).read2
  clear hx B2 B1 B0 D2 D1 D0 X2 X1 X0 HR HT
  have i0 : (0 : Int) ≤ (i : Int) := by omega
  have d0 : decide ((i : Int) < 0) = false := decide_eq_false (by omega)
  have d1 : decide ((l.length : Int) - 1 < (i : Int)) = false := decide_eq_false (by omega)
  go_wp2_with (go_at_call 25; refine stop_here ?_)
  refine stop_on ?_
  have hsl := sl_lit w3 50 1 [.int .i64 K, .int .i64 V] (by unfold maxLen; omega)
  have HW := nodeWith_any A (some ⟨w3.heap.size, 0, none⟩) l [(K, V)] l.length 1 c 1 i 1 (w3.alloc (.cells #[.int .i64 K, .int .i64 V] 50)) rfl rfl (by have := HIG.out; omega) HIG.out (by omega) (by omega) ((HA.out.ext X3.out).ext ((Ext.refl _).alloc _)) hsl
  rw [HP.out, HM.out] at HW
  refine HW.mono ?_
  clear HW hsl
  rintro e w4 ⟨U, uc, rfl, hu, hx⟩
  have X4 := Lib.hid ((X3.out.alloc (.cells #[.int .i64 K, .int .i64 V] 50)).trans hx)
  have HU := Lib.hid hu
  clear hu hx b0 b1 b2 x0 x1 x2 d0 d1 
  go_wp2_with (go_at_call 22; refine stop_here ?_)
  refine stop_on ?_
  have HS := nodeSplit_any U m p uc w4 HML.out (by omega) HU.out
  rw [HROWS.out] at HS
  refine HS.mono ?_
  clear HS
  rintro e w5 ⟨R, rc, rfl, hR, hx⟩
  have X5 := Lib.hid (X4.out.trans hx)
  have HRW := Lib.hid hR
  clear hR hx X4 X3 HU HROWS HML HP HM HA
  go_wp2_with fail
  go_loopw [10, 11] (fun a v wr => ∃ k : Nat, k ≤ rows.length ∧ v = .int .i64 k ∧ a = .int .i64 (lastK rows k) ∧ Ext w5 wr) (fun _ v _ => rows.length - (intOf v).toNat)
  case atStart => exact ⟨0, Nat.zero_le _, rfl, rfl, Ext.refl _⟩
  case round =>
    obtain ⟨k, hk, rfl, rfl, hx⟩ := hrel
    have HX := Lib.hid hx
    rcases Nat.lt_or_ge k rows.length with hlt | hlt
    · obtain ⟨bR, oR, rfl, Ak, ck, hck, hsk⟩ := (HRW.out.ext hx).row hlt
      obtain ⟨hnk, hlk⟩ := HRK.out k hlt
      have hnk2 := (ndR_iff _).1 hnk
      have hl0 : 0 < rows[k].length := by have := hnk2.1; omega
      have hl4 : rows[k].length ≤ 4 := hnk2.1.2
      have hlk := hlk hl0
      have hls := lastK_succ hlt hl0
      have hki : (k : Int) < (rows.length : Int) := by omega
      have HRT := Lib.hid (fun w' (hx : Ext wr w') => ref04Right_is true Ak rows[k] rows[k].length ck w' rfl (hsk.ext hx) hnk)
      have HCK := Lib.hid (fun w' (hx : Ext wr w') => (show w'.cell? ⟨bR, oR + k, none⟩ = some (.slice Ak rows[k].length ck) from (hx.cell (p := ⟨bR, oR + k, none⟩) (World.block_lt_of_cell? _ _ hck)).trans hck))
      have HSK := Lib.hid (fun w' (hx : Ext wr w') => (hsk.ext hx).cells.it hl0)
      clear hnk hnk2 hx hsk
      obtain ⟨r, hr⟩ : ∃ r, rows[k] = r := ⟨_, rfl⟩
      simp only [hr] at hlk hls hl0 hl4 hck HRT HCK HSK
      obtain ⟨bk, ok, rfl, hx9, hx8⟩ := HSK.out wr (Ext.refl _)
      clear hx9 hx8
      obtain ⟨q, hq⟩ : ∃ q, r.length = q + 1 := ⟨r.length - 1, by omega⟩
      have HSK2 := Lib.hid (fun w' (hx : Ext wr w') => (show w'.cell? ⟨bk, ok, none⟩ = some (.int .i64 r[0].1) ∧ w'.cell? ⟨bk, ok + q * 2, none⟩ = some (.int .i64 (r[r.length - 1]'(by omega)).1) from by
        obtain ⟨b2, o2, e2, _, h2⟩ := HSK.out w' hx
        cases e2
        refine ⟨by simpa using (h2 0 hl0).1, ?_⟩
        have h3 := (h2 (r.length - 1) (by omega)).1
        rw [show (r.length - 1) * 2 = q * 2 by omega] at h3
        exact h3))
      clear HSK
      generalize hf : r[0].1 = f at *
      generalize hla : (r[r.length - 1]'(by omega)).1 = la at *
      rw [hq] at hck HRT HCK hl4
      generalize lastK rows k = lk at *
      generalize hlk1 : lastK rows (k + 1) = lk1 at *
      have HLS := Lib.hid (hlk1.trans hls)
      have p0 : decide (f ≤ lk) = false := decide_eq_false (by omega)
      have p1 : (q : Int) < ((q + 1 : Nat) : Int) := by omega
      have p2 : ((q + 1 : Nat) : Int) - 1 = (q : Int) := by omega
      have p3 : (0 : Int) < ((q + 1 : Nat) : Int) := by omega
      clear hls hlk1 hlk hf hla hl0
      go_wp2_with (go_at_call 15; refine (HRT.out _ (Ext.refl _)).mono ?_; rintro e w6 ⟨rfl, hx⟩; have HX6 := Lib.hid hx; have hck6 := HCK.out _ hx; have hf6 := (HSK2.out _ hx).1; have hl6 := (HSK2.out _ hx).2; clear hx hck)
      go_quiet (fail)
      go_wp2
      go_roundw
      case rel => exact ⟨k + 1, by omega, by go_num, by rw [HLS.out], (HX.out.trans HX6.out).drewN _⟩
      case measure => simp [intOf]; omega
    · obtain rfl : k = rows.length := by omega
      have g1 : decide ((1 : Int) ≤ (rows.length : Int)) = true := decide_eq_true (by omega)
      have g2 : decide ((rows.length : Int) ≤ 2) = true := decide_eq_true (by omega)
      have g3 : decide (1 ≤ rows.length) = true := decide_eq_true (by omega)
      have g4 : decide (rows.length ≤ 2) = true := decide_eq_true (by omega)
      clear hx
      go_wp2_with fail
      go_ret
      exact ⟨rfl, X5.out.trans HX.out⟩
end Go.Proofs.Ytpcchbcibcfldaa
