/- Walk of the reference's Print. -/
import Derived.Test.YtpcchbcibcfldaaNodeW2
namespace Go.Proofs.Ytpcchbcibcfldaa
open Go.RowKit

theorem Bx.grown {w w' : World} {k : Nat} {cs : Array Value} {row : Option Nat} (h : Bx w k cs) (hg : w.grownBy w' row) (hne : row ≠ some k) : Bx w' k cs := by
  have hk := h.lt
  obtain ⟨t, h⟩ := h
  obtain ⟨_, _, _, _, hh⟩ := hg
  exact ⟨t, (hh k hk (Ne.symm hne)).trans h⟩
/-- A box that is older than a row isn't its block. -/
theorem own_old {w : World} {B e s n : Nat} {v : Value} {xs : List Value} {k : Nat} (h : w.ownsRow B e s v n xs) (hk : k < B) : v.ownBlock ≠ some k := fun e => by
  have := (h.lt k e).1
  omega
theorem ndH_val (leaf : Bool) (n : Nat) (hn : n ≤ 4) : (ndH leaf n).map bv = [.int .u8 (if leaf then 1 else 2), .int .u8 (n : Int)] := by
  have e : n % 256 = n := by omega
  cases leaf <;> simp [ndH, bv, e] <;> omega
theorem itsB_take (l : List It) (k : Nat) (hk : k < l.length) : itsB (l.take (k + 1)) = itsB (l.take k) ++ (putL l[k].1.toNat 4 ++ putL l[k].2.toNat 4) := by
  rw [List.take_succ_eq_append_getElem hk, itsB_append]; simp [itsB, itB]

set_option maxRecDepth 100000 in
set_option maxHeartbeats 400000 in
theorem ref04Print_any (leaf : Bool) (A : Option Addr) (l : List It) (n c : Nat) (w : World) (hn : n = l.length) (hA : Sl w A n c (ivs l)) :
    Calls Try.prog 12 #[.agg #[.bool leaf, .slice A n c]] w fun e w' => e = .returned (.tuple #[.string (ndB leaf l), .int .i64 (ndE l)]) ∧ Ext w w' := by
  have X0 := Lib.hid ((Ext.refl w).alloc (.cells #[.bool leaf, .slice A n c] 24))
  have B0 := Lib.hid (Bx.new w #[.bool leaf, .slice A n c] 24)
  have HR := Lib.hid (fun w' (hx : Ext w w') => ref04Right_any leaf A l n c w' hn (hA.ext hx))
  unfold ndB ndE
  cases hs : ndR l
  · rw [hs] at HR
    clear hs hA hn
    go_enter Try.func12, Try.ntmps12
    go_wp2_with (go_at_call 15; refine (HR.out _ X0.out).mono ?_; rintro e w1 ⟨rfl, hx⟩; have HX := Lib.hid (X0.out.trans hx); clear hx)
    go_ret2
    exact ⟨rfl, HX.out⟩
  · have hN := (ndR_iff l).1 hs
    rw [hs] at HR
    have h4 : n ≤ 4 := by have := hN.1; omega
    have h1 : 1 ≤ n := by have := hN.1; omega
    have HOK := Lib.hid hN.2
    have HA := Lib.hid hA
    have HN := Lib.hid hn
    have hcv : IntKind.u8.wrap (n : Int) = (n : Int) := by rw [IntKind.wrap_u8]; omega
    clear hs hA hN hn
    cases leaf
    all_goals
      go_enter Try.func12, Try.ntmps12
      go_wp2_with (go_at_call 15; refine (HR.out _ X0.out).mono ?_; rintro e w1 ⟨rfl, hx⟩; have HX := Lib.hid (X0.out.trans hx); have HB := Lib.hid (B0.out.ext hx); obtain ⟨b0, b1, b2⟩ := HB.out.read2; clear hx)
    · have HO := Lib.hid (show (w1.alloc (.cells #[.int .u8 2, .int .u8 (n : Int)] 5)).ownsRow (w.heap.size + 1) 5 1 (.slice (some ⟨w1.heap.size, 0, none⟩) 2 2) 2 ((ndH false n ++ itsB (l.take 0)).map bv) from by
        rw [List.map_append, ndH_val false n h4]
        exact World.ownsRow_lit (base := w.heap.size + 1) (e := 5) (size := 1) w1 #[.int .u8 2, .int .u8 (n : Int)] 2 (by omega) (by unfold maxLen; omega) rfl)
      have HXL := Lib.hid (HX.out.alloc (.cells #[.int .u8 2, .int .u8 (n : Int)] 5))
      have HBL := Lib.hid (HB.out.ext ((Ext.refl w1).alloc (.cells #[.int .u8 2, .int .u8 (n : Int)] 5)))
      generalize hW : World.alloc w1 _ = W at *
      generalize hg : w1.heap.size = g at *
      clear hW hg HX HB b0 b1 b2
      go_loopw [5, 6] (fun v i wr => ∃ k : Nat, k ≤ n ∧ i = .int .i64 k ∧ ∃ A' c', v = .slice A' (2 + 8 * k) c' ∧ wr.ownsRow (w.heap.size + 1) 5 1 (.slice A' (2 + 8 * k) c') (2 + 8 * k) ((ndH false n ++ itsB (l.take k)).map bv) ∧ Ext w wr ∧ Bx wr w.heap.size #[.bool false, .slice A n c]) (fun _ i _ => n - (intOf i).toNat)
      case atStart => exact ⟨0, by omega, rfl, _, _, rfl, HO.out, HXL.out, HBL.out⟩
      case round =>
        obtain ⟨k, hk, rfl, A1, c1, rfl, ho, hx, hb⟩ := hrel
        have HO1 := Lib.hid ho
        have HX1 := Lib.hid hx
        have HB1 := Lib.hid hb
        obtain ⟨b0, b1, b2⟩ := hb.read2
        by_cases hlt : k < n
        · have hkl : k < l.length := by rw [← HN.out]; exact hlt
          obtain ⟨ba, off, rfl, hba, hc⟩ := (HA.out.cells).it hkl
          have HC := Lib.hid hc
          have hcr := (((HA.out.cells).ext hx).it hkl)
          obtain ⟨ba', off', e', _, hc'⟩ := hcr
          cases e'
          obtain ⟨hck, hcv'⟩ := hc' k hkl
          have hki : (k : Int) < (n : Int) := by omega
          have HT := Lib.hid (itsB_take l k hkl)
          obtain ⟨⟨k1, k2⟩, v1, v2⟩ := (HOK.out k hkl).1
          have HV := Lib.hid (fun w' (hx : Ext w w') => show w'.cell? ⟨ba, off + k * 2 + 1, none⟩ = some (.int .i64 l[k].2) from by
            obtain ⟨b2, o2, e2, _, h2⟩ := ((HA.out.cells).ext hx).it hkl
            cases e2; exact (h2 k hkl).2)
          clear ho hx hb hc hc' hcv'
          generalize l[k] = q at *
          obtain ⟨K, V⟩ := q
          simp only at hck k1 k2 v1 v2
          have HP0 := Lib.hid (fun w' => ref01Put_n K w' (by omega) (by omega))
          have HP1 := Lib.hid (fun w' => ref01Put_n V w' (by omega) (by omega))
          go_wp2_with (first | (at_builtin; refine stop_here ?_) | (go_at_call 30; refine (HP0.out _).mono ?_; rintro e w3 ⟨A', cap', rfl, hS, hx⟩; have HS3 := Lib.hid hS; have HX3 := Lib.hid hx; clear hS hx))
          refine stop_on ?_
          refine app_bytes _ rfl _ _ rfl (w.heap.size + 1) _ (2 + 8 * k) (ndH false n ++ itsB (l.take k)) rfl (own_below HO1.out HX3.out) A' 4 cap' (putL K.toNat 4) rfl (putL_length 4 _) HS3.out.1 HS3.out.cells (by omega) (by have := HX3.out.size; omega) ?_
          intro A4 c4 w4 hown hg4
          have HX4 := Lib.hid (show Ext w w4 from Below.grown (HX1.out.trans HX3.out) hg4 (by have := HX1.out.size; have := HX3.out.size; omega) (fun q hq => by have := ((own_below HO1.out HX3.out).lt q hq).1; omega))
          have HB4 := Lib.hid ((HB1.out.ext HX3.out).grown hg4 (own_old (own_below HO1.out HX3.out) (by omega)))
          have HO4 := Lib.hid hown
          obtain ⟨b0, b1, b2⟩ := HB4.out.read2
          have hcv2 := HV.out w4 HX4.out
          clear hown hg4 HO1 HX3 HS3 HB1
          go_wp2_with (first | (at_builtin; refine stop_here ?_) | (go_at_call 30; refine (HP1.out _).mono ?_; rintro e w5 ⟨A', cap', rfl, hS, hx⟩; have HS5 := Lib.hid hS; have HX5 := Lib.hid hx; clear hS hx))
          refine stop_on ?_
          refine app_bytes _ rfl _ _ rfl (w.heap.size + 1) _ (2 + 8 * k + 4) (ndH false n ++ itsB (l.take k) ++ putL K.toNat 4) rfl (own_below HO4.out HX5.out) A' 4 cap' (putL V.toNat 4) rfl (putL_length 4 _) HS5.out.1 HS5.out.cells (by omega) (by have := HX5.out.size; omega) ?_
          intro A6 c6 w6 hown hg6
          have HX6 := Lib.hid (show Ext w w6 from Below.grown (HX4.out.trans HX5.out) hg6 (by have := HX4.out.size; have := HX5.out.size; omega) (fun q hq => by have := ((own_below HO4.out HX5.out).lt q hq).1; omega))
          have HB6 := Lib.hid ((HB4.out.ext HX5.out).grown hg6 (own_old (own_below HO4.out HX5.out) (by omega)))
          have HO6 := Lib.hid (show w6.ownsRow (w.heap.size + 1) 5 1 (.slice A6 (2 + 8 * (k + 1)) c6) (2 + 8 * (k + 1)) ((ndH false n ++ itsB (l.take (k + 1))).map bv) from by
            rw [HT.out, show 2 + 8 * (k + 1) = 2 + 8 * k + 4 + 4 by omega]
            simpa only [List.append_assoc] using hown)
          rw [show 2 + 8 * k + 4 + 4 = 2 + 8 * (k + 1) by omega]
          clear hown hg6 HO4 HX5 HS5 HB4
          go_wp2
          go_roundw
          case rel => exact ⟨k + 1, by omega, by go_num, A6, c6, rfl, HO6.out, HX6.out, HB6.out⟩
          case measure => simp [intOf]; omega
        · obtain rfl : k = n := by omega
          have hnl : l.take k = l := by rw [HN.out, List.take_length]
          have HSL := Lib.hid (own_sl ho)
          rw [hnl] at HSL
          have HV := Lib.hid (ref01Seal_n A1 (ndL false l) (2 + 8 * k) c1 wr (by rw [ndL_length, ← HN.out]; omega) (by omega) (by have h := HSL.out; unfold ndL; rw [← HN.out]; exact h))
          clear ho hx hb hnl
          go_wp2_with (go_at_call 31; refine HV.out.mono ?_; rintro e w3 ⟨rfl, hx⟩; have HX4 := Lib.hid (HX1.out.trans hx); clear hx)
          go_ret2
          exact ⟨rfl, HX4.out⟩
    · have HO := Lib.hid (show ((w1.alloc (.cells #[.int .u8 2, .int .u8 (n : Int)] 5)).alloc (.cells #[.int .u8 1, .int .u8 (n : Int)] 5)).ownsRow (w.heap.size + 1) 5 1 (.slice (some ⟨w1.heap.size + 1, 0, none⟩) 2 2) 2 ((ndH true n ++ itsB (l.take 0)).map bv) from by
        rw [List.map_append, ndH_val true n h4]
        have h := World.ownsRow_lit (base := w.heap.size + 1) (e := 5) (size := 1) (w1.alloc (.cells #[.int .u8 2, .int .u8 (n : Int)] 5)) #[.int .u8 1, .int .u8 (n : Int)] 2 (by simp; omega) (by unfold maxLen; omega) rfl
        have e : (w1.alloc (.cells #[.int .u8 2, .int .u8 (n : Int)] 5)).heap.size = w1.heap.size + 1 := by simp
        rw [e] at h
        exact h)
      have HXL := Lib.hid ((HX.out.alloc (.cells #[.int .u8 2, .int .u8 (n : Int)] 5)).alloc (.cells #[.int .u8 1, .int .u8 (n : Int)] 5))
      have HBL := Lib.hid (HB.out.ext (((Ext.refl w1).alloc (.cells #[.int .u8 2, .int .u8 (n : Int)] 5)).alloc (.cells #[.int .u8 1, .int .u8 (n : Int)] 5)))
      generalize hW : World.alloc (World.alloc w1 _) _ = W at *
      generalize hg : w1.heap.size + 1 = g at *
      clear hW hg HX HB b0 b1 b2
      go_loopw [5, 6] (fun v i wr => ∃ k : Nat, k ≤ n ∧ i = .int .i64 k ∧ ∃ A' c', v = .slice A' (2 + 8 * k) c' ∧ wr.ownsRow (w.heap.size + 1) 5 1 (.slice A' (2 + 8 * k) c') (2 + 8 * k) ((ndH true n ++ itsB (l.take k)).map bv) ∧ Ext w wr ∧ Bx wr w.heap.size #[.bool true, .slice A n c]) (fun _ i _ => n - (intOf i).toNat)
      case atStart => exact ⟨0, by omega, rfl, _, _, rfl, HO.out, HXL.out, HBL.out⟩
      case round =>
        obtain ⟨k, hk, rfl, A1, c1, rfl, ho, hx, hb⟩ := hrel
        have HO1 := Lib.hid ho
        have HX1 := Lib.hid hx
        have HB1 := Lib.hid hb
        obtain ⟨b0, b1, b2⟩ := hb.read2
        by_cases hlt : k < n
        · have hkl : k < l.length := by rw [← HN.out]; exact hlt
          obtain ⟨ba, off, rfl, hba, hc⟩ := (HA.out.cells).it hkl
          have HC := Lib.hid hc
          have hcr := (((HA.out.cells).ext hx).it hkl)
          obtain ⟨ba', off', e', _, hc'⟩ := hcr
          cases e'
          obtain ⟨hck, hcv'⟩ := hc' k hkl
          have hki : (k : Int) < (n : Int) := by omega
          have HT := Lib.hid (itsB_take l k hkl)
          obtain ⟨⟨k1, k2⟩, v1, v2⟩ := (HOK.out k hkl).1
          have HV := Lib.hid (fun w' (hx : Ext w w') => show w'.cell? ⟨ba, off + k * 2 + 1, none⟩ = some (.int .i64 l[k].2) from by
            obtain ⟨b2, o2, e2, _, h2⟩ := ((HA.out.cells).ext hx).it hkl
            cases e2; exact (h2 k hkl).2)
          clear ho hx hb hc hc' hcv'
          generalize l[k] = q at *
          obtain ⟨K, V⟩ := q
          simp only at hck k1 k2 v1 v2
          have HP0 := Lib.hid (fun w' => ref01Put_n K w' (by omega) (by omega))
          have HP1 := Lib.hid (fun w' => ref01Put_n V w' (by omega) (by omega))
          go_wp2_with (first | (at_builtin; refine stop_here ?_) | (go_at_call 30; refine (HP0.out _).mono ?_; rintro e w3 ⟨A', cap', rfl, hS, hx⟩; have HS3 := Lib.hid hS; have HX3 := Lib.hid hx; clear hS hx))
          refine stop_on ?_
          refine app_bytes _ rfl _ _ rfl (w.heap.size + 1) _ (2 + 8 * k) (ndH true n ++ itsB (l.take k)) rfl (own_below HO1.out HX3.out) A' 4 cap' (putL K.toNat 4) rfl (putL_length 4 _) HS3.out.1 HS3.out.cells (by omega) (by have := HX3.out.size; omega) ?_
          intro A4 c4 w4 hown hg4
          have HX4 := Lib.hid (show Ext w w4 from Below.grown (HX1.out.trans HX3.out) hg4 (by have := HX1.out.size; have := HX3.out.size; omega) (fun q hq => by have := ((own_below HO1.out HX3.out).lt q hq).1; omega))
          have HB4 := Lib.hid ((HB1.out.ext HX3.out).grown hg4 (own_old (own_below HO1.out HX3.out) (by omega)))
          have HO4 := Lib.hid hown
          obtain ⟨b0, b1, b2⟩ := HB4.out.read2
          have hcv2 := HV.out w4 HX4.out
          clear hown hg4 HO1 HX3 HS3 HB1
          go_wp2_with (first | (at_builtin; refine stop_here ?_) | (go_at_call 30; refine (HP1.out _).mono ?_; rintro e w5 ⟨A', cap', rfl, hS, hx⟩; have HS5 := Lib.hid hS; have HX5 := Lib.hid hx; clear hS hx))
          refine stop_on ?_
          refine app_bytes _ rfl _ _ rfl (w.heap.size + 1) _ (2 + 8 * k + 4) (ndH true n ++ itsB (l.take k) ++ putL K.toNat 4) rfl (own_below HO4.out HX5.out) A' 4 cap' (putL V.toNat 4) rfl (putL_length 4 _) HS5.out.1 HS5.out.cells (by omega) (by have := HX5.out.size; omega) ?_
          intro A6 c6 w6 hown hg6
          have HX6 := Lib.hid (show Ext w w6 from Below.grown (HX4.out.trans HX5.out) hg6 (by have := HX4.out.size; have := HX5.out.size; omega) (fun q hq => by have := ((own_below HO4.out HX5.out).lt q hq).1; omega))
          have HB6 := Lib.hid ((HB4.out.ext HX5.out).grown hg6 (own_old (own_below HO4.out HX5.out) (by omega)))
          have HO6 := Lib.hid (show w6.ownsRow (w.heap.size + 1) 5 1 (.slice A6 (2 + 8 * (k + 1)) c6) (2 + 8 * (k + 1)) ((ndH true n ++ itsB (l.take (k + 1))).map bv) from by
            rw [HT.out, show 2 + 8 * (k + 1) = 2 + 8 * k + 4 + 4 by omega]
            simpa only [List.append_assoc] using hown)
          rw [show 2 + 8 * k + 4 + 4 = 2 + 8 * (k + 1) by omega]
          clear hown hg6 HO4 HX5 HS5 HB4
          go_wp2
          go_roundw
          case rel => exact ⟨k + 1, by omega, by go_num, A6, c6, rfl, HO6.out, HX6.out, HB6.out⟩
          case measure => simp [intOf]; omega
        · obtain rfl : k = n := by omega
          have hnl : l.take k = l := by rw [HN.out, List.take_length]
          have HSL := Lib.hid (own_sl ho)
          rw [hnl] at HSL
          have HV := Lib.hid (ref01Seal_n A1 (ndL true l) (2 + 8 * k) c1 wr (by rw [ndL_length, ← HN.out]; omega) (by omega) (by have h := HSL.out; unfold ndL; rw [← HN.out]; exact h))
          clear ho hx hb hnl
          go_wp2_with (go_at_call 31; refine HV.out.mono ?_; rintro e w3 ⟨rfl, hx⟩; have HX4 := Lib.hid (HX1.out.trans hx); clear hx)
          go_ret2
          exact ⟨rfl, HX4.out⟩
end Go.Proofs.Ytpcchbcibcfldaa
