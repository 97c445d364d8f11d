/- The walk of Nodes of the reference of layer 7. -/
import Derived.Test.YthlencnlgnbpaaaTreeW2
namespace Go.Proofs.Ythlencnlgnbpaaa
open Go.RowKit
attribute [local go_sem ↓] Go.wp_at_zero Go.wp_at_succ

/-- How many nodes there are at most. -/
theorem nodesB_len (l : List HC) (hl : AllR l) : ∀ (m : Nat) (p : Int), 0 ≤ p → p < l.length → (bel l m p).is = true → (nodesB l m p).length + 1 ≤ 2 * 4 ^ m
  | 0, p, h0, h1, h => (bel_zero h).elim
  | m + 1, p, h0, h1, h => by
    obtain ⟨k, rfl⟩ := Int.eq_ofNat_of_zero_le h0
    have hk : k < l.length := by omega
    obtain ⟨hr, hc⟩ := bel_is h
    rw [cellT_at hk] at hr hc
    have hok := cell_ok (hl k hk) hr
    have hp : 0 < 4 ^ m := Nat.pow_pos (by omega)
    unfold nodesB
    rw [cellT_at hk, Nat.pow_succ]
    rcases hc with ⟨hlf, _⟩ | ⟨hlf, _, hch⟩
    · rw [hlf, if_pos rfl]
      simp only [List.length_cons, List.length_nil]
      omega
    · rw [hlf]
      simp only [Bool.false_eq_true, if_false, List.length_cons]
      have h2 := flatMap_le (fun x => nodesB l m x.2) (2 * 4 ^ m - 1) l[k].it (fun x hx => by have := nodesB_len l hl m x.2 (hok.2 hlf x hx).1 (by have := (hok.2 hlf x hx).2; omega) (hch x hx).1; omega)
      have h3 := Nat.mul_le_mul_right (2 * 4 ^ m - 1) hok.1.1.2
      omega
theorem infoI1 : (Try.prog.info? 3).map (fun i => (i.zero, i.size, i.bytes)) = some (some (.int .i64 0), 1, 8) := by kernel_rfl
theorem iv_one (l : List Int) : ∀ u ∈ l.map iv, u.oneCell' = true := by
  intro u hu
  obtain ⟨_, _, rfl⟩ := List.mem_map.1 hu
  rfl
/-- A row of numbers of the call's own is no node's box. -/
theorem own_ne {w : World} {B e n : Nat} {v : Value} {l : List Int} (h : w.ownsRow B e 1 v n (l.map iv)) (hl : l ≠ []) {x : Nat} {u : Value} {b : Bool} (hb : Bx w x #[.bool b, u]) : v.ownBlock ≠ some x := by
  intro hv
  rcases h.2 with ⟨h', h2⟩ | ⟨g, cap, cur, rfl, _⟩
  · have h1 := h.1
    subst h2
    apply hl
    simpa using h1
  · cases hv
    have h1 := h.1
    have hn : 0 < n * 1 := by
      rcases Nat.eq_zero_or_pos n with h0 | h0
      · exfalso; apply hl; subst h0; simpa using h1
      · omega
    have h2 := World.ownsRow.cellAt h 0 hn
    rw [hb.at 0 _ rfl] at h2
    cases l with
    | nil => exact hl rfl
    | cons y r => simp [iv] at h2
set_option maxRecDepth 100000 in
set_option maxHeartbeats 3200000 in
theorem ref07Nodes_bel (l : List HC) (hl : AllR l) (hn : l.length ≤ 2000) : ∀ (m : Nat) (p : Int) (R : Option Addr) (n q : Nat) (keep : Int) (w : World), m ≤ 20 → 0 ≤ p → p < l.length → (bel l m p).is = true → HcSl w R n q l →
    Calls Try.prog 19 #[.agg #[.slice R n q, .int .i64 keep], .int .i64 p] w fun e w' => ∃ S s d, e = .returned (.slice S s d) ∧ s = (nodesB l m p).length ∧ Sl w' S s d ((nodesB l m p).map iv) ∧ Ext w w'
  | 0, p, R, n, q, keep, w, hm, h0, h1, h, hA => (bel_zero h).elim
  | m + 1, p, R, n, q, keep, w, hm, h0, h1, h, hA => by
    obtain ⟨k, rfl⟩ := Int.eq_ofNat_of_zero_le h0
    have hk : k < l.length := by omega
    have hnl := hA.1
    have hlen0 := nodesB_len l hl (m + 1) (k : Int) h0 h1 h
    obtain ⟨hr, hc⟩ := bel_is h
    rw [cellT_at hk] at hr hc
    have hxa := (Ext.refl w).alloc (.cells #[.slice R n q, .int .i64 keep] 24)
    have hxb := (Ext.refl (w.alloc (.cells #[.slice R n q, .int .i64 keep] 24))).alloc (.cells #[.int .i64 k] 3)
    have hx0 := hxa.trans hxb
    have HB0 := Lib.hid ((Bx.new w #[.slice R n q, .int .i64 keep] 24).ext hxb)
    have HX := Lib.hid hx0
    have ho0 := World.ownsRow_lit (base := w.heap.size + 1) (e := 3) (size := 1) (w.alloc (.cells #[.slice R n q, .int .i64 keep] 24)) #[.int .i64 k] 1 (by rw [World.size_alloc]; omega) (by unfold maxLen; omega) rfl
    rw [World.size_alloc] at ho0
    obtain ⟨p0, p1, p2⟩ := HB0.out.read2
    obtain ⟨b, off, rfl, hbl, A, c, r0, r1, r2, r3, hI⟩ := (hA.ext hx0).cell hk
    have hbw : b < w.heap.size := by obtain ⟨b', off', e', h', _⟩ := hA.cell hk; cases e'; exact h'
    have hok := cell_ok (hl k hk) hr
    have hkn : k < n := by omega
    have hlen := hok.1.1
    have he : nodesB l (m + 1) (k : Int) = (k : Int) :: (if l[k].leaf then [] else l[k].it.flatMap (fun x => nodesB l m x.2)) := by rw [nodesB, cellT_at hk]
    have hst := fun lf => (Ext.refl ((w.alloc (.cells #[.slice (some ⟨b, off, none⟩) n q, .int .i64 keep] 24)).alloc (.cells #[.int .i64 k] 3))).alloc (.cells #[.bool lf, .slice A l[k].it.length c] 53)
    have hbn := fun lf => Bx.new ((w.alloc (.cells #[.slice (some ⟨b, off, none⟩) n q, .int .i64 keep] 24)).alloc (.cells #[.int .i64 k] 3)) #[.bool lf, .slice A l[k].it.length c] 53
    rcases hc with ⟨hlf, hb⟩ | ⟨hlf, hb, hch⟩
    · rw [hlf, if_pos rfl] at he
      rw [he]
      rw [hlf] at r2
      have HO1 := Lib.hid (own_ext ho0 (hst true))
      have HX1 := Lib.hid (hx0.trans (hst true))
      have HBN := Lib.hid (hbn true)
      rw [World.size_alloc, World.size_alloc] at HBN
      generalize l[k].it.length = li at *
      clear hb h hok hA hI hx0 hxa hxb hnl hr hlf h0 h1 he hlen0 ho0 hst hbn
      go_enter Try.func19, Try.ntmps19
      go_wp2
      generalize World.alloc (World.alloc (World.alloc w _) _) _ = W at *
      clear p0 p1 p2 r0 r1 r2 r3
      obtain ⟨r0, r1, r2⟩ := HBN.out.read2
      have hli : decide ((0 : Int) < (li : Int)) = true := decide_eq_true (by omega)
      have hli2 : decide (0 < li) = true := decide_eq_true (by omega)
      go_loopw [5, 7] (fun v i wr => v = .slice (some ⟨w.heap.size + 1, 0, none⟩) 1 1 ∧ i = .int .i64 0 ∧ wr = W) (fun _ _ _ => 0)
      case atStart => exact ⟨rfl, rfl, rfl⟩
      case round =>
        obtain ⟨rfl, rfl, rfl⟩ := hrel
        go_wp2
        go_ret
        exact ⟨_, 1, 1, rfl, rfl, own_sl HO1.out, HX1.out⟩
    · rw [hlf] at he
      simp only [Bool.false_eq_true, if_false] at he
      rw [he]
      rw [he] at hlen0
      rw [hlf] at r2
      have HIH := Lib.hid (fun j (hj : j < l[k].it.length) w' (hx : Ext w w') => ref07Nodes_bel l hl hn m l[k].it[j].2 (some ⟨b, off, none⟩) n q keep w' (by omega) (hok.2 hlf _ (List.getElem_mem hj)).1 (by have := (hok.2 hlf _ (List.getElem_mem hj)).2; omega) (hch _ (List.getElem_mem hj)).1 (hA.ext hx))
      have HI := Lib.hid (show Sl w A l[k].it.length c (ivs l[k].it) by
        obtain ⟨b', off', e', _, A', c', _, _, _, q3, hI'⟩ := hA.cell hk
        cases e'
        have h3 := (hx0.cell (p := ⟨b, off + k * 4 + 3, none⟩) hbw).trans q3
        rw [r3] at h3
        cases h3
        exact hI')
      have HO1 := Lib.hid (own_ext ho0 (hst false))
      have HX1 := Lib.hid (hx0.trans (hst false))
      have HBN := Lib.hid (hbn false)
      have HBH := Lib.hid (HB0.out.ext (hst false))
      rw [World.size_alloc, World.size_alloc] at HBN
      generalize hit : l[k].it = it at *
      obtain ⟨li, hli⟩ : ∃ li, it.length = li := ⟨_, rfl⟩
      rw [hli] at HI r3 hlen HBN HBH HX1 HO1
      have HLI := Lib.hid hli
      have HLE := Lib.hid (show (((k : Int) :: it.flatMap (fun x => nodesB l m x.2)).length ≤ 2199023255552) from by
        have h1 := Nat.pow_le_pow_right (n := 4) (by omega) hm
        have h2 : (4 : Nat) ^ 20 = 1099511627776 := by decide
        omega)
      obtain ⟨F, hF⟩ : ∃ F : It → List Int, (fun x => nodesB l m x.2) = F := ⟨_, rfl⟩
      rw [hF] at HLE
      rw [hF]
      have HIH := Lib.hid (fun j (hj : j < it.length) w' (hx : Ext w w') => (show Calls Try.prog 19 #[.agg #[.slice (some ⟨b, off, none⟩) n q, .int .i64 keep], .int .i64 it[j].2] w' fun e w2 => ∃ S s d, e = .returned (.slice S s d) ∧ s = (F it[j]).length ∧ Sl w2 S s d ((F it[j]).map iv) ∧ Ext w' w2 from by rw [← hF]; exact HIH.out j hj w' hx))
      clear hF hb h hok hA hI hx0 hxa hxb hnl hr hlf h0 h1 he hit hli hlen0 hst hch hbn HB0 ho0 hbw
      go_enter Try.func19, Try.ntmps19
      go_wp2
      generalize World.alloc (World.alloc (World.alloc w _) _) _ = W at *
      clear p0 p1 p2 r0 r1 r2 r3 hbl HX
      go_loopw [5, 7] (fun v i wr => ∃ (j t : Nat) (S : Option Addr) (d : Nat), j ≤ li ∧ i = .int .i64 j ∧ v = .slice S t d ∧ t = ((k : Int) :: (it.take j).flatMap F).length ∧ wr.ownsRow (w.heap.size + 1) 3 1 (.slice S t d) t (((k : Int) :: (it.take j).flatMap F).map iv) ∧ Ext w wr ∧ Bx wr w.heap.size #[.slice (some ⟨b, off, none⟩) n q, .int .i64 keep] ∧ Bx wr (w.heap.size + 1 + 1) #[.bool false, .slice A li c]) (fun _ i _ => li - (intOf i).toNat)
      case atStart => exact ⟨0, 1, _, 1, Nat.zero_le _, rfl, rfl, by simp, by rw [List.take_zero, List.flatMap_nil]; exact HO1.out, HX1.out, HBH.out, HBN.out⟩
      case round =>
        obtain ⟨j, t, S, d, hj, rfl, rfl, ht, ho, hx, hbh, hbn⟩ := hrel
        have HT := Lib.hid ht
        have HO := Lib.hid ho
        have HXR := Lib.hid hx
        have HBHR := Lib.hid hbh
        have HBNR := Lib.hid hbn
        obtain ⟨p0, p1, p2⟩ := hbh.read2
        obtain ⟨r0, r1, r2⟩ := hbn.read2
        clear hbh hbn
        rcases Nat.lt_or_ge j li with hlt | hlt
        · have hjl : j < it.length := by rw [HLI.out]; exact hlt
          obtain ⟨b2, off2, rfl, hb2, i0, i1⟩ := it_at HI.out hjl
          have i0 := (hx.cell (p := ⟨b2, off2 + j * 2, none⟩) hb2).trans i0
          have i1 := (hx.cell (p := ⟨b2, off2 + j * 2 + 1, none⟩) hb2).trans i1
          have hji : (j : Int) < (li : Int) := by omega
          have hjd : decide ((j : Int) < (li : Int)) = true := decide_eq_true hji
          have hjd2 : decide (j < li) = true := decide_eq_true hlt
          have HTK := Lib.hid (show (k : Int) :: (it.take (j + 1)).flatMap F = ((k : Int) :: (it.take j).flatMap F) ++ F it[j] by rw [flatMap_take F it hjl]; rfl)
          have HTL := Lib.hid (show ((k : Int) :: (it.take (j + 1)).flatMap F).length ≤ 2199023255552 from Nat.le_trans (by rw [List.length_cons, List.length_cons]; exact Nat.succ_le_succ (flatMap_take_le F it (j + 1))) HLE.out)
          have HCL := Lib.hid (fun w' (hx : Ext w w') => HIH.out j hjl w' hx)
          generalize it[j].2 = V at *
          generalize it[j].1 = K at *
          generalize it[j] = xj at *
          clear ht ho hjl hx
          go_wp2
          go_region_law
            (first
              | ((go_simp
                  go_at_call 19
                  refine (HCL.out _ ?_).mono ?_
                  (first | exact HXR.out.drew | exact HXR.out)
                  rintro e w4 ⟨S4, s4, d4, rfl, hs4, hsl4, hx4⟩
                  have E4 := Lib.hid (show Ext wr w4 from by first | exact (Ext.refl _).drew.trans hx4 | exact hx4)
                  have N4 := Lib.hid hs4
                  have S4H := Lib.hid hsl4
                  clear hs4 hsl4 hx4))
              | ((refine step_app_sl ?_ ?_ ?_ 31 ?_ (w.heap.size + 1) 3 (.int .i64 0) 1 8 Try.underlying31 infoI1 rfl Nat.one_pos ?_ t (((k : Int) :: (it.take j).flatMap F).map iv) ?_ ?_ S4 s4 d4 ((F xj).map iv) ?_ (by rw [List.length_map, N4.out, Nat.mul_one]) S4H.out (iv_one _) ?_ ?_ ?_ ?_
                  rfl
                  rotate_left 2
                  rfl
                  rotate_left 1
                  rfl
                  (exact own_ext HO.out E4.out)
                  rfl
                  (have h1 := HTL.out; rw [HTK.out, List.length_append, ← HT.out, ← N4.out] at h1; unfold maxLen; omega)
                  (have h1 := HTL.out; rw [HTK.out, List.length_append, ← HT.out, ← N4.out] at h1; omega)
                  (have h1 := E4.out.size; omega)
                  intro A5 d5 w5 hown hg
                  have HX5 := Lib.hid (Ext.app (HXR.out.trans E4.out) (own_ext HO.out E4.out) (by omega) hg)
                  have HBN5 := Lib.hid ((HBNR.out.ext E4.out).grown hg (own_ne (own_ext HO.out E4.out) (by simp) (HBNR.out.ext E4.out)))
                  have HBH5 := Lib.hid ((HBHR.out.ext E4.out).grown hg (own_old (own_ext HO.out E4.out) (by omega)))
                  rw [← List.map_append, ← HTK.out] at hown
                  have HO5 := Lib.hid hown
                  clear hown hg)))
          all_goals
            go_wp2_with fail
            go_roundw
            case rel => exact ⟨j + 1, t + s4, A5, d5, by omega, by go_num, rfl, by rw [HTK.out, List.length_append, ← HT.out, ← N4.out], HO5.out, HX5.out, HBH5.out, HBN5.out⟩
            case measure => simp [intOf]; omega
        · obtain rfl : li = j := by omega
          have d0 : decide ((li : Int) < (li : Int)) = false := decide_eq_false (by omega)
          have HE := Lib.hid (show it.take li = it by rw [← HLI.out, List.take_length])
          rw [HE.out] at HT HO
          clear ht ho hlt hx
          go_wp2
          go_ret
          exact ⟨S, t, d, rfl, HT.out, own_sl HO.out, HXR.out⟩
end Go.Proofs.Ythlencnlgnbpaaa
