/- The walk of List of the reference of layer 7. -/
import Derived.Test.YthlencnlgnbpaaaTreeW1
namespace Go.Proofs.Ythlencnlgnbpaaa
open Go.RowKit
attribute [local go_sem ↓] Go.wp_at_zero Go.wp_at_succ

theorem flatMap_le {α β : Type} (f : α → List β) (b : Nat) : ∀ (l : List α), (∀ x ∈ l, (f x).length ≤ b) → (l.flatMap f).length ≤ l.length * b
  | [], _ => by simp
  | x :: l, h => by
    rw [List.flatMap_cons, List.length_append, List.length_cons, Nat.succ_mul, Nat.add_comm]
    exact Nat.add_le_add (flatMap_le f b l (fun y hy => h y (List.mem_cons_of_mem _ hy))) (h x List.mem_cons_self)
/-- How many items there are at most. -/
theorem listB_len (l : List HC) (hl : AllR l) : ∀ (m : Nat) (p : Int), 0 ≤ p → p < l.length → (bel l m p).is = true → (listB l m p).length ≤ 4 ^ m
  | 0, p, h0, h1, h => (bel_zero h).elim
  | m + 1, p, h0, h1, h => by
    obtain ⟨k, rfl⟩ := Int.eq_ofNat_of_zero_le h0
    have hk : k < l.length := by omega
    obtain ⟨hr, hc⟩ := bel_is h
    rw [cellT_at hk] at hr hc
    have hok := cell_ok (hl k hk) hr
    have hp : 0 < 4 ^ m := Nat.pow_pos (by omega)
    unfold listB
    rw [cellT_at hk, Nat.pow_succ]
    rcases hc with ⟨hlf, _⟩ | ⟨hlf, _, hch⟩
    · rw [hlf, if_pos rfl]
      have := hok.1.1
      omega
    · rw [hlf]
      simp only [Bool.false_eq_true, if_false]
      have h2 := flatMap_le (fun x => listB l m x.2) (4 ^ m) l[k].it (fun x hx => listB_len l hl m x.2 (hok.2 hlf x hx).1 (by have := (hok.2 hlf x hx).2; omega) (hch x hx).1)
      have h3 := Nat.mul_le_mul_right (4 ^ m) hok.1.1.2
      omega
theorem flatMap_take {α β : Type} (f : α → List β) (l : List α) {j : Nat} (hj : j < l.length) : (l.take (j + 1)).flatMap f = (l.take j).flatMap f ++ f l[j] := by
  rw [List.take_succ_eq_append_getElem hj, List.flatMap_append]; simp
theorem flatMap_take_le {α β : Type} (f : α → List β) (l : List α) (j : Nat) : ((l.take j).flatMap f).length ≤ (l.flatMap f).length := by
  have h : l.flatMap f = (l.take j).flatMap f ++ (l.drop j).flatMap f := by rw [← List.flatMap_append, List.take_append_drop]
  rw [h, List.length_append]; omega
set_option maxRecDepth 100000 in
set_option maxHeartbeats 3200000 in
theorem ref07List_bel (l : List HC) (hl : AllR l) (hn : l.length ≤ 2000) : ∀ (m : Nat) (p : Int) (R : Option Addr) (n q : Nat) (keep : Int) (w : World), m ≤ 20 → 0 ≤ p → p < l.length → (bel l m p).is = true → HcSl w R n q l →
    Calls Try.prog 36 #[.agg #[.slice R n q, .int .i64 keep], .int .i64 p] w fun e w' => ∃ S s d, e = .returned (.slice S s d) ∧ s = (listB l m p).length ∧ Sl w' S s d (ivs (listB l m p)) ∧ Ext w w'
  | 0, p, R, n, q, keep, w, hm, h0, h1, h, hA => (bel_zero h).elim
  | m + 1, p, R, n, q, keep, w, hm, h0, h1, h, hA => by
    obtain ⟨k, rfl⟩ := Int.eq_ofNat_of_zero_le h0
    have hk : k < l.length := by omega
    have hnl := hA.1
    have hlen0 := listB_len l hl (m + 1) (k : Int) h0 h1 h
    obtain ⟨hr, hc⟩ := bel_is h
    rw [cellT_at hk] at hr hc
    have hx0 := (Ext.refl w).alloc (.cells #[.slice R n q, .int .i64 keep] 24)
    have HB0 := Lib.hid (Bx.new w #[.slice R n q, .int .i64 keep] 24)
    have HX := Lib.hid hx0
    obtain ⟨p0, p1, p2⟩ := HB0.out.read2
    obtain ⟨b, off, rfl, hbl, A, c, r0, r1, r2, r3, hI⟩ := (hA.ext hx0).cell hk
    have hok := cell_ok (hl k hk) hr
    have hkn : k < n := by omega
    have hlen := hok.1.1
    have he : listB l (m + 1) (k : Int) = if l[k].leaf then l[k].it else l[k].it.flatMap (fun x => listB l m x.2) := by rw [listB, cellT_at hk]
    rcases hc with ⟨hlf, hb⟩ | ⟨hlf, hb, hch⟩
    · rw [hlf, if_pos rfl] at he
      rw [he]
      rw [hlf] at r2
      have HI := Lib.hid (hI.ext ((Ext.refl _).alloc (.cells #[.bool true, .slice A l[k].it.length c] 53)))
      generalize hit : l[k].it = it at *
      obtain ⟨li, hli⟩ : ∃ li, it.length = li := ⟨_, rfl⟩
      rw [hli] at HI r3 hlen
      have HLI := Lib.hid hli
      clear hb h hok hA hI hx0 hnl hr hlf h0 h1 he hit hli hlen0
      go_enter Try.func36, Try.ntmps36
      go_wp2
      go_ret
      exact ⟨A, li, c, rfl, HLI.out.symm, HI.out, HX.out.alloc _⟩
    · rw [hlf] at he
      simp only [Bool.false_eq_true, if_false] at he
      rw [he]
      rw [he] at hlen0
      rw [hlf] at r2
      have HIH := Lib.hid (fun j (hj : j < l[k].it.length) w' (hx : Ext w w') => ref07List_bel l hl hn m l[k].it[j].2 (some ⟨b, off, none⟩) n q keep w' (by omega) (hok.2 hlf _ (List.getElem_mem hj)).1 (by have := (hok.2 hlf _ (List.getElem_mem hj)).2; omega) (hch _ (List.getElem_mem hj)).1 (hA.ext hx))
      have hst : Ext (w.alloc (.cells #[.slice (some ⟨b, off, none⟩) n q, .int .i64 keep] 24)) ((w.alloc (.cells #[.slice (some ⟨b, off, none⟩) n q, .int .i64 keep] 24)).alloc (.cells #[.bool false, .slice A l[k].it.length c] 53)) := (Ext.refl _).alloc _
      have HI := Lib.hid (hI.ext hst)
      have HBN := Lib.hid (Bx.new (w.alloc (.cells #[.slice (some ⟨b, off, none⟩) n q, .int .i64 keep] 24)) #[.bool false, .slice A l[k].it.length c] 53)
      have HBH := Lib.hid (HB0.out.ext hst)
      have HX1 := Lib.hid (hx0.trans hst)
      rw [World.size_alloc] at HBN
      generalize hit : l[k].it = it at *
      obtain ⟨li, hli⟩ : ∃ li, it.length = li := ⟨_, rfl⟩
      rw [hli] at HI r3 hlen HBN HBH HX1
      have HLI := Lib.hid hli
      have HLE := Lib.hid (show (it.flatMap (fun x => listB l m x.2)).length ≤ 1099511627776 from Nat.le_trans hlen0 (Nat.le_trans (Nat.pow_le_pow_right (by omega) hm) (by decide)))
      clear hb h hok hA hI hx0 hnl hr hlf h0 h1 he hit hli hlen0 hst hch HB0
      obtain ⟨F, hF⟩ : ∃ F : It → List It, (fun x => listB l m x.2) = F := ⟨_, rfl⟩
      rw [hF] at HLE
      rw [hF]
      have HIH := Lib.hid (fun j (hj : j < it.length) w' (hx : Ext w w') => (show Calls Try.prog 36 #[.agg #[.slice (some ⟨b, off, none⟩) n q, .int .i64 keep], .int .i64 it[j].2] w' fun e w2 => ∃ S s d, e = .returned (.slice S s d) ∧ s = (F it[j]).length ∧ Sl w2 S s d (ivs (F it[j])) ∧ Ext w' w2 from by rw [← hF]; exact HIH.out j hj w' hx))
      clear hF
      go_enter Try.func36, Try.ntmps36
      go_wp2
      generalize World.alloc (World.alloc w _) _ = W at *
      clear p0 p1 p2 r0 r1 r2 r3 hbl HX
      go_loopw [6, 7] (fun v i wr => ∃ (j t : Nat) (S : Option Addr) (d : Nat), j ≤ li ∧ i = .int .i64 j ∧ v = .slice S t d ∧ t = ((it.take j).flatMap F).length ∧ wr.ownsRow W.heap.size 49 2 (.slice S t d) t (ivs ((it.take j).flatMap F)) ∧ Ext W wr) (fun _ i _ => li - (intOf i).toNat)
      case atStart => exact ⟨0, 0, none, 0, Nat.zero_le _, rfl, rfl, by simp, by rw [List.take_zero, List.flatMap_nil]; exact ⟨rfl, .inl ⟨rfl, rfl⟩⟩, Ext.refl _⟩
      case round =>
        obtain ⟨j, t, S, d, hj, rfl, rfl, ht, ho, hx⟩ := hrel
        have HT := Lib.hid ht
        have HO := Lib.hid ho
        have HXR := Lib.hid hx
        obtain ⟨p0, p1, p2⟩ := (HBH.out.ext hx).read2
        obtain ⟨r0, r1, r2⟩ := (HBN.out.ext hx).read2
        rcases Nat.lt_or_ge j li with hlt | hlt
        · have hjl : j < it.length := by rw [HLI.out]; exact hlt
          obtain ⟨b2, off2, rfl, hb2, i0, i1⟩ := it_at HI.out hjl
          have i0 := (hx.cell (p := ⟨b2, off2 + j * 2, none⟩) hb2).trans i0
          have i1 := (hx.cell (p := ⟨b2, off2 + j * 2 + 1, none⟩) hb2).trans i1
          have hji : (j : Int) < (li : Int) := by omega
          have HTK := Lib.hid (flatMap_take F it hjl)
          have HTL := Lib.hid (show ((it.take (j + 1)).flatMap F).length ≤ 1099511627776 from Nat.le_trans (flatMap_take_le F it (j + 1)) HLE.out)
          have HCL := Lib.hid (fun w' (hx : Ext w w') => HIH.out j hjl w' hx)
          have HM := Lib.hid (HX1.out.trans hx)
          generalize it[j].2 = V at *
          generalize it[j].1 = K at *
          generalize it[j] = xj at *
          clear ht ho hjl
          go_wp2
          go_region_law
            (first
              | ((go_simp
                  go_at_call 36
                  refine (HCL.out _ ?_).mono ?_
                  (first | exact HM.out.drew | exact HM.out)
                  rintro e w4 ⟨S4, s4, d4, rfl, hs4, hsl4, hx4⟩
                  have E4 := Lib.hid (show Ext wr w4 from by first | exact (Ext.refl _).drew.trans hx4 | exact hx4)
                  have N4 := Lib.hid hs4
                  have S4H := Lib.hid hsl4
                  clear hs4 hsl4 hx4))
              | ((refine step_app_sl ?_ ?_ ?_ 43 ?_ W.heap.size 49 (.agg #[.int .i64 0, .int .i64 0]) 2 16 Try.underlying43 infoIt rfl Nat.two_pos ?_ t (ivs ((it.take j).flatMap F)) ?_ ?_ S4 s4 d4 (ivs (F xj)) ?_ (by rw [ivs_length, N4.out]) S4H.out (ivs_oneCell _) ?_ ?_ ?_ ?_
                  rfl
                  rotate_left 2
                  rfl
                  rotate_left 1
                  rfl
                  (exact own_ext HO.out E4.out)
                  rfl
                  (have h1 := HTL.out; rw [HTK.out, List.length_append, ← HT.out, ← N4.out] at h1; unfold maxLen; omega)
                  (have h1 := HTL.out; rw [HTK.out, List.length_append, ← HT.out, ← N4.out] at h1; omega)
                  (exact (HXR.out.trans E4.out).size)
                  intro A5 d5 w5 hown hg
                  have HX5 := Lib.hid (Ext.app (HXR.out.trans E4.out) (own_ext HO.out E4.out) (Nat.le_refl _) hg)
                  rw [← ivs_append, ← HTK.out] at hown
                  have HO5 := Lib.hid hown
                  clear hown hg)))
          all_goals
            go_wp2_with fail
            go_roundw
            case rel => exact ⟨j + 1, t + s4, A5, d5, by omega, by go_num, rfl, by rw [HTK.out, List.length_append, ← HT.out, ← N4.out], HO5.out, HX5.out⟩
            case measure => simp [intOf]; omega
        · obtain rfl : li = j := by omega
          have d0 : decide ((li : Int) < (li : Int)) = false := decide_eq_false (by omega)
          have HE := Lib.hid (show it.take li = it by rw [← HLI.out, List.take_length])
          rw [HE.out] at HT HO
          clear ht ho hlt
          go_wp2
          go_ret
          exact ⟨S, t, d, rfl, HT.out, own_sl HO.out, HX1.out.trans HXR.out⟩
end Go.Proofs.Ythlencnlgnbpaaa
