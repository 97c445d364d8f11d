/- Walks of the reference of layer 8, where there are no tasks: Tells, Refs, Held. The walk of Refs of the reference of layer 8, where there are no tasks. -/
import Derived.Test.YtbfbpddfcakieaaGreatK34
namespace Go.Proofs.YtbfbpddfcakieaaGreat
open Go.RowKit
attribute [local go_sem ↓] Go.wp_at_zero Go.wp_at_succ

theorem count_take {l : List It} {x : Int} {j : Nat} (hj : j < l.length) : ((l.take (j + 1)).map (·.2)).count x = ((l.take j).map (·.2)).count x + (if l[j].2 = x then 1 else 0) := by
  rw [List.take_succ_eq_append_getElem hj, List.map_append, List.count_append]
  congr 1
  by_cases h : l[j].2 = x
  · rw [if_pos h, List.map_cons, List.map_nil, h, List.count_singleton]; simp
  · rw [if_neg h, List.map_cons, List.map_nil, List.count_eq_zero]; simp; exact fun e => h e.symm
set_option maxRecDepth 100000 in
set_option maxHeartbeats 1600000 in
theorem ref08Tells_nil (l : List HC) (k : Nat) (hk : k < l.length) (hit : l[k].it.length ≤ 90000) (R : Option Addr) (n q : Nat) (keep x : Int) (w : World) (hA : HcSl w R n q l) :
    Calls Tryz.prog 90 #[.agg #[.slice R n q, .int .i64 keep], .slice none 0 0, .int .i64 k, .int .i64 x] w fun e w' => e = .returned (.int .i64 ((tellC l[k]).count x : Nat)) ∧ Ext w w' := by
  have hnl := hA.1
  have hkn : k < n := by omega
  have hx0 := (Ext.refl w).alloc (.cells #[.slice R n q, .int .i64 keep] 24)
  obtain ⟨b, off, rfl, hbl, A, c, r0, r1, r2, r3, hI⟩ := (hA.ext hx0).cell hk
  have hHB := Bx.new w #[.slice (some ⟨b, off, none⟩) n q, .int .i64 keep] 24
  obtain ⟨p0, p1, p2⟩ := hHB.read2
  obtain ⟨⟨rf, pn, lf, it⟩, hcc⟩ : ∃ x, l[k] = x := ⟨_, rfl⟩
  rw [hcc] at r0 r1 r2 r3 hI hit ⊢
  simp only at r0 r1 r2 r3 hI hit
  unfold tellC toldL
  simp only
  obtain ⟨li, hli⟩ : ∃ li, it.length = li := ⟨_, rfl⟩
  rw [hli] at hI r3 hit
  have HLI := Lib.hid hli
  have hst := (Ext.refl (w.alloc (.cells #[.slice (some ⟨b, off, none⟩) n q, .int .i64 keep] 24))).alloc (.cells #[.int .i64 rf, .bool pn, .bool lf, .slice A li c] 53)
  have hbn := Bx.new (w.alloc (.cells #[.slice (some ⟨b, off, none⟩) n q, .int .i64 keep] 24)) #[.int .i64 rf, .bool pn, .bool lf, .slice A li c] 53
  rw [World.size_alloc] at hbn
  obtain ⟨n0, n1, n2, n3⟩ := hbn.read4
  have HX := Lib.hid (hx0.trans hst)
  have HIW := Lib.hid (hI.ext hst)
  clear hcc hk hnl hA hHB hst hx0 hbn hI hli
  by_cases h : 0 < rf ∧ lf = false
  · obtain ⟨h0, rfl⟩ := h
    have d0 : decide (0 < rf) = true := decide_eq_true h0
    rw [if_pos h0]
    simp only [Bool.false_eq_true, if_false]
    go_enter Tryz.func90, Tryz.ntmps90
    go_wp2_with (go_at_call 88; refine (ref08Given_nil _ _).mono ?_; rintro e w1 ⟨rfl, rfl⟩)
    generalize World.alloc (World.alloc w _) _ = W at *
    clear p0 p1 p2 r0 r1 r2 r3 hbl
    go_loopw [10, 11] (fun v i wr => ∃ j : Nat, j ≤ li ∧ i = .int .i64 j ∧ v = .int .i64 (((it.take j).map (·.2)).count x : Nat) ∧ wr = W) (fun _ i _ => li - (intOf i).toNat)
    case atStart => exact ⟨0, Nat.zero_le _, rfl, by simp, rfl⟩
    case round =>
      obtain ⟨j, hj, rfl, rfl, rfl⟩ := hrel
      rcases Nat.lt_or_ge j li with hlt | hlt
      · have hjl : j < it.length := by rw [HLI.out]; exact hlt
        obtain ⟨b2, off2, rfl, hb2, a0, a1⟩ := it_at HIW.out hjl
        have hji : (j : Int) < (li : Int) := by omega
        have hcl : ((it.take j).map (·.2)).count x ≤ j := by
          refine Nat.le_trans List.count_le_length ?_
          rw [List.length_map, List.length_take]; omega
        have HCT := Lib.hid (count_take (x := x) hjl)
        generalize ((it.take j).map (·.2)).count x = u at *
        by_cases hx : it[j].2 = x
        · have t0 : (it[j].2 == x) = true := by rw [beq_iff_eq]; exact hx
          rw [if_pos hx] at HCT
          clear hx a0
          generalize it[j].2 = y at *
          go_wp2
          go_roundw
          case rel => exact ⟨j + 1, by omega, by go_num, by rw [HCT.out]; go_num, trivial⟩
          case measure => simp [intOf]; omega
        · have t0 : (it[j].2 == x) = false := by rw [beq_eq_false_iff_ne]; exact hx
          rw [if_neg hx] at HCT
          clear hx a0
          generalize it[j].2 = y at *
          go_wp2
          go_roundw
          case rel => exact ⟨j + 1, by omega, by go_num, by rw [HCT.out]; rfl, trivial⟩
          case measure => simp [intOf]; omega
      · obtain rfl : li = j := by omega
        have d1 : decide ((li : Int) < (li : Int)) = false := decide_eq_false (by omega)
        have HE := Lib.hid (show it.take li = it by rw [← HLI.out, List.take_length])
        rw [HE.out]
        clear hlt
        go_wp2
        go_ret
        exact ⟨rfl, HX.out⟩
  · have hz : (if 0 < rf then (if lf = true then ([] : List Int) else it.map (·.2)) else []).count x = 0 := by
      by_cases h0 : 0 < rf
      · cases lf with
        | false => exact absurd ⟨h0, rfl⟩ h
        | true => simp
      · rw [if_neg h0, List.count_nil]
    rw [hz]
    have hcase : li = 0 ∨ (0 < li ∧ rf ≤ 0) ∨ (0 < li ∧ 0 < rf ∧ lf = true) := by
      rcases Nat.eq_zero_or_pos li with h1 | h1
      · exact .inl h1
      · rcases Int.lt_or_le 0 rf with h0 | h0
        · cases lf with
          | false => exact absurd ⟨h0, rfl⟩ h
          | true => exact .inr (.inr ⟨h1, h0, rfl⟩)
        · exact .inr (.inl ⟨h1, h0⟩)
    clear hz h
    go_enter Tryz.func90, Tryz.ntmps90
    go_wp2_with (go_at_call 88; refine (ref08Given_nil _ _).mono ?_; rintro e w1 ⟨rfl, rfl⟩)
    generalize World.alloc (World.alloc w _) _ = W at *
    clear p0 p1 p2 r0 r1 r2 r3 hbl
    go_loopw [10, 11] (fun v i wr => i = .int .i64 0 ∧ v = .int .i64 0 ∧ wr = W) (fun _ _ _ => 0)
    case atStart => exact ⟨rfl, rfl, rfl⟩
    case round =>
      obtain ⟨rfl, rfl, rfl⟩ := hrel
      rcases hcase with rfl | ⟨h1, h2⟩ | ⟨h1, h2, rfl⟩
      · go_wp2
        go_ret
        exact ⟨rfl, HX.out⟩
      · have d0 : decide (0 < rf) = false := decide_eq_false (by omega)
        have d1 : decide ((0 : Int) < (li : Int)) = true := decide_eq_true (by omega)
        have d2 : decide (0 < li) = true := decide_eq_true h1
        go_wp2
        go_ret
        exact ⟨rfl, HX.out⟩
      · have d0 : decide (0 < rf) = true := decide_eq_true h2
        have d1 : decide ((0 : Int) < (li : Int)) = true := decide_eq_true (by omega)
        have d2 : decide (0 < li) = true := decide_eq_true h1
        go_wp2
        go_ret
        exact ⟨rfl, HX.out⟩
end Go.Proofs.YtbfbpddfcakieaaGreat
namespace Go.Proofs.YtbfbpddfcakieaaGreat
open Go.RowKit
attribute [local go_sem ↓] Go.wp_at_zero Go.wp_at_succ

theorem inn_take {l : List HC} {j : Nat} (hj : j < l.length) (x : Int) : inn (l.take (j + 1)) x = inn (l.take j) x + (tellC l[j]).count x := by
  unfold inn
  rw [List.take_succ_eq_append_getElem hj, List.map_append, List.sum_append]
  simp
theorem tell_le {c : HC} {b : Nat} (h : c.it.length ≤ b) (x : Int) : (tellC c).count x ≤ b := by
  refine Nat.le_trans List.count_le_length ?_
  unfold tellC toldL
  split
  · split
    · simp
    · simpa using h
  · simp
theorem inn_leB : ∀ {l : List HC} {b : Nat} (_ : ∀ c ∈ l, c.it.length ≤ b) (x : Int), inn l x ≤ l.length * b
  | [], b, _, x => by simp [inn]
  | c :: l, b, h, x => by
    have h1 := inn_leB (l := l) (fun d hd => h d (List.mem_cons_of_mem _ hd)) x
    have h2 := tell_le (h c List.mem_cons_self) x
    have h3 : inn (c :: l) x = (tellC c).count x + inn l x := by simp [inn]
    rw [h3, List.length_cons, Nat.succ_mul]
    omega
def refsL (l : List HC) (root : Int) : List Int := (List.range l.length).map (fun k : Nat => outR root (k : Int) + ((inn l (k : Int) : Nat) : Int))
theorem refs_len (l : List HC) (root : Int) : (refsL l root).length = l.length := by unfold refsL; simp
theorem refs_at {l : List HC} {root : Int} {k : Nat} (hk : k < l.length) : (refsL l root)[k]'(by rw [refs_len]; exact hk) = outR root (k : Int) + ((inn l (k : Int) : Nat) : Int) := by unfold refsL; simp
theorem refs_take {l : List HC} {root : Int} {j : Nat} (hj : j < l.length) : (refsL l root).take (j + 1) = (refsL l root).take j ++ [outR root (j : Int) + ((inn l (j : Int) : Nat) : Int)] := by
  rw [List.take_succ_eq_append_getElem (by rw [refs_len]; exact hj), refs_at hj]
theorem outR_le (root p : Int) : 0 ≤ outR root p ∧ outR root p ≤ 1 := by unfold outR; split <;> omega
set_option maxRecDepth 100000 in
set_option maxHeartbeats 3200000 in
theorem ref08Refs_one (l : List HC) (hit : ∀ c ∈ l, c.it.length ≤ 90000) (hn : l.length ≤ 90000) (R : Option Addr) (n q : Nat) (keep : Int) (A : Option Addr) (c : Nat) (root : Int) (w : World) (hA : HcSl w R n q l) (hR : Sl w A 1 c ([root].map iv)) :
    Calls Tryz.prog 61 #[.agg #[.slice R n q, .int .i64 keep], .slice A 1 c, .slice none 0 0] w fun e w' => ∃ S d, e = .returned (.slice S n d) ∧ Sl w' S n d ((refsL l root).map iv) ∧ Ext w w' := by
  have hnl := hA.1
  have hx0 := (Ext.refl w).alloc (.cells #[.slice R n q, .int .i64 keep] 24)
  have HX := Lib.hid hx0
  have HB := Lib.hid (Bx.new w #[.slice R n q, .int .i64 keep] 24)
  have HA := Lib.hid (hA.ext hx0)
  have HR := Lib.hid (hR.ext hx0)
  have HNL := Lib.hid hnl
  have HIT := Lib.hid hit
  obtain ⟨p0, p1, p2⟩ := HB.out.read2
  have hnn : n ≤ 90000 := by omega
  clear hx0 hA hR hnl hit hn
  go_enter Tryz.func61, Tryz.ntmps61
  go_wp2
  generalize hW : World.alloc w _ = W at *
  have HWS := Lib.hid (show W.heap.size = w.heap.size + 1 by rw [← hW, World.size_alloc])
  clear p0 p1 p2 hW
  go_loopw [7, 8] (fun v i wr => ∃ (j : Nat) (S : Option Addr) (d : Nat), j ≤ n ∧ i = .int .i64 j ∧ v = .slice S j d ∧ wr.ownsRow (w.heap.size + 1) 3 1 (.slice S j d) j (((refsL l root).take j).map iv) ∧ Ext W wr ∧ Bx wr w.heap.size #[.slice R n q, .int .i64 keep]) (fun _ i _ => n - (intOf i).toNat)
  case atStart => exact ⟨0, none, 0, Nat.zero_le _, rfl, rfl, ⟨rfl, .inl ⟨rfl, rfl⟩⟩, Ext.refl _, HB.out⟩
  case round =>
    obtain ⟨j, S, d, hj, rfl, rfl, ho, hx, hb⟩ := hrel
    have HO := Lib.hid ho
    have HXR := Lib.hid hx
    have HBR := Lib.hid hb
    obtain ⟨p0, p1, p2⟩ := hb.read2
    clear ho hx hb
    rcases Nat.lt_or_ge j n with hlt | hlt
    · have hjl : j < l.length := by rw [← HNL.out]; exact hlt
      have hji : (j : Int) < (n : Int) := by omega
      have HRJ := Lib.hid (refs_take (root := root) hjl)
      have HC1 := Lib.hid (ref08outside_one A c root (j : Int) wr (HR.out.ext HXR.out))
      clear hjl
      go_wp2_with (go_at_call 89; refine HC1.out.mono ?_; rintro e w1 ⟨rfl, rfl⟩)
      have hO2 := outR_le root (j : Int)
      have HOR := Lib.hid (show outR root (j : Int) + ((inn (l.take 0) (j : Int) : Nat) : Int) = outR root (j : Int) by simp [inn])
      go_loopw [9, 10] (fun m i wx => ∃ u : Nat, u ≤ n ∧ i = .int .i64 u ∧ m = .int .i64 (outR root (j : Int) + ((inn (l.take u) (j : Int) : Nat) : Int)) ∧ Ext wr wx ∧ Bx wx w.heap.size #[.slice R n q, .int .i64 keep]) (fun _ i _ => n - (intOf i).toNat)
      case atStart => exact ⟨0, Nat.zero_le _, rfl, by rw [HOR.out], Ext.refl _, HBR.out⟩
      case round =>
        obtain ⟨u, hu, rfl, rfl, hx, hb⟩ := hrel
        have HXX := Lib.hid hx
        have HBX := Lib.hid hb
        clear p0 p1 p2
        obtain ⟨p0, p1, p2⟩ := hb.read2
        clear hx hb
        have hle : inn (l.take u) (j : Int) ≤ 8100000000 := Nat.le_trans (inn_leB (b := 90000) (fun c hc => HIT.out c (List.mem_of_mem_take hc)) _) (Nat.le_trans (Nat.mul_le_mul_right _ (Nat.le_trans (by rw [List.length_take]; exact Nat.min_le_left _ _) (Nat.le_trans hu hnn))) (by decide))
        rcases Nat.lt_or_ge u n with hlu | hlu
        · have hul : u < l.length := by rw [← HNL.out]; exact hlu
          have hui : (u : Int) < (n : Int) := by omega
          have HIN := Lib.hid (inn_take hul (j : Int))
          have hct := tell_le (HIT.out l[u] (List.getElem_mem hul)) (j : Int)
          have HTE := Lib.hid (ref08Tells_nil l u hul (HIT.out l[u] (List.getElem_mem hul)) R n q keep (j : Int) wr (HA.out.ext (HXR.out.trans HXX.out)))
          generalize inn (l.take u) (j : Int) = a at *
          generalize (tellC l[u]).count (j : Int) = g at *
          generalize outR root (j : Int) = o at *
          clear hul
          go_wp2_with (go_at_call 90; refine HTE.out.mono ?_; rintro e w2 ⟨rfl, hx2⟩; have HX2 := Lib.hid (HXX.out.trans hx2); have HB2 := Lib.hid (HBX.out.ext hx2); clear hx2 p0 p1 p2)
          go_roundw
          case rel => exact ⟨u + 1, by omega, by go_num, by rw [HIN.out]; go_num, HX2.out, HB2.out⟩
          case measure => simp [intOf]; omega
        · obtain rfl : n = u := by omega
          have d1 : decide ((n : Int) < (n : Int)) = false := decide_eq_false (by omega)
          have HE := Lib.hid (show l.take n = l by rw [HNL.out, List.take_length])
          rw [HE.out] at hle ⊢
          generalize inn l (j : Int) = a at *
          generalize outR root (j : Int) = o at *
          go_wp2_with (at_builtin; refine stop_here ?_)
          refine stop_on ?_
          refine wpList_app_sl _ rfl _ _ 38 rfl (w.heap.size + 1) 3 (.int .i64 0) 1 8 Tryz.underlying38 infoI1 rfl (by omega) _ j _ rfl (own_ext HO.out (HXX.out.alloc _)) _ 1 1 [iv (o + (a : Int))] rfl (by simp) (sl_lit' rfl _ 1 _ (by unfold maxLen; omega)) (iv_one [o + (a : Int)]) (by unfold maxLen; omega) (by omega) (by have := HBX.out.read2.2.2; simp; omega) ?_
          intro A5 c5 w5 hown hg
          have HO4 := Lib.hid (own_ext HO.out (HXX.out.alloc (.cells #[.int .i64 (o + (a : Int))] 3)))
          have HX5 := Lib.hid (Ext.app (HXR.out.trans (HXX.out.alloc _)) (own_ext HO.out (HXX.out.alloc _)) (by have := HWS.out; omega) hg)
          have HB5 := Lib.hid ((HBX.out.ext ((Ext.refl _).alloc (.cells #[.int .i64 (o + (a : Int))] 3))).grown hg (own_old HO4.out (by omega)))
          have HO5 := Lib.hid (show w5.ownsRow (w.heap.size + 1) 3 1 (.slice A5 (j + 1) c5) (j + 1) (((refsL l root).take (j + 1)).map iv) by rw [HRJ.out, List.map_append]; exact hown)
          clear hown hg
          go_wp2_with fail
          go_roundw
          case rel => exact ⟨j + 1, A5, c5, by omega, by go_num, rfl, HO5.out, HX5.out, HB5.out⟩
          case measure => simp [intOf]; omega
    · obtain rfl : n = j := by omega
      have d1 : decide ((n : Int) < (n : Int)) = false := decide_eq_false (by omega)
      have HE := Lib.hid (show (refsL l root).take n = refsL l root by rw [HNL.out, ← refs_len l root, List.take_length])
      rw [HE.out] at HO
      clear hlt
      go_wp2
      go_ret
      exact ⟨S, d, rfl, own_sl HO.out, HX.out.trans HXR.out⟩
end Go.Proofs.YtbfbpddfcakieaaGreat
