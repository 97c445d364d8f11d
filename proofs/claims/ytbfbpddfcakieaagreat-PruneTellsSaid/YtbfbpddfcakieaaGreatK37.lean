/- The walk of Sound of the reference of layer 8, where there are no tasks. Walks of Any, May and Fine of the reference of layer 8, where there are no tasks and one root. Walks of V and Over of the reference of layer 9. The walk of Over of the reference of layer 9. -/
import Derived.Test.YtbfbpddfcakieaaGreatK36
import Derived.Test.YtbfbpddfcakieaaGreatK06
namespace Go.Proofs.YtbfbpddfcakieaaGreat
open Go.RowKit
attribute [local go_sem ↓] Go.wp_at_zero Go.wp_at_succ

def soundK (l : List HC) (root : Int) (k : Nat) : Bool := decide ((l.getD k HC.none).ref = rootE root (k : Int) + ((inn l (k : Int) : Nat) : Int)) && (heldB l root 25 k == decide (0 < (l.getD k HC.none).ref))
theorem soundB_eq (l : List HC) (root : Int) : soundB l root = (List.range l.length).all (soundK l root) := rfl
theorem sound_no {l : List HC} {root : Int} {k : Nat} (hk : k < l.length) (h : soundK l root k = false) : soundB l root = false := by
  rw [soundB_eq, List.all_eq_false]
  exact ⟨k, List.mem_range.2 hk, by rw [h]; simp⟩
theorem all_range_succ (f : Nat → Bool) (p : Nat) : (List.range (p + 1)).all f = ((List.range p).all f && f p) := by
  rw [List.range_succ, List.all_append]; simp
theorem outR_eq (root p : Int) : outR root p = rootE root p := by
  unfold outR rootE
  by_cases h : root = p
  · rw [if_pos h, if_pos h.symm]
  · rw [if_neg h, if_neg (Ne.symm h)]
set_option maxRecDepth 100000 in
set_option maxHeartbeats 3200000 in
theorem ref08Sound_one (l : List HC) (hit : ∀ c ∈ l, c.it.length ≤ 90000) (hn : 1 ≤ l.length ∧ l.length ≤ 90000) (R : Option Addr) (n q : Nat) (keep : Int) (A : Option Addr) (c : Nat) (root : Int) (w : World) (hA : HcSl w R n q l) (hR : Sl w A 1 c ([root].map iv)) :
    Calls Tryz.prog 34 #[.agg #[.slice R n q, .int .i64 keep], .slice A 1 c, .slice none 0 0] w fun e w' => e = .returned (.bool (soundB l root)) ∧ Ext w w' := by
  have hnl := hA.1
  have hx0 := (Ext.refl w).alloc (.cells #[.slice R n q, .int .i64 keep] 24)
  have HX := Lib.hid hx0
  have HB := Lib.hid (Bx.new w #[.slice R n q, .int .i64 keep] 24)
  have HA := Lib.hid (hA.ext hx0)
  have HNL := Lib.hid hnl
  have HC1 := Lib.hid (ref08Refs_one l hit hn.2 R n q keep A c root _ (hA.ext hx0) (hR.ext hx0))
  have HC2 := Lib.hid (fun w' (hx : Ext _ w') => ref08Held_one l hit hn R n q keep A c root w' ((hA.ext hx0).ext hx) ((hR.ext hx0).ext hx))
  obtain ⟨p0, p1, p2⟩ := HB.out.read2
  have hnn : n ≤ 90000 := by omega
  clear hx0 hA hR hnl hit hn
  go_enter Tryz.func34, Tryz.ntmps34
  go_wp2_with fail
  generalize hW : World.alloc w _ = W at *
  clear hW
  go_wp2_with (first
    | (go_at_call 61; refine HC1.out.mono ?_; rintro e w1 ⟨S, d, rfl, hs, hx⟩; have HS := Lib.hid hs; have HX1 := Lib.hid hx; clear hs hx p0 p1 p2; obtain ⟨p0, p1, p2⟩ := (HB.out.ext HX1.out).read2)
    | (go_at_call 62; refine (HC2.out _ HX1.out).mono ?_; rintro e w2 ⟨S2, d2, rfl, hs, hx⟩; have HS2 := Lib.hid hs; have HX2 := Lib.hid hx; clear hs hx p0 p1 p2))
  have HX12 := Lib.hid (HX1.out.trans HX2.out)
  have HB2 := Lib.hid (HB.out.ext HX12.out)
  have HSR := Lib.hid (HS.out.ext HX2.out)
  have HA2 := Lib.hid (HA.out.ext HX12.out)
  clear HC1 HC2 HS HA
  go_loopw [9] (fun i wr => ∃ j : Nat, j ≤ n ∧ i = .int .i64 j ∧ Ext w2 wr ∧ (List.range j).all (soundK l root) = true) (fun i _ => n - (intOf i).toNat)
  case atStart => exact ⟨0, Nat.zero_le _, rfl, Ext.refl _, rfl⟩
  case round =>
    obtain ⟨j, hj, rfl, hx, hall⟩ := hrel
    obtain ⟨p0, p1, p2⟩ := (HB2.out.ext hx).read2
    have HALL := Lib.hid hall
    clear hall
    rcases Nat.lt_or_ge j n with hlt | hlt
    · have hjl : j < l.length := by rw [← HNL.out]; exact hlt
      have hji : (j : Int) < (n : Int) := by omega
      obtain ⟨b, off, rfl, hbl, A1, c1, r0, -, -, -, -⟩ := (HA2.out.ext hx).cell hjl
      obtain ⟨bs, os, rfl, hbs, hcs⟩ := (HSR.out.cells) (by
        intro e
        have h1 := congrArg List.length e
        rw [List.length_map, refs_len, List.length_nil] at h1
        omega)
      obtain ⟨bh, oh, rfl, hbh, hch⟩ := (HS2.out.cells) (by
        intro e
        have h1 := congrArg List.length e
        rw [rowB_len, List.length_nil] at h1
        omega)
      have s0 := (hx.cell (p := ⟨bs, os + j, none⟩) hbs).trans (hcs j (.int .i64 (outR root (j : Int) + ((inn l (j : Int) : Nat) : Int))) (by
        rw [List.getElem?_map, List.getElem?_eq_getElem (by rw [refs_len]; exact hjl), refs_at hjl]; rfl))
      have h0 := (hx.cell (p := ⟨bh, oh + j, none⟩) hbh).trans (hch j _ (rowB_at hlt))
      have HNO := Lib.hid (fun (h : soundK l root j = false) => sound_no hjl h)
      have HYES := Lib.hid (fun (h : soundK l root j = true) => (show (List.range (j + 1)).all (soundK l root) = true by rw [all_range_succ, HALL.out, h]; rfl))
      have HDEF := Lib.hid (show soundK l root j = (decide (l[j].ref = outR root (j : Int) + ((inn l (j : Int) : Nat) : Int)) && (heldB l root 25 j == decide (0 < l[j].ref))) by
        unfold soundK
        rw [List.getD_eq_getElem?_getD, List.getElem?_eq_getElem hjl, outR_eq]; rfl)
      generalize outR root (j : Int) + ((inn l (j : Int) : Nat) : Int) = v at *
      generalize heldB l root 25 j = f at *
      generalize l[j].ref = rf at *
      have HXR := Lib.hid hx
      clear hx hcs hch hbl hbs hbh hjl
      obtain ⟨z, hz⟩ : ∃ z, decide (0 < rf) = z := ⟨_, rfl⟩
      rw [hz] at HDEF
      by_cases hv : rf = v
      · subst hv
        have d0 : (rf != rf) = false := by simp
        by_cases hf : f = z
        · subst hf
          have HS := Lib.hid (HYES.out (by rw [HDEF.out]; simp))
          have d1 : (f != f) = false := by simp
          clear HYES HNO HDEF
          go_wp2_with fail
          go_quiet (fail)
          go_wp2_with fail
          go_roundw
          case rel => exact ⟨j + 1, by omega, by go_num, HXR.out.drewN _, HS.out⟩
          case measure => simp [intOf]; omega
        · have HE := Lib.hid (HNO.out (by rw [HDEF.out]; simp [hf]))
          clear HYES HNO HDEF
          have hfz : (f = true ∧ z = false) ∨ (f = false ∧ z = true) := by cases f <;> cases z <;> simp_all
          clear hf
          rcases hfz with ⟨rfl, rfl⟩ | ⟨rfl, rfl⟩
          · go_wp2_with fail
            go_quiet (fail)
            go_wp2_with fail
            go_ret
            exact ⟨ret_bool HE.out.symm, (HX.out.trans HX12.out).trans (HXR.out.drewN _)⟩
          · go_wp2_with fail
            go_quiet (fail)
            go_wp2_with fail
            go_ret
            exact ⟨ret_bool HE.out.symm, (HX.out.trans HX12.out).trans (HXR.out.drewN _)⟩
      · have HE := Lib.hid (HNO.out (by rw [HDEF.out]; simp [hv]))
        have d0 : (rf != v) = true := by rw [bne_iff_ne]; exact hv
        clear HYES HNO HDEF hv
        go_wp2_with fail
        go_quiet (fail)
        go_wp2_with fail
        go_ret
        exact ⟨ret_bool HE.out.symm, (HX.out.trans HX12.out).trans (HXR.out.drewN _)⟩
    · obtain rfl : n = j := by omega
      have d1 : decide ((n : Int) < (n : Int)) = false := decide_eq_false (by omega)
      have HE := Lib.hid (show soundB l root = true by rw [soundB_eq, ← HNL.out]; exact HALL.out)
      have HXR := Lib.hid hx
      clear hx hlt
      go_wp2
      go_ret
      exact ⟨ret_bool HE.out.symm, (HX.out.trans HX12.out).trans HXR.out⟩
end Go.Proofs.YtbfbpddfcakieaaGreat
namespace Go.Proofs.YtbfbpddfcakieaaGreat
open Go.RowKit
attribute [local go_sem ↓] Go.wp_at_zero Go.wp_at_succ

def anyB (h : Hp) (root : Int) : Bool := rightH h && rightR h root
theorem rightH_all {l : List HC} {keep : Int} (h : rightH ⟨l, keep⟩ = true) : AllR l ∧ l.length ≤ 2000 := by
  obtain ⟨⟨⟨_, h2⟩, _⟩, h3⟩ := rightH_iff h
  exact ⟨h3, h2⟩
set_option maxRecDepth 100000 in
set_option maxHeartbeats 1600000 in
theorem ref08Any_one (l : List HC) (R : Option Addr) (n q : Nat) (keep : Int) (A : Option Addr) (c : Nat) (root : Int) (w : World) (hA : HcSl w R n q l) (hR : Sl w A 1 c ([root].map iv)) :
    Calls Tryz.prog 60 #[.agg #[.slice R n q, .int .i64 keep], .slice A 1 c, .slice none 0 0] w fun e w' => e = .returned (.bool (anyB ⟨l, keep⟩ root)) ∧ Ext w w' := by
  have hml : n ≤ maxLen := by obtain ⟨_, cs, h, _⟩ := hA; exact h.len
  unfold maxLen at hml
  have hx0 := (Ext.refl w).alloc (.cells #[.slice R n q, .int .i64 keep] 24)
  have HX := Lib.hid hx0
  have HB := Lib.hid (Bx.new w #[.slice R n q, .int .i64 keep] 24)
  have HM := Lib.hid (fun w' (hx : Ext w w') => ref05Right_any R l n q keep w' (hA.ext hx))
  obtain ⟨p0, p1, p2⟩ := HB.out.read2
  have hm : anyB ⟨l, keep⟩ root = (rightH ⟨l, keep⟩ && rightR ⟨l, keep⟩ root) := rfl
  cases hu : rightH ⟨l, keep⟩
  · rw [hu] at HM hm
    have HE := Lib.hid (show anyB ⟨l, keep⟩ root = false from hm)
    clear hA hm hu hx0 hR
    go_enter Tryz.func60, Tryz.ntmps60
    go_wp2_with (first
      | (go_at_call 41; refine (HM.out _ HX.out).mono ?_; rintro e w1 ⟨rfl, hx⟩; have HX1 := Lib.hid (HX.out.trans hx); clear p0 p1 p2; obtain ⟨p0, p1, p2⟩ := (HB.out.ext hx).read2; clear hx)
      | (go_at_call 85; refine (ref06Right_nil _ _).mono ?_; rintro e w2 ⟨rfl, rfl⟩))
    go_ret
    exact ⟨ret_bool HE.out.symm, HX1.out⟩
  · obtain ⟨hl, hn⟩ := rightH_all hu
    rw [hu] at HM hm
    have HR := Lib.hid (fun w' (hx : Ext w w') => ref07Right_any R l n q keep root w' hl hn (hA.ext hx))
    have HE := Lib.hid (show anyB ⟨l, keep⟩ root = rightR ⟨l, keep⟩ root from hm)
    generalize rightR ⟨l, keep⟩ root = rr at *
    obtain ⟨b, off, rfl, hbl, hc⟩ := Cells.num hR.cells (k := 0) (by simp)
    have h0 := hc 0 (by simp)
    simp only [List.getElem_cons_zero, Nat.add_zero] at h0
    have HC0 := Lib.hid (fun w' (hx : Ext w w') => (hx.cell (p := ⟨b, off, none⟩) hbl).trans h0)
    clear hA hm hu hl hn hx0 hR hc h0 hbl
    go_enter Tryz.func60, Tryz.ntmps60
    go_wp2_with (first
      | (go_at_call 41; refine (HM.out _ HX.out).mono ?_; rintro e w1 ⟨rfl, hx⟩; have HX1 := Lib.hid (HX.out.trans hx); have HB1 := Lib.hid (HB.out.ext hx); clear p0 p1 p2; obtain ⟨p0, p1, p2⟩ := HB1.out.read2; clear hx)
      | (go_at_call 85; refine (ref06Right_nil _ _).mono ?_; rintro e w2 ⟨rfl, rfl⟩))
    go_loopw [9] (fun i wr => Ext w wr ∧ Bx wr w.heap.size #[.slice R n q, .int .i64 keep] ∧ (i = .int .i64 0 ∨ (i = .int .i64 1 ∧ rr = true))) (fun i _ => (1 - intOf i).toNat)
    case atStart => exact ⟨HX1.out, HB1.out, .inl rfl⟩
    case round =>
      clear HB1 HX1 p0 p1 p2
      obtain ⟨hx, hb, (rfl | ⟨rfl, rfl⟩)⟩ := hrel
      · have HXR := Lib.hid hx
        have HBR := Lib.hid hb
        have h0 := HC0.out _ hx
        obtain ⟨p0, p1, p2⟩ := hb.read2
        clear hx hb
        cases rr
        all_goals
          go_wp2_with fail
          go_region_law
            (first
              | ((go_simp
                  go_at_call 16
                  refine (HR.out _ ?_).mono ?_
                  (first | exact HXR.out.drew | exact HXR.out)
                  rintro e w4 ⟨rfl, hx4⟩
                  have E4 := Lib.hid (show Ext w w4 from by first | exact HXR.out.drew.trans hx4 | exact HXR.out.trans hx4)
                  have B4 := Lib.hid (show Bx w4 w.heap.size #[.slice R n q, .int .i64 keep] from by first | exact HBR.out.drew.ext hx4 | exact HBR.out.ext hx4)
                  clear hx4)))
        all_goals
          go_wp2_with fail
          first
          | (go_ret
             exact ⟨ret_bool HE.out.symm, E4.out⟩)
          | (go_roundw
             case rel => exact ⟨E4.out, B4.out, .inr ⟨by go_num, trivial⟩⟩
             case measure => simp [intOf])
      · have HXR := Lib.hid hx
        obtain ⟨p0, p1, p2⟩ := hb.read2
        clear hx hb
        go_wp2_with fail
        go_loopw [11] (fun i wx => i = .int .i64 0 ∧ wx = wr) (fun _ _ => 0)
        case atStart => exact ⟨rfl, rfl⟩
        case round =>
          obtain ⟨rfl, rfl⟩ := hrel
          go_wp2_with fail
          go_ret
          exact ⟨ret_bool HE.out.symm, HXR.out⟩
set_option maxRecDepth 100000 in
set_option maxHeartbeats 1600000 in
theorem ref08May_one (l : List HC) (R : Option Addr) (n q : Nat) (keep : Int) (A : Option Addr) (c : Nat) (root most : Int) (w : World) (hA : HcSl w R n q l) (hR : Sl w A 1 c ([root].map iv)) :
    Calls Tryz.prog 33 #[.agg #[.slice R n q, .int .i64 keep], .slice A 1 c, .slice none 0 0, .int .i64 most] w fun e w' => e = .returned (.bool (mayT ⟨l, keep⟩ root most)) ∧ Ext w w' := by
  have hx0 := (Ext.refl w).alloc (.cells #[.slice R n q, .int .i64 keep] 24)
  have HX := Lib.hid hx0
  have HB := Lib.hid (Bx.new w #[.slice R n q, .int .i64 keep] 24)
  have HS := Lib.hid (fun w' (hx : Ext w w') => ref05Small_any R l n q keep most w' (hA.ext hx))
  have HN := Lib.hid (fun w' (hx : Ext w w') => ref08Any_one l R n q keep A c root w' (hA.ext hx) (hR.ext hx))
  have hm : mayT ⟨l, keep⟩ root most = (smallH ⟨l, keep⟩ most && anyB ⟨l, keep⟩ root) := by
    unfold mayT mayH anyB
    rw [Bool.and_assoc]
  have HM := Lib.hid hm
  obtain ⟨p0, p1, p2⟩ := HB.out.read2
  generalize mayT ⟨l, keep⟩ root most = m at *
  generalize anyB ⟨l, keep⟩ root = a at *
  generalize smallH ⟨l, keep⟩ most = s at *
  clear hA hR hm hx0
  cases s
  all_goals
    go_enter Tryz.func33, Tryz.ntmps33
    go_wp2_with (first
      | (go_at_call 40; refine (HS.out _ HX.out).mono ?_; rintro e w1 ⟨rfl, hx⟩; have HX1 := Lib.hid (HX.out.trans hx); clear p0 p1 p2; obtain ⟨p0, p1, p2⟩ := (HB.out.ext hx).read2; clear hx)
      | (go_at_call 60; refine (HN.out _ HX1.out).mono ?_; rintro e w2 ⟨rfl, hx⟩; have HX2 := Lib.hid (HX1.out.trans hx); clear hx))
    go_ret
    first
    | exact ⟨ret_bool (by rw [HM.out]; rfl), HX2.out⟩
    | exact ⟨ret_bool (by rw [HM.out]; rfl), HX1.out⟩
theorem may_lens {l : List HC} {keep root most : Int} (h : mayT ⟨l, keep⟩ root most = true) : (∀ c ∈ l, c.it.length ≤ 90000) ∧ 1 ≤ l.length ∧ l.length ≤ 90000 := by
  unfold mayT at h
  rw [Bool.and_eq_true] at h
  obtain ⟨m1, m2, m3⟩ := may_iff h.1
  obtain ⟨⟨⟨h1, h2⟩, _⟩, _⟩ := rightH_iff m3
  refine ⟨fun c hc => ?_, h1, by omega⟩
  obtain ⟨k, hk, rfl⟩ := List.mem_iff_getElem.1 hc
  have := (m2 k hk).1
  omega
set_option maxRecDepth 100000 in
set_option maxHeartbeats 1600000 in
theorem ref08Fine_one (l : List HC) (R : Option Addr) (n q : Nat) (keep : Int) (A : Option Addr) (c : Nat) (root most : Int) (w : World) (hA : HcSl w R n q l) (hR : Sl w A 1 c ([root].map iv)) :
    Calls Tryz.prog 11 #[.agg #[.slice R n q, .int .i64 keep], .slice A 1 c, .slice none 0 0, .int .i64 most] w fun e w' => e = .returned (.bool (fineB ⟨l, keep⟩ root most)) ∧ Ext w w' := by
  have hx0 := (Ext.refl w).alloc (.cells #[.slice R n q, .int .i64 keep] 24)
  have HX := Lib.hid hx0
  have HB := Lib.hid (Bx.new w #[.slice R n q, .int .i64 keep] 24)
  have HMM := Lib.hid (fun w' (hx : Ext w w') => ref08May_one l R n q keep A c root most w' (hA.ext hx) (hR.ext hx))
  have hm : fineB ⟨l, keep⟩ root most = (mayT ⟨l, keep⟩ root most && soundB l root) := rfl
  obtain ⟨p0, p1, p2⟩ := HB.out.read2
  cases hu : mayT ⟨l, keep⟩ root most
  · rw [hu] at HMM hm
    have HE := Lib.hid (show fineB ⟨l, keep⟩ root most = false from hm)
    clear hA hR hm hx0 hu
    go_enter Tryz.func11, Tryz.ntmps11
    go_wp2_with (go_at_call 33; refine (HMM.out _ HX.out).mono ?_; rintro e w1 ⟨rfl, hx⟩; have HX1 := Lib.hid (HX.out.trans hx); clear p0 p1 p2; obtain ⟨p0, p1, p2⟩ := (HB.out.ext hx).read2; clear hx)
    go_ret
    exact ⟨ret_bool HE.out.symm, HX1.out⟩
  · obtain ⟨hl1, hl2⟩ := may_lens hu
    rw [hu] at HMM hm
    have HS := Lib.hid (fun w' (hx : Ext w w') => ref08Sound_one l hl1 hl2 R n q keep A c root w' (hA.ext hx) (hR.ext hx))
    have HE := Lib.hid (show fineB ⟨l, keep⟩ root most = soundB l root from hm)
    generalize soundB l root = s at *
    clear hA hR hm hx0 hu hl1 hl2
    go_enter Tryz.func11, Tryz.ntmps11
    go_wp2_with (first
      | (go_at_call 33; refine (HMM.out _ HX.out).mono ?_; rintro e w1 ⟨rfl, hx⟩; have HX1 := Lib.hid (HX.out.trans hx); clear p0 p1 p2; obtain ⟨p0, p1, p2⟩ := (HB.out.ext hx).read2; clear hx)
      | (go_at_call 34; refine (HS.out _ HX1.out).mono ?_; rintro e w2 ⟨rfl, hx⟩; have HX2 := Lib.hid (HX1.out.trans hx); clear hx))
    go_ret
    exact ⟨ret_bool HE.out.symm, HX2.out⟩
end Go.Proofs.YtbfbpddfcakieaaGreat
namespace Go.Proofs.YtbfbpddfcakieaaGreat
open Go.RowKit
attribute [local go_sem ↓] Go.wp_at_zero Go.wp_at_succ

theorem vs_take {l : List It} {j : Nat} (hj : j < l.length) : ((l.take (j + 1)).map (·.2)) = (l.take j).map (·.2) ++ [l[j].2] := by
  rw [List.take_succ_eq_append_getElem hj, List.map_append]; rfl
set_option maxRecDepth 100000 in
set_option maxHeartbeats 1600000 in
theorem ref09V_any (A : Option Addr) (it : List It) (m c : Nat) (w : World) (hm : m = it.length) (hb : m ≤ 90000) (hI : Sl w A m c (ivs it)) :
    Calls Tryz.prog 56 #[.slice A m c] w fun e w' => ∃ S d, e = .returned (.slice S m d) ∧ Sl w' S m d ((it.map (·.2)).map iv) ∧ Ext w w' := by
  have HM := Lib.hid hm
  have HI := Lib.hid hI
  clear hm hI
  go_enter Tryz.func56, Tryz.ntmps56
  go_wp2
  go_loopw [3, 4] (fun v i wr => ∃ (j : Nat) (S : Option Addr) (d : Nat), j ≤ m ∧ i = .int .i64 j ∧ v = .slice S j d ∧ wr.ownsRow w.heap.size 3 1 (.slice S j d) j (((it.take j).map (·.2)).map iv) ∧ Ext w wr) (fun _ i _ => m - (intOf i).toNat)
  case atStart => exact ⟨0, none, 0, Nat.zero_le _, rfl, rfl, ⟨rfl, .inl ⟨rfl, rfl⟩⟩, Ext.refl _⟩
  case round =>
    obtain ⟨j, S, d, hj, rfl, rfl, ho, hx⟩ := hrel
    have HO := Lib.hid ho
    have HXR := Lib.hid hx
    clear ho hx
    rcases Nat.lt_or_ge j m with hlt | hlt
    · have hjl : j < it.length := by rw [← HM.out]; exact hlt
      obtain ⟨b2, off2, rfl, hb2, a0, a1⟩ := it_at HI.out hjl
      have i1 := (HXR.out.cell (p := ⟨b2, off2 + j * 2 + 1, none⟩) hb2).trans a1
      have hji : (j : Int) < (m : Int) := by omega
      have HV := Lib.hid (vs_take hjl)
      clear a0 a1 hb2
      generalize it[j].2 = y at *
      clear hjl
      go_wp2_with (at_builtin; refine stop_here ?_)
      refine stop_on ?_
      refine wpList_app_sl _ rfl _ _ 38 rfl w.heap.size 3 (.int .i64 0) 1 8 Tryz.underlying38 infoI1 rfl (by omega) _ j _ rfl (own_ext HO.out ((Ext.refl _).alloc _)) _ 1 1 [iv y] rfl (by simp) (sl_lit' rfl _ 1 _ (by unfold maxLen; omega)) (iv_one [y]) (by unfold maxLen; omega) (by omega) (by have := HXR.out.size; simp; omega) ?_
      intro A5 c5 w5 hown hg
      have HX5 := Lib.hid (Ext.app (HXR.out.alloc _) (own_ext HO.out ((Ext.refl _).alloc _)) (Nat.le_refl _) hg)
      have HO5 := Lib.hid (show w5.ownsRow w.heap.size 3 1 (.slice A5 (j + 1) c5) (j + 1) (((it.take (j + 1)).map (·.2)).map iv) by rw [HV.out, List.map_append]; exact hown)
      clear hown hg
      go_wp2_with fail
      go_roundw
      case rel => exact ⟨j + 1, A5, c5, by omega, by go_num, rfl, HO5.out, HX5.out⟩
      case measure => simp [intOf]; omega
    · obtain rfl : m = j := by omega
      have d1 : decide ((m : Int) < (m : Int)) = false := decide_eq_false (by omega)
      have HE := Lib.hid (show it.take m = it by rw [HM.out, List.take_length])
      rw [HE.out] at HO
      clear hlt
      go_wp2
      go_ret
      exact ⟨S, d, rfl, own_sl HO.out, HXR.out⟩
end Go.Proofs.YtbfbpddfcakieaaGreat
namespace Go.Proofs.YtbfbpddfcakieaaGreat
open Go.RowKit
attribute [local go_sem ↓] Go.wp_at_zero Go.wp_at_succ

set_option maxRecDepth 100000 in
set_option maxHeartbeats 1600000 in
theorem ref09Over_any (R : Option Addr) (l : List HC) (n q : Nat) (keep : Int) (A : Option Addr) (it : List It) (m c : Nat) (w : World) (hb : n ≤ 90000) (hbd : ∀ k (hk : k < l.length), l[k].ref ≤ 8000000000000000000) (hA : HcSl w R n q l) (hm : m = it.length) (hmb : m ≤ 90000) (hI : Sl w A m c (ivs it)) :
    Calls Tryz.prog 66 #[.agg #[.slice R n q, .int .i64 keep], .slice A m c] w fun e w' => ∃ S d, e = .returned (.tuple #[.agg #[.slice S n d, .int .i64 keep], .int .i64 (allocP l false it : Nat), .int .i64 (allocE l false it)]) ∧ HcSl w' S n d (allocL l false it (it.map (·.2))) ∧ Ext w w' := by
  obtain ⟨W, hW⟩ : ∃ W, W = (w.alloc (.cells #[.slice R n q, .int .i64 keep] 24)).alloc (.cells #[.slice none 0 0, .int .i64 0] 24) := ⟨_, rfl⟩
  obtain ⟨hx, hb0, hb1⟩ := allocs2 hW.symm
  have hsz : W.heap.size = w.heap.size + 1 + 1 := by rw [hW]; simp
  have HSZ := Lib.hid hsz
  have HX := Lib.hid hx
  have HB0 := Lib.hid hb0
  have HB1 := Lib.hid hb1
  have HV := Lib.hid (fun w' (hx : Ext w w') => ref09V_any A it m c w' hm hmb (hI.ext hx))
  have HAL := Lib.hid (fun w' (hx : Ext w w') H d (hH : Sl w' H m d ((it.map (·.2)).map iv)) => ref05Alloc_any R l n q keep false A it m c H (it.map (·.2)) m d w' hb hbd (hA.ext hx) hm (hI.ext hx) (by rw [List.length_map]; exact hm) hH)
  obtain ⟨p0, p1, p2⟩ := hb0.read2
  obtain ⟨q0, q1, q2⟩ := hb1.read2
  obtain ⟨y0, y1⟩ := hb1.free2
  clear hx hb0 hb1 hA hI hm hbd hsz
  subst hW
  go_enter Tryz.func66, Tryz.ntmps66
  go_wp2_with fail
  generalize hW : World.alloc (World.alloc w _) _ = W at *
  clear hW
  go_region_law
    (first
      | ((go_simp
          go_at_call 56
          refine (HV.out _ ?_).mono ?_
          (first | exact HX.out.drewN _ | exact HX.out.drew | exact HX.out)
          rintro e w4 ⟨S4, d4, rfl, hs4, hx4⟩
          have E4 := Lib.hid (show Ext W w4 from by first | exact ((Ext.refl W).drewN _).trans hx4 | exact (Ext.refl W).drew.trans hx4 | exact hx4)
          have S4H := Lib.hid hs4
          obtain ⟨g0, g1, g2⟩ := (HB0.out.ext E4.out).read2
          clear hs4 hx4))
      | ((go_simp
          go_at_call 64
          refine (HAL.out _ (HX.out.trans E4.out) S4 d4 S4H.out).mono ?_
          rintro e w5 ⟨S5, d5, rfl, hh5, hx5⟩
          have E5 := Lib.hid (E4.out.trans hx5)
          have H5 := Lib.hid hh5
          obtain ⟨r0, r1, r2⟩ := (HB1.out.ext E5.out).read2
          obtain ⟨z0, z1⟩ := (HB1.out.ext E5.out).free2
          clear hh5 hx5)))
  all_goals
    have HB5 := Lib.hid (HB1.out.ext E5.out)
    have HX5 := Lib.hid (HX.out.trans E5.out)
    go_wp2_with fail
    refine ret2_cell (k := w.heap.size + 1) (x := .slice S5 n d5) (y := .int .i64 keep) (v := .tuple #[.agg #[.slice S5 n d5, .int .i64 keep], .int .i64 (allocP l false it : Nat), .int .i64 (allocE l false it)]) ?hb4 (fun r0 r1 => by simp [results, Tryz.results66, go_sem, r0, r1]) rfl ?hx4
    case hb4 => exact HB5.out.set2 _ _
    case hx4 => exact ⟨S5, d5, rfl, H5.out.boxed2 HB5.out _ _, HX5.out.store2 (by omega) _ _⟩
end Go.Proofs.YtbfbpddfcakieaaGreat
