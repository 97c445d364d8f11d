/- The walk of Sound of the reference of layer 8, where there are no tasks. Walks of Any, May and Fine of the reference of layer 8, where there are no tasks and one root. The example of layer 9. -/
import Derived.Test.YtkoomcbiddanfaaGreatK31
import Derived.Test.YtkoomcbiddanfaaGreatK27
import Derived.Deep.AppendLies
import Derived.Deep.RegionHeld3
import Derived.Deep.DeepCutAuto
import Derived.Deep.DrawnRows
import Derived.RegionTactic
import Derived.Test.YtkoomcbiddanfaaGreatK30
import Derived.Test.YtkoomcbiddanfaaGreatK16
namespace Go.Proofs.YtkoomcbiddanfaaGreat
open Go.RowKit
attribute [local go_sem ↓] Go.wp_at_zero Go.wp_at_succ

def soundK (l : List HC) (root : Int) (k : Nat) : Bool := decide ((l.getD k HC.none).ref = rootE root (k : Int) + ((inn l (k : Int) : Nat) : Int)) && (heldB l root 25 k == decide (0 < (l.getD k HC.none).ref))
theorem soundB_eq (l : List HC) (root : Int) : soundB l root = (List.range l.length).all (soundK l root) := rfl
theorem sound_no {l : List HC} {root : Int} {k : Nat} (hk : k < l.length) (h : soundK l root k = false) : soundB l root = false := by
  rw [soundB_eq, List.all_eq_false]
  exact ⟨k, List.mem_range.2 hk, by rw [h]; simp⟩
theorem all_range_succ (f : Nat → Bool) (p : Nat) : (List.range (p + 1)).all f = ((List.range p).all f && f p) := by
  rw [List.range_succ, List.all_append]; simp
theorem outR_eq (root p : Int) : outR root p = rootE root p := by
  unfold outR rootE
  by_cases h : root = p
  · rw [if_pos h, if_pos h.symm]
  · rw [if_neg h, if_neg (Ne.symm h)]
set_option maxRecDepth 100000 in
set_option maxHeartbeats 3200000 in
theorem ref08Sound_one (l : List HC) (hit : ∀ c ∈ l, c.it.length ≤ 90000) (hn : 1 ≤ l.length ∧ l.length ≤ 90000) (R : Option Addr) (n q : Nat) (keep : Int) (A : Option Addr) (c : Nat) (root : Int) (w : World) (hA : HcSl w R n q l) (hR : Sl w A 1 c ([root].map iv)) :
    Calls Tryz.prog 36 #[.agg #[.slice R n q, .int .i64 keep], .slice A 1 c, .slice none 0 0] w fun e w' => e = .returned (.bool (soundB l root)) ∧ Ext w w' := by
  have hnl := hA.1
  have hx0 := (Ext.refl w).alloc (.cells #[.slice R n q, .int .i64 keep] 24)
  have HX := Lib.hid hx0
  have HB := Lib.hid (Bx.new w #[.slice R n q, .int .i64 keep] 24)
  have HA := Lib.hid (hA.ext hx0)
  have HNL := Lib.hid hnl
  have HC1 := Lib.hid (ref08Refs_one l hit hn.2 R n q keep A c root _ (hA.ext hx0) (hR.ext hx0))
  have HC2 := Lib.hid (fun w' (hx : Ext _ w') => ref08Held_one l hit hn R n q keep A c root w' ((hA.ext hx0).ext hx) ((hR.ext hx0).ext hx))
  obtain ⟨p0, p1, p2⟩ := HB.out.read2
  have hnn : n ≤ 90000 := by omega
  clear hx0 hA hR hnl hit hn
  go_enter Tryz.func36, Tryz.ntmps36
  go_wp2_with fail
  generalize hW : World.alloc w _ = W at *
  clear hW
  go_wp2_with (first
    | (go_at_call 61; refine HC1.out.mono ?_; rintro e w1 ⟨S, d, rfl, hs, hx⟩; have HS := Lib.hid hs; have HX1 := Lib.hid hx; clear hs hx p0 p1 p2; obtain ⟨p0, p1, p2⟩ := (HB.out.ext HX1.out).read2)
    | (go_at_call 62; refine (HC2.out _ HX1.out).mono ?_; rintro e w2 ⟨S2, d2, rfl, hs, hx⟩; have HS2 := Lib.hid hs; have HX2 := Lib.hid hx; clear hs hx p0 p1 p2))
  have HX12 := Lib.hid (HX1.out.trans HX2.out)
  have HB2 := Lib.hid (HB.out.ext HX12.out)
  have HSR := Lib.hid (HS.out.ext HX2.out)
  have HA2 := Lib.hid (HA.out.ext HX12.out)
  clear HC1 HC2 HS HA
  go_loopw [9] (fun i wr => ∃ j : Nat, j ≤ n ∧ i = .int .i64 j ∧ Ext w2 wr ∧ (List.range j).all (soundK l root) = true) (fun i _ => n - (intOf i).toNat)
  case atStart => exact ⟨0, Nat.zero_le _, rfl, Ext.refl _, rfl⟩
  case round =>
    obtain ⟨j, hj, rfl, hx, hall⟩ := hrel
    obtain ⟨p0, p1, p2⟩ := (HB2.out.ext hx).read2
    have HALL := Lib.hid hall
    clear hall
    rcases Nat.lt_or_ge j n with hlt | hlt
    · have hjl : j < l.length := by rw [← HNL.out]; exact hlt
      have hji : (j : Int) < (n : Int) := by omega
      obtain ⟨b, off, rfl, hbl, A1, c1, r0, -, -, -, -⟩ := (HA2.out.ext hx).cell hjl
      obtain ⟨bs, os, rfl, hbs, hcs⟩ := (HSR.out.cells) (by
        intro e
        have h1 := congrArg List.length e
        rw [List.length_map, refs_len, List.length_nil] at h1
        omega)
      obtain ⟨bh, oh, rfl, hbh, hch⟩ := (HS2.out.cells) (by
        intro e
        have h1 := congrArg List.length e
        rw [rowB_len, List.length_nil] at h1
        omega)
      have s0 := (hx.cell (p := ⟨bs, os + j, none⟩) hbs).trans (hcs j (.int .i64 (outR root (j : Int) + ((inn l (j : Int) : Nat) : Int))) (by
        rw [List.getElem?_map, List.getElem?_eq_getElem (by rw [refs_len]; exact hjl), refs_at hjl]; rfl))
      have h0 := (hx.cell (p := ⟨bh, oh + j, none⟩) hbh).trans (hch j _ (rowB_at hlt))
      have HNO := Lib.hid (fun (h : soundK l root j = false) => sound_no hjl h)
      have HYES := Lib.hid (fun (h : soundK l root j = true) => (show (List.range (j + 1)).all (soundK l root) = true by rw [all_range_succ, HALL.out, h]; rfl))
      have HDEF := Lib.hid (show soundK l root j = (decide (l[j].ref = outR root (j : Int) + ((inn l (j : Int) : Nat) : Int)) && (heldB l root 25 j == decide (0 < l[j].ref))) by
        unfold soundK
        rw [List.getD_eq_getElem?_getD, List.getElem?_eq_getElem hjl, outR_eq]; rfl)
      generalize outR root (j : Int) + ((inn l (j : Int) : Nat) : Int) = v at *
      generalize heldB l root 25 j = f at *
      generalize l[j].ref = rf at *
      have HXR := Lib.hid hx
      clear hx hcs hch hbl hbs hbh hjl
      obtain ⟨z, hz⟩ : ∃ z, decide (0 < rf) = z := ⟨_, rfl⟩
      rw [hz] at HDEF
      by_cases hv : rf = v
      · subst hv
        have d0 : (rf != rf) = false := by simp
        by_cases hf : f = z
        · subst hf
          have HS := Lib.hid (HYES.out (by rw [HDEF.out]; simp))
          have d1 : (f != f) = false := by simp
          clear HYES HNO HDEF
          go_wp2_with fail
          go_quiet (fail)
          go_wp2_with fail
          go_roundw
          case rel => exact ⟨j + 1, by omega, by go_num, HXR.out.drewN _, HS.out⟩
          case measure => simp [intOf]; omega
        · have HE := Lib.hid (HNO.out (by rw [HDEF.out]; simp [hf]))
          clear HYES HNO HDEF
          have hfz : (f = true ∧ z = false) ∨ (f = false ∧ z = true) := by cases f <;> cases z <;> simp_all
          clear hf
          rcases hfz with ⟨rfl, rfl⟩ | ⟨rfl, rfl⟩
          · go_wp2_with fail
            go_quiet (fail)
            go_wp2_with fail
            go_ret
            exact ⟨ret_bool HE.out.symm, (HX.out.trans HX12.out).trans (HXR.out.drewN _)⟩
          · go_wp2_with fail
            go_quiet (fail)
            go_wp2_with fail
            go_ret
            exact ⟨ret_bool HE.out.symm, (HX.out.trans HX12.out).trans (HXR.out.drewN _)⟩
      · have HE := Lib.hid (HNO.out (by rw [HDEF.out]; simp [hv]))
        have d0 : (rf != v) = true := by rw [bne_iff_ne]; exact hv
        clear HYES HNO HDEF hv
        go_wp2_with fail
        go_quiet (fail)
        go_wp2_with fail
        go_ret
        exact ⟨ret_bool HE.out.symm, (HX.out.trans HX12.out).trans (HXR.out.drewN _)⟩
    · obtain rfl : n = j := by omega
      have d1 : decide ((n : Int) < (n : Int)) = false := decide_eq_false (by omega)
      have HE := Lib.hid (show soundB l root = true by rw [soundB_eq, ← HNL.out]; exact HALL.out)
      have HXR := Lib.hid hx
      clear hx hlt
      go_wp2
      go_ret
      exact ⟨ret_bool HE.out.symm, (HX.out.trans HX12.out).trans HXR.out⟩
end Go.Proofs.YtkoomcbiddanfaaGreat
namespace Go.Proofs.YtkoomcbiddanfaaGreat
open Go.RowKit
attribute [local go_sem ↓] Go.wp_at_zero Go.wp_at_succ

def anyB (h : Hp) (root : Int) : Bool := rightH h && rightR h root
theorem rightH_all {l : List HC} {keep : Int} (h : rightH ⟨l, keep⟩ = true) : AllR l ∧ l.length ≤ 2000 := by
  obtain ⟨⟨⟨_, h2⟩, _⟩, h3⟩ := rightH_iff h
  exact ⟨h3, h2⟩
set_option maxRecDepth 100000 in
set_option maxHeartbeats 1600000 in
theorem ref08Any_one (l : List HC) (R : Option Addr) (n q : Nat) (keep : Int) (A : Option Addr) (c : Nat) (root : Int) (w : World) (hA : HcSl w R n q l) (hR : Sl w A 1 c ([root].map iv)) :
    Calls Tryz.prog 60 #[.agg #[.slice R n q, .int .i64 keep], .slice A 1 c, .slice none 0 0] w fun e w' => e = .returned (.bool (anyB ⟨l, keep⟩ root)) ∧ Ext w w' := by
  have hml : n ≤ maxLen := by obtain ⟨_, cs, h, _⟩ := hA; exact h.len
  unfold maxLen at hml
  have hx0 := (Ext.refl w).alloc (.cells #[.slice R n q, .int .i64 keep] 24)
  have HX := Lib.hid hx0
  have HB := Lib.hid (Bx.new w #[.slice R n q, .int .i64 keep] 24)
  have HM := Lib.hid (fun w' (hx : Ext w w') => ref05Right_any R l n q keep w' (hA.ext hx))
  obtain ⟨p0, p1, p2⟩ := HB.out.read2
  have hm : anyB ⟨l, keep⟩ root = (rightH ⟨l, keep⟩ && rightR ⟨l, keep⟩ root) := rfl
  cases hu : rightH ⟨l, keep⟩
  · rw [hu] at HM hm
    have HE := Lib.hid (show anyB ⟨l, keep⟩ root = false from hm)
    clear hA hm hu hx0 hR
    go_enter Tryz.func60, Tryz.ntmps60
    go_wp2_with (first
      | (go_at_call 38; refine (HM.out _ HX.out).mono ?_; rintro e w1 ⟨rfl, hx⟩; have HX1 := Lib.hid (HX.out.trans hx); clear p0 p1 p2; obtain ⟨p0, p1, p2⟩ := (HB.out.ext hx).read2; clear hx)
      | (go_at_call 77; refine (ref06Right_nil _ _).mono ?_; rintro e w2 ⟨rfl, rfl⟩))
    go_ret
    exact ⟨ret_bool HE.out.symm, HX1.out⟩
  · obtain ⟨hl, hn⟩ := rightH_all hu
    rw [hu] at HM hm
    have HR := Lib.hid (fun w' (hx : Ext w w') => ref07Right_any R l n q keep root w' hl hn (hA.ext hx))
    have HE := Lib.hid (show anyB ⟨l, keep⟩ root = rightR ⟨l, keep⟩ root from hm)
    generalize rightR ⟨l, keep⟩ root = rr at *
    obtain ⟨b, off, rfl, hbl, hc⟩ := Cells.num hR.cells (k := 0) (by simp)
    have h0 := hc 0 (by simp)
    simp only [List.getElem_cons_zero, Nat.add_zero] at h0
    have HC0 := Lib.hid (fun w' (hx : Ext w w') => (hx.cell (p := ⟨b, off, none⟩) hbl).trans h0)
    clear hA hm hu hl hn hx0 hR hc h0 hbl
    go_enter Tryz.func60, Tryz.ntmps60
    go_wp2_with (first
      | (go_at_call 38; refine (HM.out _ HX.out).mono ?_; rintro e w1 ⟨rfl, hx⟩; have HX1 := Lib.hid (HX.out.trans hx); have HB1 := Lib.hid (HB.out.ext hx); clear p0 p1 p2; obtain ⟨p0, p1, p2⟩ := HB1.out.read2; clear hx)
      | (go_at_call 77; refine (ref06Right_nil _ _).mono ?_; rintro e w2 ⟨rfl, rfl⟩))
    go_loopw [9] (fun i wr => Ext w wr ∧ Bx wr w.heap.size #[.slice R n q, .int .i64 keep] ∧ (i = .int .i64 0 ∨ (i = .int .i64 1 ∧ rr = true))) (fun i _ => (1 - intOf i).toNat)
    case atStart => exact ⟨HX1.out, HB1.out, .inl rfl⟩
    case round =>
      clear HB1 HX1 p0 p1 p2
      obtain ⟨hx, hb, (rfl | ⟨rfl, rfl⟩)⟩ := hrel
      · have HXR := Lib.hid hx
        have HBR := Lib.hid hb
        have h0 := HC0.out _ hx
        obtain ⟨p0, p1, p2⟩ := hb.read2
        clear hx hb
        cases rr
        all_goals
          go_wp2_with fail
          go_region_law
            (first
              | ((go_simp
                  go_at_call 18
                  refine (HR.out _ ?_).mono ?_
                  (first | exact HXR.out.drew | exact HXR.out)
                  rintro e w4 ⟨rfl, hx4⟩
                  have E4 := Lib.hid (show Ext w w4 from by first | exact HXR.out.drew.trans hx4 | exact HXR.out.trans hx4)
                  have B4 := Lib.hid (show Bx w4 w.heap.size #[.slice R n q, .int .i64 keep] from by first | exact HBR.out.drew.ext hx4 | exact HBR.out.ext hx4)
                  clear hx4)))
        all_goals
          go_wp2_with fail
          first
          | (go_ret
             exact ⟨ret_bool HE.out.symm, E4.out⟩)
          | (go_roundw
             case rel => exact ⟨E4.out, B4.out, .inr ⟨by go_num, trivial⟩⟩
             case measure => simp [intOf])
      · have HXR := Lib.hid hx
        obtain ⟨p0, p1, p2⟩ := hb.read2
        clear hx hb
        go_wp2_with fail
        go_loopw [11] (fun i wx => i = .int .i64 0 ∧ wx = wr) (fun _ _ => 0)
        case atStart => exact ⟨rfl, rfl⟩
        case round =>
          obtain ⟨rfl, rfl⟩ := hrel
          go_wp2_with fail
          go_ret
          exact ⟨ret_bool HE.out.symm, HXR.out⟩
set_option maxRecDepth 100000 in
set_option maxHeartbeats 1600000 in
theorem ref08May_one (l : List HC) (R : Option Addr) (n q : Nat) (keep : Int) (A : Option Addr) (c : Nat) (root most : Int) (w : World) (hA : HcSl w R n q l) (hR : Sl w A 1 c ([root].map iv)) :
    Calls Tryz.prog 35 #[.agg #[.slice R n q, .int .i64 keep], .slice A 1 c, .slice none 0 0, .int .i64 most] w fun e w' => e = .returned (.bool (mayT ⟨l, keep⟩ root most)) ∧ Ext w w' := by
  have hx0 := (Ext.refl w).alloc (.cells #[.slice R n q, .int .i64 keep] 24)
  have HX := Lib.hid hx0
  have HB := Lib.hid (Bx.new w #[.slice R n q, .int .i64 keep] 24)
  have HS := Lib.hid (fun w' (hx : Ext w w') => ref05Small_any R l n q keep most w' (hA.ext hx))
  have HN := Lib.hid (fun w' (hx : Ext w w') => ref08Any_one l R n q keep A c root w' (hA.ext hx) (hR.ext hx))
  have hm : mayT ⟨l, keep⟩ root most = (smallH ⟨l, keep⟩ most && anyB ⟨l, keep⟩ root) := by
    unfold mayT mayH anyB
    rw [Bool.and_assoc]
  have HM := Lib.hid hm
  obtain ⟨p0, p1, p2⟩ := HB.out.read2
  generalize mayT ⟨l, keep⟩ root most = m at *
  generalize anyB ⟨l, keep⟩ root = a at *
  generalize smallH ⟨l, keep⟩ most = s at *
  clear hA hR hm hx0
  cases s
  all_goals
    go_enter Tryz.func35, Tryz.ntmps35
    go_wp2_with (first
      | (go_at_call 37; refine (HS.out _ HX.out).mono ?_; rintro e w1 ⟨rfl, hx⟩; have HX1 := Lib.hid (HX.out.trans hx); clear p0 p1 p2; obtain ⟨p0, p1, p2⟩ := (HB.out.ext hx).read2; clear hx)
      | (go_at_call 60; refine (HN.out _ HX1.out).mono ?_; rintro e w2 ⟨rfl, hx⟩; have HX2 := Lib.hid (HX1.out.trans hx); clear hx))
    go_ret
    first
    | exact ⟨ret_bool (by rw [HM.out]; rfl), HX2.out⟩
    | exact ⟨ret_bool (by rw [HM.out]; rfl), HX1.out⟩
theorem may_lens {l : List HC} {keep root most : Int} (h : mayT ⟨l, keep⟩ root most = true) : (∀ c ∈ l, c.it.length ≤ 90000) ∧ 1 ≤ l.length ∧ l.length ≤ 90000 := by
  unfold mayT at h
  rw [Bool.and_eq_true] at h
  obtain ⟨m1, m2, m3⟩ := may_iff h.1
  obtain ⟨⟨⟨h1, h2⟩, _⟩, _⟩ := rightH_iff m3
  refine ⟨fun c hc => ?_, h1, by omega⟩
  obtain ⟨k, hk, rfl⟩ := List.mem_iff_getElem.1 hc
  have := (m2 k hk).1
  omega
set_option maxRecDepth 100000 in
set_option maxHeartbeats 1600000 in
theorem ref08Fine_one (l : List HC) (R : Option Addr) (n q : Nat) (keep : Int) (A : Option Addr) (c : Nat) (root most : Int) (w : World) (hA : HcSl w R n q l) (hR : Sl w A 1 c ([root].map iv)) :
    Calls Tryz.prog 11 #[.agg #[.slice R n q, .int .i64 keep], .slice A 1 c, .slice none 0 0, .int .i64 most] w fun e w' => e = .returned (.bool (fineB ⟨l, keep⟩ root most)) ∧ Ext w w' := by
  have hx0 := (Ext.refl w).alloc (.cells #[.slice R n q, .int .i64 keep] 24)
  have HX := Lib.hid hx0
  have HB := Lib.hid (Bx.new w #[.slice R n q, .int .i64 keep] 24)
  have HMM := Lib.hid (fun w' (hx : Ext w w') => ref08May_one l R n q keep A c root most w' (hA.ext hx) (hR.ext hx))
  have hm : fineB ⟨l, keep⟩ root most = (mayT ⟨l, keep⟩ root most && soundB l root) := rfl
  obtain ⟨p0, p1, p2⟩ := HB.out.read2
  cases hu : mayT ⟨l, keep⟩ root most
  · rw [hu] at HMM hm
    have HE := Lib.hid (show fineB ⟨l, keep⟩ root most = false from hm)
    clear hA hR hm hx0 hu
    go_enter Tryz.func11, Tryz.ntmps11
    go_wp2_with (go_at_call 35; refine (HMM.out _ HX.out).mono ?_; rintro e w1 ⟨rfl, hx⟩; have HX1 := Lib.hid (HX.out.trans hx); clear p0 p1 p2; obtain ⟨p0, p1, p2⟩ := (HB.out.ext hx).read2; clear hx)
    go_ret
    exact ⟨ret_bool HE.out.symm, HX1.out⟩
  · obtain ⟨hl1, hl2⟩ := may_lens hu
    rw [hu] at HMM hm
    have HS := Lib.hid (fun w' (hx : Ext w w') => ref08Sound_one l hl1 hl2 R n q keep A c root w' (hA.ext hx) (hR.ext hx))
    have HE := Lib.hid (show fineB ⟨l, keep⟩ root most = soundB l root from hm)
    generalize soundB l root = s at *
    clear hA hR hm hx0 hu hl1 hl2
    go_enter Tryz.func11, Tryz.ntmps11
    go_wp2_with (first
      | (go_at_call 35; refine (HMM.out _ HX.out).mono ?_; rintro e w1 ⟨rfl, hx⟩; have HX1 := Lib.hid (HX.out.trans hx); clear p0 p1 p2; obtain ⟨p0, p1, p2⟩ := (HB.out.ext hx).read2; clear hx)
      | (go_at_call 36; refine (HS.out _ HX1.out).mono ?_; rintro e w2 ⟨rfl, hx⟩; have HX2 := Lib.hid (HX1.out.trans hx); clear hx))
    go_ret
    exact ⟨ret_bool HE.out.symm, HX2.out⟩
end Go.Proofs.YtkoomcbiddanfaaGreat
namespace Go.Proofs.YtkoomcbiddanfaaGreat
open Go.RowKit
attribute [local go_sem ↓] Go.wp_at_zero Go.wp_at_succ

theorem Bx.slP {w : World} {k : Nat} {cs : Array Value} (h : Bx w k cs) (n : Nat) (hn : n ≤ maxLen) : Sl w (some ⟨k, 0, none⟩) n n cs.toList :=
  ⟨(fun e => by cases e), Nat.le_refl _, hn, fun _ => ⟨k, 0, rfl, h.lt, fun j u hu => by rw [Nat.zero_add]; exact h.at j u (by simpa using hu)⟩⟩
theorem exNew_any (w : World) : Calls Tryz.prog 14 #[.int .i64 20, .int .i64 0] w fun e w' => ∃ S d, e = .returned (.tuple #[.agg #[.slice S 20 d, .int .i64 0], .int .i64 0]) ∧ HcSl w' S 20 d (exN 20) ∧ Ext w w' := by
  have h := ref05New_any 20 0 w
  obtain ⟨e1, e2, _⟩ := new_fine (n := 20) (most := 60) (by decide) (by decide) (by decide)
  rw [show newH 20 0 = ⟨exN 20, 0⟩ from e1, show newHE 20 0 = 0 from e2] at h
  exact h
theorem ex_fine : fineB ⟨exN 20, 0⟩ (-1) 60 = true := (new_fine (n := 20) (most := 60) (by decide) (by decide) (by decide)).2.2
theorem ex_may : mayT ⟨exN 20, 0⟩ (-1) 60 = true := by have h := ex_fine; unfold fineB at h; rw [Bool.and_eq_true] at h; exact h.1
theorem exFill_any (S A : Option Addr) (d : Nat) (w : World) (hA : HcSl w S 20 d (exN 20)) (hI : Sl w A 5 5 (ivs [(1, 1), (2, 2), (3, 3), (4, 4), (5, 5)])) :
    Calls Tryz.prog 12 #[.agg #[.slice S 20 d, .int .i64 0], .int .i64 (-1), .slice A 5 5] w fun e w' => ∃ S d, e = .returned (.tuple #[.agg #[.slice S 20 d, .int .i64 0], .int .i64 6, .int .i64 0]) ∧ HcSl w' S 20 d ex5 ∧ Ext w w' := by
  have h := growFill_any S (exN 20) 20 d 0 (-1) 60 A [(1, 1), (2, 2), (3, 3), (4, 4), (5, 5)] 5 5 w (by decide) ex_fine rfl (by decide) hA hI
  rw [ex_fill] at h
  exact h
theorem exArg_any (S : Option Addr) (d : Nat) (w : World) (hA : HcSl w S 20 d (exN 20)) :
    Calls Tryz.prog 6 #[.agg #[.slice S 20 d, .int .i64 0], .int .i64 (-1), .int .i64 (-1), .int .i64 0, .bool true] w fun e w' => ∃ S d, e = .returned (.tuple #[.agg #[.slice S 20 d, .int .i64 0], .int .i64 (-1), .int .i64 1]) ∧ HcSl w' S 20 d (exN 20) ∧ Ext w w' := by
  have h := growPut_any S (exN 20) 20 d 0 (-1) 60 (-1, 0) true w (by decide) ex_may hA
  rw [ex_arg] at h
  exact h
theorem exOne_any (S : Option Addr) (d : Nat) (w : World) (hA : HcSl w S 20 d (exN 20)) :
    Calls Tryz.prog 6 #[.agg #[.slice S 20 d, .int .i64 0], .int .i64 (-1), .int .i64 7, .int .i64 8, .bool false] w fun e w' => ∃ S d, e = .returned (.tuple #[.agg #[.slice S 20 d, .int .i64 0], .int .i64 0, .int .i64 0]) ∧ HcSl w' S 20 d (exL [(7, 8)] :: exN 19) ∧ Ext w w' := by
  have h := growPut_any S (exN 20) 20 d 0 (-1) 60 (7, 8) false w (by decide) ex_may hA
  rw [ex_one] at h
  exact h
theorem ex5_fine : AllR ex5 ∧ ex5.length ≤ 2000 ∧ rightR ⟨ex5, 0⟩ 6 = true := by
  have h := (fill_fine (keep := 0) (most := 60) (by decide) [(1, 1), (2, 2), (3, 3), (4, 4), (5, 5)] (exN 20) (-1) ex_fine).1
  rw [ex_fill] at h
  obtain ⟨h1, h2, _⟩ := fine_may h
  exact ⟨allR_of (may_iff h1).2.2, by decide, h2⟩
theorem exList_any (S : Option Addr) (d : Nat) (w : World) (hA : HcSl w S 20 d ex5) :
    Calls Tryz.prog 16 #[.agg #[.slice S 20 d, .int .i64 0], .int .i64 6] w fun e w' => ∃ S d, e = .returned (.slice S 5 d) ∧ Sl w' S 5 d (ivs [(1, 1), (2, 2), (3, 3), (4, 4), (5, 5)]) ∧ Ext w w' := by
  refine (ref07List_any S ex5 20 d 0 0 6 w ex5_fine.1 ex5_fine.2.1 ex5_fine.2.2 hA).mono ?_
  rintro e w2 ⟨T, s, c, rfl, rfl, h1, h2⟩
  rw [ex_list] at h1 ⊢
  exact ⟨T, c, rfl, h1, h2⟩
theorem exItems_any (S T : Option Addr) (d c : Nat) (w : World) (h1 : Sl w S 5 d (ivs [(1, 1), (2, 2), (3, 3), (4, 4), (5, 5)])) (h2 : Sl w T 5 c (ivs [(1, 1), (2, 2), (3, 3), (4, 4), (5, 5)])) :
    Calls Tryz.prog 15 #[.slice S 5 d, .slice T 5 c] w fun e w' => e = .returned (.bool true) ∧ Ext w w' := by
  have h := ref04Items_any S T [(1, 1), (2, 2), (3, 3), (4, 4), (5, 5)] [(1, 1), (2, 2), (3, 3), (4, 4), (5, 5)] 5 5 d c w rfl rfl h1 h2
  rw [show sameI [(1, 1), (2, 2), (3, 3), (4, 4), (5, 5)] [(1, 1), (2, 2), (3, 3), (4, 4), (5, 5)] = true from by unfold sameI; simp] at h
  exact h
attribute [local go_sem] beq_self_eq_true bne_self_eq_false
set_option maxRecDepth 100000 in
set_option maxHeartbeats 4000000 in
theorem shown_any (w : World) : Calls Tryz.prog 4 #[] w fun e w' => e = .returned (.bool true) ∧ Ext w w' := by
  have X_1 := Lib.hid (Ext.refl w)
  go_enter Tryz.func4, Tryz.ntmps4
  go_wp2_with (go_at_call 14; refine stop_here ?_)
  refine stop_on ?_
  refine (exNew_any _).mono ?_
  rintro e w2 ⟨S0, d0, rfl, h0, hx⟩
  have X_3 := Lib.hid (X_1.out.ext hx)
  clear X_1
  have H0_4 := Lib.hid h0
  clear hx h0
  go_wp2_with (go_at_call 12; refine stop_here ?_)
  refine stop_on ?_
  generalize hW : (World.alloc (World.alloc w2 _) _) = W5
  obtain ⟨hx, hb0, hb1⟩ := allocs2 hW
  clear hW
  have X_6 := Lib.hid (X_3.out.ext hx)
  have H0_6 := Lib.hid (H0_4.out.ext hx)
  clear X_3 H0_4
  have bh_7 := Lib.hid hb0
  have bl_8 := Lib.hid hb1
  clear hx hb0 hb1
  refine (exFill_any S0 _ d0 _ H0_6.out (bl_8.out.slP 5 (by unfold maxLen; omega))).mono ?_
  rintro e w9 ⟨S1, d1, rfl, h1, hx⟩
  have X_10 := Lib.hid (X_6.out.ext hx)
  have H0_10 := Lib.hid (H0_6.out.ext hx)
  have bh_10 := Lib.hid (bh_7.out.ext hx)
  have bl_10 := Lib.hid (bl_8.out.ext hx)
  clear X_6 H0_6 bh_7 bl_8
  have H1_11 := Lib.hid h1
  clear hx h1
  have qbh0 : w9.cell? ⟨w2.heap.size, 0, none⟩ = some (.slice S0 20 d0) := bh_10.out.at 0 _ rfl
  have qbh1 : w9.cell? ⟨w2.heap.size, 1, none⟩ = some (.int .i64 0) := bh_10.out.at 1 _ rfl
  have zbh := bh_10.out.lt
  have qbl0 : w9.cell? ⟨w2.heap.size + 1, 0, none⟩ = some (.int .i64 1) := bl_10.out.at 0 _ rfl
  have qbl1 : w9.cell? ⟨w2.heap.size + 1, 1, none⟩ = some (.int .i64 1) := bl_10.out.at 1 _ rfl
  have qbl2 : w9.cell? ⟨w2.heap.size + 1, 2, none⟩ = some (.int .i64 2) := bl_10.out.at 2 _ rfl
  have qbl3 : w9.cell? ⟨w2.heap.size + 1, 3, none⟩ = some (.int .i64 2) := bl_10.out.at 3 _ rfl
  have qbl4 : w9.cell? ⟨w2.heap.size + 1, 4, none⟩ = some (.int .i64 3) := bl_10.out.at 4 _ rfl
  have qbl5 : w9.cell? ⟨w2.heap.size + 1, 5, none⟩ = some (.int .i64 3) := bl_10.out.at 5 _ rfl
  have qbl6 : w9.cell? ⟨w2.heap.size + 1, 6, none⟩ = some (.int .i64 4) := bl_10.out.at 6 _ rfl
  have qbl7 : w9.cell? ⟨w2.heap.size + 1, 7, none⟩ = some (.int .i64 4) := bl_10.out.at 7 _ rfl
  have qbl8 : w9.cell? ⟨w2.heap.size + 1, 8, none⟩ = some (.int .i64 5) := bl_10.out.at 8 _ rfl
  have qbl9 : w9.cell? ⟨w2.heap.size + 1, 9, none⟩ = some (.int .i64 5) := bl_10.out.at 9 _ rfl
  have zbl := bl_10.out.lt
  go_wp2_with (go_at_call 6; refine stop_here ?_)
  refine stop_on ?_
  clear qbh0 qbh1 zbh qbl0 qbl1 qbl2 qbl3 qbl4 qbl5 qbl6 qbl7 qbl8 qbl9 zbl
  generalize hW : (World.alloc w9 _) = W12
  obtain ⟨hx, hb0⟩ := allocs1 hW
  clear hW
  have X_13 := Lib.hid (X_10.out.ext hx)
  have H0_13 := Lib.hid (H0_10.out.ext hx)
  have bh_13 := Lib.hid (bh_10.out.ext hx)
  have bl_13 := Lib.hid (bl_10.out.ext hx)
  have H1_13 := Lib.hid (H1_11.out.ext hx)
  clear X_10 H0_10 bh_10 bl_10 H1_11
  have bg_14 := Lib.hid hb0
  clear hx hb0
  refine (exArg_any S0 d0 _ H0_13.out).mono ?_
  rintro e w15 ⟨S2, d2, rfl, h2, hx⟩
  have X_16 := Lib.hid (X_13.out.ext hx)
  have H0_16 := Lib.hid (H0_13.out.ext hx)
  have bh_16 := Lib.hid (bh_13.out.ext hx)
  have bl_16 := Lib.hid (bl_13.out.ext hx)
  have H1_16 := Lib.hid (H1_13.out.ext hx)
  have bg_16 := Lib.hid (bg_14.out.ext hx)
  clear X_13 H0_13 bh_13 bl_13 H1_13 bg_14
  have H2_17 := Lib.hid h2
  clear hx h2
  have qbh0 : w15.cell? ⟨w2.heap.size, 0, none⟩ = some (.slice S0 20 d0) := bh_16.out.at 0 _ rfl
  have qbh1 : w15.cell? ⟨w2.heap.size, 1, none⟩ = some (.int .i64 0) := bh_16.out.at 1 _ rfl
  have zbh := bh_16.out.lt
  have qbl0 : w15.cell? ⟨w2.heap.size + 1, 0, none⟩ = some (.int .i64 1) := bl_16.out.at 0 _ rfl
  have qbl1 : w15.cell? ⟨w2.heap.size + 1, 1, none⟩ = some (.int .i64 1) := bl_16.out.at 1 _ rfl
  have qbl2 : w15.cell? ⟨w2.heap.size + 1, 2, none⟩ = some (.int .i64 2) := bl_16.out.at 2 _ rfl
  have qbl3 : w15.cell? ⟨w2.heap.size + 1, 3, none⟩ = some (.int .i64 2) := bl_16.out.at 3 _ rfl
  have qbl4 : w15.cell? ⟨w2.heap.size + 1, 4, none⟩ = some (.int .i64 3) := bl_16.out.at 4 _ rfl
  have qbl5 : w15.cell? ⟨w2.heap.size + 1, 5, none⟩ = some (.int .i64 3) := bl_16.out.at 5 _ rfl
  have qbl6 : w15.cell? ⟨w2.heap.size + 1, 6, none⟩ = some (.int .i64 4) := bl_16.out.at 6 _ rfl
  have qbl7 : w15.cell? ⟨w2.heap.size + 1, 7, none⟩ = some (.int .i64 4) := bl_16.out.at 7 _ rfl
  have qbl8 : w15.cell? ⟨w2.heap.size + 1, 8, none⟩ = some (.int .i64 5) := bl_16.out.at 8 _ rfl
  have qbl9 : w15.cell? ⟨w2.heap.size + 1, 9, none⟩ = some (.int .i64 5) := bl_16.out.at 9 _ rfl
  have zbl := bl_16.out.lt
  have qbg0 : w15.cell? ⟨w9.heap.size, 0, none⟩ = some (.slice S1 20 d1) := bg_16.out.at 0 _ rfl
  have qbg1 : w15.cell? ⟨w9.heap.size, 1, none⟩ = some (.int .i64 0) := bg_16.out.at 1 _ rfl
  have zbg := bg_16.out.lt
  go_wp2_with (go_at_call 6; refine stop_here ?_)
  refine stop_on ?_
  clear qbh0 qbh1 zbh qbl0 qbl1 qbl2 qbl3 qbl4 qbl5 qbl6 qbl7 qbl8 qbl9 zbl qbg0 qbg1 zbg
  generalize hW : (World.alloc w15 _) = W18
  obtain ⟨hx, hb0⟩ := allocs1 hW
  clear hW
  have X_19 := Lib.hid (X_16.out.ext hx)
  have H0_19 := Lib.hid (H0_16.out.ext hx)
  have bh_19 := Lib.hid (bh_16.out.ext hx)
  have bl_19 := Lib.hid (bl_16.out.ext hx)
  have H1_19 := Lib.hid (H1_16.out.ext hx)
  have bg_19 := Lib.hid (bg_16.out.ext hx)
  have H2_19 := Lib.hid (H2_17.out.ext hx)
  clear X_16 H0_16 bh_16 bl_16 H1_16 bg_16 H2_17
  clear hx hb0
  refine (exOne_any S0 d0 _ H0_19.out).mono ?_
  rintro e w20 ⟨S3, d3, rfl, h3, hx⟩
  have X_21 := Lib.hid (X_19.out.ext hx)
  have H0_21 := Lib.hid (H0_19.out.ext hx)
  have bh_21 := Lib.hid (bh_19.out.ext hx)
  have bl_21 := Lib.hid (bl_19.out.ext hx)
  have H1_21 := Lib.hid (H1_19.out.ext hx)
  have bg_21 := Lib.hid (bg_19.out.ext hx)
  have H2_21 := Lib.hid (H2_19.out.ext hx)
  clear X_19 H0_19 bh_19 bl_19 H1_19 bg_19 H2_19
  have H3_22 := Lib.hid h3
  clear hx h3
  have qbh0 : w20.cell? ⟨w2.heap.size, 0, none⟩ = some (.slice S0 20 d0) := bh_21.out.at 0 _ rfl
  have qbh1 : w20.cell? ⟨w2.heap.size, 1, none⟩ = some (.int .i64 0) := bh_21.out.at 1 _ rfl
  have zbh := bh_21.out.lt
  have qbl0 : w20.cell? ⟨w2.heap.size + 1, 0, none⟩ = some (.int .i64 1) := bl_21.out.at 0 _ rfl
  have qbl1 : w20.cell? ⟨w2.heap.size + 1, 1, none⟩ = some (.int .i64 1) := bl_21.out.at 1 _ rfl
  have qbl2 : w20.cell? ⟨w2.heap.size + 1, 2, none⟩ = some (.int .i64 2) := bl_21.out.at 2 _ rfl
  have qbl3 : w20.cell? ⟨w2.heap.size + 1, 3, none⟩ = some (.int .i64 2) := bl_21.out.at 3 _ rfl
  have qbl4 : w20.cell? ⟨w2.heap.size + 1, 4, none⟩ = some (.int .i64 3) := bl_21.out.at 4 _ rfl
  have qbl5 : w20.cell? ⟨w2.heap.size + 1, 5, none⟩ = some (.int .i64 3) := bl_21.out.at 5 _ rfl
  have qbl6 : w20.cell? ⟨w2.heap.size + 1, 6, none⟩ = some (.int .i64 4) := bl_21.out.at 6 _ rfl
  have qbl7 : w20.cell? ⟨w2.heap.size + 1, 7, none⟩ = some (.int .i64 4) := bl_21.out.at 7 _ rfl
  have qbl8 : w20.cell? ⟨w2.heap.size + 1, 8, none⟩ = some (.int .i64 5) := bl_21.out.at 8 _ rfl
  have qbl9 : w20.cell? ⟨w2.heap.size + 1, 9, none⟩ = some (.int .i64 5) := bl_21.out.at 9 _ rfl
  have zbl := bl_21.out.lt
  have qbg0 : w20.cell? ⟨w9.heap.size, 0, none⟩ = some (.slice S1 20 d1) := bg_21.out.at 0 _ rfl
  have qbg1 : w20.cell? ⟨w9.heap.size, 1, none⟩ = some (.int .i64 0) := bg_21.out.at 1 _ rfl
  have zbg := bg_21.out.lt
  obtain ⟨bs, off, rfl, hbl, A, c, -, -, r2, r3, hI⟩ := H1_21.out.cell (k := 6) (by decide)
  have hal1 := (Ext.refl w20).alloc (.cells #[.slice S3 20 d3, .int .i64 0] 24)
  obtain ⟨b2, off2, rfl, hbl2, k0, -⟩ := it_at (it := [(1, 4), (4, 5)]) hI (k := 1) (by decide)
  have t2 := (hal1.cell (p := ⟨bs, off + 6 * 4 + 2, none⟩) hbl).trans r2
  have t3 := (hal1.cell (p := ⟨bs, off + 6 * 4 + 3, none⟩) hbl).trans r3
  have t4 := (hal1.cell (p := ⟨b2, off2 + 1 * 2, none⟩) hbl2).trans k0
  have hb6 : bs < w20.heap.size + 1 := by omega
  clear r2 r3 hI
  go_wp2_with (go_at_call 16; refine stop_here ?_)
  refine stop_on ?_
  clear qbh0 qbh1 zbh qbl0 qbl1 qbl2 qbl3 qbl4 qbl5 qbl6 qbl7 qbl8 qbl9 zbl qbg0 qbg1 zbg
  generalize hW : (World.alloc (World.alloc w20 _) _) = W23
  obtain ⟨hx, hb0, hb1⟩ := allocs2 hW
  clear hW
  have X_24 := Lib.hid (X_21.out.ext hx)
  have H0_24 := Lib.hid (H0_21.out.ext hx)
  have bh_24 := Lib.hid (bh_21.out.ext hx)
  have bl_24 := Lib.hid (bl_21.out.ext hx)
  have H1_24 := Lib.hid (H1_21.out.ext hx)
  have bg_24 := Lib.hid (bg_21.out.ext hx)
  have H2_24 := Lib.hid (H2_21.out.ext hx)
  have H3_24 := Lib.hid (H3_22.out.ext hx)
  clear X_21 H0_21 bh_21 bl_21 H1_21 bg_21 H2_21 H3_22
  have bx_25 := Lib.hid hb0
  have bn_26 := Lib.hid hb1
  clear hx hb0 hb1
  refine (exList_any _ d1 _ H1_24.out).mono ?_
  rintro e w27 ⟨S4, d4, rfl, h4, hx⟩
  have X_28 := Lib.hid (X_24.out.ext hx)
  have H0_28 := Lib.hid (H0_24.out.ext hx)
  have bh_28 := Lib.hid (bh_24.out.ext hx)
  have bl_28 := Lib.hid (bl_24.out.ext hx)
  have H1_28 := Lib.hid (H1_24.out.ext hx)
  have bg_28 := Lib.hid (bg_24.out.ext hx)
  have H2_28 := Lib.hid (H2_24.out.ext hx)
  have H3_28 := Lib.hid (H3_24.out.ext hx)
  have bx_28 := Lib.hid (bx_25.out.ext hx)
  have bn_28 := Lib.hid (bn_26.out.ext hx)
  clear X_24 H0_24 bh_24 bl_24 H1_24 bg_24 H2_24 H3_24 bx_25 bn_26
  have L4_29 := Lib.hid h4
  clear hx h4
  have qbh0 : w27.cell? ⟨w2.heap.size, 0, none⟩ = some (.slice S0 20 d0) := bh_28.out.at 0 _ rfl
  have qbh1 : w27.cell? ⟨w2.heap.size, 1, none⟩ = some (.int .i64 0) := bh_28.out.at 1 _ rfl
  have zbh := bh_28.out.lt
  have qbl0 : w27.cell? ⟨w2.heap.size + 1, 0, none⟩ = some (.int .i64 1) := bl_28.out.at 0 _ rfl
  have qbl1 : w27.cell? ⟨w2.heap.size + 1, 1, none⟩ = some (.int .i64 1) := bl_28.out.at 1 _ rfl
  have qbl2 : w27.cell? ⟨w2.heap.size + 1, 2, none⟩ = some (.int .i64 2) := bl_28.out.at 2 _ rfl
  have qbl3 : w27.cell? ⟨w2.heap.size + 1, 3, none⟩ = some (.int .i64 2) := bl_28.out.at 3 _ rfl
  have qbl4 : w27.cell? ⟨w2.heap.size + 1, 4, none⟩ = some (.int .i64 3) := bl_28.out.at 4 _ rfl
  have qbl5 : w27.cell? ⟨w2.heap.size + 1, 5, none⟩ = some (.int .i64 3) := bl_28.out.at 5 _ rfl
  have qbl6 : w27.cell? ⟨w2.heap.size + 1, 6, none⟩ = some (.int .i64 4) := bl_28.out.at 6 _ rfl
  have qbl7 : w27.cell? ⟨w2.heap.size + 1, 7, none⟩ = some (.int .i64 4) := bl_28.out.at 7 _ rfl
  have qbl8 : w27.cell? ⟨w2.heap.size + 1, 8, none⟩ = some (.int .i64 5) := bl_28.out.at 8 _ rfl
  have qbl9 : w27.cell? ⟨w2.heap.size + 1, 9, none⟩ = some (.int .i64 5) := bl_28.out.at 9 _ rfl
  have zbl := bl_28.out.lt
  have qbg0 : w27.cell? ⟨w9.heap.size, 0, none⟩ = some (.slice (some ⟨bs, off, none⟩) 20 d1) := bg_28.out.at 0 _ rfl
  have qbg1 : w27.cell? ⟨w9.heap.size, 1, none⟩ = some (.int .i64 0) := bg_28.out.at 1 _ rfl
  have zbg := bg_28.out.lt
  have qbx0 : w27.cell? ⟨w20.heap.size, 0, none⟩ = some (.slice S3 20 d3) := bx_28.out.at 0 _ rfl
  have qbx1 : w27.cell? ⟨w20.heap.size, 1, none⟩ = some (.int .i64 0) := bx_28.out.at 1 _ rfl
  have zbx := bx_28.out.lt
  have qbn0 : w27.cell? ⟨w20.heap.size + 1, 0, none⟩ = some (.bool false) := bn_28.out.at 0 _ rfl
  have qbn1 : w27.cell? ⟨w20.heap.size + 1, 1, none⟩ = some (.slice (some ⟨b2, off2, none⟩) 2 c) := bn_28.out.at 1 _ rfl
  have zbn := bn_28.out.lt
  go_wp2_with (go_at_call 15; refine stop_here ?_)
  refine stop_on ?_
  clear qbh0 qbh1 zbh qbl0 qbl1 qbl2 qbl3 qbl4 qbl5 qbl6 qbl7 qbl8 qbl9 zbl qbg0 qbg1 zbg qbx0 qbx1 zbx qbn0 qbn1 zbn
  refine (exItems_any S4 _ d4 5 _ L4_29.out (bl_28.out.slP 5 (by unfold maxLen; omega))).mono ?_
  rintro e w30 ⟨rfl, hx⟩
  have X_31 := Lib.hid (X_28.out.ext hx)
  have H0_31 := Lib.hid (H0_28.out.ext hx)
  have bh_31 := Lib.hid (bh_28.out.ext hx)
  have bl_31 := Lib.hid (bl_28.out.ext hx)
  have H1_31 := Lib.hid (H1_28.out.ext hx)
  have bg_31 := Lib.hid (bg_28.out.ext hx)
  have H2_31 := Lib.hid (H2_28.out.ext hx)
  have H3_31 := Lib.hid (H3_28.out.ext hx)
  have bx_31 := Lib.hid (bx_28.out.ext hx)
  have bn_31 := Lib.hid (bn_28.out.ext hx)
  have L4_31 := Lib.hid (L4_29.out.ext hx)
  clear X_28 H0_28 bh_28 bl_28 H1_28 bg_28 H2_28 H3_28 bx_28 bn_28 L4_29
  clear hx
  have qbh0 : w30.cell? ⟨w2.heap.size, 0, none⟩ = some (.slice S0 20 d0) := bh_31.out.at 0 _ rfl
  have qbh1 : w30.cell? ⟨w2.heap.size, 1, none⟩ = some (.int .i64 0) := bh_31.out.at 1 _ rfl
  have zbh := bh_31.out.lt
  have qbl0 : w30.cell? ⟨w2.heap.size + 1, 0, none⟩ = some (.int .i64 1) := bl_31.out.at 0 _ rfl
  have qbl1 : w30.cell? ⟨w2.heap.size + 1, 1, none⟩ = some (.int .i64 1) := bl_31.out.at 1 _ rfl
  have qbl2 : w30.cell? ⟨w2.heap.size + 1, 2, none⟩ = some (.int .i64 2) := bl_31.out.at 2 _ rfl
  have qbl3 : w30.cell? ⟨w2.heap.size + 1, 3, none⟩ = some (.int .i64 2) := bl_31.out.at 3 _ rfl
  have qbl4 : w30.cell? ⟨w2.heap.size + 1, 4, none⟩ = some (.int .i64 3) := bl_31.out.at 4 _ rfl
  have qbl5 : w30.cell? ⟨w2.heap.size + 1, 5, none⟩ = some (.int .i64 3) := bl_31.out.at 5 _ rfl
  have qbl6 : w30.cell? ⟨w2.heap.size + 1, 6, none⟩ = some (.int .i64 4) := bl_31.out.at 6 _ rfl
  have qbl7 : w30.cell? ⟨w2.heap.size + 1, 7, none⟩ = some (.int .i64 4) := bl_31.out.at 7 _ rfl
  have qbl8 : w30.cell? ⟨w2.heap.size + 1, 8, none⟩ = some (.int .i64 5) := bl_31.out.at 8 _ rfl
  have qbl9 : w30.cell? ⟨w2.heap.size + 1, 9, none⟩ = some (.int .i64 5) := bl_31.out.at 9 _ rfl
  have zbl := bl_31.out.lt
  have qbg0 : w30.cell? ⟨w9.heap.size, 0, none⟩ = some (.slice (some ⟨bs, off, none⟩) 20 d1) := bg_31.out.at 0 _ rfl
  have qbg1 : w30.cell? ⟨w9.heap.size, 1, none⟩ = some (.int .i64 0) := bg_31.out.at 1 _ rfl
  have zbg := bg_31.out.lt
  have qbx0 : w30.cell? ⟨w20.heap.size, 0, none⟩ = some (.slice S3 20 d3) := bx_31.out.at 0 _ rfl
  have qbx1 : w30.cell? ⟨w20.heap.size, 1, none⟩ = some (.int .i64 0) := bx_31.out.at 1 _ rfl
  have zbx := bx_31.out.lt
  have qbn0 : w30.cell? ⟨w20.heap.size + 1, 0, none⟩ = some (.bool false) := bn_31.out.at 0 _ rfl
  have qbn1 : w30.cell? ⟨w20.heap.size + 1, 1, none⟩ = some (.slice (some ⟨b2, off2, none⟩) 2 c) := bn_31.out.at 1 _ rfl
  have zbn := bn_31.out.lt
  obtain ⟨b9, o9, rfl, -, A9, c9, r9, -⟩ := H3_31.out.cell (k := 0) (by decide)
  have r90 : w30.cell? ⟨b9, o9, none⟩ = some (.int .i64 1) := r9
  go_wp2_with fail
  go_ret
  exact ⟨rfl, X_31.out⟩
  
end Go.Proofs.YtkoomcbiddanfaaGreat
