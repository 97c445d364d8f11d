/- The walk of Sound of the reference of layer 8, where there are no tasks. Walks of Any, May and Fine of the reference of layer 8, where there are no tasks and one root. Walks of the reference of layer 8, where there are no tasks and any roots: outside. The walk of Refs of the reference of layer 8, where there are no tasks and any roots. -/
import Derived.Test.YtlbhcakjcklmgaaK17
namespace Go.Proofs.Ytlbhcakjcklmgaa
open Go.RowKit
attribute [local go_sem ↓] Go.wp_at_zero Go.wp_at_succ

def soundK (l : List HC) (root : Int) (k : Nat) : Bool := decide ((l.getD k HC.none).ref = rootE root (k : Int) + ((inn l (k : Int) : Nat) : Int)) && (heldB l root 25 k == decide (0 < (l.getD k HC.none).ref))
theorem soundB_eq (l : List HC) (root : Int) : soundB l root = (List.range l.length).all (soundK l root) := rfl
theorem sound_no {l : List HC} {root : Int} {k : Nat} (hk : k < l.length) (h : soundK l root k = false) : soundB l root = false := by
  rw [soundB_eq, List.all_eq_false]
  exact ⟨k, List.mem_range.2 hk, by rw [h]; simp⟩
theorem all_range_succ (f : Nat → Bool) (p : Nat) : (List.range (p + 1)).all f = ((List.range p).all f && f p) := by
  rw [List.range_succ, List.all_append]; simp
theorem outR_eq (root p : Int) : outR root p = rootE root p := by
  unfold outR rootE
  by_cases h : root = p
  · rw [if_pos h, if_pos h.symm]
  · rw [if_neg h, if_neg (Ne.symm h)]
set_option maxRecDepth 100000 in
set_option maxHeartbeats 3200000 in
theorem ref08Sound_one (l : List HC) (hit : ∀ c ∈ l, c.it.length ≤ 90000) (hn : 1 ≤ l.length ∧ l.length ≤ 90000) (R : Option Addr) (n q : Nat) (keep : Int) (A : Option Addr) (c : Nat) (root : Int) (w : World) (hA : HcSl w R n q l) (hR : Sl w A 1 c ([root].map iv)) :
    Calls Try.prog 15 #[.agg #[.slice R n q, .int .i64 keep], .slice A 1 c, .slice none 0 0] w fun e w' => e = .returned (.bool (soundB l root)) ∧ Ext w w' := by
  have hnl := hA.1
  have hx0 := (Ext.refl w).alloc (.cells #[.slice R n q, .int .i64 keep] 24)
  have HX := Lib.hid hx0
  have HB := Lib.hid (Bx.new w #[.slice R n q, .int .i64 keep] 24)
  have HA := Lib.hid (hA.ext hx0)
  have HNL := Lib.hid hnl
  have HC1 := Lib.hid (ref08Refs_one l hit hn.2 R n q keep A c root _ (hA.ext hx0) (hR.ext hx0))
  have HC2 := Lib.hid (fun w' (hx : Ext _ w') => ref08Held_one l hit hn R n q keep A c root w' ((hA.ext hx0).ext hx) ((hR.ext hx0).ext hx))
  obtain ⟨p0, p1, p2⟩ := HB.out.read2
  have hnn : n ≤ 90000 := by omega
  clear hx0 hA hR hnl hit hn
  go_enter Try.func15, Try.ntmps15
  go_wp2_with fail
  generalize hW : World.alloc w _ = W at *
  clear hW
  go_wp2_with (first
    | (go_at_call 22; refine HC1.out.mono ?_; rintro e w1 ⟨S, d, rfl, hs, hx⟩; have HS := Lib.hid hs; have HX1 := Lib.hid hx; clear hs hx p0 p1 p2; obtain ⟨p0, p1, p2⟩ := (HB.out.ext HX1.out).read2)
    | (go_at_call 23; refine (HC2.out _ HX1.out).mono ?_; rintro e w2 ⟨S2, d2, rfl, hs, hx⟩; have HS2 := Lib.hid hs; have HX2 := Lib.hid hx; clear hs hx p0 p1 p2))
  have HX12 := Lib.hid (HX1.out.trans HX2.out)
  have HB2 := Lib.hid (HB.out.ext HX12.out)
  have HSR := Lib.hid (HS.out.ext HX2.out)
  have HA2 := Lib.hid (HA.out.ext HX12.out)
  clear HC1 HC2 HS HA
  go_loopw [9] (fun i wr => ∃ j : Nat, j ≤ n ∧ i = .int .i64 j ∧ Ext w2 wr ∧ (List.range j).all (soundK l root) = true) (fun i _ => n - (intOf i).toNat)
  case atStart => exact ⟨0, Nat.zero_le _, rfl, Ext.refl _, rfl⟩
  case round =>
    obtain ⟨j, hj, rfl, hx, hall⟩ := hrel
    obtain ⟨p0, p1, p2⟩ := (HB2.out.ext hx).read2
    have HALL := Lib.hid hall
    clear hall
    rcases Nat.lt_or_ge j n with hlt | hlt
    · have hjl : j < l.length := by rw [← HNL.out]; exact hlt
      have hji : (j : Int) < (n : Int) := by omega
      obtain ⟨b, off, rfl, hbl, A1, c1, r0, -, -, -, -⟩ := (HA2.out.ext hx).cell hjl
      obtain ⟨bs, os, rfl, hbs, hcs⟩ := (HSR.out.cells) (by
        intro e
        have h1 := congrArg List.length e
        rw [List.length_map, refs_len, List.length_nil] at h1
        omega)
      obtain ⟨bh, oh, rfl, hbh, hch⟩ := (HS2.out.cells) (by
        intro e
        have h1 := congrArg List.length e
        rw [rowF_len, List.length_nil] at h1
        omega)
      have s0 := (hx.cell (p := ⟨bs, os + j, none⟩) hbs).trans (hcs j (.int .i64 (outR root (j : Int) + ((inn l (j : Int) : Nat) : Int))) (by
        rw [List.getElem?_map, List.getElem?_eq_getElem (by rw [refs_len]; exact hjl), refs_at hjl]; rfl))
      have h0 := (hx.cell (p := ⟨bh, oh + j, none⟩) hbh).trans (hch j _ (rowF_at hlt))
      have HNO := Lib.hid (fun (h : soundK l root j = false) => sound_no hjl h)
      have HYES := Lib.hid (fun (h : soundK l root j = true) => (show (List.range (j + 1)).all (soundK l root) = true by rw [all_range_succ, HALL.out, h]; rfl))
      have HDEF := Lib.hid (show soundK l root j = (decide (l[j].ref = outR root (j : Int) + ((inn l (j : Int) : Nat) : Int)) && (heldB l root 25 j == decide (0 < l[j].ref))) by
        unfold soundK
        rw [List.getD_eq_getElem?_getD, List.getElem?_eq_getElem hjl, outR_eq]; rfl)
      generalize outR root (j : Int) + ((inn l (j : Int) : Nat) : Int) = v at *
      generalize heldB l root 25 j = f at *
      generalize l[j].ref = rf at *
      have HXR := Lib.hid hx
      clear hx hcs hch hbl hbs hbh hjl
      obtain ⟨z, hz⟩ : ∃ z, decide (0 < rf) = z := ⟨_, rfl⟩
      rw [hz] at HDEF
      by_cases hv : rf = v
      · subst hv
        have d0 : (rf != rf) = false := by simp
        by_cases hf : f = z
        · subst hf
          have HS := Lib.hid (HYES.out (by rw [HDEF.out]; simp))
          have d1 : (f != f) = false := by simp
          clear HYES HNO HDEF
          go_wp2_with fail
          go_quiet (fail)
          go_wp2_with fail
          go_roundw
          case rel => exact ⟨j + 1, by omega, by go_num, HXR.out.drewN _, HS.out⟩
          case measure => simp [intOf]; omega
        · have HE := Lib.hid (HNO.out (by rw [HDEF.out]; simp [hf]))
          clear HYES HNO HDEF
          have hfz : (f = true ∧ z = false) ∨ (f = false ∧ z = true) := by cases f <;> cases z <;> simp_all
          clear hf
          rcases hfz with ⟨rfl, rfl⟩ | ⟨rfl, rfl⟩
          · go_wp2_with fail
            go_quiet (fail)
            go_wp2_with fail
            go_ret
            exact ⟨ret_bool HE.out.symm, (HX.out.trans HX12.out).trans (HXR.out.drewN _)⟩
          · go_wp2_with fail
            go_quiet (fail)
            go_wp2_with fail
            go_ret
            exact ⟨ret_bool HE.out.symm, (HX.out.trans HX12.out).trans (HXR.out.drewN _)⟩
      · have HE := Lib.hid (HNO.out (by rw [HDEF.out]; simp [hv]))
        have d0 : (rf != v) = true := by rw [bne_iff_ne]; exact hv
        clear HYES HNO HDEF hv
        go_wp2_with fail
        go_quiet (fail)
        go_wp2_with fail
        go_ret
        exact ⟨ret_bool HE.out.symm, (HX.out.trans HX12.out).trans (HXR.out.drewN _)⟩
    · obtain rfl : n = j := by omega
      have d1 : decide ((n : Int) < (n : Int)) = false := decide_eq_false (by omega)
      have HE := Lib.hid (show soundB l root = true by rw [soundB_eq, ← HNL.out]; exact HALL.out)
      have HXR := Lib.hid hx
      clear hx hlt
      go_wp2
      go_ret
      exact ⟨ret_bool HE.out.symm, (HX.out.trans HX12.out).trans HXR.out⟩
end Go.Proofs.Ytlbhcakjcklmgaa
namespace Go.Proofs.Ytlbhcakjcklmgaa
open Go.RowKit
attribute [local go_sem ↓] Go.wp_at_zero Go.wp_at_succ

def anyB (h : Hp) (root : Int) : Bool := rightH h && rightR h root
theorem rightH_all {l : List HC} {keep : Int} (h : rightH ⟨l, keep⟩ = true) : AllR l ∧ l.length ≤ 2000 := by
  obtain ⟨⟨⟨_, h2⟩, _⟩, h3⟩ := rightH_iff h
  exact ⟨h3, h2⟩
set_option maxRecDepth 100000 in
set_option maxHeartbeats 1600000 in
theorem ref08Any_one (l : List HC) (R : Option Addr) (n q : Nat) (keep : Int) (A : Option Addr) (c : Nat) (root : Int) (w : World) (hA : HcSl w R n q l) (hR : Sl w A 1 c ([root].map iv)) :
    Calls Try.prog 21 #[.agg #[.slice R n q, .int .i64 keep], .slice A 1 c, .slice none 0 0] w fun e w' => e = .returned (.bool (anyB ⟨l, keep⟩ root)) ∧ Ext w w' := by
  have hml : n ≤ maxLen := by obtain ⟨_, cs, h, _⟩ := hA; exact h.len
  unfold maxLen at hml
  have hx0 := (Ext.refl w).alloc (.cells #[.slice R n q, .int .i64 keep] 24)
  have HX := Lib.hid hx0
  have HB := Lib.hid (Bx.new w #[.slice R n q, .int .i64 keep] 24)
  have HM := Lib.hid (fun w' (hx : Ext w w') => ref05Right_any R l n q keep w' (hA.ext hx))
  obtain ⟨p0, p1, p2⟩ := HB.out.read2
  have hm : anyB ⟨l, keep⟩ root = (rightH ⟨l, keep⟩ && rightR ⟨l, keep⟩ root) := rfl
  cases hu : rightH ⟨l, keep⟩
  · rw [hu] at HM hm
    have HE := Lib.hid (show anyB ⟨l, keep⟩ root = false from hm)
    clear hA hm hu hx0 hR
    go_enter Try.func21, Try.ntmps21
    go_wp2_with (first
      | (go_at_call 28; refine (HM.out _ HX.out).mono ?_; rintro e w1 ⟨rfl, hx⟩; have HX1 := Lib.hid (HX.out.trans hx); clear p0 p1 p2; obtain ⟨p0, p1, p2⟩ := (HB.out.ext hx).read2; clear hx)
      | (go_at_call 29; refine (ref06Right_nil _ _).mono ?_; rintro e w2 ⟨rfl, rfl⟩))
    go_ret
    exact ⟨ret_bool HE.out.symm, HX1.out⟩
  · obtain ⟨hl, hn⟩ := rightH_all hu
    rw [hu] at HM hm
    have HR := Lib.hid (fun w' (hx : Ext w w') => ref07Right_any R l n q keep root w' hl hn (hA.ext hx))
    have HE := Lib.hid (show anyB ⟨l, keep⟩ root = rightR ⟨l, keep⟩ root from hm)
    generalize rightR ⟨l, keep⟩ root = rr at *
    obtain ⟨b, off, rfl, hbl, hc⟩ := Cells.num hR.cells (k := 0) (by simp)
    have h0 := hc 0 (by simp)
    simp only [List.getElem_cons_zero, Nat.add_zero] at h0
    have HC0 := Lib.hid (fun w' (hx : Ext w w') => (hx.cell (p := ⟨b, off, none⟩) hbl).trans h0)
    clear hA hm hu hl hn hx0 hR hc h0 hbl
    go_enter Try.func21, Try.ntmps21
    go_wp2_with (first
      | (go_at_call 28; refine (HM.out _ HX.out).mono ?_; rintro e w1 ⟨rfl, hx⟩; have HX1 := Lib.hid (HX.out.trans hx); have HB1 := Lib.hid (HB.out.ext hx); clear p0 p1 p2; obtain ⟨p0, p1, p2⟩ := HB1.out.read2; clear hx)
      | (go_at_call 29; refine (ref06Right_nil _ _).mono ?_; rintro e w2 ⟨rfl, rfl⟩))
    go_loopw [9] (fun i wr => Ext w wr ∧ Bx wr w.heap.size #[.slice R n q, .int .i64 keep] ∧ (i = .int .i64 0 ∨ (i = .int .i64 1 ∧ rr = true))) (fun i _ => (1 - intOf i).toNat)
    case atStart => exact ⟨HX1.out, HB1.out, .inl rfl⟩
    case round =>
      clear HB1 HX1 p0 p1 p2
      obtain ⟨hx, hb, (rfl | ⟨rfl, rfl⟩)⟩ := hrel
      · have HXR := Lib.hid hx
        have HBR := Lib.hid hb
        have h0 := HC0.out _ hx
        obtain ⟨p0, p1, p2⟩ := hb.read2
        clear hx hb
        cases rr
        all_goals
          go_wp2_with fail
          go_region_law
            (first
              | ((go_simp
                  go_at_call 30
                  refine (HR.out _ ?_).mono ?_
                  (first | exact HXR.out.drew | exact HXR.out)
                  rintro e w4 ⟨rfl, hx4⟩
                  have E4 := Lib.hid (show Ext w w4 from by first | exact HXR.out.drew.trans hx4 | exact HXR.out.trans hx4)
                  have B4 := Lib.hid (show Bx w4 w.heap.size #[.slice R n q, .int .i64 keep] from by first | exact HBR.out.drew.ext hx4 | exact HBR.out.ext hx4)
                  clear hx4)))
        all_goals
          go_wp2_with fail
          first
          | (go_ret
             exact ⟨ret_bool HE.out.symm, E4.out⟩)
          | (go_roundw
             case rel => exact ⟨E4.out, B4.out, .inr ⟨by go_num, trivial⟩⟩
             case measure => simp [intOf])
      · have HXR := Lib.hid hx
        obtain ⟨p0, p1, p2⟩ := hb.read2
        clear hx hb
        go_wp2_with fail
        go_loopw [11] (fun i wx => i = .int .i64 0 ∧ wx = wr) (fun _ _ => 0)
        case atStart => exact ⟨rfl, rfl⟩
        case round =>
          obtain ⟨rfl, rfl⟩ := hrel
          go_wp2_with fail
          go_ret
          exact ⟨ret_bool HE.out.symm, HXR.out⟩
set_option maxRecDepth 100000 in
set_option maxHeartbeats 1600000 in
theorem ref08May_one (l : List HC) (R : Option Addr) (n q : Nat) (keep : Int) (A : Option Addr) (c : Nat) (root most : Int) (w : World) (hA : HcSl w R n q l) (hR : Sl w A 1 c ([root].map iv)) :
    Calls Try.prog 14 #[.agg #[.slice R n q, .int .i64 keep], .slice A 1 c, .slice none 0 0, .int .i64 most] w fun e w' => e = .returned (.bool (mayT ⟨l, keep⟩ root most)) ∧ Ext w w' := by
  have hx0 := (Ext.refl w).alloc (.cells #[.slice R n q, .int .i64 keep] 24)
  have HX := Lib.hid hx0
  have HB := Lib.hid (Bx.new w #[.slice R n q, .int .i64 keep] 24)
  have HS := Lib.hid (fun w' (hx : Ext w w') => ref05Small_any R l n q keep most w' (hA.ext hx))
  have HN := Lib.hid (fun w' (hx : Ext w w') => ref08Any_one l R n q keep A c root w' (hA.ext hx) (hR.ext hx))
  have hm : mayT ⟨l, keep⟩ root most = (smallH ⟨l, keep⟩ most && anyB ⟨l, keep⟩ root) := by
    unfold mayT mayH anyB
    rw [Bool.and_assoc]
  have HM := Lib.hid hm
  obtain ⟨p0, p1, p2⟩ := HB.out.read2
  generalize mayT ⟨l, keep⟩ root most = m at *
  generalize anyB ⟨l, keep⟩ root = a at *
  generalize smallH ⟨l, keep⟩ most = s at *
  clear hA hR hm hx0
  cases s
  all_goals
    go_enter Try.func14, Try.ntmps14
    go_wp2_with (first
      | (go_at_call 20; refine (HS.out _ HX.out).mono ?_; rintro e w1 ⟨rfl, hx⟩; have HX1 := Lib.hid (HX.out.trans hx); clear p0 p1 p2; obtain ⟨p0, p1, p2⟩ := (HB.out.ext hx).read2; clear hx)
      | (go_at_call 21; refine (HN.out _ HX1.out).mono ?_; rintro e w2 ⟨rfl, hx⟩; have HX2 := Lib.hid (HX1.out.trans hx); clear hx))
    go_ret
    first
    | exact ⟨ret_bool (by rw [HM.out]; rfl), HX2.out⟩
    | exact ⟨ret_bool (by rw [HM.out]; rfl), HX1.out⟩
theorem may_lens {l : List HC} {keep root most : Int} (h : mayT ⟨l, keep⟩ root most = true) : (∀ c ∈ l, c.it.length ≤ 90000) ∧ 1 ≤ l.length ∧ l.length ≤ 90000 := by
  unfold mayT at h
  rw [Bool.and_eq_true] at h
  obtain ⟨m1, m2, m3⟩ := may_iff h.1
  obtain ⟨⟨⟨h1, h2⟩, _⟩, _⟩ := rightH_iff m3
  refine ⟨fun c hc => ?_, h1, by omega⟩
  obtain ⟨k, hk, rfl⟩ := List.mem_iff_getElem.1 hc
  have := (m2 k hk).1
  omega
set_option maxRecDepth 100000 in
set_option maxHeartbeats 1600000 in
theorem ref08Fine_one (l : List HC) (R : Option Addr) (n q : Nat) (keep : Int) (A : Option Addr) (c : Nat) (root most : Int) (w : World) (hA : HcSl w R n q l) (hR : Sl w A 1 c ([root].map iv)) :
    Calls Try.prog 6 #[.agg #[.slice R n q, .int .i64 keep], .slice A 1 c, .slice none 0 0, .int .i64 most] w fun e w' => e = .returned (.bool (fineB ⟨l, keep⟩ root most)) ∧ Ext w w' := by
  have hx0 := (Ext.refl w).alloc (.cells #[.slice R n q, .int .i64 keep] 24)
  have HX := Lib.hid hx0
  have HB := Lib.hid (Bx.new w #[.slice R n q, .int .i64 keep] 24)
  have HMM := Lib.hid (fun w' (hx : Ext w w') => ref08May_one l R n q keep A c root most w' (hA.ext hx) (hR.ext hx))
  have hm : fineB ⟨l, keep⟩ root most = (mayT ⟨l, keep⟩ root most && soundB l root) := rfl
  obtain ⟨p0, p1, p2⟩ := HB.out.read2
  cases hu : mayT ⟨l, keep⟩ root most
  · rw [hu] at HMM hm
    have HE := Lib.hid (show fineB ⟨l, keep⟩ root most = false from hm)
    clear hA hR hm hx0 hu
    go_enter Try.func6, Try.ntmps6
    go_wp2_with (go_at_call 14; refine (HMM.out _ HX.out).mono ?_; rintro e w1 ⟨rfl, hx⟩; have HX1 := Lib.hid (HX.out.trans hx); clear p0 p1 p2; obtain ⟨p0, p1, p2⟩ := (HB.out.ext hx).read2; clear hx)
    go_ret
    exact ⟨ret_bool HE.out.symm, HX1.out⟩
  · obtain ⟨hl1, hl2⟩ := may_lens hu
    rw [hu] at HMM hm
    have HS := Lib.hid (fun w' (hx : Ext w w') => ref08Sound_one l hl1 hl2 R n q keep A c root w' (hA.ext hx) (hR.ext hx))
    have HE := Lib.hid (show fineB ⟨l, keep⟩ root most = soundB l root from hm)
    generalize soundB l root = s at *
    clear hA hR hm hx0 hu hl1 hl2
    go_enter Try.func6, Try.ntmps6
    go_wp2_with (first
      | (go_at_call 14; refine (HMM.out _ HX.out).mono ?_; rintro e w1 ⟨rfl, hx⟩; have HX1 := Lib.hid (HX.out.trans hx); clear p0 p1 p2; obtain ⟨p0, p1, p2⟩ := (HB.out.ext hx).read2; clear hx)
      | (go_at_call 15; refine (HS.out _ HX1.out).mono ?_; rintro e w2 ⟨rfl, hx⟩; have HX2 := Lib.hid (HX1.out.trans hx); clear hx))
    go_ret
    exact ⟨ret_bool HE.out.symm, HX2.out⟩
end Go.Proofs.Ytlbhcakjcklmgaa
namespace Go.Proofs.Ytlbhcakjcklmgaa
open Go.RowKit
attribute [local go_sem ↓] Go.wp_at_zero Go.wp_at_succ

def outs (rs : List Int) (p : Int) : Int := ((rs.count p : Nat) : Int)
theorem outs_le {rs : List Int} (hm : rs.length ≤ 90000) (p : Int) : 0 ≤ outs rs p ∧ outs rs p ≤ 90000 := by
  unfold outs
  have : rs.count p ≤ rs.length := List.count_le_length
  omega
theorem outs_take {rs : List Int} {j : Nat} (hj : j < rs.length) (p : Int) : (rs.take (j + 1)).count p = (rs.take j).count p + (if rs[j] = p then 1 else 0) := by
  rw [List.take_succ_eq_append_getElem hj, List.count_append, List.count_singleton]
  congr 1
  by_cases h : rs[j] = p
  · rw [if_pos h, if_pos (by simp [h])]
  · rw [if_neg h, if_neg (by simpa using h)]
set_option maxHeartbeats 1600000 in
theorem ref08outside_many (A : Option Addr) (c m : Nat) (rs : List Int) (p : Int) (w : World) (hmr : m = rs.length) (hmb : m ≤ 90000) (hA : Sl w A m c (rs.map iv)) : Calls Try.prog 34 #[.slice A m c, .slice none 0 0, .int .i64 p] w fun e w' => e = .returned (.int .i64 (outs rs p)) ∧ w = w' := by
  have HA := Lib.hid hA
  have HMR := Lib.hid hmr
  clear hA hmr
  go_enter Try.func34, Try.ntmps34
  go_wp2
  go_loopw [7, 8] (fun u v wr => wr = w ∧ ∃ (j k : Nat), j ≤ m ∧ v = .int .i64 j ∧ u = .int .i64 k ∧ k = (rs.take j).count p ∧ k ≤ j) (fun _ v _ => m - (intOf v).toNat)
  case atStart => exact ⟨rfl, 0, 0, Nat.zero_le _, rfl, rfl, by simp, Nat.le_refl _⟩
  case round =>
    obtain ⟨rfl, j, k, hj, rfl, rfl, hk, hkj⟩ := hrel
    have HK := Lib.hid hk
    clear hk
    rcases Nat.lt_or_ge j m with hlt | hlt
    · have hjl : j < rs.length := by rw [← HMR.out]; exact hlt
      obtain ⟨b, off, rfl, _, hc⟩ := Cells.num HA.out.cells hjl
      have h0 := hc j hjl
      have hji : (j : Int) < (m : Int) := by omega
      have HCT := Lib.hid (outs_take hjl p)
      generalize rs[j] = r at *
      clear hc hjl
      by_cases h : r = p
      · have t0 : (r == p) = true := by rw [beq_iff_eq]; exact h
        have HCN := Lib.hid (show k + 1 = (rs.take (j + 1)).count p from by rw [HCT.out, if_pos h, HK.out])
        clear h
        go_wp2
        go_roundw
        case rel => exact ⟨trivial, j + 1, k + 1, by omega, by go_num, by go_num, HCN.out, by omega⟩
        case measure => simp [intOf]; omega
      · have t0 : (r == p) = false := by rw [beq_eq_false_iff_ne]; exact h
        have HCN := Lib.hid (show k = (rs.take (j + 1)).count p from by rw [HCT.out, if_neg h, HK.out]; rfl)
        clear h
        go_wp2
        go_roundw
        case rel => exact ⟨trivial, j + 1, k, by omega, by go_num, rfl, HCN.out, by omega⟩
        case measure => simp [intOf]; omega
    · obtain rfl : m = j := by omega
      have d1 : decide ((m : Int) < (m : Int)) = false := decide_eq_false (by omega)
      have HE := Lib.hid (show (k : Int) = outs rs p from by unfold outs; rw [HK.out, HMR.out, List.take_length])
      clear hlt
      go_wp2
      go_loopw [7, 9] (fun u v wx => u = .int .i64 k ∧ v = .int .i64 0 ∧ wx = wr) (fun _ _ _ => 0)
      case atStart => exact ⟨rfl, rfl, rfl⟩
      case round =>
        obtain ⟨rfl, rfl, rfl⟩ := hrel
        go_wp2
        go_ret
        exact ⟨ret_int HE.out, rfl⟩
end Go.Proofs.Ytlbhcakjcklmgaa
namespace Go.Proofs.Ytlbhcakjcklmgaa
open Go.RowKit
attribute [local go_sem ↓] Go.wp_at_zero Go.wp_at_succ

def refsS (l : List HC) (rs : List Int) : List Int := (List.range l.length).map (fun k : Nat => outs rs (k : Int) + ((inn l (k : Int) : Nat) : Int))
theorem refsS_len (l : List HC) (rs : List Int) : (refsS l rs).length = l.length := by unfold refsS; simp
theorem refsS_at {l : List HC} {rs : List Int} {k : Nat} (hk : k < l.length) : (refsS l rs)[k]'(by rw [refsS_len]; exact hk) = outs rs (k : Int) + ((inn l (k : Int) : Nat) : Int) := by unfold refsS; simp
theorem refsS_take {l : List HC} {rs : List Int} {j : Nat} (hj : j < l.length) : (refsS l rs).take (j + 1) = (refsS l rs).take j ++ [outs rs (j : Int) + ((inn l (j : Int) : Nat) : Int)] := by
  rw [List.take_succ_eq_append_getElem (by rw [refsS_len]; exact hj), refsS_at hj]
set_option maxRecDepth 100000 in
set_option maxHeartbeats 3200000 in
theorem ref08Refs_many (l : List HC) (hit : ∀ c ∈ l, c.it.length ≤ 90000) (hn : l.length ≤ 90000) (R : Option Addr) (n q : Nat) (keep : Int) (A : Option Addr) (c m : Nat) (rs : List Int) (w : World) (hmr : m = rs.length) (hmb : m ≤ 90000) (hA : HcSl w R n q l) (hR : Sl w A m c (rs.map iv)) :
    Calls Try.prog 22 #[.agg #[.slice R n q, .int .i64 keep], .slice A m c, .slice none 0 0] w fun e w' => ∃ S d, e = .returned (.slice S n d) ∧ Sl w' S n d ((refsS l rs).map iv) ∧ Ext w w' := by
  have hnl := hA.1
  have hx0 := (Ext.refl w).alloc (.cells #[.slice R n q, .int .i64 keep] 24)
  have HX := Lib.hid hx0
  have HB := Lib.hid (Bx.new w #[.slice R n q, .int .i64 keep] 24)
  have HMR := Lib.hid hmr
  have HMM := Lib.hid (show rs.length ≤ 90000 by omega)
  have HA := Lib.hid (hA.ext hx0)
  have HR := Lib.hid (hR.ext hx0)
  have HNL := Lib.hid hnl
  have HIT := Lib.hid hit
  obtain ⟨p0, p1, p2⟩ := HB.out.read2
  have hnn : n ≤ 90000 := by omega
  clear hx0 hA hR hnl hit hn hmr
  go_enter Try.func22, Try.ntmps22
  go_wp2
  generalize hW : World.alloc w _ = W at *
  have HWS := Lib.hid (show W.heap.size = w.heap.size + 1 by rw [← hW, World.size_alloc])
  clear p0 p1 p2 hW
  go_loopw [7, 8] (fun v i wr => ∃ (j : Nat) (S : Option Addr) (d : Nat), j ≤ n ∧ i = .int .i64 j ∧ v = .slice S j d ∧ wr.ownsRow (w.heap.size + 1) 3 1 (.slice S j d) j (((refsS l rs).take j).map iv) ∧ Ext W wr ∧ Bx wr w.heap.size #[.slice R n q, .int .i64 keep]) (fun _ i _ => n - (intOf i).toNat)
  case atStart => exact ⟨0, none, 0, Nat.zero_le _, rfl, rfl, ⟨rfl, .inl ⟨rfl, rfl⟩⟩, Ext.refl _, HB.out⟩
  case round =>
    obtain ⟨j, S, d, hj, rfl, rfl, ho, hx, hb⟩ := hrel
    have HO := Lib.hid ho
    have HXR := Lib.hid hx
    have HBR := Lib.hid hb
    obtain ⟨p0, p1, p2⟩ := hb.read2
    clear ho hx hb
    rcases Nat.lt_or_ge j n with hlt | hlt
    · have hjl : j < l.length := by rw [← HNL.out]; exact hlt
      have hji : (j : Int) < (n : Int) := by omega
      have HRJ := Lib.hid (refsS_take (rs := rs) hjl)
      have HC1 := Lib.hid (ref08outside_many A c m rs (j : Int) wr HMR.out hmb (HR.out.ext HXR.out))
      clear hjl
      go_wp2_with (go_at_call 34; refine HC1.out.mono ?_; rintro e w1 ⟨rfl, rfl⟩)
      have hO2 := outs_le HMM.out (j : Int)
      have HOR := Lib.hid (show outs rs (j : Int) + ((inn (l.take 0) (j : Int) : Nat) : Int) = outs rs (j : Int) by simp [inn])
      go_loopw [9, 10] (fun m i wx => ∃ u : Nat, u ≤ n ∧ i = .int .i64 u ∧ m = .int .i64 (outs rs (j : Int) + ((inn (l.take u) (j : Int) : Nat) : Int)) ∧ Ext wr wx ∧ Bx wx w.heap.size #[.slice R n q, .int .i64 keep]) (fun _ i _ => n - (intOf i).toNat)
      case atStart => exact ⟨0, Nat.zero_le _, rfl, by rw [HOR.out], Ext.refl _, HBR.out⟩
      case round =>
        obtain ⟨u, hu, rfl, rfl, hx, hb⟩ := hrel
        have HXX := Lib.hid hx
        have HBX := Lib.hid hb
        clear p0 p1 p2
        obtain ⟨p0, p1, p2⟩ := hb.read2
        clear hx hb
        have hle : inn (l.take u) (j : Int) ≤ 8100000000 := Nat.le_trans (inn_leB (b := 90000) (fun c hc => HIT.out c (List.mem_of_mem_take hc)) _) (Nat.le_trans (Nat.mul_le_mul_right _ (Nat.le_trans (by rw [List.length_take]; exact Nat.min_le_left _ _) (Nat.le_trans hu hnn))) (by decide))
        rcases Nat.lt_or_ge u n with hlu | hlu
        · have hul : u < l.length := by rw [← HNL.out]; exact hlu
          have hui : (u : Int) < (n : Int) := by omega
          have HIN := Lib.hid (inn_take hul (j : Int))
          have hct := tell_le (HIT.out l[u] (List.getElem_mem hul)) (j : Int)
          have HTE := Lib.hid (ref08Tells_nil l u hul (HIT.out l[u] (List.getElem_mem hul)) R n q keep (j : Int) wr (HA.out.ext (HXR.out.trans HXX.out)))
          generalize inn (l.take u) (j : Int) = a at *
          generalize (tellC l[u]).count (j : Int) = g at *
          generalize outs rs (j : Int) = o at *
          clear hul
          go_wp2_with (go_at_call 35; refine HTE.out.mono ?_; rintro e w2 ⟨rfl, hx2⟩; have HX2 := Lib.hid (HXX.out.trans hx2); have HB2 := Lib.hid (HBX.out.ext hx2); clear hx2 p0 p1 p2)
          go_roundw
          case rel => exact ⟨u + 1, by omega, by go_num, by rw [HIN.out]; go_num, HX2.out, HB2.out⟩
          case measure => simp [intOf]; omega
        · obtain rfl : n = u := by omega
          have d1 : decide ((n : Int) < (n : Int)) = false := decide_eq_false (by omega)
          have HE := Lib.hid (show l.take n = l by rw [HNL.out, List.take_length])
          rw [HE.out] at hle ⊢
          generalize inn l (j : Int) = a at *
          generalize outs rs (j : Int) = o at *
          go_wp2_with (at_builtin; refine stop_here ?_)
          refine stop_on ?_
          refine wpList_app_sl _ rfl _ _ 25 rfl (w.heap.size + 1) 3 (.int .i64 0) 1 8 Try.underlying25 infoI1 rfl (by omega) _ j _ rfl (own_ext HO.out (HXX.out.alloc _)) _ 1 1 [iv (o + (a : Int))] rfl (by simp) (sl_lit' rfl _ 1 _ (by unfold maxLen; omega)) (iv_one [o + (a : Int)]) (by unfold maxLen; omega) (by omega) (by have := HBX.out.read2.2.2; simp; omega) ?_
          intro A5 c5 w5 hown hg
          have HO4 := Lib.hid (own_ext HO.out (HXX.out.alloc (.cells #[.int .i64 (o + (a : Int))] 3)))
          have HX5 := Lib.hid (Ext.app (HXR.out.trans (HXX.out.alloc _)) (own_ext HO.out (HXX.out.alloc _)) (by have := HWS.out; omega) hg)
          have HB5 := Lib.hid ((HBX.out.ext ((Ext.refl _).alloc (.cells #[.int .i64 (o + (a : Int))] 3))).grown hg (own_old HO4.out (by omega)))
          have HO5 := Lib.hid (show w5.ownsRow (w.heap.size + 1) 3 1 (.slice A5 (j + 1) c5) (j + 1) (((refsS l rs).take (j + 1)).map iv) by rw [HRJ.out, List.map_append]; exact hown)
          clear hown hg
          go_wp2_with fail
          go_roundw
          case rel => exact ⟨j + 1, A5, c5, by omega, by go_num, rfl, HO5.out, HX5.out, HB5.out⟩
          case measure => simp [intOf]; omega
    · obtain rfl : n = j := by omega
      have d1 : decide ((n : Int) < (n : Int)) = false := decide_eq_false (by omega)
      have HE := Lib.hid (show (refsS l rs).take n = refsS l rs by rw [HNL.out, ← refsS_len l rs, List.take_length])
      rw [HE.out] at HO
      clear hlt
      go_wp2
      go_ret
      exact ⟨S, d, rfl, own_sl HO.out, HX.out.trans HXR.out⟩
end Go.Proofs.Ytlbhcakjcklmgaa
