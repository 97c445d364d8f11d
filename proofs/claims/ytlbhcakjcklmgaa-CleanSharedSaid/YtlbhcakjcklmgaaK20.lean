/- The walk of Sound of the reference of layer 8, where there are no tasks and any roots. Walks of Any, May and Fine of the reference of layer 8, where there are no tasks and any roots. A tree that is given back while another root holds it: the plain theory. The example of chapter 11: a node over a leaf, given back. Tasks and heaps on their way: the plain theory of any number of steps. -/
import Derived.Test.YtlbhcakjcklmgaaK19
import Derived.Test.YtlbhcakjcklmgaaK16
namespace Go.Proofs.Ytlbhcakjcklmgaa
open Go.RowKit
attribute [local go_sem ↓] Go.wp_at_zero Go.wp_at_succ

def soundKS (l : List HC) (rs : List Int) (k : Nat) : Bool := decide ((l.getD k HC.none).ref = outs rs (k : Int) + ((inn l (k : Int) : Nat) : Int)) && (heldS l rs 25 k == decide (0 < (l.getD k HC.none).ref))
def soundS (l : List HC) (rs : List Int) : Bool := (List.range l.length).all (soundKS l rs)
theorem soundS_eq (l : List HC) (rs : List Int) : soundS l rs = (List.range l.length).all (soundKS l rs) := rfl
theorem soundS_no {l : List HC} {rs : List Int} {k : Nat} (hk : k < l.length) (h : soundKS l rs k = false) : soundS l rs = false := by
  rw [soundS_eq, List.all_eq_false]
  exact ⟨k, List.mem_range.2 hk, by rw [h]; simp⟩
set_option maxRecDepth 100000 in
set_option maxHeartbeats 3200000 in
theorem ref08Sound_many (l : List HC) (hit : ∀ c ∈ l, c.it.length ≤ 90000) (hn : 1 ≤ l.length ∧ l.length ≤ 90000) (R : Option Addr) (n q : Nat) (keep : Int) (A : Option Addr) (c m : Nat) (rs : List Int) (w : World) (hmr : m = rs.length) (hmb : m ≤ 90000) (hA : HcSl w R n q l) (hR : Sl w A m c (rs.map iv)) :
    Calls Try.prog 15 #[.agg #[.slice R n q, .int .i64 keep], .slice A m c, .slice none 0 0] w fun e w' => e = .returned (.bool (soundS l rs)) ∧ Ext w w' := by
  have hnl := hA.1
  have hx0 := (Ext.refl w).alloc (.cells #[.slice R n q, .int .i64 keep] 24)
  have HX := Lib.hid hx0
  have HB := Lib.hid (Bx.new w #[.slice R n q, .int .i64 keep] 24)
  have HA := Lib.hid (hA.ext hx0)
  have HNL := Lib.hid hnl
  have HC1 := Lib.hid (ref08Refs_many l hit hn.2 R n q keep A c m rs _ hmr hmb (hA.ext hx0) (hR.ext hx0))
  have HC2 := Lib.hid (fun w' (hx : Ext _ w') => ref08Held_many l hit hn R n q keep A c m rs w' hmr hmb ((hA.ext hx0).ext hx) ((hR.ext hx0).ext hx))
  obtain ⟨p0, p1, p2⟩ := HB.out.read2
  have hnn : n ≤ 90000 := by omega
  clear hx0 hA hR hnl hit hn hmr hmb
  go_enter Try.func15, Try.ntmps15
  go_wp2_with fail
  generalize hW : World.alloc w _ = W at *
  clear hW
  go_wp2_with (first
    | (go_at_call 22; refine HC1.out.mono ?_; rintro e w1 ⟨S, d, rfl, hs, hx⟩; have HS := Lib.hid hs; have HX1 := Lib.hid hx; clear hs hx p0 p1 p2; obtain ⟨p0, p1, p2⟩ := (HB.out.ext HX1.out).read2)
    | (go_at_call 23; refine (HC2.out _ HX1.out).mono ?_; rintro e w2 ⟨S2, d2, rfl, hs, hx⟩; have HS2 := Lib.hid hs; have HX2 := Lib.hid hx; clear hs hx p0 p1 p2))
  have HX12 := Lib.hid (HX1.out.trans HX2.out)
  have HB2 := Lib.hid (HB.out.ext HX12.out)
  have HSR := Lib.hid (HS.out.ext HX2.out)
  have HA2 := Lib.hid (HA.out.ext HX12.out)
  clear HC1 HC2 HS HA
  go_loopw [9] (fun i wr => ∃ j : Nat, j ≤ n ∧ i = .int .i64 j ∧ Ext w2 wr ∧ (List.range j).all (soundKS l rs) = true) (fun i _ => n - (intOf i).toNat)
  case atStart => exact ⟨0, Nat.zero_le _, rfl, Ext.refl _, rfl⟩
  case round =>
    obtain ⟨j, hj, rfl, hx, hall⟩ := hrel
    obtain ⟨p0, p1, p2⟩ := (HB2.out.ext hx).read2
    have HALL := Lib.hid hall
    clear hall
    rcases Nat.lt_or_ge j n with hlt | hlt
    · have hjl : j < l.length := by rw [← HNL.out]; exact hlt
      have hji : (j : Int) < (n : Int) := by omega
      obtain ⟨b, off, rfl, hbl, A1, c1, r0, -, -, -, -⟩ := (HA2.out.ext hx).cell hjl
      obtain ⟨bs, os, rfl, hbs, hcs⟩ := (HSR.out.cells) (by
        intro e
        have h1 := congrArg List.length e
        rw [List.length_map, refsS_len, List.length_nil] at h1
        omega)
      obtain ⟨bh, oh, rfl, hbh, hch⟩ := (HS2.out.cells) (by
        intro e
        have h1 := congrArg List.length e
        rw [rowF_len, List.length_nil] at h1
        omega)
      have s0 := (hx.cell (p := ⟨bs, os + j, none⟩) hbs).trans (hcs j (.int .i64 (outs rs (j : Int) + ((inn l (j : Int) : Nat) : Int))) (by
        rw [List.getElem?_map, List.getElem?_eq_getElem (by rw [refsS_len]; exact hjl), refsS_at hjl]; rfl))
      have h0 := (hx.cell (p := ⟨bh, oh + j, none⟩) hbh).trans (hch j _ (rowF_at hlt))
      have HNO := Lib.hid (fun (h : soundKS l rs j = false) => soundS_no hjl h)
      have HYES := Lib.hid (fun (h : soundKS l rs j = true) => (show (List.range (j + 1)).all (soundKS l rs) = true by rw [all_range_succ, HALL.out, h]; rfl))
      have HDEF := Lib.hid (show soundKS l rs j = (decide (l[j].ref = outs rs (j : Int) + ((inn l (j : Int) : Nat) : Int)) && (heldS l rs 25 j == decide (0 < l[j].ref))) by
        unfold soundKS
        rw [List.getD_eq_getElem?_getD, List.getElem?_eq_getElem hjl]; rfl)
      generalize outs rs (j : Int) + ((inn l (j : Int) : Nat) : Int) = v at *
      generalize heldS l rs 25 j = f at *
      generalize l[j].ref = rf at *
      have HXR := Lib.hid hx
      clear hx hcs hch hbl hbs hbh hjl
      obtain ⟨z, hz⟩ : ∃ z, decide (0 < rf) = z := ⟨_, rfl⟩
      rw [hz] at HDEF
      by_cases hv : rf = v
      · subst hv
        have d0 : (rf != rf) = false := by simp
        by_cases hf : f = z
        · subst hf
          have HS := Lib.hid (HYES.out (by rw [HDEF.out]; simp))
          have d1 : (f != f) = false := by simp
          clear HYES HNO HDEF
          go_wp2_with fail
          go_quiet (fail)
          go_wp2_with fail
          go_roundw
          case rel => exact ⟨j + 1, by omega, by go_num, HXR.out.drewN _, HS.out⟩
          case measure => simp [intOf]; omega
        · have HE := Lib.hid (HNO.out (by rw [HDEF.out]; simp [hf]))
          clear HYES HNO HDEF
          have hfz : (f = true ∧ z = false) ∨ (f = false ∧ z = true) := by cases f <;> cases z <;> simp_all
          clear hf
          rcases hfz with ⟨rfl, rfl⟩ | ⟨rfl, rfl⟩
          · go_wp2_with fail
            go_quiet (fail)
            go_wp2_with fail
            go_ret
            exact ⟨ret_bool HE.out.symm, (HX.out.trans HX12.out).trans (HXR.out.drewN _)⟩
          · go_wp2_with fail
            go_quiet (fail)
            go_wp2_with fail
            go_ret
            exact ⟨ret_bool HE.out.symm, (HX.out.trans HX12.out).trans (HXR.out.drewN _)⟩
      · have HE := Lib.hid (HNO.out (by rw [HDEF.out]; simp [hv]))
        have d0 : (rf != v) = true := by rw [bne_iff_ne]; exact hv
        clear HYES HNO HDEF hv
        go_wp2_with fail
        go_quiet (fail)
        go_wp2_with fail
        go_ret
        exact ⟨ret_bool HE.out.symm, (HX.out.trans HX12.out).trans (HXR.out.drewN _)⟩
    · obtain rfl : n = j := by omega
      have d1 : decide ((n : Int) < (n : Int)) = false := decide_eq_false (by omega)
      have HE := Lib.hid (show soundS l rs = true by rw [soundS_eq, ← HNL.out]; exact HALL.out)
      have HXR := Lib.hid hx
      clear hx hlt
      go_wp2
      go_ret
      exact ⟨ret_bool HE.out.symm, (HX.out.trans HX12.out).trans HXR.out⟩
end Go.Proofs.Ytlbhcakjcklmgaa
namespace Go.Proofs.Ytlbhcakjcklmgaa
open Go.RowKit
attribute [local go_sem ↓] Go.wp_at_zero Go.wp_at_succ

def anyS (h : Hp) (rs : List Int) : Bool := rightH h && rs.all (rightR h)
def mayS (h : Hp) (rs : List Int) (most : Int) : Bool := smallH h most && (decide (rs.length ≤ 20) && anyS h rs)
def fineS (h : Hp) (rs : List Int) (most : Int) : Bool := mayS h rs most && soundS h.c rs
theorem all_take {rs : List Int} {j : Nat} (hj : j < rs.length) (f : Int → Bool) : (rs.take (j + 1)).all f = ((rs.take j).all f && f rs[j]) := by
  rw [List.take_succ_eq_append_getElem hj, List.all_append]; simp
set_option maxRecDepth 100000 in
set_option maxHeartbeats 1600000 in
theorem ref08Any_many (l : List HC) (R : Option Addr) (n q : Nat) (keep : Int) (A : Option Addr) (c m : Nat) (rs : List Int) (w : World) (hmr : m = rs.length) (hmb : m ≤ 90000) (hA : HcSl w R n q l) (hR : Sl w A m c (rs.map iv)) :
    Calls Try.prog 21 #[.agg #[.slice R n q, .int .i64 keep], .slice A m c, .slice none 0 0] w fun e w' => e = .returned (.bool (anyS ⟨l, keep⟩ rs)) ∧ Ext w w' := by
  have hml : n ≤ maxLen := by obtain ⟨_, cs, h, _⟩ := hA; exact h.len
  unfold maxLen at hml
  have hx0 := (Ext.refl w).alloc (.cells #[.slice R n q, .int .i64 keep] 24)
  have HX := Lib.hid hx0
  have HB := Lib.hid (Bx.new w #[.slice R n q, .int .i64 keep] 24)
  have HM := Lib.hid (fun w' (hx : Ext w w') => ref05Right_any R l n q keep w' (hA.ext hx))
  obtain ⟨p0, p1, p2⟩ := HB.out.read2
  have hm : anyS ⟨l, keep⟩ rs = (rightH ⟨l, keep⟩ && rs.all (rightR ⟨l, keep⟩)) := rfl
  cases hu : rightH ⟨l, keep⟩
  · rw [hu] at HM hm
    have HE := Lib.hid (show anyS ⟨l, keep⟩ rs = false from hm)
    clear hA hm hu hx0 hR hmr
    go_enter Try.func21, Try.ntmps21
    go_wp2_with (first
      | (go_at_call 28; refine (HM.out _ HX.out).mono ?_; rintro e w1 ⟨rfl, hx⟩; have HX1 := Lib.hid (HX.out.trans hx); clear p0 p1 p2; obtain ⟨p0, p1, p2⟩ := (HB.out.ext hx).read2; clear hx)
      | (go_at_call 29; refine (ref06Right_nil _ _).mono ?_; rintro e w2 ⟨rfl, rfl⟩))
    go_ret
    exact ⟨ret_bool HE.out.symm, HX1.out⟩
  · obtain ⟨hl, hn⟩ := rightH_all hu
    rw [hu] at HM hm
    have HR := Lib.hid (fun p w' (hx : Ext w w') => ref07Right_any R l n q keep p w' hl hn (hA.ext hx))
    have HE := Lib.hid (show anyS ⟨l, keep⟩ rs = rs.all (rightR ⟨l, keep⟩) from hm)
    have HRS := Lib.hid hR
    have HMR := Lib.hid hmr
    clear hA hm hu hl hn hx0 hR hmr
    go_enter Try.func21, Try.ntmps21
    go_wp2_with (first
      | (go_at_call 28; refine (HM.out _ HX.out).mono ?_; rintro e w1 ⟨rfl, hx⟩; have HX1 := Lib.hid (HX.out.trans hx); have HB1 := Lib.hid (HB.out.ext hx); clear p0 p1 p2; obtain ⟨p0, p1, p2⟩ := HB1.out.read2; clear hx)
      | (go_at_call 29; refine (ref06Right_nil _ _).mono ?_; rintro e w2 ⟨rfl, rfl⟩))
    go_loopw [9] (fun i wr => Ext w wr ∧ Bx wr w.heap.size #[.slice R n q, .int .i64 keep] ∧ ∃ j : Nat, j ≤ m ∧ i = .int .i64 j ∧ (rs.take j).all (rightR ⟨l, keep⟩) = true) (fun i _ => m - (intOf i).toNat)
    case atStart => exact ⟨HX1.out, HB1.out, 0, Nat.zero_le _, rfl, rfl⟩
    case round =>
      clear HB1 HX1 p0 p1 p2
      obtain ⟨hx, hb, j, hj, rfl, hall⟩ := hrel
      have HALL := Lib.hid hall
      have HXR := Lib.hid hx
      have HBR := Lib.hid hb
      obtain ⟨p0, p1, p2⟩ := hb.read2
      clear hall
      rcases Nat.lt_or_ge j m with hlt | hlt
      · have hjl : j < rs.length := by rw [← HMR.out]; exact hlt
        obtain ⟨b, off, rfl, hbl, hc⟩ := Cells.num HRS.out.cells hjl
        have h0 := (hx.cell (p := ⟨b, off + j, none⟩) hbl).trans (hc j hjl)
        have hji : (j : Int) < (m : Int) := by omega
        have HAT := Lib.hid (all_take hjl (rightR ⟨l, keep⟩))
        have HNO := Lib.hid (fun (h : rightR ⟨l, keep⟩ rs[j] = false) => (show anyS ⟨l, keep⟩ rs = false from by rw [HE.out, List.all_eq_false]; exact ⟨rs[j], List.getElem_mem hjl, by rw [h]; simp⟩))
        generalize rs[j] = r at *
        have HRR := Lib.hid (HR.out r)
        obtain ⟨rr, hrr⟩ : ∃ x, rightR ⟨l, keep⟩ r = x := ⟨_, rfl⟩
        rw [hrr] at HRR HAT
        have HQ := Lib.hid hrr
        clear hx hb hc hjl hrr
        cases rr
        all_goals
          go_wp2_with fail
          go_region_law
            (first
              | ((go_simp
                  go_at_call 30
                  refine (HRR.out _ ?_).mono ?_
                  (first | exact HXR.out.drew | exact HXR.out)
                  rintro e w4 ⟨rfl, hx4⟩
                  have E4 := Lib.hid (show Ext w w4 from by first | exact HXR.out.drew.trans hx4 | exact HXR.out.trans hx4)
                  have B4 := Lib.hid (show Bx w4 w.heap.size #[.slice R n q, .int .i64 keep] from by first | exact HBR.out.drew.ext hx4 | exact HBR.out.ext hx4)
                  clear hx4)))
        all_goals
          go_wp2_with fail
          first
          | (go_ret
             exact ⟨ret_bool (HNO.out HQ.out).symm, E4.out⟩)
          | (go_roundw
             case rel => exact ⟨E4.out, B4.out, j + 1, by omega, by go_num, by rw [HAT.out, HALL.out]; rfl⟩
             case measure => simp [intOf]; omega)
      · obtain rfl : m = j := by omega
        have d1 : decide ((m : Int) < (m : Int)) = false := decide_eq_false (by omega)
        have HT := Lib.hid (show anyS ⟨l, keep⟩ rs = true from by rw [HE.out]; have := HALL.out; rw [HMR.out, List.take_length] at this; exact this)
        clear hx hb hlt
        go_wp2_with fail
        go_loopw [11] (fun i wx => i = .int .i64 0 ∧ wx = wr) (fun _ _ => 0)
        case atStart => exact ⟨rfl, rfl⟩
        case round =>
          obtain ⟨rfl, rfl⟩ := hrel
          go_wp2_with fail
          go_ret
          exact ⟨ret_bool HT.out.symm, HXR.out⟩
set_option maxRecDepth 100000 in
set_option maxHeartbeats 1600000 in
theorem ref08May_many (l : List HC) (R : Option Addr) (n q : Nat) (keep : Int) (A : Option Addr) (c m : Nat) (rs : List Int) (most : Int) (w : World) (hmr : m = rs.length) (hA : HcSl w R n q l) (hR : Sl w A m c (rs.map iv)) :
    Calls Try.prog 14 #[.agg #[.slice R n q, .int .i64 keep], .slice A m c, .slice none 0 0, .int .i64 most] w fun e w' => e = .returned (.bool (mayS ⟨l, keep⟩ rs most)) ∧ Ext w w' := by
  have hx0 := (Ext.refl w).alloc (.cells #[.slice R n q, .int .i64 keep] 24)
  have HX := Lib.hid hx0
  have HB := Lib.hid (Bx.new w #[.slice R n q, .int .i64 keep] 24)
  have HS := Lib.hid (fun w' (hx : Ext w w') => ref05Small_any R l n q keep most w' (hA.ext hx))
  have HN := Lib.hid (fun (hmb : m ≤ 90000) w' (hx : Ext w w') => ref08Any_many l R n q keep A c m rs w' hmr hmb (hA.ext hx) (hR.ext hx))
  have hm : mayS ⟨l, keep⟩ rs most = (smallH ⟨l, keep⟩ most && (decide (m ≤ 20) && anyS ⟨l, keep⟩ rs)) := by unfold mayS; rw [hmr]
  have HM := Lib.hid hm
  obtain ⟨p0, p1, p2⟩ := HB.out.read2
  generalize mayS ⟨l, keep⟩ rs most = z at *
  generalize anyS ⟨l, keep⟩ rs = a at *
  generalize smallH ⟨l, keep⟩ most = s at *
  clear hA hR hm hx0 hmr
  cases s
  · go_enter Try.func14, Try.ntmps14
    go_wp2_with (go_at_call 20; refine (HS.out _ HX.out).mono ?_; rintro e w1 ⟨rfl, hx⟩; have HX1 := Lib.hid (HX.out.trans hx); clear p0 p1 p2; obtain ⟨p0, p1, p2⟩ := (HB.out.ext hx).read2; clear hx)
    go_ret
    exact ⟨ret_bool (by rw [HM.out]; rfl), HX1.out⟩
  · rcases Nat.lt_or_ge 20 m with h20 | h20
    · have d0 : decide ((20 : Int) < (m : Int)) = true := decide_eq_true (by omega)
      have d1 : decide (20 < m) = true := decide_eq_true h20
      have HZ := Lib.hid (show z = false from by rw [HM.out, decide_eq_false (show ¬ m ≤ 20 by omega)]; rfl)
      clear HN HM h20
      go_enter Try.func14, Try.ntmps14
      go_wp2_with (go_at_call 20; refine (HS.out _ HX.out).mono ?_; rintro e w1 ⟨rfl, hx⟩; have HX1 := Lib.hid (HX.out.trans hx); clear p0 p1 p2; obtain ⟨p0, p1, p2⟩ := (HB.out.ext hx).read2; clear hx)
      go_ret
      exact ⟨ret_bool HZ.out.symm, HX1.out⟩
    · have d0 : decide ((20 : Int) < (m : Int)) = false := decide_eq_false (by omega)
      have d1 : decide (20 < m) = false := decide_eq_false (by omega)
      have HZ := Lib.hid (show z = a from by rw [HM.out, decide_eq_true h20]; rfl)
      have HNN := Lib.hid (HN.out (by omega))
      clear HN HM h20
      go_enter Try.func14, Try.ntmps14
      go_wp2_with (first
        | (go_at_call 20; refine (HS.out _ HX.out).mono ?_; rintro e w1 ⟨rfl, hx⟩; have HX1 := Lib.hid (HX.out.trans hx); clear p0 p1 p2; obtain ⟨p0, p1, p2⟩ := (HB.out.ext hx).read2; clear hx)
        | (go_at_call 21; refine (HNN.out _ HX1.out).mono ?_; rintro e w2 ⟨rfl, hx⟩; have HX2 := Lib.hid (HX1.out.trans hx); clear hx))
      go_ret
      exact ⟨ret_bool HZ.out.symm, HX2.out⟩
theorem mayS_lens {l : List HC} {keep most : Int} {rs : List Int} (h : mayS ⟨l, keep⟩ rs most = true) : (∀ c ∈ l, c.it.length ≤ 90000) ∧ (1 ≤ l.length ∧ l.length ≤ 90000) ∧ rs.length ≤ 20 := by
  unfold mayS anyS at h
  simp only [Bool.and_eq_true, decide_eq_true_eq] at h
  obtain ⟨h1, h2, h3, -⟩ := h
  obtain ⟨m1, m2, m3⟩ := may_iff (may_of h1 h3)
  obtain ⟨⟨⟨g1, g2⟩, _⟩, _⟩ := rightH_iff m3
  refine ⟨fun c hc => ?_, ⟨g1, by omega⟩, h2⟩
  obtain ⟨k, hk, rfl⟩ := List.mem_iff_getElem.1 hc
  have := (m2 k hk).1
  omega
set_option maxRecDepth 100000 in
set_option maxHeartbeats 1600000 in
theorem ref08Fine_many (l : List HC) (R : Option Addr) (n q : Nat) (keep : Int) (A : Option Addr) (c m : Nat) (rs : List Int) (most : Int) (w : World) (hmr : m = rs.length) (hA : HcSl w R n q l) (hR : Sl w A m c (rs.map iv)) :
    Calls Try.prog 6 #[.agg #[.slice R n q, .int .i64 keep], .slice A m c, .slice none 0 0, .int .i64 most] w fun e w' => e = .returned (.bool (fineS ⟨l, keep⟩ rs most)) ∧ Ext w w' := by
  have hx0 := (Ext.refl w).alloc (.cells #[.slice R n q, .int .i64 keep] 24)
  have HX := Lib.hid hx0
  have HB := Lib.hid (Bx.new w #[.slice R n q, .int .i64 keep] 24)
  have HMM := Lib.hid (fun w' (hx : Ext w w') => ref08May_many l R n q keep A c m rs most w' hmr (hA.ext hx) (hR.ext hx))
  have hm : fineS ⟨l, keep⟩ rs most = (mayS ⟨l, keep⟩ rs most && soundS l rs) := rfl
  obtain ⟨p0, p1, p2⟩ := HB.out.read2
  cases hu : mayS ⟨l, keep⟩ rs most
  · rw [hu] at HMM hm
    have HE := Lib.hid (show fineS ⟨l, keep⟩ rs most = false from hm)
    clear hA hR hm hx0 hu hmr
    go_enter Try.func6, Try.ntmps6
    go_wp2_with (go_at_call 14; refine (HMM.out _ HX.out).mono ?_; rintro e w1 ⟨rfl, hx⟩; have HX1 := Lib.hid (HX.out.trans hx); clear p0 p1 p2; obtain ⟨p0, p1, p2⟩ := (HB.out.ext hx).read2; clear hx)
    go_ret
    exact ⟨ret_bool HE.out.symm, HX1.out⟩
  · obtain ⟨hl1, hl2, hl3⟩ := mayS_lens hu
    rw [hu] at HMM hm
    have HS := Lib.hid (fun w' (hx : Ext w w') => ref08Sound_many l hl1 hl2 R n q keep A c m rs w' hmr (by omega) (hA.ext hx) (hR.ext hx))
    have HE := Lib.hid (show fineS ⟨l, keep⟩ rs most = soundS l rs from hm)
    generalize soundS l rs = s at *
    clear hA hR hm hx0 hu hl1 hl2 hl3 hmr
    go_enter Try.func6, Try.ntmps6
    go_wp2_with (first
      | (go_at_call 14; refine (HMM.out _ HX.out).mono ?_; rintro e w1 ⟨rfl, hx⟩; have HX1 := Lib.hid (HX.out.trans hx); clear p0 p1 p2; obtain ⟨p0, p1, p2⟩ := (HB.out.ext hx).read2; clear hx)
      | (go_at_call 15; refine (HS.out _ HX1.out).mono ?_; rintro e w2 ⟨rfl, hx⟩; have HX2 := Lib.hid (HX1.out.trans hx); clear hx))
    go_ret
    exact ⟨ret_bool HE.out.symm, HX2.out⟩
end Go.Proofs.Ytlbhcakjcklmgaa
namespace Go.Proofs.Ytlbhcakjcklmgaa
open Go.RowKit

theorem outs_two (root p : Int) : outs [root, root] p = rootE root p + rootE root p := by
  unfold outs rootE
  by_cases h : p = root
  · subst h; simp
  · have h2 : ¬ root = p := fun e => h e.symm
    simp [h, h2]
theorem held_two (c : List HC) (root : Int) : ∀ d k, heldS c [root, root] d k = heldB c root d k
  | 0, k => by
    unfold heldS heldB
    rw [outs_two]
    unfold rootE
    by_cases h : (k : Int) = root
    · rw [if_pos h]; simp [h]
    · rw [if_neg h]; simp [h]
  | d + 1, k => by
    unfold heldS heldB
    rw [held_two c root d k]
    congr 1
    congr 1
    funext p
    rw [held_two c root d p]
theorem at_held {c : List HC} {keep root : Int} (hr : rightH ⟨c, keep⟩ = true) (hb : rightR ⟨c, keep⟩ root = true) (h : ∀ k (hk : k < c.length), 0 < c[k].ref → heldB c root 25 k = true) : AT c := by
  have hind : ∀ d k, heldB c root d k = true → k < c.length → (bel c 20 (k : Int)).is = true := by
    intro d
    induction d with
    | zero =>
      intro k hk hkl
      have e : (k : Int) = root := by simpa [heldB] using hk
      rcases rightR_iff hb with h1 | ⟨_, _, h1⟩
      · omega
      · rw [e]; exact h1
    | succ d ih =>
      intro k hk hkl
      rcases held_step.1 hk with h1 | ⟨p, hp, h1, h2⟩
      · exact ih k h1 hkl
      · exact (tell_tree hr hp (ih p h1 hp) h2).2.1
  exact fun k hk h0 => hind 25 k (h k hk h0) hk
/-- P11.4, of two roots that are the same. -/
theorem shared_fine {c : List HC} {keep root most : Int} (hmost : most ≤ 60) (h : fineS ⟨c, keep⟩ [root, root] most = true) (h0 : 0 ≤ root) :
    ∃ (k : Nat) (hk : k < c.length), root = (k : Int) ∧ 2 ≤ c[k].ref ∧ stepC c [(root, 0)] = (looseL (c.length + 1) c root, []) ∧ looseE ⟨c, keep⟩ root = 0 ∧ fineB ⟨looseL (c.length + 1) c root, keep⟩ root most = true ∧ listT (looseL (c.length + 1) c root) root = listT c root ∧ (cellT (looseL (c.length + 1) c root) root).ref = c[k].ref - 1 ∧ rightH ⟨c, keep⟩ = true ∧ rightR ⟨c, keep⟩ root = true ∧ (∀ j (hj : j < c.length), c[j].ref ≤ 1000000) := by
  unfold fineS mayS anyS at h
  simp only [Bool.and_eq_true, List.all_cons, List.all_nil, and_true, decide_eq_true_eq] at h
  obtain ⟨⟨s1, -, s2, s3⟩, s4⟩ := h
  have hM := may_of s1 s2
  obtain ⟨m1, m2, m3⟩ := may_iff hM
  have hrr : rightR ⟨c, keep⟩ root = true := s3.1
  obtain ⟨-, hp, hb⟩ := (rightR_iff hrr).resolve_left (by omega)
  rw [soundS_eq, List.all_eq_true] at s4
  have hs : ∀ k (hk : k < c.length), c[k].ref = rootE root (k : Int) + rootE root (k : Int) + ((inn c (k : Int) : Nat) : Int) ∧ (heldB c root 25 k = decide (0 < c[k].ref)) := fun k hk => by
    have h1 := s4 k (List.mem_range.2 hk)
    unfold soundKS at h1
    rw [Bool.and_eq_true, decide_eq_true_eq, List.getD_eq_getElem?_getD, List.getElem?_eq_getElem hk, Option.getD_some, outs_two, held_two, beq_iff_eq] at h1
    exact h1
  have hat : AT c := at_held m3 hrr (fun k hk hk0 => by rw [(hs k hk).2]; exact decide_eq_true hk0)
  obtain ⟨k, rfl⟩ := Int.eq_ofNat_of_zero_le h0
  have hk : k < c.length := by have hp' : (k : Int) < c.length := hp; omega
  have hE : ∀ j, 0 ≤ rootE (k : Int) j := fun j => by unfold rootE; split <;> omega
  have h2 : 2 ≤ c[k].ref := by
    have := (hs k hk).1
    unfold rootE at this
    rw [if_pos rfl] at this
    omega
  have hrc : RC c (fun j => rootE (k : Int) j + rootE (k : Int) j) := fun j hj => (hs j hj).1
  obtain ⟨g1, g2, g3, g4, _, g6⟩ := loose_root hk m3 hE hrc hat
  obtain ⟨b1, b2⟩ := g6 (k : Int) (by omega) (by omega) (by unfold rootE; rw [if_pos rfl]; omega) hb
  have hk2 : k < (looseL (c.length + 1) c (k : Int)).length := by rw [g2]; exact hk
  obtain ⟨X, hX, hXr, -⟩ := loose_set hk (by omega) (.inl (by omega))
  refine ⟨k, hk, rfl, h2, ?_, (by unfold looseE usedH; rw [if_pos (by rw [usedC_at hk]; exact decide_eq_true (by omega))]), fine_of (by rw [g2]; exact m1) hmost g1 (rightR_of (by omega) (by rw [g2]; omega) (by rw [b1]; exact hb)) g3 g4, ?_, ?_, m3, hrr, fun j hj => (m2 j hj).2⟩
  · rw [stepC, if_pos ⟨rfl, .inl (by rw [cellT_at hk]; omega)⟩]
  · unfold listT
    rw [if_neg (by omega), if_neg (by omega), b2]
  · rw [hX]
    rw [cellT_at (by rw [List.length_set]; exact hk), List.getElem_set_self]
    exact hXr
end Go.Proofs.Ytlbhcakjcklmgaa
namespace Go.Proofs.Ytlbhcakjcklmgaa
open Go.RowKit

def exH : List HC := [⟨1, false, true, [(1, 0)]⟩, ⟨1, false, false, [(1, 0)]⟩]
def exH3 : List HC := [⟨0, true, false, []⟩, ⟨1, false, false, [(1, 0)]⟩]
def exH4 : List HC := [⟨0, true, false, []⟩, ⟨0, true, false, []⟩]
theorem exH_1 : stepC exH [(1, 0)] = (exH, [(1, 1)]) := by rfl
theorem exH_2 : stepC exH [(1, 1)] = (exH, [(0, 0), (1, 2)]) := by rfl
theorem exH_3 : stepC exH [(0, 0), (1, 2)] = (exH3, [(1, 2)]) := by rfl
theorem exH_4 : stepC exH3 [(1, 2)] = (exH4, []) := by rfl
theorem exH_x : stepC exH [(0, 0)] = (exH3, []) := by rfl
theorem exH_all : stepsC 4 exH [(1, 0)] = (exH4, []) := by
  rw [stepsC, exH_1, stepsC, exH_2, stepsC, exH_3, stepsC, exH_4]
  rfl
end Go.Proofs.Ytlbhcakjcklmgaa
namespace Go.Proofs.Ytlbhcakjcklmgaa
open Go.RowKit

/-- What each step keeps: the heap is right, and tasks are of its cells, with few steps done. -/
def okTs (c : List HC) (x : Ts) : Prop := 0 ≤ x.1 ∧ x.1 < c.length ∧ x.2 ≤ 5 ∧ (x.2 ≠ 0 → (cellT c x.1).leaf = false)
def InvC (keep : Int) (c : List HC) (t : List Ts) : Prop := rightH ⟨c, keep⟩ = true ∧ ∀ x ∈ t, okTs c x
theorem right_setC {keep : Int} {c : List HC} (h : rightH ⟨c, keep⟩ = true) (k : Nat) (X : HC) (hX : cellR c.length X = true) : rightH ⟨c.set k X, keep⟩ = true := by
  unfold rightH at h ⊢
  rw [Bool.and_eq_true, List.all_eq_true] at h ⊢
  refine ⟨by simpa using h.1, fun x hx => ?_⟩
  simp only [List.length_set] at hx ⊢
  rcases List.mem_or_eq_of_mem_set hx with h1 | h1
  · exact h.2 x h1
  · rw [h1]; exact hX
theorem right_all {keep : Int} {c : List HC} (h : rightH ⟨c, keep⟩ = true) : AllR c := fun k hk => (rightH_iff h).2 k hk
theorem cell_gone (n : Nat) : cellR n ⟨0, true, false, []⟩ = true := by rfl
theorem right_loose {keep : Int} {c : List HC} (h : rightH ⟨c, keep⟩ = true) {k : Nat} (hk : k < c.length) (h1 : c[k].ref ≠ 1 ∨ c[k].leaf = true) : rightH ⟨looseL (c.length + 1) c (k : Int), keep⟩ = true := by
  have hc := (rightH_iff h).2 k hk
  by_cases hu : usedC c (k : Int) = true
  · have h0 : 0 < c[k].ref := by rw [usedC_at hk] at hu; exact of_decide_eq_true hu
    have hg : c.getD k HC.none = c[k] := by rw [List.getD_eq_getElem?_getD, List.getElem?_eq_getElem hk]; rfl
    rw [looseL, if_pos hu, Int.toNat_natCast, hg]
    by_cases h2 : 1 < c[k].ref
    · rw [if_pos h2]
      refine right_setC h k _ ?_
      unfold cellR at hc ⊢
      rw [if_neg (by omega)] at hc
      rw [if_neg (by show c[k].ref - 1 ≠ 0; omega)]
      simp only [Bool.and_eq_true, decide_eq_true_eq] at hc ⊢
      exact ⟨by omega, by omega, rfl, hc.2.2.2⟩
    · rw [if_neg h2]
      have hl : c[k].leaf = true := by
        rcases h1 with h1 | h1
        · omega
        · exact h1
      rw [hl, if_pos rfl]
      exact right_setC h k _ (cell_gone _)
  · rw [looseL_no _ (by simpa using hu)]
    exact h
theorem step_len (c : List HC) (t : List Ts) : (stepC c t).1.length = c.length ∧ (stepC c t).2.length ≤ t.length + 1 := by
  match t with
  | [] => exact ⟨rfl, by simp [stepC]⟩
  | (p, k) :: r =>
    rw [stepC]
    split
    · exact ⟨loose_len _ _ _, by simp; omega⟩
    · split
      · exact ⟨rfl, by simp⟩
      · split
        · exact ⟨rfl, by simp⟩
        · exact ⟨by simp, by simp; omega⟩
/-- A cell that is no leaf becomes none. -/
theorem leaf_set {c : List HC} {k : Nat} (hk : k < c.length) {X : HC} (hX : X.leaf = c[k].leaf ∨ X.leaf = false) {q : Int} (h0 : 0 ≤ q) (h : (cellT c q).leaf = false) : (cellT (c.set k X) q).leaf = false := by
  by_cases e : q = (k : Int)
  · subst e
    rw [cellT_at (by rw [List.length_set]; exact hk), List.getElem_set_self]
    rw [cellT_at hk] at h
    rcases hX with h1 | h1
    · rw [h1]; exact h
    · exact h1
  · rw [cellT_other h0 e]; exact h
theorem loose_leaf {c : List HC} {k : Nat} (hk : k < c.length) (_hr : 0 ≤ c[k].ref) (h1 : c[k].ref ≠ 1 ∨ c[k].leaf = true) {q : Int} (h0 : 0 ≤ q) (h : (cellT c q).leaf = false) : (cellT (looseL (c.length + 1) c (k : Int)) q).leaf = false := by
  by_cases hu : 0 < c[k].ref
  · have hg : c.getD k HC.none = c[k] := by rw [List.getD_eq_getElem?_getD, List.getElem?_eq_getElem hk]; rfl
    rw [looseL, if_pos (by rw [usedC_at hk]; exact decide_eq_true hu), Int.toNat_natCast, hg]
    by_cases h2 : 1 < c[k].ref
    · rw [if_pos h2]; exact leaf_set (X := ⟨c[k].ref - 1, false, c[k].leaf, c[k].it⟩) hk (.inl rfl) h0 h
    · rw [if_neg h2]
      have hl : c[k].leaf = true := by
        rcases h1 with h1 | h1
        · omega
        · exact h1
      rw [hl, if_pos rfl]
      exact leaf_set hk (.inr rfl) h0 h
  · rw [looseL_no _ (by rw [usedC_at hk]; exact decide_eq_false hu)]
    exact h
theorem ok_of {c c' : List HC} {x : Ts} (h : okTs c x) (hl : c'.length = c.length) (hf : ∀ q, 0 ≤ q → (cellT c q).leaf = false → (cellT c' q).leaf = false) : okTs c' x :=
  ⟨h.1, by rw [hl]; exact h.2.1, h.2.2.1, fun e => hf _ h.1 (h.2.2.2 e)⟩
theorem inv_step {keep : Int} {c : List HC} {t : List Ts} (h : InvC keep c t) : InvC keep (stepC c t).1 (stepC c t).2 := by
  match t, h with
  | [], h => exact h
  | (p, k) :: r, h =>
    obtain ⟨hr, ht⟩ := h
    obtain ⟨p0, p1, hk5, hlf⟩ := ht (p, k) List.mem_cons_self
    simp only at p0 p1 hk5 hlf
    obtain ⟨j, rfl⟩ := Int.eq_ofNat_of_zero_le p0
    have hj : j < c.length := by omega
    have hrest : ∀ x ∈ r, okTs c x := fun x hx => ht x (List.mem_cons_of_mem _ hx)
    rw [cellT_at hj] at hlf
    rw [stepC, cellT_at hj]
    by_cases a1 : k = 0 ∧ (c[j].ref ≠ 1 ∨ c[j].leaf = true)
    · rw [if_pos a1]
      exact ⟨right_loose hr hj a1.2, fun x hx => ok_of (hrest x hx) (loose_len _ _ _) (fun q h0 h => loose_leaf hj (by have := right_ref hr j hj; omega) a1.2 h0 h)⟩
    · rw [if_neg a1]
      by_cases a2 : k = 0
      · rw [if_pos a2]
        refine ⟨hr, fun x hx => ?_⟩
        rcases List.mem_cons.1 hx with rfl | hx
        · refine ⟨p0, p1, by show 1 ≤ 5; omega, fun _ => ?_⟩
          show (cellT c (j : Int)).leaf = false
          rw [cellT_at hj]
          cases hh : c[j].leaf with
          | true => exact absurd ⟨a2, .inr hh⟩ a1
          | false => rfl
        · exact hrest x hx
      · rw [if_neg a2]
        have hlj := hlf a2
        by_cases a3 : k ≤ c[j].it.length
        · rw [if_pos a3]
          have hcell := (rightH_iff hr).2 j hj
          have hrf : 0 < c[j].ref := by
            unfold cellR at hcell
            split at hcell
            · simp only [Bool.and_eq_true, decide_eq_true_eq] at hcell; omega
            · simp only [Bool.and_eq_true, decide_eq_true_eq] at hcell; exact hcell.1
          have hok := cell_ok hcell hrf
          have h4 : c[j].it.length ≤ 4 := hok.1.1.2
          have hki : k - 1 < c[j].it.length := by omega
          have hget : c[j].it.getD (k - 1) (0, 0) = c[j].it[k - 1] := by rw [List.getD_eq_getElem?_getD, List.getElem?_eq_getElem hki]; rfl
          have hv := hok.2 hlj _ (List.getElem_mem hki)
          refine ⟨hr, fun x hx => ?_⟩
          rcases List.mem_cons.1 hx with rfl | hx
          · rw [hget]
            exact ⟨hv.1, hv.2, by show 0 ≤ 5; omega, fun e => absurd rfl e⟩
          · rcases List.mem_cons.1 hx with rfl | hx
            · exact ⟨p0, p1, by show k + 1 ≤ 5; omega, fun _ => by show (cellT c (j : Int)).leaf = false; rw [cellT_at hj]; exact hlj⟩
            · exact hrest x hx
        · rw [if_neg a3]
          refine ⟨right_setC hr _ _ (cell_gone _), fun x hx => ok_of (hrest x hx) (by rw [List.length_set]) (fun q h0 h => ?_)⟩
          rw [Int.toNat_natCast]
          exact leaf_set hj (.inr rfl) h0 h
theorem inv_steps {keep : Int} : ∀ (n : Nat) {c : List HC} {t : List Ts}, InvC keep c t → InvC keep (stepsC n c t).1 (stepsC n c t).2
  | 0, _, _, h => h
  | n + 1, _, _, h => inv_steps n (inv_step h)
theorem steps_len : ∀ (n : Nat) (c : List HC) (t : List Ts), (stepsC n c t).1.length = c.length ∧ (stepsC n c t).2.length ≤ t.length + n
  | 0, c, t => ⟨rfl, Nat.le_refl _⟩
  | n + 1, c, t => by
    have h1 := step_len c t
    have h2 := steps_len n (stepC c t).1 (stepC c t).2
    rw [stepsC]
    exact ⟨h2.1.trans h1.1, by omega⟩
theorem steps_one (n : Nat) (c : List HC) (t : List Ts) : stepsC (n + 1) c t = stepC (stepsC n c t).1 (stepsC n c t).2 := by
  rw [steps_add]; rfl
end Go.Proofs.Ytlbhcakjcklmgaa
