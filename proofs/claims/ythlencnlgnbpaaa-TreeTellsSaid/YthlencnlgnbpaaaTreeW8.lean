/- Walks of Right and May of the reference of layer 7 (over the contract of below: TreeW6, which has open cases). -/
import Derived.Test.YthlencnlgnbpaaaTreeW6
namespace Go.Proofs.Ythlencnlgnbpaaa
open Go.RowKit
attribute [local go_sem ↓] Go.wp_at_zero Go.wp_at_succ

set_option maxRecDepth 100000 in
set_option maxHeartbeats 1600000 in
theorem ref07Right_any (R : Option Addr) (l : List HC) (n q : Nat) (keep p : Int) (w : World) (hl : AllR l) (hn : l.length ≤ 2000) (hA : HcSl w R n q l) :
    Calls Try.prog 11 #[.agg #[.slice R n q, .int .i64 keep], .int .i64 p] w fun e w' => e = .returned (.bool (rightR ⟨l, keep⟩ p)) ∧ Ext w w' := by
  have HX := Lib.hid ((Ext.refl w).alloc (.cells #[.slice R n q, .int .i64 keep] 24))
  have hb := Bx.new w #[.slice R n q, .int .i64 keep] 24
  have HB := Lib.hid hb
  have HU := Lib.hid (fun w' (hx : Ext w w') => ref05Used_any R l n q keep p w' (hA.ext hx))
  obtain ⟨b0, b1, b2⟩ := hb.read2
  clear hb
  by_cases h1 : p = -1
  · have HE := Lib.hid (show rightR ⟨l, keep⟩ p = true by unfold rightR; rw [decide_eq_true h1]; rfl)
    subst h1
    clear hA
    go_enter Try.func11, Try.ntmps11
    go_wp2
    go_ret
    exact ⟨ret_bool HE.out.symm, HX.out⟩
  have d0 : (p == -1) = false := by rw [beq_eq_false_iff_ne]; exact h1
  have d1 : decide (p = -1) = false := decide_eq_false h1
  have hrr : rightR ⟨l, keep⟩ p = (usedC l p && (bel l 20 p).is) := by unfold rightR; rw [d1]; rfl
  cases hu : usedC l p
  · rw [hu] at HU hrr
    have HE := Lib.hid (show rightR ⟨l, keep⟩ p = false from hrr)
    clear hA hrr hu
    go_enter Try.func11, Try.ntmps11
    go_wp2_with (go_at_call 29; refine (HU.out _ HX.out).mono ?_; rintro e w1 ⟨rfl, hx⟩; have HX1 := Lib.hid (HX.out.trans hx); clear b0 b1 b2; obtain ⟨b0, b1, b2⟩ := (HB.out.ext hx).read2; clear hx)
    go_ret
    exact ⟨ret_bool HE.out.symm, HX1.out⟩
  · rw [hu] at HU hrr
    obtain ⟨k, hk, hpk, _⟩ := usedC_iff hu
    have HBL := Lib.hid (fun w' (hx : Ext w w') => ref07below_any l hl hn 19 p R n q keep w' (by omega) (by omega) (by omega) (hA.ext hx))
    have HE := Lib.hid (show rightR ⟨l, keep⟩ p = (bel l 20 p).is from hrr)
    unfold gv at HBL
    generalize bel l (19 + 1) p = g at *
    generalize rightR ⟨l, keep⟩ p = rr at *
    clear hA hrr hu hpk
    go_enter Try.func11, Try.ntmps11
    go_wp2_with (first
      | (go_at_call 29; refine (HU.out _ HX.out).mono ?_; rintro e w1 ⟨rfl, hx⟩; have HX1 := Lib.hid (HX.out.trans hx); clear b0 b1 b2; obtain ⟨b0, b1, b2⟩ := (HB.out.ext hx).read2; clear hx)
      | (go_at_call 30; refine (HBL.out _ HX1.out).mono ?_; rintro e w2 ⟨rfl, hx⟩; have HX2 := Lib.hid (HX1.out.trans hx); clear hx))
    go_ret
    exact ⟨ret_bool HE.out.symm, HX2.out.alloc _⟩
def mayR (h : Hp) (root most : Int) : Bool := mayH h most && rightR h root
theorem may_all {l : List HC} {keep most : Int} (h : mayH ⟨l, keep⟩ most = true) : AllR l ∧ l.length ≤ 2000 := by
  unfold mayH at h
  rw [Bool.and_eq_true] at h
  have h1 := rightH_iff h.2
  exact ⟨h1.2, h1.1.1.2⟩
set_option maxRecDepth 100000 in
set_option maxHeartbeats 1600000 in
theorem ref07May_any (R : Option Addr) (l : List HC) (n q : Nat) (keep root most : Int) (w : World) (hA : HcSl w R n q l) :
    Calls Try.prog 20 #[.agg #[.slice R n q, .int .i64 keep], .int .i64 root, .int .i64 most] w fun e w' => e = .returned (.bool (mayR ⟨l, keep⟩ root most)) ∧ Ext w w' := by
  have HX := Lib.hid ((Ext.refl w).alloc (.cells #[.slice R n q, .int .i64 keep] 24))
  have hb := Bx.new w #[.slice R n q, .int .i64 keep] 24
  have HB := Lib.hid hb
  have HM := Lib.hid (fun w' (hx : Ext w w') => ref05May_any R l n q keep most w' (hA.ext hx))
  have hm : mayR ⟨l, keep⟩ root most = (mayH ⟨l, keep⟩ most && rightR ⟨l, keep⟩ root) := rfl
  obtain ⟨b0, b1, b2⟩ := hb.read2
  clear hb
  cases hu : mayH ⟨l, keep⟩ most
  · rw [hu] at HM hm
    have HE := Lib.hid (show mayR ⟨l, keep⟩ root most = false from hm)
    clear hA hm hu
    go_enter Try.func20, Try.ntmps20
    go_wp2_with (go_at_call 10; refine (HM.out _ HX.out).mono ?_; rintro e w1 ⟨rfl, hx⟩; have HX1 := Lib.hid (HX.out.trans hx); clear b0 b1 b2; obtain ⟨b0, b1, b2⟩ := (HB.out.ext hx).read2; clear hx)
    go_ret
    exact ⟨ret_bool HE.out.symm, HX1.out⟩
  · obtain ⟨hl, hn⟩ := may_all hu
    rw [hu] at HM hm
    have HR := Lib.hid (fun w' (hx : Ext w w') => ref07Right_any R l n q keep root w' hl hn (hA.ext hx))
    have HE := Lib.hid (show mayR ⟨l, keep⟩ root most = rightR ⟨l, keep⟩ root from hm)
    generalize rightR ⟨l, keep⟩ root = rr at *
    clear hA hm hu hl hn
    go_enter Try.func20, Try.ntmps20
    go_wp2_with (first
      | (go_at_call 10; refine (HM.out _ HX.out).mono ?_; rintro e w1 ⟨rfl, hx⟩; have HX1 := Lib.hid (HX.out.trans hx); clear b0 b1 b2; obtain ⟨b0, b1, b2⟩ := (HB.out.ext hx).read2; clear hx)
      | (go_at_call 11; refine (HR.out _ HX1.out).mono ?_; rintro e w2 ⟨rfl, hx⟩; have HX2 := Lib.hid (HX1.out.trans hx); clear hx))
    go_ret
    exact ⟨ret_bool HE.out.symm, HX2.out⟩
end Go.Proofs.Ythlencnlgnbpaaa
