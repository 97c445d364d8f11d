/- Boxes of states (as CmD has them, for seats without the reference's layers). The walk of Roots of package state, of any volumes. -/
import Derived.Test.YtjbfopnkeclfgaaGreatK13
import Derived.Test.YtjbfopnkeclfgaaGreatK06
import Derived.Test.YtjbfopnkeclfgaaGreatK05
import Derived.Test.YtjbfopnkeclfgaaGreatK25
namespace Go.Proofs.YtjbfopnkeclfgaaGreat
set_option maxRecDepth 20000
open Go.RowKit

end Go.Proofs.YtjbfopnkeclfgaaGreat
namespace Go.Proofs.YtjbfopnkeclfgaaGreat
set_option maxRecDepth 20000
open Go.RowKit

set_option maxRecDepth 100000 in
set_option maxHeartbeats 800000 in
theorem stateRoots_any (R V L : Option Addr) (vs : List It) (n q m cv t cl : Nat) (keep next gen : Int) (w : World) (hm : m = vs.length) (hm2 : m ≤ 1000) (hV : Sl w V m cv (ivs vs)) :
    Calls Tryz.prog 31 #[.agg #[.slice R n q, .int .i64 keep, .slice V m cv, .slice L t cl, .int .i64 next, .int .i64 gen]] w fun e w' => ∃ S d, e = .returned (.slice S m d) ∧ Sl w' S m d ((vs.map (·.2)).map iv) ∧ Ext w w' := by
  have hb := Bx.new w #[.slice R n q, .int .i64 keep, .slice V m cv, .slice L t cl, .int .i64 next, .int .i64 gen] 34
  have HX0 := Lib.hid ((Ext.refl w).alloc (.cells #[.slice R n q, .int .i64 keep, .slice V m cv, .slice L t cl, .int .i64 next, .int .i64 gen] 34))
  obtain ⟨s0, s1, s2, s3, s4, s5⟩ := st_at6 hb
  have HV := Lib.hid hV
  have HM := Lib.hid hm
  clear hb hV hm
  go_enter Tryz.func31, Tryz.ntmps31
  go_wp2_with fail
  generalize hW : w.alloc _ = W0 at *
  clear s0 s1 s2 s3 s4 s5 hW
  go_loopw [3, 9] (fun s i wr => ∃ (k : Nat) (S : Option Addr) (d : Nat), k ≤ m ∧ i = .int .i64 k ∧ s = .slice S k d ∧ wr.ownsRow w.heap.size 3 1 (.slice S k d) k (((vs.take k).map (·.2)).map iv) ∧ Ext w wr) (fun _ i _ => m - (intOf i).toNat)
  case atStart => exact ⟨0, none, 0, Nat.zero_le _, rfl, rfl, World.ownsRow_nil _ _ _ _, HX0.out⟩
  case round =>
    obtain ⟨k, S, d, hk, rfl, rfl, ho, hx⟩ := hrel
    have HO := Lib.hid ho
    have HX := Lib.hid hx
    clear ho hx
    rcases Nat.lt_or_ge k m with hlt | hge
    · have hkl : k < vs.length := by rw [← HM.out]; exact hlt
      obtain ⟨b, off, rfl, _, hc⟩ := (HV.out.ext HX.out).cells.it hkl
      obtain ⟨a0, a1⟩ := hc k hkl
      have hki : (k : Int) < (m : Int) := by omega
      have HST := Lib.hid (show (vs.take (k + 1)).map (·.2) = (vs.take k).map (·.2) ++ [vs[k].2] from by rw [List.take_succ_eq_append_getElem hkl, List.map_append]; rfl)
      clear hc
      generalize vs[k] = x at *
      obtain ⟨x1, x2⟩ := x
      simp only at a0 a1 HST
      have Y1 := Lib.hid ((Ext.refl wr).alloc (.cells #[.int .i64 x1, .int .i64 x2] 103))
      go_wp2_with (at_builtin; refine stop_here ?_)
      refine stop_on ?_
      have Y2 := Lib.hid (Y1.out.alloc (.cells #[.int .i64 x2] 3))
      have Y := Lib.hid (HX.out.trans Y2.out)
      refine app_iv1 _ rfl _ _ rfl w.heap.size (.slice S k d) k ((vs.take k).map (·.2)) rfl (own_ext HO.out Y2.out) (some ⟨_, 0, none⟩) 1 1 [x2] rfl rfl (sl_lit3 (by simp) _ 1 ([x2].map iv) (by unfold maxLen; omega)) (by omega) Y.out.size ?_
      intro S2 d2 w3 hown hg
      rw [← HST.out] at hown
      have X3 := Lib.hid (Y.out.app (own_ext HO.out Y2.out) (Nat.le_refl _) hg)
      have O3 := Lib.hid hown
      clear hown hg
      go_wp2
      go_roundw
      case rel => exact ⟨k + 1, S2, d2, by omega, by go_num, rfl, O3.out, X3.out⟩
      case measure => simp [intOf]; omega
    · obtain rfl : m = k := by omega
      have HE := Lib.hid (show vs.take m = vs from by rw [HM.out, List.take_length])
      clear hge
      go_wp2
      go_ret
      exact ⟨S, d, rfl, by have := own_sl HO.out; rw [HE.out] at this; exact this, HX.out⟩
end Go.Proofs.YtjbfopnkeclfgaaGreat
