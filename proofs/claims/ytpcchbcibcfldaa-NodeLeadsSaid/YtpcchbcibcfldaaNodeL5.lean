/- The walk of NodeLeads. -/
import Derived.Test.YtpcchbcibcfldaaNodeL5a
import Derived.Test.YtpcchbcibcfldaaNodeL5b
import Derived.Test.YtpcchbcibcfldaaNodeL5c
import Derived.Test.YtpcchbcibcfldaaNodeL5d
import Derived.Test.YtpcchbcibcfldaaNodeL5e
namespace Go.Proofs.Ytpcchbcibcfldaa
open Go.RowKit

set_option maxRecDepth 100000 in
set_option maxHeartbeats 1000000 in
theorem leads_any (leaf : Bool) (A : Option Addr) (l : List It) (c : Nat) (key : Int) (w : World) (hA : Sl w A l.length c (ivs l)) :
    Calls Try.prog 7 #[.agg #[.bool leaf, .slice A l.length c], .int .i64 key] w fun e w' => e = .returned (.bool true) ∧ Ext w w' := by
  cases hr : ndR l
  · have HA := Lib.hid hA
    have X0 := Lib.hid ((Ext.refl w).alloc (.cells #[.bool leaf, .slice A l.length c] 24))
    have B0 := Lib.hid (Bx.new w #[.bool leaf, .slice A l.length c] 24)
    clear hA
    have HR := Lib.hid (fun w' (hx : Ext w w') => ref04Right_is leaf A l l.length c w' rfl (HA.out.ext hx) hr)
    clear hr
    go_enter Try.func7, Try.ntmps7
    go_wp2_with (first
      | (go_at_call 10; refine (shown_any _).mono ?_; rintro e w1 ⟨rfl, hx⟩; have X1 := Lib.hid (X0.out.trans hx); obtain ⟨b0, b1, b2⟩ := (B0.out.ext hx).read2; clear hx)
      | (go_at_call 15; refine (HR.out _ X1.out).mono ?_; rintro e w2 ⟨rfl, hx⟩; have X2 := Lib.hid (X1.out.trans hx); clear hx))
    go_ret
    exact ⟨rfl, X2.out⟩
  cases leaf
  · cases hb : atB l key
    · exact leads_a A l c key w hr hb hA
    · exact leads_b A l c key w hr hb hA
  · cases hb : atB l key
    · have hle : atC l key ≤ l.length := List.countP_le_length
      rcases Nat.lt_or_ge (atC l key) l.length with h | h
      · exact leads_c A l c key w hr hb h hA
      · exact leads_d A l c key w hr hb (by omega) hA
    · exact leads_e A l c key w hr hb hA
end Go.Proofs.Ytpcchbcibcfldaa
