/- The contracts of package tree. -/
import Derived.Test.YthlencnlgnbpaaaTreeMA
import Derived.Test.YthlencnlgnbpaaaTreeW8
import Derived.Test.YthlencnlgnbpaaaTreeW7
namespace Go.Proofs.Ythlencnlgnbpaaa
open Go.RowKit

theorem treeHigh_any (R : Option Addr) (l : List HC) (n q : Nat) (keep keep' p : Int) (w : World) (hl : AllR l) (hn : l.length ≤ 2000) (hr : rightR ⟨l, keep'⟩ p = true) (hA : HcSl w R n q l) :
    Calls Try.prog 15 #[.agg #[.slice R n q, .int .i64 keep], .int .i64 p] w fun e w' => e = .returned (.int .i64 (highT l p)) ∧ Ext w w' := by
  rw [← hgtP_right hl hn hr]
  exact treeHigh_hgt R l n q keep p w hl hA
theorem treeGet_any (R : Option Addr) (l : List HC) (n q : Nat) (keep keep' p key : Int) (w : World) (hl : AllR l) (hn : l.length ≤ 2000) (hr : rightR ⟨l, keep'⟩ p = true) (hA : HcSl w R n q l) :
    Calls Try.prog 21 #[.agg #[.slice R n q, .int .i64 keep], .int .i64 p, .int .i64 key] w fun e w' => e = .returned (.tuple #[.int .i64 (getV (getT l p key)), .int .i64 (getE (getT l p key))]) ∧ Ext w w' :=
  callsIn_wide.1 (get_in R l n q keep keep' p key w hl hn hr hA)
theorem treeScan_any (R : Option Addr) (l : List HC) (n q : Nat) (keep keep' p lo hi : Int) (w : World) (hl : AllR l) (hn : l.length ≤ 2000) (hr : rightR ⟨l, keep'⟩ p = true) (hA : HcSl w R n q l) :
    Calls Try.prog 24 #[.agg #[.slice R n q, .int .i64 keep], .int .i64 p, .int .i64 lo, .int .i64 hi] w fun e w' => ∃ S s d, e = .returned (.slice S s d) ∧ s = (scanT l p lo hi).length ∧ Sl w' S s d (ivs (scanT l p lo hi)) ∧ Ext w w' :=
  callsIn_wide.1 (scan_in R l n q keep keep' p lo hi w hl hn hr hA)
theorem treeNodes_any (R : Option Addr) (l : List HC) (n q : Nat) (keep keep' p : Int) (w : World) (hl : AllR l) (hn : l.length ≤ 2000) (hr : rightR ⟨l, keep'⟩ p = true) (hA : HcSl w R n q l) :
    Calls Try.prog 18 #[.agg #[.slice R n q, .int .i64 keep], .int .i64 p] w fun e w' => ∃ S s d, e = .returned (.slice S s d) ∧ s = (nodesT l p).length ∧ Sl w' S s d ((nodesT l p).map iv) ∧ Ext w w' := by
  rw [← nodesP_all hl hn hr (show (-9223372036854775808 : Int) < 0 by omega)]
  exact callsIn_wide.1 (nodes2_in R l n q keep p w hl hA)
end Go.Proofs.Ythlencnlgnbpaaa
