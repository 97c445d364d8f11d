/-
  No cell of these rows narrows 'for every input' (looked for: loops, veiled, ifaces, maps, wideKeys, modest, calm, conditions, laid).
  DERIVED. THE GIVEN ROWS OF THIS SEAT. 5 by the template 'for every input the law returns true; each argument reads behind the call as it read before'; 0 by the template 'total and deterministic' (their statements: YthaebcljehmhmaaTotals.lean).
  GIVEN WITH THE SEED: the statements are not yours to turn. If you find one false, say at which input.
  Laid BY PROGRAM, IN A SANDBOX (cutbox-rows.mjs): the forced cells as the released guide's own fill.sh prints them over the translation c12e935e50f0742a… (all of the seat's roots in one cut). By AI agents, Wed Nov 11 2026. No macro, syntax, notation, axiom, sorry.
-/
import Derived.Test.YthaebcljehmhmaaChecked
import GoSem.Claim
import GoSem.ClaimJoined
import GoSem.ClaimMapViews
import Derived.JoinedTies
import Derived.KernelRfl
namespace Go.Proofs.Ythaebcljehmhmaa
/- THE CELL 'sum', in the pinned program and in every row, IS THE sha256 OF THE DUMP (.gsa) THAT YthaebcljehmhmaaProg.lean LOADS. Nothing in Lean hashes anything: it is a label: what it is worth is what the hold of that sum in a sandbox is worth. -/
noncomputable def Try.pinned : Pinned := { name := "ythaebcljehmhmaa", sum := "c12e935e50f0742a2d119d17c49e4774b29bd2786bd1c1bdfeab396d844e3ef0", checked := Try.checked }
namespace Rows
def none {H : Type} : Left H := { results := [], args := [] }

/-- 'assartlaw03.SlotTells': WHATEVER THE INPUT: true; the input reads as it did. -/
def slotTellsSpec : ChangeSpec := { name := "slotTells", fn := fun _ => fun
  | [d] => { results := [.lit (.bool true)], args := [d] }
  | _ => none }
def slotTellsRow : OpenClaim := { program := "ythaebcljehmhmaa", sum := "c12e935e50f0742a2d119d17c49e4774b29bd2786bd1c1bdfeab396d844e3ef0", func := "assart/assartlaw03.SlotTells", spec := "slotTells", apart := false }
def SlotTellsSaid : Prop := slotTellsRow.holds Try.pinned (OpenSpec.ofChange slotTellsSpec)

/-- ITS FALSE NEIGHBOUR: 'it returns false'. Refute it at one input. -/
def slotTellsWrong : ChangeSpec := { name := "slotTells", fn := fun _ => fun
  | [d] => { results := [.lit (.bool false)], args := [d] }
  | _ => none }
def SlotTellsWrongFalsely : Prop := slotTellsRow.holds Try.pinned (OpenSpec.ofChange slotTellsWrong)

/-- 'assartlaw03.SlotBack': WHATEVER THE INPUT: true; the input reads as it did. -/
def slotBackSpec : ChangeSpec := { name := "slotBack", fn := fun _ => fun
  | [d] => { results := [.lit (.bool true)], args := [d] }
  | _ => none }
def slotBackRow : OpenClaim := { program := "ythaebcljehmhmaa", sum := "c12e935e50f0742a2d119d17c49e4774b29bd2786bd1c1bdfeab396d844e3ef0", func := "assart/assartlaw03.SlotBack", spec := "slotBack", apart := false }
def SlotBackSaid : Prop := slotBackRow.holds Try.pinned (OpenSpec.ofChange slotBackSpec)

/-- ITS FALSE NEIGHBOUR: 'it returns false'. Refute it at one input. -/
def slotBackWrong : ChangeSpec := { name := "slotBack", fn := fun _ => fun
  | [d] => { results := [.lit (.bool false)], args := [d] }
  | _ => none }
def SlotBackWrongFalsely : Prop := slotBackRow.holds Try.pinned (OpenSpec.ofChange slotBackWrong)

/-- 'assartlaw03.SlotPicks': WHATEVER THE INPUT: true; the input reads as it did. -/
def slotPicksSpec : ChangeSpec := { name := "slotPicks", fn := fun _ => fun
  | [d1, d2, d3] => { results := [.lit (.bool true)], args := [d1, d2, d3] }
  | _ => none }
def slotPicksRow : OpenClaim := { program := "ythaebcljehmhmaa", sum := "c12e935e50f0742a2d119d17c49e4774b29bd2786bd1c1bdfeab396d844e3ef0", func := "assart/assartlaw03.SlotPicks", spec := "slotPicks", apart := false }
def SlotPicksSaid : Prop := slotPicksRow.holds Try.pinned (OpenSpec.ofChange slotPicksSpec)

/-- ITS FALSE NEIGHBOUR: 'it returns false'. Refute it at one input. -/
def slotPicksWrong : ChangeSpec := { name := "slotPicks", fn := fun _ => fun
  | [d1, d2, d3] => { results := [.lit (.bool false)], args := [d1, d2, d3] }
  | _ => none }
def SlotPicksWrongFalsely : Prop := slotPicksRow.holds Try.pinned (OpenSpec.ofChange slotPicksWrong)

/-- 'assartlaw03.SlotBooks': WHATEVER THE INPUT: true; the input reads as it did. -/
def slotBooksSpec : ChangeSpec := { name := "slotBooks", fn := fun _ => fun
  | [d] => { results := [.lit (.bool true)], args := [d] }
  | _ => none }
def slotBooksRow : OpenClaim := { program := "ythaebcljehmhmaa", sum := "c12e935e50f0742a2d119d17c49e4774b29bd2786bd1c1bdfeab396d844e3ef0", func := "assart/assartlaw03.SlotBooks", spec := "slotBooks", apart := false }
def SlotBooksSaid : Prop := slotBooksRow.holds Try.pinned (OpenSpec.ofChange slotBooksSpec)

/-- ITS FALSE NEIGHBOUR: 'it returns false'. Refute it at one input. -/
def slotBooksWrong : ChangeSpec := { name := "slotBooks", fn := fun _ => fun
  | [d] => { results := [.lit (.bool false)], args := [d] }
  | _ => none }
def SlotBooksWrongFalsely : Prop := slotBooksRow.holds Try.pinned (OpenSpec.ofChange slotBooksWrong)

/-- 'assartlaw03.SlotBlocks': WHATEVER THE INPUT: true; the input reads as it did. -/
def slotBlocksSpec : ChangeSpec := { name := "slotBlocks", fn := fun _ => fun
  | [d1, d2] => { results := [.lit (.bool true)], args := [d1, d2] }
  | _ => none }
def slotBlocksRow : OpenClaim := { program := "ythaebcljehmhmaa", sum := "c12e935e50f0742a2d119d17c49e4774b29bd2786bd1c1bdfeab396d844e3ef0", func := "assart/assartlaw03.SlotBlocks", spec := "slotBlocks", apart := false }
def SlotBlocksSaid : Prop := slotBlocksRow.holds Try.pinned (OpenSpec.ofChange slotBlocksSpec)

/-- ITS FALSE NEIGHBOUR: 'it returns false'. Refute it at one input. -/
def slotBlocksWrong : ChangeSpec := { name := "slotBlocks", fn := fun _ => fun
  | [d1, d2] => { results := [.lit (.bool false)], args := [d1, d2] }
  | _ => none }
def SlotBlocksWrongFalsely : Prop := slotBlocksRow.holds Try.pinned (OpenSpec.ofChange slotBlocksWrong)

/- THE SECOND FORM. 'bulk': how many values and letters a reading holds, each counted each time it is reached (what is shared counts as often as it is met; a slice's spare places count too). A statement '..UptoSaid' is the law's where the arguments, and the package variables that the reading takes, are together of bulk at most 1048576: NARROWER than '..Said'. Prove '..Said' where nothing that the law and all that it calls make is longer than what came in: it says more and counts as full. Else prove '..UptoSaid'. A law counts once. -/
mutual
def uptoBulk {H : Type} : DataW H → Nat
  | .lit (.string bytes) => bytes.length + 1
  | .lit _ => 1
  | .nil => 1
  | .ptr d => uptoBulk d + 1
  | .slice elems spare => uptoBulkAll elems + uptoBulkAll spare + 1
  | .agg parts => uptoBulkAll parts + 1
  | .iface _ d => uptoBulk d + 1
  | .map entries => uptoBulkEntries entries + 1
  | .held _ => 1
def uptoBulkAll {H : Type} : List (DataW H) → Nat
  | [] => 0
  | d :: r => uptoBulk d + uptoBulkAll r
def uptoBulkEntries {H : Type} : List (Lit × DataW H) → Nat
  | [] => 0
  | x :: r => uptoBulkEntry x + uptoBulkEntries r
def uptoBulkEntry {H : Type} : Lit × DataW H → Nat
  | (.string bytes, d) => bytes.length + uptoBulk d + 1
  | (_, d) => uptoBulk d + 1
 end
def uptoSmall : (H : Type) → List (DataW H) → Bool := fun _ ds => decide (uptoBulkAll ds ≤ 1048576)
def OpenSpec.upto (s : _root_.Go.ChangeSpec) : _root_.Go.OpenSpec := { _root_.Go.OpenSpec.ofChange s with cond := some uptoSmall }

/-- 'assartlaw03.SlotTells', WHERE WHAT IT READS IS OF BULK AT MOST 1048576: true; the input reads as it did. -/
def slotTellsUptoRow : OpenClaim := { program := "ythaebcljehmhmaa", sum := "c12e935e50f0742a2d119d17c49e4774b29bd2786bd1c1bdfeab396d844e3ef0", func := "assart/assartlaw03.SlotTells", spec := "slotTells", apart := false, narrowed := true }
def SlotTellsUptoSaid : Prop := slotTellsUptoRow.holds Try.pinned (OpenSpec.upto slotTellsSpec)

/-- 'assartlaw03.SlotBack', WHERE WHAT IT READS IS OF BULK AT MOST 1048576: true; the input reads as it did. -/
def slotBackUptoRow : OpenClaim := { program := "ythaebcljehmhmaa", sum := "c12e935e50f0742a2d119d17c49e4774b29bd2786bd1c1bdfeab396d844e3ef0", func := "assart/assartlaw03.SlotBack", spec := "slotBack", apart := false, narrowed := true }
def SlotBackUptoSaid : Prop := slotBackUptoRow.holds Try.pinned (OpenSpec.upto slotBackSpec)

/-- 'assartlaw03.SlotPicks', WHERE WHAT IT READS IS OF BULK AT MOST 1048576: true; the input reads as it did. -/
def slotPicksUptoRow : OpenClaim := { program := "ythaebcljehmhmaa", sum := "c12e935e50f0742a2d119d17c49e4774b29bd2786bd1c1bdfeab396d844e3ef0", func := "assart/assartlaw03.SlotPicks", spec := "slotPicks", apart := false, narrowed := true }
def SlotPicksUptoSaid : Prop := slotPicksUptoRow.holds Try.pinned (OpenSpec.upto slotPicksSpec)

/-- 'assartlaw03.SlotBooks', WHERE WHAT IT READS IS OF BULK AT MOST 1048576: true; the input reads as it did. -/
def slotBooksUptoRow : OpenClaim := { program := "ythaebcljehmhmaa", sum := "c12e935e50f0742a2d119d17c49e4774b29bd2786bd1c1bdfeab396d844e3ef0", func := "assart/assartlaw03.SlotBooks", spec := "slotBooks", apart := false, narrowed := true }
def SlotBooksUptoSaid : Prop := slotBooksUptoRow.holds Try.pinned (OpenSpec.upto slotBooksSpec)

/-- 'assartlaw03.SlotBlocks', WHERE WHAT IT READS IS OF BULK AT MOST 1048576: true; the input reads as it did. -/
def slotBlocksUptoRow : OpenClaim := { program := "ythaebcljehmhmaa", sum := "c12e935e50f0742a2d119d17c49e4774b29bd2786bd1c1bdfeab396d844e3ef0", func := "assart/assartlaw03.SlotBlocks", spec := "slotBlocks", apart := false, narrowed := true }
def SlotBlocksUptoSaid : Prop := slotBlocksUptoRow.holds Try.pinned (OpenSpec.upto slotBlocksSpec)

end Rows
end Go.Proofs.Ythaebcljehmhmaa
