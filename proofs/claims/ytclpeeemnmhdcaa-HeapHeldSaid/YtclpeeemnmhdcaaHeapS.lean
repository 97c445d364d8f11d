/- Where a cell stands, its address told. -/
import Derived.Test.YtclpeeemnmhdcaaHeapN
import Derived.Test.YtclpeeemnmhdcaaHeapR
namespace Go.Proofs.Ytclpeeemnmhdcaa
open Go.RowKit
theorem HcSl.row {w : World} {b o m q : Nat} {l : List HC} (h : HcSl w (some ⟨b, o, none⟩) m q l) {k : Nat} (hk : k < l.length) :
    b < w.heap.size ∧ ∃ A c, w.cell? ⟨b, o + k * 4, none⟩ = some (.int .i64 l[k].ref) ∧ w.cell? ⟨b, o + k * 4 + 1, none⟩ = some (.bool l[k].pin) ∧ w.cell? ⟨b, o + k * 4 + 2, none⟩ = some (.bool l[k].leaf) ∧ w.cell? ⟨b, o + k * 4 + 3, none⟩ = some (.slice A l[k].it.length c) ∧ Sl w A l[k].it.length c (ivs l[k].it) := by
  obtain ⟨b', o', e, hb, h1⟩ := h.cell hk
  cases e
  exact ⟨hb, h1⟩
end Go.Proofs.Ytclpeeemnmhdcaa
