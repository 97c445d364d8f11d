/- Same of the reference of layers 6 and 12, of states without volumes and tasks. What the first two commits of a disk of 135 blocks write: the plain facts of layer 15's example. -/
import Derived.Test.YtjbfopnkeclfgaaGreatK14
import Derived.BigQuiet
namespace Go.Proofs.YtjbfopnkeclfgaaGreat
set_option maxRecDepth 20000
open Go.RowKit
attribute [local go_sem ↓] Go.wp_at_zero Go.wp_at_succ

theorem sameH_self (h : Hp) : sameH h h = true := by unfold sameH; simp
end Go.Proofs.YtjbfopnkeclfgaaGreat
namespace Go.Proofs.YtjbfopnkeclfgaaGreat
set_option maxRecDepth 20000
open Go.RowKit

/-- The first block of the book of a new state of 45 cells, so many of them kept. -/
def bk0 (K : Nat) : ByteArray := ⟨(putL 1 4 ++ [0] ++ putL 0 2 ++ putL K 2 ++ putL 45 2 ++ List.replicate 29 0).toArray⟩
theorem bk45 {K : Nat} (hK : K = 0 ∨ K = 2) : chB (bookP 1 K (List.replicate 45 0)) = [bk0 K, zb, zb] := by
  unfold chB
  rw [show chunksP (bookP 1 K (List.replicate 45 0)) = [putL 1 4 ++ [0] ++ putL 0 2 ++ putL K 2 ++ putL 45 2 ++ List.replicate 29 0, List.replicate 40 0, List.replicate 40 0] by rcases hK with rfl | rfl <;> decide +kernel]
  rfl
theorem cells135 : cellsP 135 = 45 := by decide +kernel
theorem area45 : areaP 45 = 44 := by decide +kernel
theorem bk0_ne {K : Nat} (hK : K = 0 ∨ K = 2) : (zb.toList == (bk0 K).toList) = false := by
  rw [bytes_same]
  exact decide_eq_false (fun h => absurd (congrArg (fun b => b.data.toList[0]?) h) (by rcases hK with rfl | rfl <;> decide +kernel))
theorem bk0_size {K : Nat} (hK : K = 0 ∨ K = 2) : (bk0 K).size = 40 := by rcases hK with rfl | rfl <;> decide +kernel
/-- The slot's block of a commit of such a state. -/
def sup45 (K g : Nat) : ByteArray := supB ⟨(g : Int), 101, (crc (bookP 1 K (List.replicate 45 0)) : Nat)⟩
/-- What a commit writes, where the area holds nothing yet. -/
def plan45 (K base g : Nat) : List Wr := [((base : Nat), bk0 K), (-1, ⟨#[]⟩), (((g % 2 : Nat) : Int), sup45 K g), (-1, ⟨#[]⟩)]
theorem plan_is {K : Nat} (hK : K = 0 ∨ K = 2) {b : List ByteArray} (hb : b.length = 135) {gen base : Nat} (h : base = 2 + (gen + 1) % 2 * 44) (h0 : b[base]? = some zb) (h1 : b[base + 1]? = some zb) (h2 : b[base + 2]? = some zb) :
    planW b [] 45 K 1 gen = plan45 K base (gen + 1) := by
  have hr : ∀ k, b[base + k]? = some zb → k < 3 → readS b [] ((base + k : Nat) : Int) = zb := fun k hk h3 => by
    unfold readS lastW hasS
    rw [hb, if_pos (by simp; omega), Int.toNat_natCast, hk]
    rfl
  unfold planW plan45 sup45
  rw [area45, bk45 hK, ← h]
  simp only [List.length_cons, List.length_nil]
  have e0 : asks b [] base [bk0 K, zb, zb] 1 = [((base : Int), bk0 K)] := by
    rw [asks, asks]
    unfold askW
    rw [hr 0 h0 (by omega)]
    simp only [List.getElem?_cons_zero, Option.getD_some, bk0_ne hK, Bool.false_eq_true, if_false, List.nil_append, Nat.add_zero]
  have e1 : asks b [] base [bk0 K, zb, zb] 2 = [((base : Int), bk0 K)] := by
    rw [asks, e0]
    unfold askW
    rw [hr 1 h1 (by omega)]
    simp
  have e2 : asks b [] base [bk0 K, zb, zb] 3 = [((base : Int), bk0 K)] := by
    rw [asks, e1]
    unfold askW
    rw [hr 2 h2 (by omega)]
    simp
  rw [show (0 + 1 + 1 + 1 : Nat) = 3 from rfl, e2]
  rfl
theorem sup45_size (K : Nat) {g : Nat} (h1 : 1 ≤ g) (hg : g ≤ 2147483647) : (sup45 K g).size = 40 := by
  refine supB_size _ ((supR_iff _).2 ?_)
  have := crc_lt (bookP 1 K (List.replicate 45 0))
  simp only
  omega
theorem takes_at {n at_ : Nat} {s : ByteArray} (h : at_ < n) (hs : s.size = 40) : takesS n (((at_ : Nat) : Int), s) = true := by
  unfold takesS hasS
  simp [hs, h]
theorem isFl_no {at_ : Nat} {s : ByteArray} : isFl (((at_ : Nat) : Int), s) = false := by
  unfold isFl
  have : ((((at_ : Nat) : Int) == -1) : Bool) = false := beq_eq_false_iff_ne.2 (by omega)
  simp only [this, Bool.false_and]
theorem step_put {b : List ByteArray} {l : List Wr} {at_ : Nat} {s : ByteArray} (h : at_ < b.length) (hs : s.size = 40) : step1 b l (((at_ : Nat) : Int), s) = some (b, l ++ [(((at_ : Nat) : Int), s)]) := by
  unfold step1
  rw [isFl_no, takes_at h hs]
  rfl
theorem step_flush (b : List ByteArray) (l : List Wr) : step1 b l (-1, (⟨#[]⟩ : ByteArray)) = some (writeL b l, []) := by
  unfold step1; rw [if_pos (by decide +kernel)]
/-- The blocks behind such a commit. -/
def done45 (K : Nat) (b : List ByteArray) (base g : Nat) : List ByteArray := writeL (writeL b [((base : Nat), bk0 K)]) [(((g % 2 : Nat) : Int), sup45 K g)]
theorem done_len (K : Nat) (b : List ByteArray) (base g : Nat) : (done45 K b base g).length = b.length := by
  unfold done45; rw [writeL_length, writeL_length]
theorem do_plan {K : Nat} (hK : K = 0 ∨ K = 2) {b : List ByteArray} {base g : Nat} (hb : b.length = 135) (h : base < 135) (h1 : 1 ≤ g) (hg : g ≤ 2147483647) : doS b [] (plan45 K base g) = ((done45 K b base g, []), 4) := by
  unfold plan45
  have h2 : g % 2 < (writeL b [((base : Nat), bk0 K)]).length := by rw [writeL_length, hb]; omega
  rw [doS, step_put (by rw [hb]; exact h) (bk0_size hK)]
  simp only [List.nil_append]
  rw [doS, step_flush]
  simp only
  rw [doS, step_put h2 (sup45_size K h1 hg)]
  simp only [List.nil_append]
  rw [doS, step_flush]
  rfl
/-- What Format answers of 135 blocks, two cells kept. -/
theorem fmt135 : fmtS 135 2 = ⟨done45 2 (newB 135) 46 1, [], 45, 2, 1, 1, 0⟩ := by
  have hb : newB 135 = List.replicate 135 zb := by unfold newB; rw [if_pos (by omega)]; rfl
  have hl : (newB 135).length = 135 := by rw [hb, List.length_replicate]
  have hz : ∀ k, k < 135 → (newB 135)[k]? = some zb := fun k hk => by rw [hb, List.getElem?_replicate, if_pos hk]
  have hc : cellsP (135 : Int).toNat = 45 := cells135
  have hok : fmtOk 135 2 := by unfold fmtOk; rw [hc]; unfold newOk; omega
  have hp : fmtP 135 2 = plan45 2 46 1 := by
    unfold fmtP
    rw [hc]
    exact plan_is (.inr rfl) hl (gen := 0) rfl (hz 46 (by omega)) (hz 47 (by omega)) (hz 48 (by omega))
  have hr : fmtR 135 2 = ((done45 2 (newB 135) 46 1, []), 4) := by
    unfold fmtR
    rw [hp]
    exact do_plan (.inr rfl) hl (by omega) (by omega) (by omega)
  have hpl : (plan45 2 46 1).length = 4 := rfl
  unfold fmtS
  rw [if_pos hok, hr, hp, hpl, hc]
  rfl
end Go.Proofs.YtjbfopnkeclfgaaGreat
