/- What a commit of a new state writes: the plain facts. slices.Chunk as an iterator. -/
import Derived.Test.YtpcimjccngidgaaK03
import Derived.Test.YtpcimjccngidgaaK05
import Derived.Test.YtpcimjccngidgaaK06
import Derived.Test.YtpcimjccngidgaaK07
import Derived.Test.YtpcimjccngidgaaK02
namespace Go.Proofs.Ytpcimjccngidgaa
set_option maxRecDepth 20000
open Go.RowKit

def bookP (next keep : Nat) (refs : List Nat) : List UInt8 := putL next 4 ++ putL 0 1 ++ putL 0 2 ++ putL keep 2 ++ putL refs.length 2 ++ refs.flatMap (fun r => putL r 2)
theorem chunkF_le : ∀ (f : Nat) (l : Bl), (chunkF f l).length ≤ f
  | 0, _ => by simp [chunkF]
  | f + 1, l => by
    rw [chunkF]
    split
    · simp
    · rw [List.length_cons]; have := chunkF_le f (l.drop 40); omega
theorem chunks_le (l : Bl) : (chunksP l).length ≤ l.length := chunkF_le _ _
/-- A book's blocks, as texts. -/
def chB (l : Bl) : List ByteArray := (chunksP l).map (fun c => (⟨c.toArray⟩ : ByteArray))
theorem chB_of {L : List ByteArray} {l : Bl} (h : L.map txP = chunksP l) : L = chB l := by
  unfold chB
  rw [← h, List.map_map]
  conv => lhs; rw [← List.map_id L]
  exact List.map_congr_left (fun s _ => by cases s; simp [txP])
theorem chB_len (l : Bl) : (chB l).length = (chunksP l).length := by unfold chB; rw [List.length_map]
def askW (b : List ByteArray) (l : List Wr) (at_ : Int) (s : ByteArray) (ws : List Wr) : List Wr := if (readS b l at_).toList == s.toList then ws else ws ++ [(at_, s)]
/-- P14.2: what is asked of the disk, block for block. -/
def asks (b : List ByteArray) (dl : List Wr) (base : Nat) (L : List ByteArray) : Nat → List Wr
  | 0 => []
  | k + 1 => askW b dl ((base + k : Nat) : Int) (L[k]?.getD ⟨#[]⟩) (asks b dl base L k)
def planW (b : List ByteArray) (dl : List Wr) (n keep next gen : Nat) : List Wr :=
  asks b dl (2 + (gen + 1) % 2 * areaP n) (chB (bookP next keep (List.replicate n 0))) (chB (bookP next keep (List.replicate n 0))).length ++ [(-1, ⟨#[]⟩)] ++ [((((gen + 1) % 2 : Nat) : Int), supB ⟨((gen + 1 : Nat) : Int), ((11 + 2 * n : Nat) : Int), (crc (bookP next keep (List.replicate n 0)) : Nat)⟩)] ++ [(-1, ⟨#[]⟩)]
def pieces (n : Nat) : Nat := (n + 39) / 40
theorem chunkF_at : ∀ (f : Nat) (l : Bl) (k : Nat), l.length ≤ f → k < pieces l.length → (chunkF f l)[k]? = some (padB ((l.drop (40 * k)).take 40))
  | 0, l, k, h, hk => by unfold pieces at hk; omega
  | f + 1, l, k, h, hk => by
    have hl : l ≠ [] := by rintro rfl; simp [pieces] at hk
    rw [chunkF, if_neg hl]
    cases k with
    | zero => simp
    | succ k =>
      rw [List.getElem?_cons_succ, chunkF_at f (l.drop 40) k (by simp; omega) (by unfold pieces at *; simp; omega), List.drop_drop, show 40 * (k + 1) = 40 + 40 * k by omega]
theorem chunkF_len : ∀ (f : Nat) (l : Bl), l.length ≤ f → (chunkF f l).length = pieces l.length
  | 0, l, h => by
    obtain rfl : l = [] := List.eq_nil_of_length_eq_zero (by omega)
    rfl
  | f + 1, l, h => by
    rw [chunkF]
    split
    · rename_i hl; subst hl; rfl
    · rename_i hl
      have hp : 0 < l.length := by cases l with | nil => exact absurd rfl hl | cons a r => simp
      rw [List.length_cons, chunkF_len f (l.drop 40) (by simp; omega)]
      unfold pieces; simp; omega
theorem chunks_len (l : Bl) : (chunksP l).length = pieces l.length := chunkF_len _ _ (Nat.le_refl _)
theorem chunks_at (l : Bl) {k : Nat} (hk : k < pieces l.length) : (chunksP l)[k]? = some (padB ((l.drop (40 * k)).take 40)) := chunkF_at _ _ _ (Nat.le_refl _) hk
theorem chB_tx (l : Bl) : (chB l).map txP = chunksP l := by
  unfold chB
  rw [List.map_map]
  conv => rhs; rw [← List.map_id (chunksP l)]
  exact List.map_congr_left (fun s _ => rfl)
theorem chB_at (l : Bl) {k : Nat} (hk : k < pieces l.length) (h : k < (chB l).length) : (chB l)[k] = ⟨(padB ((l.drop (40 * k)).take 40)).toArray⟩ := by
  have e2 : (chB l)[k]? = some ⟨(padB ((l.drop (40 * k)).take 40)).toArray⟩ := by unfold chB; rw [List.getElem?_map, chunks_at l hk]; rfl
  rw [List.getElem?_eq_getElem h] at e2
  exact Option.some.inj e2
theorem repeat_zero (n : Nat) : Lib.repeatL [0] n = List.replicate n 0 := by
  induction n with
  | zero => rfl
  | succ n ih => rw [Lib.repeatL, ih, List.replicate_succ]; rfl
/-- The first block of the book of a new state of 45 cells, so many of them kept. -/
def bk0 (K : Nat) : ByteArray := ⟨(putL 1 4 ++ [0] ++ putL 0 2 ++ putL K 2 ++ putL 45 2 ++ List.replicate 29 0).toArray⟩
theorem bk45 {K : Nat} (hK : K = 0 ∨ K = 2) : chB (bookP 1 K (List.replicate 45 0)) = [bk0 K, zb, zb] := by
  unfold chB
  rw [show chunksP (bookP 1 K (List.replicate 45 0)) = [putL 1 4 ++ [0] ++ putL 0 2 ++ putL K 2 ++ putL 45 2 ++ List.replicate 29 0, List.replicate 40 0, List.replicate 40 0] by rcases hK with rfl | rfl <;> decide +kernel]
  rfl
theorem cells135 : cellsP 135 = 45 := by decide +kernel
theorem area45 : areaP 45 = 44 := by decide +kernel
theorem bk0_ne {K : Nat} (hK : K = 0 ∨ K = 2) : (zb.toList == (bk0 K).toList) = false := by
  rw [bytes_same]
  exact decide_eq_false (fun h => absurd (congrArg (fun b => b.data.toList[0]?) h) (by rcases hK with rfl | rfl <;> decide +kernel))
theorem bk0_size {K : Nat} (hK : K = 0 ∨ K = 2) : (bk0 K).size = 40 := by rcases hK with rfl | rfl <;> decide +kernel
/-- The slot's block of a commit of such a state. -/
def sup45 (K g : Nat) : ByteArray := supB ⟨(g : Int), 101, (crc (bookP 1 K (List.replicate 45 0)) : Nat)⟩
/-- What a commit writes, where the area holds nothing yet. -/
def plan45 (K base g : Nat) : List Wr := [((base : Nat), bk0 K), (-1, ⟨#[]⟩), (((g % 2 : Nat) : Int), sup45 K g), (-1, ⟨#[]⟩)]
theorem plan_is {K : Nat} (hK : K = 0 ∨ K = 2) {b : List ByteArray} (hb : b.length = 135) {gen base : Nat} (h : base = 2 + (gen + 1) % 2 * 44) (h0 : b[base]? = some zb) (h1 : b[base + 1]? = some zb) (h2 : b[base + 2]? = some zb) :
    planW b [] 45 K 1 gen = plan45 K base (gen + 1) := by
  have hr : ∀ k, b[base + k]? = some zb → k < 3 → readS b [] ((base + k : Nat) : Int) = zb := fun k hk h3 => by
    unfold readS lastW hasS
    rw [hb, if_pos (by simp; omega), Int.toNat_natCast, hk]
    rfl
  unfold planW plan45 sup45
  rw [area45, bk45 hK, ← h]
  simp only [List.length_cons, List.length_nil]
  have e0 : asks b [] base [bk0 K, zb, zb] 1 = [((base : Int), bk0 K)] := by
    rw [asks, asks]
    unfold askW
    rw [hr 0 h0 (by omega)]
    simp only [List.getElem?_cons_zero, Option.getD_some, bk0_ne hK, Bool.false_eq_true, if_false, List.nil_append, Nat.add_zero]
  have e1 : asks b [] base [bk0 K, zb, zb] 2 = [((base : Int), bk0 K)] := by
    rw [asks, e0]
    unfold askW
    rw [hr 1 h1 (by omega)]
    simp
  have e2 : asks b [] base [bk0 K, zb, zb] 3 = [((base : Int), bk0 K)] := by
    rw [asks, e1]
    unfold askW
    rw [hr 2 h2 (by omega)]
    simp
  rw [show (0 + 1 + 1 + 1 : Nat) = 3 from rfl, e2]
  rfl
theorem sup45_size (K : Nat) {g : Nat} (h1 : 1 ≤ g) (hg : g ≤ 2147483647) : (sup45 K g).size = 40 := by
  refine supB_size _ ((supR_iff _).2 ?_)
  have := crc_lt (bookP 1 K (List.replicate 45 0))
  simp only
  omega
/-- The first plan of such a disk, of a state that keeps none. -/
theorem plan_first {K : Nat} (hK : K = 0 ∨ K = 2) : planW (newB 135) [] 45 K 1 0 = plan45 K 46 1 := by
  have hb : newB 135 = List.replicate 135 zb := by unfold newB; rw [if_pos (by omega)]; rfl
  have hl : (newB 135).length = 135 := by rw [hb, List.length_replicate]
  have hz : ∀ k, k < 135 → (newB 135)[k]? = some zb := fun k hk => by rw [hb, List.getElem?_replicate, if_pos hk]
  exact plan_is hK hl (gen := 0) rfl (hz 46 (by omega)) (hz 47 (by omega)) (hz 48 (by omega))
end Go.Proofs.Ytpcimjccngidgaa
namespace Go.Proofs.Ytpcimjccngidgaa
set_option maxRecDepth 20000
open Go.RowKit Go.Shelf
attribute [local go_sem] Oper.semAt_some

theorem chunk_in (d : Nat) (A : Option Addr) (n c : Nat) (w : World) :
    CallsIn Fence.wide d Try.prog 17 #[.slice A n c, .int .i64 40] w fun e w' =>
      e = .returned (.func (.func 30) #[] #[.pointer (some ⟨w.heap.size, 0, none⟩), .pointer (some ⟨w.heap.size + 1, 0, none⟩)]) ∧
      w' = (w.alloc (.cells #[.slice A n c] 23)).alloc (.cells #[.int .i64 40] 3) := by
  have b0 := Bt.new (w.alloc (.cells #[.slice A n c] 23)) #[.int .i64 40] 3
  rw [World.size_alloc] at b0
  have r0 := b0.bx.at 0 _ rfl
  clear b0
  refine callsIn_of_wp Try.func17 rfl trivial ?_ rfl
  simp only [Try.ntmps17, List.size_toArray, List.length_cons, List.length_nil, Nat.reduceAdd, Nat.reduceSub, Array.replicate_succ, Array.replicate_zero, List.push_toArray, List.append_toArray, List.nil_append, List.cons_append]
  gi_wp2
  go_ret
  exact ⟨rfl, rfl⟩
def encC (A : Option Addr) (n k : Nat) : Array Value := #[.slice (A.map (·.add (40 * k))) (min 40 (n - 40 * k)) (min 40 (n - 40 * k))]
theorem range_pre {k N : Nat} (h : k < N) : List.range k ++ [k] <+: List.range N := by
  rw [← List.range_succ, List.prefix_iff_eq_take, List.length_range, List.take_range, Nat.min_eq_left (by omega)]
set_option maxRecDepth 100000 in
set_option maxHeartbeats 1600000 in
theorem chunk_seq (A : Option Addr) (n c bs bn n₀ : Nat) (w : World) (hc : n ≤ c) (hn2 : n ≤ 1000000) (hb : Bt w bs 23 #[.slice A n c]) (hn : Bt w bn 3 #[.int .i64 40]) :
    SeqW Try.prog 30 #[.pointer (some ⟨bs, 0, none⟩), .pointer (some ⟨bn, 0, none⟩)] (encC A n) n₀ (fun k => k = bs ∨ k = bn) (List.range (pieces n)) w := by
  intro r J Jx W d hx hJ hJx hY h0
  refine (callsIn_wide (n := d)).2 (callsIn_wide.1 (?_ : CallsIn Fence.wide 3 _ _ _ _ _))
  have HB := Lib.hid (hb.below hx)
  have HN := Lib.hid (hn.below hx)
  have HJ := Lib.hid (hJ W (Ext.refl W))
  have HY := Lib.hid (fun pre x W1 m => hY W pre x W1 m (Ext.refl W))
  have H0 := Lib.hid (h0 W (Ext.refl W))
  have c0 := HB.out.bx.at 0 _ rfl
  clear hb hn hJ hJx hY h0
  refine callsIn_of_wp Try.func30 rfl trivial ?_ rfl
  simp only [Try.ntmps30, List.size_toArray, List.length_cons, List.length_nil, Nat.reduceAdd, Nat.reduceSub, Array.replicate_succ, Array.replicate_zero, List.push_toArray, List.append_toArray, List.nil_append, List.cons_append]
  gi_wp2
  clear c0
  gi_loopw [4] (fun v wr => ∃ k : Nat, k ≤ pieces n ∧ v = .int .i64 ((40 * k : Nat) : Int) ∧ J W (List.range k) wr ∧ Bt wr bs 23 #[.slice A n c] ∧ Bt wr bn 3 #[.int .i64 40] ∧ W.heap.size ≤ wr.heap.size) (fun v _ => n + 40 - (intOf v).toNat)
  case atStart => exact ⟨0, Nat.zero_le _, rfl, H0.out, HB.out, HN.out, Nat.le_refl _⟩
  case round =>
    obtain ⟨k, hk, rfl, hJk, hBk, hNk, hz⟩ := hrel
    have HJK := Lib.hid hJk
    have HBK := Lib.hid hBk
    have HNK := Lib.hid hNk
    have s0 := hBk.bx.at 0 _ rfl
    have n0 := hNk.bx.at 0 _ rfl
    clear hJk hBk hNk
    rcases Nat.lt_or_ge k (pieces n) with hlt | hge
    · have hlo : 40 * k < n := by unfold pieces at hlt; omega
      have hlI : ((40 * k : Nat) : Int) < (n : Int) := by omega
      have w2 : IntKind.i64.wrap (((40 * k : Nat) : Int) + 40) = ((40 * (k + 1) : Nat) : Int) := by rw [IntKind.wrap_i64]; omega
      have HYK := Lib.hid (HY.out (List.range k) k wr.drew 2 (HJ.out _ _ _ HJK.out (.ext (Ext.refl wr).drew)) hz (range_pre hlt))
      have HEN := Lib.hid (show encC A n k = #[.slice (A.map (·.add (40 * k))) (min 40 (n - 40 * k)) (min 40 (n - 40 * k))] from rfl)
      have HLK := Lib.hid (show List.range k ++ [k] = List.range (k + 1) from List.range_succ.symm)
      have hms : n + 40 - (40 * (k + 1)) < n + 40 - 40 * k := by omega
      generalize hlo2 : 40 * (k + 1) = lo2 at *
      have HL2 := Lib.hid hlo2
      clear hlo2
      generalize 40 * k = lo at *
      have g1 : (lo : Int) ≤ (n : Int) := by omega
      obtain ⟨m, hm, hm1⟩ : ∃ m : Nat, (if ((n - lo : Nat) : Int) < 40 then ((n - lo : Nat) : Int) else 40) = (m : Int) ∧ m = min 40 (n - lo) := ⟨min 40 (n - lo), by split <;> omega, rfl⟩
      have hmn : lo + m ≤ n := by omega
      have hm' : min (40 : Int) ((n - lo : Nat) : Int) = (m : Int) := by omega
      have hm'' : min ((n - lo : Nat) : Int) (40 : Int) = (m : Int) := by omega
      have w1 : IntKind.i64.wrap ((lo : Int) + (m : Int)) = ((lo + m : Nat) : Int) := by rw [IntKind.wrap_i64]; omega
      have g2 : ((lo + m : Nat) : Int) ≤ (c : Int) := by omega
      have g3 : (lo : Int) ≤ ((lo + m : Nat) : Int) := by omega
      have HM1 := Lib.hid hm1
      clear hm1
      have s1 := (HBK.out.below ((Ext.refl wr).drew)).bx.at 0 _ rfl
      gi_wp2
      refine wpIn_wide.2 ?_
      go_region
      obtain ⟨fn, tmps, assign, body, hy, hR⟩ := HYK.out
      rw [HEN.out, ← HM1.out] at hy
      gi_wp2
      refine hR.mono ?_
      rintro e W3 ⟨hk3, (⟨rfl, hJ3⟩ | ⟨rfl, hJx3⟩)⟩
      · have HJ3 := Lib.hid hJ3
        have HB3 := Lib.hid ((HBK.out.below (Ext.refl wr).drew).keptP hk3 (.inl (.inl rfl)))
        have HN3 := Lib.hid ((HNK.out.below (Ext.refl wr).drew).keptP hk3 (.inl (.inr rfl)))
        have HZ3 := Lib.hid (Nat.le_trans hz hk3.old.size)
        have n3 := HN3.out.bx.at 0 _ rfl
        clear hk3 hJ3
        gi_wp2
        go_roundw
        case rel => exact ⟨k + 1, by omega, by rw [HL2.out], by rw [← HLK.out]; exact HJ3.out, HB3.out, HN3.out, HZ3.out⟩
        case measure => simp [intOf]; omega
      · have HJ3 := Lib.hid hJx3
        clear hk3 hJx3
        gi_wp2
        refine bodyPost_ret (results_none rfl _ _ _) rfl ?_
        exact ⟨⟨_, rfl⟩, W, Ext.refl W, .inr ⟨_, range_pre hlt, HJ3.out⟩⟩
    · obtain rfl : pieces n = k := by omega
      have hge2 : ¬ ((40 * pieces n : Nat) : Int) < (n : Int) := by unfold pieces; omega
      gi_wp2
      go_end0
      exact ⟨⟨_, rfl⟩, W, Ext.refl W, .inl HJK.out⟩
end Go.Proofs.Ytpcimjccngidgaa
