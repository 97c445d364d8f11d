/- slices.Chunk as an iterator. -/
import Derived.Test.YtnlkakbpcdfgfaaGreatK14
namespace Go.Proofs.YtnlkakbpcdfgfaaGreat
set_option maxRecDepth 20000
open Go.RowKit Go.Shelf
attribute [local go_sem] Oper.semAt_some

theorem chunk_in (d : Nat) (A : Option Addr) (n c : Nat) (w : World) :
    CallsIn Fence.wide d Tryz.prog 141 #[.slice A n c, .int .i64 40] w fun e w' =>
      e = .returned (.func (.func 149) #[] #[.pointer (some ⟨w.heap.size, 0, none⟩), .pointer (some ⟨w.heap.size + 1, 0, none⟩)]) ∧
      w' = (w.alloc (.cells #[.slice A n c] 83)).alloc (.cells #[.int .i64 40] 3) := by
  have b0 := Bt.new (w.alloc (.cells #[.slice A n c] 83)) #[.int .i64 40] 3
  rw [World.size_alloc] at b0
  have r0 := b0.bx.at 0 _ rfl
  clear b0
  refine callsIn_of_wp Tryz.func141 rfl trivial ?_ rfl
  simp only [Tryz.ntmps141, List.size_toArray, List.length_cons, List.length_nil, Nat.reduceAdd, Nat.reduceSub, Array.replicate_succ, Array.replicate_zero, List.push_toArray, List.append_toArray, List.nil_append, List.cons_append]
  gi_wp2
  go_ret
  exact ⟨rfl, rfl⟩
def encC (A : Option Addr) (n k : Nat) : Array Value := #[.slice (A.map (·.add (40 * k))) (min 40 (n - 40 * k)) (min 40 (n - 40 * k))]
theorem range_pre {k N : Nat} (h : k < N) : List.range k ++ [k] <+: List.range N := by
  rw [← List.range_succ, List.prefix_iff_eq_take, List.length_range, List.take_range, Nat.min_eq_left (by omega)]
set_option maxRecDepth 100000 in
set_option maxHeartbeats 1600000 in
theorem chunk_seq (A : Option Addr) (n c bs bn n₀ : Nat) (w : World) (hc : n ≤ c) (hn2 : n ≤ 1000000) (hb : Bt w bs 83 #[.slice A n c]) (hn : Bt w bn 3 #[.int .i64 40]) :
    SeqW Tryz.prog 149 #[.pointer (some ⟨bs, 0, none⟩), .pointer (some ⟨bn, 0, none⟩)] (encC A n) n₀ (fun k => k = bs ∨ k = bn) (List.range (pieces n)) w := by
  intro r J Jx W d hx hJ hJx hY h0
  refine (callsIn_wide (n := d)).2 (callsIn_wide.1 (?_ : CallsIn Fence.wide 3 _ _ _ _ _))
  have HB := Lib.hid (hb.below hx)
  have HN := Lib.hid (hn.below hx)
  have HJ := Lib.hid (hJ W (Ext.refl W))
  have HY := Lib.hid (fun pre x W1 m => hY W pre x W1 m (Ext.refl W))
  have H0 := Lib.hid (h0 W (Ext.refl W))
  have c0 := HB.out.bx.at 0 _ rfl
  clear hb hn hJ hJx hY h0
  refine callsIn_of_wp Tryz.func149 rfl trivial ?_ rfl
  simp only [Tryz.ntmps149, List.size_toArray, List.length_cons, List.length_nil, Nat.reduceAdd, Nat.reduceSub, Array.replicate_succ, Array.replicate_zero, List.push_toArray, List.append_toArray, List.nil_append, List.cons_append]
  gi_wp2
  clear c0
  gi_loopw [4] (fun v wr => ∃ k : Nat, k ≤ pieces n ∧ v = .int .i64 ((40 * k : Nat) : Int) ∧ J W (List.range k) wr ∧ Bt wr bs 83 #[.slice A n c] ∧ Bt wr bn 3 #[.int .i64 40] ∧ W.heap.size ≤ wr.heap.size) (fun v _ => n + 40 - (intOf v).toNat)
  case atStart => exact ⟨0, Nat.zero_le _, rfl, H0.out, HB.out, HN.out, Nat.le_refl _⟩
  case round =>
    obtain ⟨k, hk, rfl, hJk, hBk, hNk, hz⟩ := hrel
    have HJK := Lib.hid hJk
    have HBK := Lib.hid hBk
    have HNK := Lib.hid hNk
    have s0 := hBk.bx.at 0 _ rfl
    have n0 := hNk.bx.at 0 _ rfl
    clear hJk hBk hNk
    rcases Nat.lt_or_ge k (pieces n) with hlt | hge
    · have hlo : 40 * k < n := by unfold pieces at hlt; omega
      have hlI : ((40 * k : Nat) : Int) < (n : Int) := by omega
      have w2 : IntKind.i64.wrap (((40 * k : Nat) : Int) + 40) = ((40 * (k + 1) : Nat) : Int) := by rw [IntKind.wrap_i64]; omega
      have HYK := Lib.hid (HY.out (List.range k) k wr.drew 2 (HJ.out _ _ _ HJK.out (.ext (Ext.refl wr).drew)) hz (range_pre hlt))
      have HEN := Lib.hid (show encC A n k = #[.slice (A.map (·.add (40 * k))) (min 40 (n - 40 * k)) (min 40 (n - 40 * k))] from rfl)
      have HLK := Lib.hid (show List.range k ++ [k] = List.range (k + 1) from List.range_succ.symm)
      have hms : n + 40 - (40 * (k + 1)) < n + 40 - 40 * k := by omega
      generalize hlo2 : 40 * (k + 1) = lo2 at *
      have HL2 := Lib.hid hlo2
      clear hlo2
      generalize 40 * k = lo at *
      have g1 : (lo : Int) ≤ (n : Int) := by omega
      obtain ⟨m, hm, hm1⟩ : ∃ m : Nat, (if ((n - lo : Nat) : Int) < 40 then ((n - lo : Nat) : Int) else 40) = (m : Int) ∧ m = min 40 (n - lo) := ⟨min 40 (n - lo), by split <;> omega, rfl⟩
      have hmn : lo + m ≤ n := by omega
      have hm' : min (40 : Int) ((n - lo : Nat) : Int) = (m : Int) := by omega
      have hm'' : min ((n - lo : Nat) : Int) (40 : Int) = (m : Int) := by omega
      have w1 : IntKind.i64.wrap ((lo : Int) + (m : Int)) = ((lo + m : Nat) : Int) := by rw [IntKind.wrap_i64]; omega
      have g2 : ((lo + m : Nat) : Int) ≤ (c : Int) := by omega
      have g3 : (lo : Int) ≤ ((lo + m : Nat) : Int) := by omega
      have HM1 := Lib.hid hm1
      clear hm1
      have s1 := (HBK.out.below ((Ext.refl wr).drew)).bx.at 0 _ rfl
      gi_wp2
      refine wpIn_wide.2 ?_
      go_region
      obtain ⟨fn, tmps, assign, body, hy, hR⟩ := HYK.out
      rw [HEN.out, ← HM1.out] at hy
      gi_wp2
      refine hR.mono ?_
      rintro e W3 ⟨hk3, (⟨rfl, hJ3⟩ | ⟨rfl, hJx3⟩)⟩
      · have HJ3 := Lib.hid hJ3
        have HB3 := Lib.hid ((HBK.out.below (Ext.refl wr).drew).keptP hk3 (.inl (.inl rfl)))
        have HN3 := Lib.hid ((HNK.out.below (Ext.refl wr).drew).keptP hk3 (.inl (.inr rfl)))
        have HZ3 := Lib.hid (Nat.le_trans hz hk3.old.size)
        have n3 := HN3.out.bx.at 0 _ rfl
        clear hk3 hJ3
        gi_wp2
        go_roundw
        case rel => exact ⟨k + 1, by omega, by rw [HL2.out], by rw [← HLK.out]; exact HJ3.out, HB3.out, HN3.out, HZ3.out⟩
        case measure => simp [intOf]; omega
      · have HJ3 := Lib.hid hJx3
        clear hk3 hJx3
        gi_wp2
        refine bodyPost_ret (results_none rfl _ _ _) rfl ?_
        exact ⟨⟨_, rfl⟩, W, Ext.refl W, .inr ⟨_, range_pre hlt, HJ3.out⟩⟩
    · obtain rfl : pieces n = k := by omega
      have hge2 : ¬ ((40 * pieces n : Nat) : Int) < (n : Int) := by unfold pieces; omega
      gi_wp2
      go_end0
      exact ⟨⟨_, rfl⟩, W, Ext.refl W, .inl HJK.out⟩
end Go.Proofs.YtnlkakbpcdfgfaaGreat
