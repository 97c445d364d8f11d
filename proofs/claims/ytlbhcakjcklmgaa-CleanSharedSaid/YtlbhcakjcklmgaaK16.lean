/- Trees given back, step by step: the plain theory of how many steps there are. Walks of the reference of layer 8, where there are no tasks: Given, Tells, outside. Walks of the reference of layer 8, where there are no tasks: Tells, Refs, Held. The walk of Refs of the reference of layer 8, where there are no tasks. -/
import Derived.Test.YtlbhcakjcklmgaaK15
import Derived.Test.YtlbhcakjcklmgaaK07
import Derived.Test.YtlbhcakjcklmgaaK10
import Derived.Test.YtlbhcakjcklmgaaK14
namespace Go.Proofs.Ytlbhcakjcklmgaa
open Go.RowKit

abbrev Ts := Int × Nat
/-- P11.2: a step. -/
def stepC (c : List HC) : List Ts → List HC × List Ts
  | [] => (c, [])
  | (p, k) :: r =>
    if k = 0 ∧ ((cellT c p).ref ≠ 1 ∨ (cellT c p).leaf = true) then (looseL (c.length + 1) c p, r)
    else if k = 0 then (c, (p, 1) :: r)
    else if k ≤ (cellT c p).it.length then (c, (((cellT c p).it.getD (k - 1) (0, 0)).2, 0) :: (p, k + 1) :: r)
    else (c.set p.toNat ⟨0, true, false, []⟩, r)
def stepsC : Nat → List HC → List Ts → List HC × List Ts
  | 0, c, t => (c, t)
  | n + 1, c, t => stepsC n (stepC c t).1 (stepC c t).2
theorem steps_add : ∀ (n m : Nat) (c : List HC) (t : List Ts), stepsC (n + m) c t = stepsC m (stepsC n c t).1 (stepsC n c t).2
  | 0, m, c, t => by rw [Nat.zero_add]; rfl
  | n + 1, m, c, t => by
    rw [show n + 1 + m = n + m + 1 by omega, stepsC, stepsC]
    exact steps_add n m _ _
/-- As many steps come to that, and ahead of it there are more than B tasks. -/
def Runs (B : Nat) (c : List HC) (t : List Ts) (n : Nat) (c' : List HC) (t' : List Ts) : Prop := stepsC n c t = (c', t') ∧ ∀ i, i < n → B < (stepsC i c t).2.length
theorem Runs.nil (B : Nat) (c : List HC) (t : List Ts) : Runs B c t 0 c t := ⟨rfl, fun i h => by omega⟩
theorem Runs.one {B : Nat} {c c' : List HC} {t t' : List Ts} (h : stepC c t = (c', t')) (hl : B < t.length) : Runs B c t 1 c' t' :=
  ⟨by rw [stepsC, h]; rfl, fun i hi => by obtain rfl : i = 0 := by omega
                                          exact hl⟩
theorem Runs.low {B B' : Nat} {c c' : List HC} {t t' : List Ts} {n : Nat} (h : Runs B c t n c' t') (hB : B' ≤ B) : Runs B' c t n c' t' := ⟨h.1, fun i hi => Nat.lt_of_le_of_lt hB (h.2 i hi)⟩
theorem Runs.join {B : Nat} {c c1 c2 : List HC} {t t1 t2 : List Ts} {n m : Nat} (h : Runs B c t n c1 t1) (k : Runs B c1 t1 m c2 t2) : Runs B c t (n + m) c2 t2 := by
  refine ⟨by rw [steps_add, h.1]; exact k.1, fun i hi => ?_⟩
  rcases Nat.lt_or_ge i n with h1 | h1
  · exact h.2 i h1
  · obtain ⟨j, rfl⟩ : ∃ j, i = n + j := ⟨i - n, by omega⟩
    rw [steps_add, h.1]
    exact k.2 j (by omega)
/-- How many steps there are. -/
def cntC (c : List HC) : Nat → Int → Nat
  | 0, _ => 0
  | m + 1, p => if (cellT c p).ref ≠ 1 ∨ (cellT c p).leaf = true then 1 else 2 + ((cellT c p).it.map (fun x => 1 + cntC c m x.2)).sum
theorem sum_le4 {f g : It → Nat} : ∀ {r : List It}, (∀ x ∈ r, 1 + f x ≤ 4 * g x) → (r.map (fun x => 1 + f x)).sum ≤ 4 * (r.map g).sum
  | [], _ => by simp
  | y :: r, h => by
    have h1 := h y List.mem_cons_self
    have h2 := sum_le4 (f := f) (g := g) (r := r) (fun x hx => h x (List.mem_cons_of_mem _ hx))
    simp only [List.map_cons, List.sum_cons]
    omega
theorem nodes_len {l : List HC} {m : Nat} {r : List It} : (r.flatMap (fun x => nodesB l m x.2)).length = (r.map (fun x => (nodesB l m x.2).length)).sum := by
  induction r with
  | nil => rfl
  | cons y r ih => rw [List.flatMap_cons, List.length_append, ih]; simp
theorem cnt_le (c : List HC) : ∀ (m : Nat) (p : Int), (bel c m p).is = true → 1 + cntC c m p ≤ 4 * (nodesB c m p).length
  | 0, _, h => (bel_zero h).elim
  | m + 1, p, h => by
    rw [cntC, nodesB]
    split
    · rw [List.length_cons]; omega
    · rename_i hc
      rw [not_or, Decidable.not_not, Bool.not_eq_true] at hc
      rw [hc.2]
      simp only [Bool.false_eq_true, if_false, List.length_cons]
      rw [nodes_len]
      obtain ⟨_, ⟨h1, _⟩ | ⟨_, _, hch⟩⟩ := bel_is h
      · rw [hc.2] at h1; cases h1
      · have := sum_le4 (f := fun x => cntC c m x.2) (g := fun x => (nodesB c m x.2).length) (r := (cellT c p).it) (fun x hx => cnt_le c m x.2 (hch x hx).1)
        omega
theorem cnt_ge {c : List HC} {m : Nat} {p : Int} (h : ¬ ((cellT c p).ref ≠ 1 ∨ (cellT c p).leaf = true)) (hi : (cellT c p).it ≠ []) : 3 ≤ cntC c (m + 1) p := by
  rw [cntC, if_neg h]
  cases hit : (cellT c p).it with
  | nil => exact absurd hit hi
  | cons x r => simp only [List.map_cons, List.sum_cons]; omega
theorem cellT_other {c : List HC} {k : Nat} {X : HC} {j : Int} (h0 : 0 ≤ j) (h : j ≠ (k : Int)) : cellT (c.set k X) j = cellT c j := by
  obtain ⟨i, rfl⟩ := Int.eq_ofNat_of_zero_le h0
  unfold cellT
  rw [Int.toNat_natCast, List.getD_eq_getElem?_getD, List.getD_eq_getElem?_getD, List.getElem?_set_ne (by omega)]
/-- A cell that is loosed where others hold it, or that is a leaf: no other one is changed. -/
theorem loose_set {c : List HC} {k : Nat} (hk : k < c.length) (h0 : 0 < c[k].ref) (h : c[k].ref ≠ 1 ∨ c[k].leaf = true) : ∃ X, looseL (c.length + 1) c (k : Int) = c.set k X ∧ X.ref = c[k].ref - 1 ∧ (1 < c[k].ref → X.leaf = c[k].leaf ∧ X.it = c[k].it) := by
  have hu : usedC c (k : Int) = true := by rw [usedC_at hk]; exact decide_eq_true h0
  have hg : c.getD k HC.none = c[k] := by rw [List.getD_eq_getElem?_getD, List.getElem?_eq_getElem hk]; rfl
  rw [looseL, if_pos hu, Int.toNat_natCast, hg]
  by_cases h1 : 1 < c[k].ref
  · rw [if_pos h1]
    exact ⟨_, rfl, rfl, fun _ => ⟨rfl, rfl⟩⟩
  · rw [if_neg h1]
    have hlf : c[k].leaf = true := by
      rcases h with h | h
      · omega
      · exact h
    rw [hlf]
    refine ⟨⟨0, true, false, []⟩, by simp, ?_, fun h => absurd h h1⟩
    show (0 : Int) = _
    omega
def TreeRun (c0 : List HC) (m : Nat) : Prop := ∀ (p : Int), 0 ≤ p → p < c0.length → (bel c0 m p).is = true → ∀ (c : List HC) (r : List Ts), c.length = c0.length → (∀ j ∈ nodesB c0 m p, cellT c j = cellT c0 j) →
    ∃ c', Runs r.length c ((p, 0) :: r) (cntC c0 m p) c' r ∧ c'.length = c0.length ∧ ∀ j, 0 ≤ j → j ∉ nodesB c0 m p → cellT c' j = cellT c j
theorem run_items {c0 : List HC} (hl : AllR c0) {m k : Nat} (IH : TreeRun c0 m) (hlf : (cellT c0 (k : Int)).leaf = false) (r : List Ts) : ∀ (xs pre : List It), (cellT c0 (k : Int)).it = pre ++ xs → (∀ x ∈ xs, 0 ≤ x.2 ∧ x.2 < c0.length ∧ (bel c0 m x.2).is = true) → ((k : Int) ∉ xs.flatMap (fun x => nodesB c0 m x.2)) → (xs.flatMap (fun x => nodesB c0 m x.2)).Nodup →
    ∀ (d : List HC), d.length = c0.length → (∀ j, j = (k : Int) ∨ j ∈ xs.flatMap (fun x => nodesB c0 m x.2) → cellT d j = cellT c0 j) →
    ∃ d', Runs r.length d (((k : Int), pre.length + 1) :: r) ((xs.map (fun x => 1 + cntC c0 m x.2)).sum) d' (((k : Int), (cellT c0 (k : Int)).it.length + 1) :: r) ∧ d'.length = c0.length ∧ ∀ j, 0 ≤ j → j ∉ xs.flatMap (fun x => nodesB c0 m x.2) → cellT d' j = cellT d j
  | [], pre, hp, _, _, _, d, hd, _ => by
    rw [List.append_nil] at hp
    rw [← hp]
    exact ⟨d, Runs.nil _ _ _, hd, fun _ _ _ => rfl⟩
  | x :: xs, pre, hp, hx, hk, hn, d, hd, hag => by
    rw [List.flatMap_cons] at hk hn hag
    rw [List.nodup_append] at hn
    obtain ⟨n1, n2, n3⟩ := hn
    rw [List.mem_append, not_or] at hk
    obtain ⟨x0, x1, xb⟩ := hx x List.mem_cons_self
    have hcell : (cellT d (k : Int)) = cellT c0 (k : Int) := hag _ (.inl rfl)
    have hst : stepC d (((k : Int), pre.length + 1) :: r) = (d, (x.2, 0) :: ((k : Int), pre.length + 1 + 1) :: r) := by
      rw [stepC, if_neg (by omega), if_neg (by omega), hcell, if_pos (by rw [hp, List.length_append, List.length_cons]; omega)]
      rw [show (cellT c0 (k : Int)).it.getD (pre.length + 1 - 1) (0, 0) = x from by rw [hp, Nat.add_sub_cancel, List.getD_eq_getElem?_getD, List.getElem?_append_right (Nat.le_refl _)]; simp]
    obtain ⟨d1, R1, l1, o1⟩ := IH x.2 x0 x1 xb d (((k : Int), pre.length + 1 + 1) :: r) hd (fun j hj => hag j (.inr (List.mem_append_left _ hj)))
    have hmem0 : ∀ j, j ∈ xs.flatMap (fun x => nodesB c0 m x.2) → j ∉ nodesB c0 m x.2 := fun j hj hj2 => n3 j hj2 j hj rfl
    have hnn : ∀ j, j ∈ xs.flatMap (fun x => nodesB c0 m x.2) → 0 ≤ j := fun j hj => by
      obtain ⟨y, hy, hjy⟩ := List.mem_flatMap.1 hj
      obtain ⟨_, _, _, h5, _, _⟩ := node_in c0 hl m y.2 (hx y (List.mem_cons_of_mem _ hy)).1 (hx y (List.mem_cons_of_mem _ hy)).2.1 (hx y (List.mem_cons_of_mem _ hy)).2.2 j hjy
      exact h5.1
    obtain ⟨d2, R2, l2, o2⟩ := run_items hl IH hlf r xs (pre ++ [x]) (by rw [hp]; simp) (fun y hy => hx y (List.mem_cons_of_mem _ hy)) hk.2 n2 d1 l1 (fun j hj => by
      rcases hj with rfl | hj
      · rw [o1 _ (by omega) hk.1]; exact hag _ (.inl rfl)
      · rw [o1 _ (hnn j hj) (hmem0 j hj)]; exact hag _ (.inr (List.mem_append_right _ hj)))
    rw [List.length_append, List.length_singleton] at R2
    refine ⟨d2, ?_, l2, fun j hj0 hj => ?_⟩
    · rw [List.map_cons, List.sum_cons]
      exact ((Runs.one hst (by simp)).join (R1.low (by simp))).join R2
    · rw [List.flatMap_cons, List.mem_append, not_or] at hj
      rw [o2 j hj0 hj.2, o1 j hj0 hj.1]
theorem run_tree (c0 : List HC) (hl : AllR c0) : ∀ (m : Nat), TreeRun c0 m
  | 0, _, _, _, h, _, _, _, _ => (bel_zero h).elim
  | m + 1, p, h0, h1, hb, c, r, hlen, hag => by
    have hno := nodes_once c0 hl (m + 1) p h0 h1 hb
    obtain ⟨k, rfl⟩ := Int.eq_ofNat_of_zero_le h0
    have hk0 : k < c0.length := by omega
    have hk : k < c.length := by omega
    obtain ⟨hrf, hcc⟩ := bel_is hb
    have hme : (k : Int) ∈ nodesB c0 (m + 1) (k : Int) := by rw [nodesB]; exact List.mem_cons_self
    have hcp := hag _ hme
    rw [cntC]
    by_cases hc : (cellT c0 (k : Int)).ref ≠ 1 ∨ (cellT c0 (k : Int)).leaf = true
    · rw [if_pos hc]
      have hck : cellT c (k : Int) = c[k] := cellT_at hk
      obtain ⟨X, hX, -, -⟩ := loose_set hk (by rw [← hck, hcp]; exact hrf) (by rw [← hck, hcp]; exact hc)
      refine ⟨c.set k X, Runs.one ?_ (by simp), by rw [List.length_set]; exact hlen, fun j hj0 hj => cellT_other hj0 (fun e => hj (by rw [e]; exact hme))⟩
      rw [stepC, if_pos ⟨rfl, by rw [hcp]; exact hc⟩, hX]
    · rw [if_neg hc]
      have hc2 := hc
      rw [not_or, Decidable.not_not, Bool.not_eq_true] at hc2
      obtain ⟨_, _, hch⟩ := hcc.resolve_left (fun h => by rw [hc2.2] at h; cases h.1)
      have hnd : nodesB c0 (m + 1) (k : Int) = (k : Int) :: (cellT c0 (k : Int)).it.flatMap (fun x => nodesB c0 m x.2) := by rw [nodesB, hc2.2]; simp
      rw [hnd] at hno hag
      rw [List.nodup_cons] at hno
      have hok := (cell_ok (hl k hk0) (by rw [← cellT_at hk0]; exact hrf)).2 (by rw [← cellT_at hk0]; exact hc2.2)
      rw [← cellT_at hk0] at hok
      obtain ⟨d, R, l, o⟩ := run_items hl (run_tree c0 hl m) hc2.2 r (cellT c0 (k : Int)).it [] rfl (fun x hx => ⟨(hok x hx).1, by have := (hok x hx).2; omega, (hch x hx).1⟩) hno.1 hno.2 c hlen (fun j hj => hag j (by
        rcases hj with rfl | hj
        · exact List.mem_cons_self
        · exact List.mem_cons_of_mem _ hj))
      have hkd : k < d.length := by omega
      have hdk : cellT d (k : Int) = cellT c0 (k : Int) := by rw [o _ (by omega) hno.1]; exact hcp
      refine ⟨d.set k ⟨0, true, false, []⟩, ?_, by rw [List.length_set]; exact l, fun j hj0 hj => ?_⟩
      · rw [show 2 + ((cellT c0 (k : Int)).it.map (fun x => 1 + cntC c0 m x.2)).sum = 1 + ((cellT c0 (k : Int)).it.map (fun x => 1 + cntC c0 m x.2)).sum + 1 by omega]
        refine ((Runs.one (c' := c) (t' := ((k : Int), 1) :: r) ?_ (by simp)).join R).join (Runs.one ?_ (by simp))
        · rw [stepC, if_neg (by rw [hcp]; exact fun h => hc h.2), if_pos rfl]
        · rw [stepC, if_neg (by omega), if_neg (by omega), hdk, if_neg (by omega), Int.toNat_natCast]
      · rw [hnd, List.mem_cons, not_or] at hj
        rw [cellT_other hj0 hj.1, o j hj0 hj.2]
/-- P11.3: as many steps as there are tasks yet, of one tree. -/
theorem left_count {c : List HC} (hl : AllR c) {p : Int} (h0 : 0 ≤ p) (h1 : p < c.length) (hb : (bel c 20 p).is = true) : (∃ c', stepsC (cntC c 20 p) c [(p, 0)] = (c', [])) ∧ (∀ i, i < cntC c 20 p → (stepsC i c [(p, 0)]).2 ≠ []) ∧ 1 + cntC c 20 p ≤ 4 * (nodesB c 20 p).length := by
  obtain ⟨c', R, -, -⟩ := run_tree c hl 20 p h0 h1 hb c [] rfl (fun _ _ => rfl)
  exact ⟨⟨c', R.1⟩, fun i hi e => by have := R.2 i hi; rw [e] at this; simp at this, cnt_le c 20 p hb⟩
end Go.Proofs.Ytlbhcakjcklmgaa
namespace Go.Proofs.Ytlbhcakjcklmgaa
open Go.RowKit

set_option maxHeartbeats 400000 in
theorem ref08Given_nil (p : Int) (w : World) : Calls Try.prog 33 #[.slice none 0 0, .int .i64 p] w fun e w' => e = .returned (.int .i64 0) ∧ w = w' := by
  go_enter Try.func33, Try.ntmps33
  go_wp2
  go_loopw [5, 6] (fun m v wr => m = .int .i64 0 ∧ v = .int .i64 0 ∧ wr = w) (fun _ _ _ => 0)
  case atStart => exact ⟨rfl, rfl, rfl⟩
  case round =>
    obtain ⟨rfl, rfl, rfl⟩ := hrel
    go_wp2
    go_ret
    exact ⟨rfl, rfl⟩
set_option maxHeartbeats 400000 in
theorem ref06Right_nil (n : Int) (w : World) : Calls Try.prog 29 #[.slice none 0 0, .int .i64 n] w fun e w' => e = .returned (.bool true) ∧ w = w' := by
  go_enter Try.func29, Try.ntmps29
  go_wp2
  go_loopw [5] (fun v wr => v = .int .i64 0 ∧ wr = w) (fun _ _ => 0)
  case atStart => exact ⟨rfl, rfl⟩
  case round =>
    obtain ⟨rfl, rfl⟩ := hrel
    go_wp2
    go_ret
    exact ⟨rfl, rfl⟩
def outR (root p : Int) : Int := if root = p then 1 else 0
set_option maxHeartbeats 800000 in
theorem ref08outside_one (A : Option Addr) (c : Nat) (root p : Int) (w : World) (hA : Sl w A 1 c ([root].map iv)) : Calls Try.prog 34 #[.slice A 1 c, .slice none 0 0, .int .i64 p] w fun e w' => e = .returned (.int .i64 (outR root p)) ∧ w = w' := by
  obtain ⟨b, off, rfl, _, hc⟩ := Cells.num hA.cells (k := 0) (by simp)
  have h0 := hc 0 (by simp)
  simp only [List.getElem_cons_zero, Nat.add_zero] at h0
  clear hc hA
  go_enter Try.func34, Try.ntmps34
  go_wp2
  go_loopw [7, 8] (fun m v wr => wr = w ∧ ((v = .int .i64 0 ∧ m = .int .i64 0) ∨ (v = .int .i64 1 ∧ m = .int .i64 (outR root p)))) (fun _ v _ => (1 - intOf v).toNat)
  case atStart => exact ⟨rfl, .inl ⟨rfl, rfl⟩⟩
  case round =>
    obtain ⟨rfl, (⟨rfl, rfl⟩ | ⟨rfl, rfl⟩)⟩ := hrel
    · by_cases h : root = p
      · have t0 : (root == p) = true := by rw [beq_iff_eq]; exact h
        have HO := Lib.hid (show outR root p = 1 from by unfold outR; rw [if_pos h])
        clear h
        go_wp2
        go_roundw
        case rel => exact ⟨trivial, .inr ⟨by go_num, by rw [HO.out]⟩⟩
        case measure => simp [intOf]
      · have t0 : (root == p) = false := by rw [beq_eq_false_iff_ne]; exact h
        have HO := Lib.hid (show outR root p = 0 from by unfold outR; rw [if_neg h])
        clear h
        go_wp2
        go_roundw
        case rel => exact ⟨trivial, .inr ⟨by go_num, by rw [HO.out]⟩⟩
        case measure => simp [intOf]
    · go_wp2
      go_loopw [7, 9] (fun m v wx => m = .int .i64 (outR root p) ∧ v = .int .i64 0 ∧ wx = wr) (fun _ _ _ => 0)
      case atStart => exact ⟨rfl, rfl, rfl⟩
      case round =>
        obtain ⟨rfl, rfl, rfl⟩ := hrel
        go_wp2
        go_ret
        exact ⟨rfl, rfl⟩
end Go.Proofs.Ytlbhcakjcklmgaa
namespace Go.Proofs.Ytlbhcakjcklmgaa
open Go.RowKit
attribute [local go_sem ↓] Go.wp_at_zero Go.wp_at_succ

theorem count_take {l : List It} {x : Int} {j : Nat} (hj : j < l.length) : ((l.take (j + 1)).map (·.2)).count x = ((l.take j).map (·.2)).count x + (if l[j].2 = x then 1 else 0) := by
  rw [List.take_succ_eq_append_getElem hj, List.map_append, List.count_append]
  congr 1
  by_cases h : l[j].2 = x
  · rw [if_pos h, List.map_cons, List.map_nil, h, List.count_singleton]; simp
  · rw [if_neg h, List.map_cons, List.map_nil, List.count_eq_zero]; simp; exact fun e => h e.symm
set_option maxRecDepth 100000 in
set_option maxHeartbeats 1600000 in
theorem ref08Tells_nil (l : List HC) (k : Nat) (hk : k < l.length) (hit : l[k].it.length ≤ 90000) (R : Option Addr) (n q : Nat) (keep x : Int) (w : World) (hA : HcSl w R n q l) :
    Calls Try.prog 35 #[.agg #[.slice R n q, .int .i64 keep], .slice none 0 0, .int .i64 k, .int .i64 x] w fun e w' => e = .returned (.int .i64 ((tellC l[k]).count x : Nat)) ∧ Ext w w' := by
  have hnl := hA.1
  have hkn : k < n := by omega
  have hx0 := (Ext.refl w).alloc (.cells #[.slice R n q, .int .i64 keep] 24)
  obtain ⟨b, off, rfl, hbl, A, c, r0, r1, r2, r3, hI⟩ := (hA.ext hx0).cell hk
  have hHB := Bx.new w #[.slice (some ⟨b, off, none⟩) n q, .int .i64 keep] 24
  obtain ⟨p0, p1, p2⟩ := hHB.read2
  obtain ⟨⟨rf, pn, lf, it⟩, hcc⟩ : ∃ x, l[k] = x := ⟨_, rfl⟩
  rw [hcc] at r0 r1 r2 r3 hI hit ⊢
  simp only at r0 r1 r2 r3 hI hit
  unfold tellC toldL
  simp only
  obtain ⟨li, hli⟩ : ∃ li, it.length = li := ⟨_, rfl⟩
  rw [hli] at hI r3 hit
  have HLI := Lib.hid hli
  have hst := (Ext.refl (w.alloc (.cells #[.slice (some ⟨b, off, none⟩) n q, .int .i64 keep] 24))).alloc (.cells #[.int .i64 rf, .bool pn, .bool lf, .slice A li c] 38)
  have hbn := Bx.new (w.alloc (.cells #[.slice (some ⟨b, off, none⟩) n q, .int .i64 keep] 24)) #[.int .i64 rf, .bool pn, .bool lf, .slice A li c] 38
  rw [World.size_alloc] at hbn
  obtain ⟨n0, n1, n2, n3⟩ := hbn.read4
  have HX := Lib.hid (hx0.trans hst)
  have HIW := Lib.hid (hI.ext hst)
  clear hcc hk hnl hA hHB hst hx0 hbn hI hli
  by_cases h : 0 < rf ∧ lf = false
  · obtain ⟨h0, rfl⟩ := h
    have d0 : decide (0 < rf) = true := decide_eq_true h0
    rw [if_pos h0]
    simp only [Bool.false_eq_true, if_false]
    go_enter Try.func35, Try.ntmps35
    go_wp2_with (go_at_call 33; refine (ref08Given_nil _ _).mono ?_; rintro e w1 ⟨rfl, rfl⟩)
    generalize World.alloc (World.alloc w _) _ = W at *
    clear p0 p1 p2 r0 r1 r2 r3 hbl
    go_loopw [10, 11] (fun v i wr => ∃ j : Nat, j ≤ li ∧ i = .int .i64 j ∧ v = .int .i64 (((it.take j).map (·.2)).count x : Nat) ∧ wr = W) (fun _ i _ => li - (intOf i).toNat)
    case atStart => exact ⟨0, Nat.zero_le _, rfl, by simp, rfl⟩
    case round =>
      obtain ⟨j, hj, rfl, rfl, rfl⟩ := hrel
      rcases Nat.lt_or_ge j li with hlt | hlt
      · have hjl : j < it.length := by rw [HLI.out]; exact hlt
        obtain ⟨b2, off2, rfl, hb2, a0, a1⟩ := it_at HIW.out hjl
        have hji : (j : Int) < (li : Int) := by omega
        have hcl : ((it.take j).map (·.2)).count x ≤ j := by
          refine Nat.le_trans List.count_le_length ?_
          rw [List.length_map, List.length_take]; omega
        have HCT := Lib.hid (count_take (x := x) hjl)
        generalize ((it.take j).map (·.2)).count x = u at *
        by_cases hx : it[j].2 = x
        · have t0 : (it[j].2 == x) = true := by rw [beq_iff_eq]; exact hx
          rw [if_pos hx] at HCT
          clear hx a0
          generalize it[j].2 = y at *
          go_wp2
          go_roundw
          case rel => exact ⟨j + 1, by omega, by go_num, by rw [HCT.out]; go_num, trivial⟩
          case measure => simp [intOf]; omega
        · have t0 : (it[j].2 == x) = false := by rw [beq_eq_false_iff_ne]; exact hx
          rw [if_neg hx] at HCT
          clear hx a0
          generalize it[j].2 = y at *
          go_wp2
          go_roundw
          case rel => exact ⟨j + 1, by omega, by go_num, by rw [HCT.out]; rfl, trivial⟩
          case measure => simp [intOf]; omega
      · obtain rfl : li = j := by omega
        have d1 : decide ((li : Int) < (li : Int)) = false := decide_eq_false (by omega)
        have HE := Lib.hid (show it.take li = it by rw [← HLI.out, List.take_length])
        rw [HE.out]
        clear hlt
        go_wp2
        go_ret
        exact ⟨rfl, HX.out⟩
  · have hz : (if 0 < rf then (if lf = true then ([] : List Int) else it.map (·.2)) else []).count x = 0 := by
      by_cases h0 : 0 < rf
      · cases lf with
        | false => exact absurd ⟨h0, rfl⟩ h
        | true => simp
      · rw [if_neg h0, List.count_nil]
    rw [hz]
    have hcase : li = 0 ∨ (0 < li ∧ rf ≤ 0) ∨ (0 < li ∧ 0 < rf ∧ lf = true) := by
      rcases Nat.eq_zero_or_pos li with h1 | h1
      · exact .inl h1
      · rcases Int.lt_or_le 0 rf with h0 | h0
        · cases lf with
          | false => exact absurd ⟨h0, rfl⟩ h
          | true => exact .inr (.inr ⟨h1, h0, rfl⟩)
        · exact .inr (.inl ⟨h1, h0⟩)
    clear hz h
    go_enter Try.func35, Try.ntmps35
    go_wp2_with (go_at_call 33; refine (ref08Given_nil _ _).mono ?_; rintro e w1 ⟨rfl, rfl⟩)
    generalize World.alloc (World.alloc w _) _ = W at *
    clear p0 p1 p2 r0 r1 r2 r3 hbl
    go_loopw [10, 11] (fun v i wr => i = .int .i64 0 ∧ v = .int .i64 0 ∧ wr = W) (fun _ _ _ => 0)
    case atStart => exact ⟨rfl, rfl, rfl⟩
    case round =>
      obtain ⟨rfl, rfl, rfl⟩ := hrel
      rcases hcase with rfl | ⟨h1, h2⟩ | ⟨h1, h2, rfl⟩
      · go_wp2
        go_ret
        exact ⟨rfl, HX.out⟩
      · have d0 : decide (0 < rf) = false := decide_eq_false (by omega)
        have d1 : decide ((0 : Int) < (li : Int)) = true := decide_eq_true (by omega)
        have d2 : decide (0 < li) = true := decide_eq_true h1
        go_wp2
        go_ret
        exact ⟨rfl, HX.out⟩
      · have d0 : decide (0 < rf) = true := decide_eq_true h2
        have d1 : decide ((0 : Int) < (li : Int)) = true := decide_eq_true (by omega)
        have d2 : decide (0 < li) = true := decide_eq_true h1
        go_wp2
        go_ret
        exact ⟨rfl, HX.out⟩
end Go.Proofs.Ytlbhcakjcklmgaa
namespace Go.Proofs.Ytlbhcakjcklmgaa
open Go.RowKit
attribute [local go_sem ↓] Go.wp_at_zero Go.wp_at_succ

theorem inn_take {l : List HC} {j : Nat} (hj : j < l.length) (x : Int) : inn (l.take (j + 1)) x = inn (l.take j) x + (tellC l[j]).count x := by
  unfold inn
  rw [List.take_succ_eq_append_getElem hj, List.map_append, List.sum_append]
  simp
theorem tell_le {c : HC} {b : Nat} (h : c.it.length ≤ b) (x : Int) : (tellC c).count x ≤ b := by
  refine Nat.le_trans List.count_le_length ?_
  unfold tellC toldL
  split
  · split
    · simp
    · simpa using h
  · simp
theorem inn_leB : ∀ {l : List HC} {b : Nat} (_ : ∀ c ∈ l, c.it.length ≤ b) (x : Int), inn l x ≤ l.length * b
  | [], b, _, x => by simp [inn]
  | c :: l, b, h, x => by
    have h1 := inn_leB (l := l) (fun d hd => h d (List.mem_cons_of_mem _ hd)) x
    have h2 := tell_le (h c List.mem_cons_self) x
    have h3 : inn (c :: l) x = (tellC c).count x + inn l x := by simp [inn]
    rw [h3, List.length_cons, Nat.succ_mul]
    omega
def refsL (l : List HC) (root : Int) : List Int := (List.range l.length).map (fun k : Nat => outR root (k : Int) + ((inn l (k : Int) : Nat) : Int))
theorem refs_len (l : List HC) (root : Int) : (refsL l root).length = l.length := by unfold refsL; simp
theorem refs_at {l : List HC} {root : Int} {k : Nat} (hk : k < l.length) : (refsL l root)[k]'(by rw [refs_len]; exact hk) = outR root (k : Int) + ((inn l (k : Int) : Nat) : Int) := by unfold refsL; simp
theorem refs_take {l : List HC} {root : Int} {j : Nat} (hj : j < l.length) : (refsL l root).take (j + 1) = (refsL l root).take j ++ [outR root (j : Int) + ((inn l (j : Int) : Nat) : Int)] := by
  rw [List.take_succ_eq_append_getElem (by rw [refs_len]; exact hj), refs_at hj]
theorem outR_le (root p : Int) : 0 ≤ outR root p ∧ outR root p ≤ 1 := by unfold outR; split <;> omega
set_option maxRecDepth 100000 in
set_option maxHeartbeats 3200000 in
theorem ref08Refs_one (l : List HC) (hit : ∀ c ∈ l, c.it.length ≤ 90000) (hn : l.length ≤ 90000) (R : Option Addr) (n q : Nat) (keep : Int) (A : Option Addr) (c : Nat) (root : Int) (w : World) (hA : HcSl w R n q l) (hR : Sl w A 1 c ([root].map iv)) :
    Calls Try.prog 22 #[.agg #[.slice R n q, .int .i64 keep], .slice A 1 c, .slice none 0 0] w fun e w' => ∃ S d, e = .returned (.slice S n d) ∧ Sl w' S n d ((refsL l root).map iv) ∧ Ext w w' := by
  have hnl := hA.1
  have hx0 := (Ext.refl w).alloc (.cells #[.slice R n q, .int .i64 keep] 24)
  have HX := Lib.hid hx0
  have HB := Lib.hid (Bx.new w #[.slice R n q, .int .i64 keep] 24)
  have HA := Lib.hid (hA.ext hx0)
  have HR := Lib.hid (hR.ext hx0)
  have HNL := Lib.hid hnl
  have HIT := Lib.hid hit
  obtain ⟨p0, p1, p2⟩ := HB.out.read2
  have hnn : n ≤ 90000 := by omega
  clear hx0 hA hR hnl hit hn
  go_enter Try.func22, Try.ntmps22
  go_wp2
  generalize hW : World.alloc w _ = W at *
  have HWS := Lib.hid (show W.heap.size = w.heap.size + 1 by rw [← hW, World.size_alloc])
  clear p0 p1 p2 hW
  go_loopw [7, 8] (fun v i wr => ∃ (j : Nat) (S : Option Addr) (d : Nat), j ≤ n ∧ i = .int .i64 j ∧ v = .slice S j d ∧ wr.ownsRow (w.heap.size + 1) 3 1 (.slice S j d) j (((refsL l root).take j).map iv) ∧ Ext W wr ∧ Bx wr w.heap.size #[.slice R n q, .int .i64 keep]) (fun _ i _ => n - (intOf i).toNat)
  case atStart => exact ⟨0, none, 0, Nat.zero_le _, rfl, rfl, ⟨rfl, .inl ⟨rfl, rfl⟩⟩, Ext.refl _, HB.out⟩
  case round =>
    obtain ⟨j, S, d, hj, rfl, rfl, ho, hx, hb⟩ := hrel
    have HO := Lib.hid ho
    have HXR := Lib.hid hx
    have HBR := Lib.hid hb
    obtain ⟨p0, p1, p2⟩ := hb.read2
    clear ho hx hb
    rcases Nat.lt_or_ge j n with hlt | hlt
    · have hjl : j < l.length := by rw [← HNL.out]; exact hlt
      have hji : (j : Int) < (n : Int) := by omega
      have HRJ := Lib.hid (refs_take (root := root) hjl)
      have HC1 := Lib.hid (ref08outside_one A c root (j : Int) wr (HR.out.ext HXR.out))
      clear hjl
      go_wp2_with (go_at_call 34; refine HC1.out.mono ?_; rintro e w1 ⟨rfl, rfl⟩)
      have hO2 := outR_le root (j : Int)
      have HOR := Lib.hid (show outR root (j : Int) + ((inn (l.take 0) (j : Int) : Nat) : Int) = outR root (j : Int) by simp [inn])
      go_loopw [9, 10] (fun m i wx => ∃ u : Nat, u ≤ n ∧ i = .int .i64 u ∧ m = .int .i64 (outR root (j : Int) + ((inn (l.take u) (j : Int) : Nat) : Int)) ∧ Ext wr wx ∧ Bx wx w.heap.size #[.slice R n q, .int .i64 keep]) (fun _ i _ => n - (intOf i).toNat)
      case atStart => exact ⟨0, Nat.zero_le _, rfl, by rw [HOR.out], Ext.refl _, HBR.out⟩
      case round =>
        obtain ⟨u, hu, rfl, rfl, hx, hb⟩ := hrel
        have HXX := Lib.hid hx
        have HBX := Lib.hid hb
        clear p0 p1 p2
        obtain ⟨p0, p1, p2⟩ := hb.read2
        clear hx hb
        have hle : inn (l.take u) (j : Int) ≤ 8100000000 := Nat.le_trans (inn_leB (b := 90000) (fun c hc => HIT.out c (List.mem_of_mem_take hc)) _) (Nat.le_trans (Nat.mul_le_mul_right _ (Nat.le_trans (by rw [List.length_take]; exact Nat.min_le_left _ _) (Nat.le_trans hu hnn))) (by decide))
        rcases Nat.lt_or_ge u n with hlu | hlu
        · have hul : u < l.length := by rw [← HNL.out]; exact hlu
          have hui : (u : Int) < (n : Int) := by omega
          have HIN := Lib.hid (inn_take hul (j : Int))
          have hct := tell_le (HIT.out l[u] (List.getElem_mem hul)) (j : Int)
          have HTE := Lib.hid (ref08Tells_nil l u hul (HIT.out l[u] (List.getElem_mem hul)) R n q keep (j : Int) wr (HA.out.ext (HXR.out.trans HXX.out)))
          generalize inn (l.take u) (j : Int) = a at *
          generalize (tellC l[u]).count (j : Int) = g at *
          generalize outR root (j : Int) = o at *
          clear hul
          go_wp2_with (go_at_call 35; refine HTE.out.mono ?_; rintro e w2 ⟨rfl, hx2⟩; have HX2 := Lib.hid (HXX.out.trans hx2); have HB2 := Lib.hid (HBX.out.ext hx2); clear hx2 p0 p1 p2)
          go_roundw
          case rel => exact ⟨u + 1, by omega, by go_num, by rw [HIN.out]; go_num, HX2.out, HB2.out⟩
          case measure => simp [intOf]; omega
        · obtain rfl : n = u := by omega
          have d1 : decide ((n : Int) < (n : Int)) = false := decide_eq_false (by omega)
          have HE := Lib.hid (show l.take n = l by rw [HNL.out, List.take_length])
          rw [HE.out] at hle ⊢
          generalize inn l (j : Int) = a at *
          generalize outR root (j : Int) = o at *
          go_wp2_with (at_builtin; refine stop_here ?_)
          refine stop_on ?_
          refine wpList_app_sl _ rfl _ _ 25 rfl (w.heap.size + 1) 3 (.int .i64 0) 1 8 Try.underlying25 infoI1 rfl (by omega) _ j _ rfl (own_ext HO.out (HXX.out.alloc _)) _ 1 1 [iv (o + (a : Int))] rfl (by simp) (sl_lit' rfl _ 1 _ (by unfold maxLen; omega)) (iv_one [o + (a : Int)]) (by unfold maxLen; omega) (by omega) (by have := HBX.out.read2.2.2; simp; omega) ?_
          intro A5 c5 w5 hown hg
          have HO4 := Lib.hid (own_ext HO.out (HXX.out.alloc (.cells #[.int .i64 (o + (a : Int))] 3)))
          have HX5 := Lib.hid (Ext.app (HXR.out.trans (HXX.out.alloc _)) (own_ext HO.out (HXX.out.alloc _)) (by have := HWS.out; omega) hg)
          have HB5 := Lib.hid ((HBX.out.ext ((Ext.refl _).alloc (.cells #[.int .i64 (o + (a : Int))] 3))).grown hg (own_old HO4.out (by omega)))
          have HO5 := Lib.hid (show w5.ownsRow (w.heap.size + 1) 3 1 (.slice A5 (j + 1) c5) (j + 1) (((refsL l root).take (j + 1)).map iv) by rw [HRJ.out, List.map_append]; exact hown)
          clear hown hg
          go_wp2_with fail
          go_roundw
          case rel => exact ⟨j + 1, A5, c5, by omega, by go_num, rfl, HO5.out, HX5.out, HB5.out⟩
          case measure => simp [intOf]; omega
    · obtain rfl : n = j := by omega
      have d1 : decide ((n : Int) < (n : Int)) = false := decide_eq_false (by omega)
      have HE := Lib.hid (show (refsL l root).take n = refsL l root by rw [HNL.out, ← refs_len l root, List.take_length])
      rw [HE.out] at HO
      clear hlt
      go_wp2
      go_ret
      exact ⟨S, d, rfl, own_sl HO.out, HX.out.trans HXR.out⟩
end Go.Proofs.Ytlbhcakjcklmgaa
