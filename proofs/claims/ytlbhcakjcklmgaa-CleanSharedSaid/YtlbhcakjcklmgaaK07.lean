/- What is found hangs on no fuel; what a node's items lead to. No program in sight. The walk of Scan of the reference of layer 7. What the walk of below of the reference of layer 7 leans on: boxes of four cells, heights, first and last keys. A tree's nodes: each once, the root first; their leaves' items are all. No program in sight. Cells that are counted: what refers to each; what is laid, and what is loosed, keeps the count. No program in sight. -/
import Derived.Test.YtlbhcakjcklmgaaK06
import Derived.Test.YtlbhcakjcklmgaaK05
namespace Go.Proofs.Ytlbhcakjcklmgaa
open Go.RowKit

theorem belRow_congr {f g : Int → Gt} : ∀ {r : List It} {i : Nat} {o : Gt}, (∀ x ∈ r, g x.2 = f x.2) → belRow g i r o = belRow f i r o
  | [], _, _, _ => rfl
  | x :: r, i, o, h => by
    unfold belRow
    rw [h x List.mem_cons_self, belRow_congr (fun y hy => h y (List.mem_cons_of_mem _ hy))]
theorem flatMap_congr' {α β : Type} {f g : α → List β} : ∀ {r : List α}, (∀ x ∈ r, g x = f x) → r.flatMap g = r.flatMap f
  | [], _ => rfl
  | x :: r, h => by
    rw [List.flatMap_cons, List.flatMap_cons, h x List.mem_cons_self, flatMap_congr' (fun y hy => h y (List.mem_cons_of_mem _ hy))]
theorem bel_mono (l : List HC) : ∀ (m m' : Nat) (p : Int), (bel l m p).is = true → m ≤ m' → bel l m' p = bel l m p
  | 0, _, _, h, _ => (bel_zero h).elim
  | m + 1, 0, _, _, h => by omega
  | m + 1, m' + 1, p, h, hm => by
    obtain ⟨hr, hc⟩ := bel_is h
    rw [bel, if_neg (by omega)]
    rcases hc with ⟨hlf, e⟩ | ⟨hlf, e, hch⟩
    · rw [hlf, if_pos rfl, e]
    · rw [hlf, e]
      simp only [Bool.false_eq_true, if_false]
      exact belRow_congr (fun x hx => bel_mono l m m' x.2 (hch x hx).1 (by omega))
theorem listB_mono (l : List HC) : ∀ (m m' : Nat) (p : Int), (bel l m p).is = true → m ≤ m' → listB l m' p = listB l m p
  | 0, _, _, h, _ => (bel_zero h).elim
  | m + 1, 0, _, _, h => by omega
  | m + 1, m' + 1, p, h, hm => by
    obtain ⟨hr, hc⟩ := bel_is h
    rw [listB, listB]
    rcases hc with ⟨hlf, e⟩ | ⟨hlf, e, hch⟩
    · rw [hlf, if_pos rfl, if_pos rfl]
    · rw [hlf]
      simp only [Bool.false_eq_true, if_false]
      exact flatMap_congr' (fun x hx => listB_mono l m m' x.2 (hch x hx).1 (by omega))
theorem nodesB_mono (l : List HC) : ∀ (m m' : Nat) (p : Int), (bel l m p).is = true → m ≤ m' → nodesB l m' p = nodesB l m p
  | 0, _, _, h, _ => (bel_zero h).elim
  | m + 1, 0, _, _, h => by omega
  | m + 1, m' + 1, p, h, hm => by
    obtain ⟨hr, hc⟩ := bel_is h
    rw [nodesB, nodesB]
    rcases hc with ⟨hlf, e⟩ | ⟨hlf, e, hch⟩
    · rw [hlf, if_pos rfl, if_pos rfl]
    · rw [hlf]
      simp only [Bool.false_eq_true, if_false]
      rw [flatMap_congr' (fun x hx => nodesB_mono l m m' x.2 (hch x hx).1 (by omega))]
theorem filter_all' {xs : List It} {P : It → Bool} (h : ∀ x ∈ xs, P x = true) : xs.filter P = xs := List.filter_eq_self.2 h
/-- All keys: a scan from 0 to behind the greatest number is all. -/
theorem scan_whole {l : List HC} {keep root : Int} (hl : AllR l) (hr : rightR ⟨l, keep⟩ root = true) : scanT l root 0 2147483648 = listT l root := by
  rw [scan_is]
  refine filter_all' (fun x hx => ?_)
  have h := (listT_asc hl hr).2 x hx
  unfold okIt at h
  rw [inR_iff]
  omega
/-- The root of a right tree that has one: its cell, and what is below. -/
structure RootF (l : List HC) (keep root : Int) (k : Nat) (hk : k < l.length) : Prop where
  at_ : root = (k : Int)
  ref : 0 < l[k].ref
  nd : NdR l[k].it
  leaf : l[k].leaf = true → listT l root = l[k].it
  inner : l[k].leaf = false → (listT l root = l[k].it.flatMap (fun x => listT l x.2)) ∧ ∀ x ∈ l[k].it, rightR ⟨l, keep⟩ x.2 = true ∧ 0 ≤ x.2 ∧ x.2 < l.length ∧ highT l x.2 = highT l root - 1 ∧ (∃ y r, listT l x.2 = y :: r ∧ y.1 = x.1)
theorem rightR_of {l : List HC} {keep p : Int} (h0 : 0 ≤ p) (h1 : p < l.length) (hb : (bel l 20 p).is = true) : rightR ⟨l, keep⟩ p = true := by
  obtain ⟨k, rfl⟩ := Int.eq_ofNat_of_zero_le h0
  have hk : k < l.length := by omega
  have hr := (bel_is (m := 19) hb).1
  rw [cellT_at hk] at hr
  unfold rightR
  rw [show usedH ⟨l, keep⟩ (k : Int) = true from by show usedC l (k : Int) = true; rw [usedC_at hk, decide_eq_true hr], hb]
  simp
theorem root_facts {l : List HC} {keep root : Int} (hl : AllR l) (hr : rightR ⟨l, keep⟩ root = true) (h0 : 0 ≤ root) : ∃ k, ∃ hk : k < l.length, RootF l keep root k hk := by
  rcases rightR_iff hr with h | ⟨_, h1, hb⟩
  · omega
  obtain ⟨k, rfl⟩ := Int.eq_ofNat_of_zero_le h0
  have hk : k < l.length := by omega
  obtain ⟨hrf, hc⟩ := bel_is (m := 19) hb
  rw [cellT_at hk] at hrf hc
  have hok := cell_ok (hl k hk) hrf
  refine ⟨k, hk, rfl, hrf, hok.1, fun hlf => ?_, fun hlf => ?_⟩
  · unfold listT
    rw [if_neg (by omega), listB, cellT_at hk, hlf, if_pos rfl]
  · rcases hc with ⟨hlf', _⟩ | ⟨_, e, hch⟩
    · rw [hlf] at hlf'; cases hlf'
    have hx20 : ∀ x ∈ l[k].it, (bel l 20 x.2).is = true ∧ bel l 20 x.2 = bel l 19 x.2 := fun x hx => by
      have := bel_mono l 19 20 x.2 (hch x hx).1 (by omega)
      exact ⟨by rw [this]; exact (hch x hx).1, this⟩
    refine ⟨?_, fun x hx => ?_⟩
    · unfold listT
      rw [if_neg (by omega), listB, cellT_at hk, hlf]
      simp only [Bool.false_eq_true, if_false]
      refine flatMap_congr' (fun x hx => ?_)
      have hp := (hok.2 hlf x hx).1
      rw [if_neg (by omega)]
      exact (listB_mono l 19 20 x.2 (hch x hx).1 (by omega)).symm
    · have hp := hok.2 hlf x hx
      have hs := listB_spans l hl 20 x.2 hp.1 (by omega) (hx20 x hx).1
      obtain ⟨y, r, he, hy⟩ := hs.head
      refine ⟨rightR_of hp.1 (by omega) (hx20 x hx).1, hp.1, by omega, ?_, y, r, ?_, ?_⟩
      · unfold highT
        rw [if_neg (by omega), if_neg (by omega), (hx20 x hx).2]
        have h9 : (bel l 19 x.2).high + 1 = (bel l 20 (k : Int)).high := (hch x hx).2.2
        omega
      · unfold listT
        rw [if_neg (by omega)]
        exact he
      · rw [hy, (hx20 x hx).2]
        exact (hch x hx).2.1
end Go.Proofs.Ytlbhcakjcklmgaa
namespace Go.Proofs.Ytlbhcakjcklmgaa
open Go.RowKit
attribute [local go_sem ↓] Go.wp_at_zero Go.wp_at_succ

/-- append of items onto a row of the call's own, however many. -/
theorem app_itemsW (w : World) {ops : Array Oper} {rest : List Oper} {o : Oper} {a : Act} {Q : Exit → Act → World → Prop} (hgd : o.guard = none) (s x : Operand)
    (ho : o.op = .call { callee := .builtin .append, args := #[s, x], argTypes := #[34, 34] })
    (B : Nat) (v : Value) (n : Nat) (l : List It) (hs : a.eval s = v) (hown : w.ownsRow B 46 2 v n (ivs l))
    (A : Option Addr) (m c : Nat) (k : List It) (hx : a.eval x = .slice A m c) (hl : k.length = m) (hS : Sl w A m c (ivs k))
    (hsz : n + m ≤ 4398046511104) (hB : B ≤ w.heap.size)
    (h : ∀ A' c' w', w'.ownsRow B 46 2 (.slice A' (n + m) c') (n + m) (ivs (l ++ k)) → w.grownBy w' v.ownBlock → wpList Try.prog ops Q rest (a.put o.dst (.slice A' (n + m) c')) w') : wpList Try.prog ops Q (o :: rest) a w := by
  refine wpList_app_sl w hgd s x 34 ho B 46 (.agg #[.int .i64 0, .int .i64 0]) 2 16 Try.underlying34 infoIt rfl (by omega) v n (ivs l) hs hown A m c (ivs k) hx (by rw [ivs_length, hl]) hS (ivs_oneCell k) (by unfold maxLen; omega) (by omega) hB ?_
  intro A' c' w' h1 h2
  rw [← ivs_append] at h1
  exact h A' c' w' h1 h2
theorem sl_lit' {w : World} {z : Nat} (hz : z = w.heap.size) (e n : Nat) (xs : List Value) (hn : n ≤ maxLen) : Sl (w.alloc (.cells xs.toArray e)) (some ⟨z, 0, none⟩) n n xs := by subst hz; exact sl_lit w e n xs hn
theorem filter_take {l : List It} (P : It → Bool) {j : Nat} (hj : j < l.length) : (l.take (j + 1)).filter P = (l.take j).filter P ++ (if P l[j] then [l[j]] else []) := by
  rw [List.take_succ_eq_append_getElem hj, List.filter_append]
  congr 1
  simp only [List.filter_cons, List.filter_nil]
end Go.Proofs.Ytlbhcakjcklmgaa
namespace Go.Proofs.Ytlbhcakjcklmgaa
open Go.RowKit
attribute [local go_sem ↓] Go.wp_at_zero Go.wp_at_succ

theorem Bx.free4 {w : World} {k : Nat} {a b c d : Value} (h : Bx w k #[a, b, c, d]) : w.frozen? ⟨k, 0, none⟩ = false ∧ w.frozen? ⟨k, 1, none⟩ = false ∧ w.frozen? ⟨k, 2, none⟩ = false ∧ w.frozen? ⟨k, 3, none⟩ = false := ⟨h.free 0, h.free 1, h.free 2, h.free 3⟩
theorem Bx.set4 {w : World} {k : Nat} {a b c d : Value} (h : Bx w k #[a, b, c, d]) (x y z u : Value) : Bx ((((w.setCell ⟨k, 0, none⟩ x).setCell ⟨k, 1, none⟩ y).setCell ⟨k, 2, none⟩ z).setCell ⟨k, 3, none⟩ u) k #[x, y, z, u] := (((h.set 0 x).set 1 y).set 2 z).set 3 u
theorem Bx.other4 {w : World} {k j : Nat} {cs : Array Value} (h : Bx w k cs) (hj : j ≠ k) (x y z u : Value) : Bx ((((w.setCell ⟨j, 0, none⟩ x).setCell ⟨j, 1, none⟩ y).setCell ⟨j, 2, none⟩ z).setCell ⟨j, 3, none⟩ u) k cs :=
  (((h.set_other (p := ⟨j, 0, none⟩) hj x).set_other (p := ⟨j, 1, none⟩) hj y).set_other (p := ⟨j, 2, none⟩) hj z).set_other (p := ⟨j, 3, none⟩) hj u
theorem Ext.store4 {w0 w : World} (h : Ext w0 w) {k : Nat} (hk : w0.heap.size ≤ k) (x y z u : Value) : Ext w0 ((((w.setCell ⟨k, 0, none⟩ x).setCell ⟨k, 1, none⟩ y).setCell ⟨k, 2, none⟩ z).setCell ⟨k, 3, none⟩ u) :=
  (((h.set (p := ⟨k, 0, none⟩) hk x).set (p := ⟨k, 1, none⟩) hk y).set (p := ⟨k, 2, none⟩) hk z).set (p := ⟨k, 3, none⟩) hk u
theorem Bx.drew {w : World} {k : Nat} {cs : Array Value} (h : Bx w k cs) : Bx w.drew k cs := h
theorem ret4_cell {P : Program} {fn : Func} {R : Ending → World → Prop} {a : Act} {W : World} {v : Value} {k : Nat} {x y z u : Value} (hb : Bx W k #[x, y, z, u])
    (h : W.cell? ⟨k, 0, none⟩ = some x → W.cell? ⟨k, 1, none⟩ = some y → W.cell? ⟨k, 2, none⟩ = some z → W.cell? ⟨k, 3, none⟩ = some u → (results fn a.tmps).run P W = .ok v W) (hd : a.defers = []) (hR : R (.returned v) W) : bodyPost P fn R .ret a W :=
  bodyPost_ret (h hb.read4.1 hb.read4.2.1 hb.read4.2.2.1 hb.read4.2.2.2) hd hR
def gv (g : Gt) : Value := .agg #[.int .i64 g.lo, .int .i64 g.hi, .int .i64 g.high, .bool g.is]
theorem belRow_high {f : Int → Gt} {b : Int} (hb : 0 ≤ b) : ∀ {r : List It} {i : Nat} {o : Gt}, (∀ x ∈ r, 0 ≤ (f x.2).high ∧ (f x.2).high ≤ b) → (0 ≤ o.high ∧ o.high ≤ b + 1) → 0 ≤ (belRow f i r o).high ∧ (belRow f i r o).high ≤ b + 1
  | [], i, o, _, h => h
  | x :: r, i, o, hf, h => by
    unfold belRow
    split
    · exact ⟨by simp [Gt.no], by simp [Gt.no]; omega⟩
    · refine belRow_high hb (fun y hy => hf y (List.mem_cons_of_mem _ hy)) ?_
      have := hf x List.mem_cons_self
      unfold nextR
      split <;> simp only <;> omega
theorem bel_high (l : List HC) : ∀ (m : Nat) (p : Int), 0 ≤ (bel l m p).high ∧ (bel l m p).high ≤ m
  | 0, p => by simp [bel, Gt.no]
  | m + 1, p => by
    unfold bel
    split
    · exact ⟨by simp [Gt.no], by simp [Gt.no]; omega⟩
    · split
      · exact ⟨by simp, by simp only; omega⟩
      · have h := belRow_high (f := bel l m) (b := m) (by omega) (r := (cellT l p).it) (i := 0) (o := Gt.no) (fun x _ => bel_high l m x.2) (by simp [Gt.no]; omega)
        exact ⟨h.1, by have := h.2; omega⟩
theorem firstK_at {it : List It} (h : 0 < it.length) : firstK it = it[0].1 := by unfold firstK; rw [List.getD_eq_getElem?_getD, List.getElem?_eq_getElem h]; rfl
theorem lastK_at {it : List It} (h : 0 < it.length) : lastK it = (it[it.length - 1]'(by omega)).1 := by unfold lastK; rw [List.getD_eq_getElem?_getD, List.getElem?_eq_getElem (by omega)]; rfl
theorem Bx.drewN {w : World} {k : Nat} {cs : Array Value} (h : Bx w k cs) (n : Nat) : Bx (w.drewN n) k cs := h
theorem belRow_bad {f : Int → Gt} {it : List It} {j : Nat} {o : Gt} (hj : j < it.length) (h : badR j it[j] (f it[j].2) o = true) : belRow f j (it.drop j) o = Gt.no := by
  rw [List.drop_eq_getElem_cons hj, belRow, if_pos h]
theorem belRow_good {f : Int → Gt} {it : List It} {j : Nat} {o : Gt} (hj : j < it.length) (h : badR j it[j] (f it[j].2) o = false) : belRow f j (it.drop j) o = belRow f (j + 1) (it.drop (j + 1)) (nextR j (f it[j].2) o) := by
  rw [List.drop_eq_getElem_cons hj, belRow, h]; rfl
end Go.Proofs.Ytlbhcakjcklmgaa
namespace Go.Proofs.Ytlbhcakjcklmgaa
open Go.RowKit

/-- What each node of a right tree is. -/
theorem node_in (l : List HC) (hl : AllR l) : ∀ (m : Nat) (p : Int), 0 ≤ p → p < l.length → (bel l m p).is = true → ∀ y ∈ nodesB l m p,
    ∃ m' : Nat, m' ≤ m ∧ (bel l m' y).is = true ∧ (0 ≤ y ∧ y < l.length) ∧ (bel l m' y).high ≤ (bel l m p).high ∧ ∀ z ∈ listB l m' y, z ∈ listB l m p
  | 0, p, _, _, h, _, _ => (bel_zero h).elim
  | m + 1, p, h0, h1, h, y, hy => by
    obtain ⟨k, rfl⟩ := Int.eq_ofNat_of_zero_le h0
    have hk : k < l.length := by omega
    obtain ⟨hr, hc⟩ := bel_is h
    have hr2 := hr
    rw [cellT_at hk] at hr
    have hok := cell_ok (hl k hk) hr
    rw [nodesB] at hy
    rcases List.mem_cons.1 hy with rfl | hy
    · exact ⟨m + 1, Nat.le_refl _, h, ⟨h0, h1⟩, Int.le_refl _, fun z hz => hz⟩
    · rcases hc with ⟨hlf, _⟩ | ⟨hlf, e, hch⟩
      · rw [hlf] at hy; simp at hy
      · rw [hlf] at hy
        simp only [Bool.false_eq_true, if_false] at hy
        obtain ⟨x, hx, hy⟩ := List.mem_flatMap.1 hy
        have hx' : x ∈ l[k].it := by rw [cellT_at hk] at hx; exact hx
        have hlf' : l[k].leaf = false := by rw [cellT_at hk] at hlf; exact hlf
        obtain ⟨c1, c2, c3⟩ := hch x hx
        have hp := hok.2 hlf' x hx'
        obtain ⟨m', d1, d2, d3, d4, d5⟩ := node_in l hl m x.2 hp.1 (by omega) c1 y hy
        refine ⟨m', by omega, d2, d3, by omega, fun z hz => ?_⟩
        rw [listB, hlf]
        simp only [Bool.false_eq_true, if_false]
        exact List.mem_flatMap.2 ⟨x, hx, d5 z hz⟩
theorem belRow_pair {f : Int → Gt} : ∀ {r : List It} {i : Nat} {o : Gt}, (∀ x ∈ r, (f x.2).lo ≤ (f x.2).hi) → (belRow f i r o).is = true →
    r.Pairwise (fun a b => (f a.2).hi < (f b.2).lo) ∧ (0 < i → ∀ x ∈ r, o.hi < (f x.2).lo)
  | [], _, _, _, _ => ⟨List.Pairwise.nil, fun _ x hx => by cases hx⟩
  | x :: r, i, o, hs, hb => by
    unfold belRow at hb
    cases hbad : badR i x (f x.2) o
    · rw [hbad] at hb
      simp only [Bool.false_eq_true, if_false] at hb
      obtain ⟨h1, h2⟩ := belRow_pair (fun y hy => hs y (List.mem_cons_of_mem _ hy)) hb
      have hnx : (nextR i (f x.2) o).hi = (f x.2).hi := rfl
      have h3 := h2 (by omega)
      rw [hnx] at h3
      refine ⟨List.pairwise_cons.2 ⟨fun y hy => h3 y hy, h1⟩, fun hi y hy => ?_⟩
      unfold badR at hbad
      simp only [Bool.or_eq_false_iff, Bool.and_eq_false_iff, decide_eq_false_iff_not] at hbad
      have hlt : o.hi < (f x.2).lo := by
        rcases hbad.2.2 with b | b
        · omega
        · omega
      rcases List.mem_cons.1 hy with rfl | hy
      · exact hlt
      · have h4 := h3 y hy
        have h5 := hs x List.mem_cons_self
        omega
    · rw [hbad] at hb; simp [Gt.no] at hb
theorem nodup_fm {α : Type} {g : α → List Int} : ∀ {r : List α}, (∀ x ∈ r, (g x).Nodup) → r.Pairwise (fun a b => ∀ y, y ∈ g a → y ∉ g b) → (r.flatMap g).Nodup
  | [], _, _ => by simp
  | x :: r, h, hp => by
    obtain ⟨h1, h2⟩ := List.pairwise_cons.1 hp
    rw [List.flatMap_cons, List.nodup_append]
    refine ⟨h x List.mem_cons_self, nodup_fm (fun y hy => h y (List.mem_cons_of_mem _ hy)) h2, ?_⟩
    intro a ha b hb e
    subst e
    obtain ⟨z, hz, hb⟩ := List.mem_flatMap.1 hb
    exact h1 z hz a ha hb
/-- Each node stands once. -/
theorem nodes_once (l : List HC) (hl : AllR l) : ∀ (m : Nat) (p : Int), 0 ≤ p → p < l.length → (bel l m p).is = true → (nodesB l m p).Nodup
  | 0, p, _, _, h => (bel_zero h).elim
  | m + 1, p, h0, h1, h => by
    obtain ⟨k, rfl⟩ := Int.eq_ofNat_of_zero_le h0
    have hk : k < l.length := by omega
    obtain ⟨hr, hc⟩ := bel_is h
    rw [cellT_at hk] at hr
    have hok := cell_ok (hl k hk) hr
    rw [nodesB]
    rcases hc with ⟨hlf, _⟩ | ⟨hlf, e, hch⟩
    · rw [hlf, if_pos rfl]; simp
    · rw [hlf]
      simp only [Bool.false_eq_true, if_false]
      have hx' : ∀ x ∈ (cellT l (k : Int)).it, 0 ≤ x.2 ∧ x.2 < l.length := fun x hx => by
        rw [cellT_at hk] at hx hlf
        exact hok.2 hlf x hx
      rw [List.nodup_cons]
      constructor
      · intro hin
        obtain ⟨x, hx, hy⟩ := List.mem_flatMap.1 hin
        obtain ⟨c1, c2, c3⟩ := hch x hx
        obtain ⟨m', d1, d2, d3, d4, d5⟩ := node_in l hl m x.2 (hx' x hx).1 (hx' x hx).2 c1 _ hy
        rw [bel_mono l m' (m + 1) _ d2 (by omega)] at c3
        omega
      · have hsp : ∀ x ∈ (cellT l (k : Int)).it, Spans (listB l m x.2) (bel l m x.2).lo (bel l m x.2).hi := fun x hx => listB_spans l hl m x.2 (hx' x hx).1 (hx' x hx).2 (hch x hx).1
        rw [e] at h
        have hpw := (belRow_pair (f := bel l m) (fun x hx => (hsp x hx).le2) h).1
        refine nodup_fm (fun x hx => nodes_once l hl m x.2 (hx' x hx).1 (hx' x hx).2 (hch x hx).1) ?_
        refine List.Pairwise.imp_of_mem ?_ hpw
        intro a b ha hb hlt y hya hyb
        obtain ⟨m1, a1, a2, a3, _, a5⟩ := node_in l hl m a.2 (hx' a ha).1 (hx' a ha).2 (hch a ha).1 y hya
        obtain ⟨m2, b1, b2, b3, _, b5⟩ := node_in l hl m b.2 (hx' b hb).1 (hx' b hb).2 (hch b hb).1 y hyb
        have e1 := listB_mono l m1 m y a2 a1
        have e2 := listB_mono l m2 m y b2 b1
        have hs := listB_spans l hl m1 y a3.1 a3.2 a2
        obtain ⟨z, r, hz, _⟩ := hs.head
        have hz1 : z ∈ listB l m1 y := by rw [hz]; exact List.mem_cons_self
        have hz2 : z ∈ listB l m2 y := by rw [← e2, e1]; exact hz1
        have k1 := (hsp a ha).le z (a5 z hz1)
        have k2 := (hsp b hb).ge z (b5 z hz2)
        omega
/-- A node's own items, if it is a leaf. -/
def leafI (l : List HC) (y : Int) : List It := if (cellT l y).leaf then (cellT l y).it else []
theorem leaves_all (l : List HC) : ∀ (m : Nat) (p : Int), (bel l m p).is = true → (nodesB l m p).flatMap (leafI l) = listB l m p
  | 0, p, h => (bel_zero h).elim
  | m + 1, p, h => by
    obtain ⟨hr, hc⟩ := bel_is h
    rw [nodesB, listB, List.flatMap_cons]
    rcases hc with ⟨hlf, _⟩ | ⟨hlf, e, hch⟩
    · unfold leafI
      rw [hlf]; simp
    · have h0 : leafI l p = [] := by unfold leafI; rw [hlf]; rfl
      rw [hlf, h0]
      simp only [Bool.false_eq_true, if_false, List.nil_append]
      rw [List.flatMap_assoc]
      exact flatMap_congr' (fun x hx => leaves_all l m x.2 (hch x hx).1)
structure NodesF (l : List HC) (root : Int) (L : List Int) : Prop where
  once : L.Nodup
  used : ∀ i (hi : i < L.length), ∃ j, ∃ hj : j < l.length, L[i] = (j : Int) ∧ 0 < l[j].ref
  head : 0 < L.length ∧ ∀ h : 0 < L.length, L[0] = root
  all : L.flatMap (leafI l) = listT l root
  kids : ∀ x ∈ (cellT l root).it, (cellT l root).leaf = false → x.2 ∈ L
  high : 1 ≤ highT l root ∧ highT l root ≤ 20
  len : L.length ≤ 4398046511104
theorem self_node {l : List HC} {m : Nat} {p : Int} (h : (bel l m p).is = true) : p ∈ nodesB l m p := by
  cases m with
  | zero => exact (bel_zero h).elim
  | succ m => rw [nodesB]; exact List.mem_cons_self
theorem bel_pos (l : List HC) (hl : AllR l) : ∀ (m : Nat) (p : Int), 0 ≤ p → p < l.length → (bel l m p).is = true → 1 ≤ (bel l m p).high
  | 0, p, _, _, h => (bel_zero h).elim
  | m + 1, p, h0, h1, h => by
    obtain ⟨k, rfl⟩ := Int.eq_ofNat_of_zero_le h0
    have hk : k < l.length := by omega
    obtain ⟨hr, hc⟩ := bel_is h
    rw [cellT_at hk] at hr hc
    have hok := cell_ok (hl k hk) hr
    rcases hc with ⟨hlf, e⟩ | ⟨hlf, e, hch⟩
    · rw [e]; simp
    · have hlen := hok.1.1.1
      have hx : l[k].it[0] ∈ l[k].it := List.getElem_mem (by omega)
      have h2 := (hch _ hx).2.2
      have h3 := (bel_high l m l[k].it[0].2).1
      omega
theorem nodes_facts {l : List HC} {keep root : Int} (hl : AllR l) (hr : rightR ⟨l, keep⟩ root = true) (h0 : 0 ≤ root) {L : List Int} (hL : nodesT l root = L) : NodesF l root L := by
  rcases rightR_iff hr with h | ⟨_, h1, hb⟩
  · omega
  have hL' : nodesB l 20 root = L := by rw [← hL]; unfold nodesT; rw [if_neg (by omega)]
  subst hL'
  refine ⟨nodes_once l hl 20 root h0 h1 hb, fun i hi => ?_, ⟨List.length_pos_of_mem (self_node hb), fun h => rfl⟩, ?_, fun x hx hlf => ?_, ?_, ?_⟩
  · obtain ⟨m', a1, a2, a3, _, _⟩ := node_in l hl 20 root h0 h1 hb _ (List.getElem_mem hi)
    obtain ⟨j, hj⟩ := Int.eq_ofNat_of_zero_le a3.1
    have hjl : j < l.length := by omega
    refine ⟨j, hjl, hj, ?_⟩
    cases m' with
    | zero => exact (bel_zero a2).elim
    | succ m' =>
      have := (bel_is a2).1
      rw [hj, cellT_at hjl] at this
      exact this
  · rw [leaves_all l 20 root hb]
    unfold listT
    rw [if_neg (by omega)]
  · obtain ⟨hrf, hc⟩ := bel_is (m := 19) hb
    rcases hc with ⟨hlf', _⟩ | ⟨_, e, hch⟩
    · rw [hlf] at hlf'; cases hlf'
    · show x.2 ∈ nodesB l (19 + 1) root
      rw [nodesB, hlf]
      simp only [Bool.false_eq_true, if_false]
      exact List.mem_cons_of_mem _ (List.mem_flatMap.2 ⟨x, hx, self_node (hch x hx).1⟩)
  · unfold highT
    rw [if_neg (by omega)]
    exact ⟨bel_pos l hl 20 root h0 h1 hb, (bel_high l 20 root).2⟩
  · have := nodesB_len l hl 20 root h0 h1 hb
    have h4 : 2 * 4 ^ 20 ≤ 4398046511104 := by decide
    omega
end Go.Proofs.Ytlbhcakjcklmgaa
namespace Go.Proofs.Ytlbhcakjcklmgaa
open Go.RowKit

/-- What a cell tells, if something refers to it. -/
def tellC (c : HC) : List Int := if 0 < c.ref then toldL c.leaf c.it else []
/-- How often cells tell a place. -/
def inn (l : List HC) (k : Int) : Nat := (l.map (fun c => (tellC c).count k)).sum
/-- Each cell's Ref is what is said of it, and how often cells tell it. -/
def RC (l : List HC) (E : Int → Int) : Prop := ∀ k (hk : k < l.length), l[k].ref = E (k : Int) + (inn l (k : Int) : Nat)
theorem inn_set : ∀ {l : List HC} {j : Nat} (hj : j < l.length) (x : HC) (k : Int), inn (l.set j x) k + (tellC l[j]).count k = inn l k + (tellC x).count k
  | [], j, hj, _, _ => by simp at hj
  | y :: l, 0, _, x, k => by simp only [inn, List.set_cons_zero, List.map_cons, List.sum_cons, List.getElem_cons_zero]; omega
  | y :: l, j + 1, hj, x, k => by
    have := inn_set (l := l) (j := j) (by simpa using hj) x k
    simp only [inn, List.set_cons_succ, List.map_cons, List.sum_cons, List.getElem_cons_succ] at this ⊢
    omega
theorem inn_congr {l g : List HC} (hl : g.length = l.length) (h : ∀ j (hj : j < l.length) (hj' : j < g.length), tellC g[j] = tellC l[j]) (k : Int) : inn g k = inn l k := by
  unfold inn
  congr 1
  apply List.ext_getElem (by simp [hl])
  intro j h1 h2
  rw [List.getElem_map, List.getElem_map, h j (by simpa using h2) (by simpa using h1)]
theorem rc_congr {l : List HC} {E E' : Int → Int} (h : RC l E) (he : ∀ k : Nat, k < l.length → E' k = E k) : RC l E' := fun k hk => by rw [he k hk]; exact h k hk
/-- What is laid keeps the count: one more of the node itself; what is held already has one less besides. -/
theorem rc_alloc {l : List HC} {leaf : Bool} {it : List It} {held : List Int} {keep : Int} {q : Nat} (hr : rightH ⟨l, keep⟩ = true) (hg : (ndR it && leadsC l leaf it) = true) (hq : q < l.length) (hf : firstF l = q) {E : Int → Int} (h : RC l E) :
    RC (allocL l leaf it held) (fun k => E k + (if k = (q : Int) then 1 else 0) - (if inL held k then ((toldL leaf it).count k : Nat) else 0 : Int)) := by
  have hlen : (allocL l leaf it held).length = l.length := by rw [alloc_up hg hq hf, List.length_set, upL_len]
  have hg2 := hg
  rw [Bool.and_eq_true] at hg2
  have hun : ∀ k (hk : k < l.length), ¬ 0 < l[k].ref → (toldL leaf it).count (k : Int) = 0 := fun k hk h0 => count_unused (told_all hg2.2) hk h0
  have hfree := first_free hr hq hf
  have hinn : ∀ k : Int, inn (allocL l leaf it held) k = inn l k + (toldL leaf it).count k := fun k => by
    have h1 := inn_set hq (⟨1, false, leaf, it⟩ : HC) k
    rw [hfree] at h1
    have h2 : tellC ⟨0, false, false, []⟩ = [] := rfl
    have h3 : tellC ⟨1, false, leaf, it⟩ = toldL leaf it := rfl
    rw [h2, h3, List.count_nil, Nat.add_zero] at h1
    rw [← h1]
    refine inn_congr (by rw [hlen, List.length_set]) (fun j hj hj' => ?_) k
    have hjl : j < l.length := by rw [List.length_set] at hj; exact hj
    by_cases hjq : j = q
    · subst hjq
      rw [alloc_cell hg hq hf hj', List.getElem_set_self]
    · rw [alloc_other hg hq hf hjl hjq hj', List.getElem_set_ne (Ne.symm hjq)]
      unfold tellC
      simp only
      by_cases h0 : 0 < l[j].ref
      · rw [if_pos h0, if_pos (by split <;> omega)]
      · rw [hun j hjl h0, if_neg h0, if_neg (by simpa using h0)]
  intro k hk
  have hkl : k < l.length := by rw [hlen] at hk; exact hk
  rw [hinn]
  have hrc := h k hkl
  by_cases hkq : k = q
  · subst hkq
    have h0 := hun k hkl (by rw [hfree]; simp)
    rw [alloc_cell hg hkl hf hk, h0]
    rw [hfree] at hrc
    simp only at hrc ⊢
    rw [if_pos trivial]
    split <;> omega
  · rw [alloc_other hg hq hf hkl hkq hk]
    simp only
    rw [if_neg (show ¬ (k : Int) = (q : Int) by omega)]
    split <;> omega
/-- What was told is told yet: used cells stay used, with what is in them. -/
structure Keeps (c c' : List HC) : Prop where
  len : c'.length = c.length
  cell : ∀ k (hk : k < c.length) (hk' : k < c'.length), 0 < c[k].ref → 0 < c'[k].ref ∧ c'[k].leaf = c[k].leaf ∧ c'[k].it = c[k].it
theorem Keeps.refl (c : List HC) : Keeps c c := ⟨rfl, fun _ _ _ h => ⟨h, rfl, rfl⟩⟩
theorem Keeps.trans {a b c : List HC} (h : Keeps a b) (k : Keeps b c) : Keeps a c := ⟨k.len.trans h.len, fun i hi hi' h0 => by
  have hb : i < b.length := by rw [h.len]; exact hi
  obtain ⟨h1, h2, h3⟩ := h.cell i hi hb h0
  obtain ⟨k1, k2, k3⟩ := k.cell i hb hi' h1
  exact ⟨k1, k2.trans h2, k3.trans h3⟩⟩
theorem alloc_keeps {l : List HC} {leaf : Bool} {it : List It} {held : List Int} {keep : Int} {q : Nat} (hr : rightH ⟨l, keep⟩ = true) (hg : (ndR it && leadsC l leaf it) = true) (hq : q < l.length) (hf : firstF l = q) : Keeps l (allocL l leaf it held) := by
  refine ⟨by rw [alloc_up hg hq hf, List.length_set, upL_len], fun k hk hk' h0 => ?_⟩
  have hkq : k ≠ q := fun e => by subst e; rw [first_free hr hk hf] at h0; simp at h0
  rw [alloc_other hg hq hf hk hkq hk']
  exact ⟨by simp only; split <;> omega, rfl, rfl⟩
theorem Keeps.used {c c' : List HC} (h : Keeps c c') {p : Int} (hp : usedC c p = true) : usedC c' p = true := by
  obtain ⟨k, hk, rfl, h0⟩ := usedC_iff hp
  have hk' : k < c'.length := by rw [h.len]; exact hk
  rw [usedC_at hk', decide_eq_true (h.cell k hk hk' h0).1]
/-- A right tree stays one, with its items. -/
theorem bel_keeps {c c' : List HC} (h : Keeps c c') (hl : AllR c) : ∀ (m : Nat) (p : Int), 0 ≤ p → p < c.length → (bel c m p).is = true → bel c' m p = bel c m p ∧ listB c' m p = listB c m p
  | 0, p, _, _, hb => (bel_zero hb).elim
  | m + 1, p, h0, h1, hb => by
    obtain ⟨k, rfl⟩ := Int.eq_ofNat_of_zero_le h0
    have hk : k < c.length := by omega
    have hk' : k < c'.length := by rw [h.len]; exact hk
    obtain ⟨hr, hc⟩ := bel_is hb
    rw [cellT_at hk] at hr hc
    have hok := cell_ok (hl k hk) hr
    obtain ⟨g1, g2, g3⟩ := h.cell k hk hk' hr
    rw [bel, bel, listB, listB, cellT_at hk, cellT_at hk', if_neg (show ¬ c'[k].ref < 1 by omega), if_neg (show ¬ c[k].ref < 1 by omega), g2, g3]
    rcases hc with ⟨hlf, _⟩ | ⟨hlf, _, hch⟩
    · rw [hlf]; exact ⟨rfl, rfl⟩
    · rw [hlf]
      simp only [Bool.false_eq_true, if_false]
      have hrec := fun x (hx : x ∈ c[k].it) => bel_keeps h hl m x.2 (hok.2 hlf x hx).1 (by have := (hok.2 hlf x hx).2; omega) (hch x hx).1
      exact ⟨belRow_congr (fun x hx => (hrec x hx).1), flatMap_congr' (fun x hx => (hrec x hx).2)⟩
/-- Refs are lowered, and what has none left is taken away. -/
structure Cuts (c g : List HC) : Prop where
  len : g.length = c.length
  on : ∀ k (hk : k < c.length) (hk' : k < g.length), 0 < g[k].ref → 0 < c[k].ref ∧ g[k].leaf = c[k].leaf ∧ g[k].it = c[k].it ∧ g[k].ref ≤ c[k].ref ∧ (g[k].pin = false ∨ g[k].pin = c[k].pin)
  off : ∀ k (hk : k < c.length) (hk' : k < g.length), ¬ 0 < g[k].ref → g[k] = c[k] ∨ (0 < c[k].ref ∧ g[k] = ⟨0, true, false, []⟩)
theorem Cuts.refl (c : List HC) : Cuts c c := ⟨rfl, fun _ _ _ h => ⟨h, rfl, rfl, Int.le_refl _, .inr rfl⟩, fun _ _ _ _ => .inl rfl⟩
theorem Cuts.trans {a b c : List HC} (h : Cuts a b) (k : Cuts b c) : Cuts a c := by
  refine ⟨k.len.trans h.len, fun i hi hi' h0 => ?_, fun i hi hi' h0 => ?_⟩
  · have hb : i < b.length := by rw [h.len]; exact hi
    obtain ⟨k1, k2, k3, k4, k5⟩ := k.on i hb hi' h0
    obtain ⟨h1, h2, h3, h4, h5⟩ := h.on i hi hb k1
    refine ⟨h1, k2.trans h2, k3.trans h3, Int.le_trans k4 h4, ?_⟩
    rcases k5 with k5 | k5
    · exact .inl k5
    · rw [k5]; exact h5
  · have hb : i < b.length := by rw [h.len]; exact hi
    rcases k.off i hb hi' h0 with k1 | ⟨k1, k2⟩
    · rw [k1] at h0 ⊢
      exact h.off i hi hb h0
    · exact .inr ⟨(h.on i hi hb k1).1, k2⟩
theorem cuts_set {c : List HC} {k : Nat} (hk : k < c.length) {x : HC} (h1 : 0 < x.ref → 0 < c[k].ref ∧ x.leaf = c[k].leaf ∧ x.it = c[k].it ∧ x.ref ≤ c[k].ref ∧ (x.pin = false ∨ x.pin = c[k].pin)) (h2 : ¬ 0 < x.ref → x = c[k] ∨ (0 < c[k].ref ∧ x = ⟨0, true, false, []⟩)) : Cuts c (c.set k x) := by
  refine ⟨by simp, fun i hi hi' h0 => ?_, fun i hi hi' h0 => ?_⟩
  · by_cases h : i = k
    · subst h; rw [List.getElem_set_self] at h0 ⊢; exact h1 h0
    · rw [List.getElem_set_ne (Ne.symm h)] at h0 ⊢
      exact ⟨h0, rfl, rfl, Int.le_refl _, .inr rfl⟩
  · by_cases h : i = k
    · subst h; rw [List.getElem_set_self] at h0 ⊢; exact h2 h0
    · rw [List.getElem_set_ne (Ne.symm h)]; exact .inl rfl
theorem fold_cuts {f : Nat} (h : ∀ (c : List HC) (p : Int), Cuts c (looseL f c p)) : ∀ (ps : List Int) (c : List HC), Cuts c (ps.foldl (looseL f) c)
  | [], c => Cuts.refl c
  | p :: ps, c => (h c p).trans (fold_cuts h ps _)
theorem loose_cuts : ∀ (f : Nat) (c : List HC) (p : Int), Cuts c (looseL f c p)
  | 0, c, _ => Cuts.refl c
  | f + 1, c, p => by
    cases h : usedC c p
    · rw [looseL_no _ h]; exact Cuts.refl c
    · obtain ⟨k, hk, rfl, h0⟩ := usedC_iff h
      by_cases h1 : 1 < c[k].ref
      · rw [looseL_at f hk h, if_pos h1]
        exact cuts_set hk (fun _ => ⟨h0, rfl, rfl, by simp; omega, .inl rfl⟩) (fun h2 => by simp at h2; omega)
      · rw [looseL_told f hk h h1]
        exact (cuts_set hk (x := ⟨0, true, false, []⟩) (fun h2 => by simp at h2) (fun _ => .inr ⟨h0, rfl⟩)).trans (fold_cuts (fun c p => loose_cuts f c p) _ _)
theorem cuts_right {c g : List HC} {keep : Int} (h : Cuts c g) (hr : rightH ⟨c, keep⟩ = true) : rightH ⟨g, keep⟩ = true := by
  obtain ⟨h1, h2⟩ := rightH_iff hr
  refine rightH_yes (by rw [h.len]; exact h1) fun k hk => ?_
  have hk' : k < c.length := by rw [h.len] at hk; exact hk
  have hc := h2 k hk'
  by_cases h0 : 0 < g[k].ref
  · obtain ⟨e1, e2, e3, e4, e5⟩ := h.on k hk' hk h0
    have hp := used_nopin hc e1
    have h6 := cellR_used hc e1 g[k].ref h0 (by have := (right_ref hr k hk').2; omega)
    have he : g[k] = ⟨g[k].ref, c[k].pin, c[k].leaf, c[k].it⟩ := by
      rw [← e2, ← e3]
      have : g[k].pin = c[k].pin := e5.elim (fun e => by rw [e, hp]) id
      rw [← this]
    rw [he, h.len]
    exact h6
  · rw [h.len]
    rcases h.off k hk' hk h0 with e | ⟨_, e⟩
    · rw [e]; exact hc
    · rw [e]; rfl
theorem cuts_free {c g : List HC} (h : Cuts c g) (_hr : ∀ k (hk : k < c.length), 0 ≤ c[k].ref) : g.countP freeC = c.countP freeC := by
  have e : g.map freeC = c.map freeC := by
    apply List.ext_getElem (by simp [h.len])
    intro k h1 h2
    have hk : k < g.length := by simpa using h1
    have hk' : k < c.length := by simpa using h2
    rw [List.getElem_map, List.getElem_map]
    by_cases h0 : 0 < g[k].ref
    · have := (h.on k hk' hk h0).1
      unfold freeC
      rw [decide_eq_false (by omega), decide_eq_false (by omega)]
      rfl
    · rcases h.off k hk' hk h0 with e | ⟨e1, e⟩
      · rw [e]
      · rw [e]
        unfold freeC
        rw [decide_eq_false (show ¬ c[k].ref = 0 by omega)]
        rfl
  have h1 : ∀ m : List HC, m.countP freeC = (m.map freeC).countP id := fun m => by rw [List.countP_map]; rfl
  rw [h1, h1, e]
/-- What used cells tell are cells. -/
def Tells (c : List HC) : Prop := ∀ k (hk : k < c.length), ∀ p ∈ tellC c[k], 0 ≤ p ∧ p < c.length
theorem tells_right {c : List HC} {keep : Int} (hr : rightH ⟨c, keep⟩ = true) : Tells c := fun k hk p hp => by
  unfold tellC at hp
  by_cases h0 : 0 < c[k].ref
  · rw [if_pos h0] at hp
    have hok := cell_ok ((rightH_iff hr).2 k hk) h0
    unfold toldL at hp
    cases hlf : c[k].leaf
    · rw [hlf] at hp
      simp only [Bool.false_eq_true, if_false] at hp
      obtain ⟨x, hx, rfl⟩ := List.mem_map.1 hp
      have := hok.2 hlf x hx
      exact ⟨this.1, by omega⟩
    · rw [hlf] at hp; simp at hp
  · rw [if_neg h0] at hp; simp at hp
theorem tells_cuts {c g : List HC} (h : Cuts c g) (ht : Tells c) : Tells g := fun k hk p hp => by
  have hk' : k < c.length := by rw [h.len] at hk; exact hk
  unfold tellC at hp
  by_cases h0 : 0 < g[k].ref
  · rw [if_pos h0] at hp
    obtain ⟨e1, e2, e3, _⟩ := h.on k hk' hk h0
    rw [h.len]
    refine ht k hk' p ?_
    unfold tellC
    rw [if_pos e1, ← e2, ← e3]
    exact hp
  · rw [if_neg h0] at hp; simp at hp
theorem fold_rc {f : Nat} (hf : ∀ (c : List HC) (E : Int → Int) (k : Nat), Tells c → (∀ j, 0 ≤ E j) → usedN c < f → RC c E → k < c.length → 1 ≤ E (k : Int) → RC (looseL f c (k : Int)) (fun j => E j - (if j = (k : Int) then 1 else 0))) :
    ∀ (ps : List Int) (c : List HC) (B : Int → Int), Tells c → (∀ j, 0 ≤ B j) → usedN c < f → (∀ p ∈ ps, 0 ≤ p ∧ p < c.length) → RC c (fun j => B j + (ps.count j : Nat)) → RC (ps.foldl (looseL f) c) B
  | [], c, B, _, _, _, _, h => by simpa using h
  | p :: ps, c, B, ht, hB, hu, hp, h => by
    obtain ⟨h0, h1⟩ := hp p List.mem_cons_self
    obtain ⟨k, rfl⟩ := Int.eq_ofNat_of_zero_le h0
    have hcut := loose_cuts f c (k : Int)
    have h2 := hf c _ k ht (fun j => by have := hB j; omega) hu h (by omega) (by
      rw [List.count_cons_self]
      have := hB (k : Int)
      omega)
    refine fold_rc hf ps _ B (tells_cuts hcut ht) hB (Nat.lt_of_le_of_lt (loose_used f c _) hu) (fun q hq => by rw [hcut.len]; exact hp q (List.mem_cons_of_mem _ hq)) ?_
    refine rc_congr h2 (fun j hj => ?_)
    simp only [List.count_cons]
    by_cases hjk : j = k
    · subst hjk; simp; omega
    · rw [if_neg (show ¬ (j : Int) = (k : Int) by omega)]
      have : ((k : Int) == (j : Int)) = false := by rw [beq_eq_false_iff_ne]; omega
      rw [this]
      simp
/-- What is loosed keeps the count: one less of it. -/
theorem rc_loose : ∀ (f : Nat) (c : List HC) (E : Int → Int) (k : Nat), Tells c → (∀ j, 0 ≤ E j) → usedN c < f → RC c E → k < c.length → 1 ≤ E (k : Int) → RC (looseL f c (k : Int)) (fun j => E j - (if j = (k : Int) then 1 else 0))
  | 0, _, _, _, _, _, h, _, _, _ => by omega
  | f + 1, c, E, k, ht, hE, hu, h, hk, h1 => by
    have hrk := h k hk
    have h0 : 0 < c[k].ref := by omega
    have huk : usedC c (k : Int) = true := by rw [usedC_at hk, decide_eq_true h0]
    by_cases h2 : 1 < c[k].ref
    · rw [looseL_at f hk huk, if_pos h2]
      have hin : ∀ j : Int, inn (c.set k ⟨c[k].ref - 1, false, c[k].leaf, c[k].it⟩) j = inn c j := fun j => by
        have h3 := inn_set hk (⟨c[k].ref - 1, false, c[k].leaf, c[k].it⟩ : HC) j
        have e1 : tellC ⟨c[k].ref - 1, false, c[k].leaf, c[k].it⟩ = tellC c[k] := by
          unfold tellC
          rw [if_pos h0, if_pos (by simp only; omega)]
        rw [e1] at h3
        omega
      intro j hj
      have hjc : j < c.length := by simpa using hj
      rw [hin]
      have hrj := h j hjc
      by_cases hjk : j = k
      · subst hjk
        rw [List.getElem_set_self]
        show c[j].ref - 1 = E (j : Int) - (if (j : Int) = (j : Int) then 1 else 0) + ((inn c (j : Int) : Nat) : Int)
        rw [if_pos rfl]
        omega
      · rw [List.getElem_set_ne (Ne.symm hjk)]
        show c[j].ref = E (j : Int) - (if (j : Int) = (k : Int) then 1 else 0) + ((inn c (j : Int) : Nat) : Int)
        rw [if_neg (show ¬ (j : Int) = (k : Int) by omega)]
        omega
    · rw [looseL_told f hk huk h2]
      have hr1 : c[k].ref = 1 := by omega
      have hin : ∀ j : Int, inn (c.set k ⟨0, true, false, []⟩) j + (toldL c[k].leaf c[k].it).count j = inn c j := fun j => by
        have h3 := inn_set hk (⟨0, true, false, []⟩ : HC) j
        have e1 : tellC ⟨0, true, false, []⟩ = [] := rfl
        have e2 : tellC c[k] = toldL c[k].leaf c[k].it := by unfold tellC; rw [if_pos h0]
        rw [e1, e2, List.count_nil] at h3
        omega
      have hcut := cuts_set hk (x := ⟨0, true, false, []⟩) (fun h2 => by simp at h2) (fun _ => .inr ⟨h0, rfl⟩)
      have hus := usedN_set hk (⟨0, true, false, []⟩ : HC) (by simp) h0
      refine fold_rc (fun c E k => rc_loose f c E k) _ _ (fun j => E j - (if j = (k : Int) then 1 else 0)) (tells_cuts hcut ht) (fun j => ?_) (by omega) (fun p hp => ?_) ?_
      · have := hE j
        by_cases hjk : j = (k : Int)
        · subst hjk; simp; omega
        · rw [if_neg hjk]; omega
      · rw [List.length_set]
        refine ht k hk p ?_
        unfold tellC
        rw [if_pos h0]
        exact hp
      · intro j hj
        have hjc : j < c.length := by simpa using hj
        have h3 := hin (j : Int)
        have hrj := h j hjc
        by_cases hjk : j = k
        · subst hjk
          rw [List.getElem_set_self]
          show (0 : Int) = E (j : Int) - (if (j : Int) = (j : Int) then 1 else 0) + (((toldL c[j].leaf c[j].it).count (j : Int) : Nat) : Int) + ((inn (c.set j ⟨0, true, false, []⟩) (j : Int) : Nat) : Int)
          rw [if_pos rfl]
          omega
        · rw [List.getElem_set_ne (Ne.symm hjk)]
          show c[j].ref = E (j : Int) - (if (j : Int) = (k : Int) then 1 else 0) + (((toldL c[k].leaf c[k].it).count (j : Int) : Nat) : Int) + ((inn (c.set k ⟨0, true, false, []⟩) (j : Int) : Nat) : Int)
          rw [if_neg (show ¬ (j : Int) = (k : Int) by omega)]
          omega
end Go.Proofs.Ytlbhcakjcklmgaa
