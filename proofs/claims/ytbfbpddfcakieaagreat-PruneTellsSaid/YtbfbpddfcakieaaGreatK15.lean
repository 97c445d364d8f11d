/- Walks of List, Nodes of any root, of Scan and of Get of the reference of layer 7. What scans and keys of right trees tell: for the law on scans. No program in sight. What is found hangs on no fuel; what a node's items lead to. No program in sight. The walk of Scan of the reference of layer 7. What the walk of below of the reference of layer 7 leans on: boxes of four cells, heights, first and last keys. A tree's nodes: each once, the root first; their leaves' items are all. No program in sight. -/
import Derived.Test.YtbfbpddfcakieaaGreatK14
import Derived.Deep.QuietTactic
import Derived.BigQuiet
namespace Go.Proofs.YtbfbpddfcakieaaGreat
open Go.RowKit
attribute [local go_sem ↓] Go.wp_at_zero Go.wp_at_succ

theorem rightR_iff {l : List HC} {keep p : Int} (h : rightR ⟨l, keep⟩ p = true) : p < 0 ∨ (0 ≤ p ∧ p < l.length ∧ (bel l 20 p).is = true) := by
  unfold rightR at h
  rw [Bool.or_eq_true, Bool.and_eq_true] at h
  rcases h with h | ⟨hu, hb⟩
  · have := of_decide_eq_true h; omega
  · obtain ⟨k, hk, rfl, _⟩ := usedC_iff (show usedC l p = true from hu)
    exact .inr ⟨by omega, by omega, hb⟩
theorem listT_len {l : List HC} {keep p : Int} (hl : AllR l) (h : rightR ⟨l, keep⟩ p = true) : (listT l p).length ≤ 1099511627776 := by
  unfold listT
  rcases rightR_iff h with h0 | ⟨h0, h1, hb⟩
  · rw [if_pos h0]; exact Nat.zero_le _
  · rw [if_neg (by omega)]
    exact Nat.le_trans (listB_len l hl 20 p h0 h1 hb) (by decide)
set_option maxHeartbeats 800000 in
theorem ref07List_any (R : Option Addr) (l : List HC) (n q : Nat) (keep keep' p : Int) (w : World) (hl : AllR l) (hn : l.length ≤ 2000) (hr : rightR ⟨l, keep'⟩ p = true) (hA : HcSl w R n q l) :
    Calls Tryz.prog 18 #[.agg #[.slice R n q, .int .i64 keep], .int .i64 p] w fun e w' => ∃ S s d, e = .returned (.slice S s d) ∧ s = (listT l p).length ∧ Sl w' S s d (ivs (listT l p)) ∧ Ext w w' := by
  unfold listT
  rcases rightR_iff hr with h0 | ⟨h0, h1, hb⟩
  · have HX := Lib.hid ((Ext.refl w).alloc (.cells #[.slice R n q, .int .i64 keep] 24))
    have d0 : decide (p < 0) = true := decide_eq_true h0
    rw [if_pos h0]
    clear hr hl hn hA
    go_enter Tryz.func18, Tryz.ntmps18
    go_wp2
    go_ret
    exact ⟨none, 0, 0, rfl, rfl, Sl.nil _, HX.out⟩
  · rw [if_neg (by omega)]
    exact ref07List_bel l hl hn 20 p R n q keep w (by omega) h0 h1 hb hA
theorem find_take {l : List It} {P : It → Bool} {j : Nat} (hj : j < l.length) (h : (l.take j).find? P = none) : (l.take (j + 1)).find? P = if P l[j] then some l[j] else none := by
  rw [List.take_succ_eq_append_getElem hj, List.find?_append, h]
  simp only [Option.none_or, List.find?_cons, List.find?_nil]
  cases P l[j] <;> rfl
theorem find_hit {l : List It} {P : It → Bool} {j : Nat} (hj : j < l.length) (h : (l.take j).find? P = none) (hp : P l[j] = true) : l.find? P = some l[j] := by
  have h1 := find_take hj h
  rw [if_pos hp] at h1
  have h2 : l.find? P = (l.take (j + 1) ++ l.drop (j + 1)).find? P := by rw [List.take_append_drop]
  rw [h2, List.find?_append, h1]; rfl
def getV (o : Option Int) : Int := match o with | some v => v | none => 0
def getE (o : Option Int) : Int := match o with | some _ => 0 | none => 4
set_option maxRecDepth 100000 in
set_option maxHeartbeats 1600000 in
theorem ref07Get_any (R : Option Addr) (l : List HC) (n q : Nat) (keep keep' p key : Int) (w : World) (hl : AllR l) (hn : l.length ≤ 2000) (hr : rightR ⟨l, keep'⟩ p = true) (hA : HcSl w R n q l) :
    Calls Tryz.prog 25 #[.agg #[.slice R n q, .int .i64 keep], .int .i64 p, .int .i64 key] w fun e w' => e = .returned (.tuple #[.int .i64 (getV (getT l p key)), .int .i64 (getE (getT l p key))]) ∧ Ext w w' := by
  have hx0 := (Ext.refl w).alloc (.cells #[.slice R n q, .int .i64 keep] 24)
  have HX := Lib.hid hx0
  have HB := Lib.hid (Bx.new w #[.slice R n q, .int .i64 keep] 24)
  have HL := Lib.hid (ref07List_any R l n q keep keep' p _ hl hn hr (hA.ext hx0))
  have hgt : getT l p key = ((listT l p).find? (fun x => decide (x.1 = key))).map (·.2) := rfl
  rw [hgt]
  have hlen := listT_len hl hr
  generalize listT l p = t at *
  obtain ⟨p0, p1, p2⟩ := HB.out.read2
  clear hx0 hl hn hr hA hgt
  go_enter Tryz.func25, Tryz.ntmps25
  go_wp2_with (go_at_call 18; refine HL.out.mono ?_; rintro e w1 ⟨S, s, d, rfl, hs, hsl, hx⟩; have HX1 := Lib.hid (HX.out.trans hx); have HS := Lib.hid hs; have HSL := Lib.hid hsl; clear hs hsl hx p0 p1 p2)
  have hsb : s ≤ 1099511627776 := by rw [HS.out]; exact hlen
  go_loop [9] (fun i => ∃ j : Nat, j ≤ s ∧ i = .int .i64 j ∧ (t.take j).find? (fun x => decide (x.1 = key)) = none) (fun i => s - (intOf i).toNat)
  case atStart => exact ⟨0, Nat.zero_le _, rfl, by simp⟩
  case round =>
    obtain ⟨j, hj, rfl, hf⟩ := hrel
    have HF := Lib.hid hf
    clear hf
    rcases Nat.lt_or_ge j s with hlt | hlt
    · have hjt : j < t.length := by rw [← HS.out]; exact hlt
      obtain ⟨b, off, rfl, hb, i0, i1⟩ := it_at HSL.out hjt
      have hji : (j : Int) < (s : Int) := by omega
      have HH := Lib.hid (fun (h : t[j].1 = key) => (show (t.find? (fun x => decide (x.1 = key))).map (·.2) = some t[j].2 by rw [find_hit hjt HF.out (by simpa using h)]; rfl))
      have HN := Lib.hid (fun (h : ¬ t[j].1 = key) => (show (t.take (j + 1)).find? (fun x => decide (x.1 = key)) = none by rw [find_take hjt HF.out]; simp [h]))
      generalize t[j].2 = V at *
      generalize t[j].1 = K at *
      rcases Int.lt_trichotomy K key with he | rfl | he
      · have d0 : (K == key) = false := by rw [beq_eq_false_iff_ne]; omega
        have d1 : decide (K = key) = false := decide_eq_false (by omega)
        have HE := Lib.hid (HN.out (by omega))
        clear HH HN he hjt
        go_wp2
        go_round
        case rel => exact ⟨j + 1, by omega, by go_num, HE.out⟩
        case measure => simp [intOf]; omega
      · have HE := Lib.hid (HH.out rfl)
        clear HH HN hjt
        go_wp2
        go_ret2
        exact ⟨(by rw [HE.out]; rfl), HX1.out⟩
      · have d0 : (K == key) = false := by rw [beq_eq_false_iff_ne]; omega
        have d1 : decide (K = key) = false := decide_eq_false (by omega)
        have HE := Lib.hid (HN.out (by omega))
        clear HH HN he hjt
        go_wp2
        go_round
        case rel => exact ⟨j + 1, by omega, by go_num, HE.out⟩
        case measure => simp [intOf]; omega
    · obtain rfl : s = j := by omega
      have HE := Lib.hid (show t.find? (fun x => decide (x.1 = key)) = none from by have h := HF.out; rwa [HS.out, List.take_length] at h)
      clear hlt
      go_wp2
      go_ret2
      exact ⟨(by rw [HE.out]; rfl), HX1.out⟩
end Go.Proofs.YtbfbpddfcakieaaGreat
namespace Go.Proofs.YtbfbpddfcakieaaGreat
open Go.RowKit

theorem listT_asc {l : List HC} {keep root : Int} (hl : AllR l) (hr : rightR ⟨l, keep⟩ root = true) : Asc (listT l root) ∧ ∀ x ∈ listT l root, okIt x := by
  unfold listT
  rcases rightR_iff hr with h0 | ⟨h0, h1, hb⟩
  · rw [if_pos h0]
    exact ⟨List.Pairwise.nil, fun x hx => by cases hx⟩
  · rw [if_neg (by omega)]
    have := listB_spans l hl 20 root h0 h1 hb
    exact ⟨this.asc, this.ok⟩
theorem scan_is (l : List HC) (root lo hi : Int) : scanT l root lo hi = (listT l root).filter (inR lo hi) := rfl
theorem get_iff {l : List HC} {keep root : Int} (hl : AllR l) (hr : rightR ⟨l, keep⟩ root = true) (k v : Int) : getT l root k = some v ↔ (k, v) ∈ listT l root := getL_iff (listT_asc hl hr).1 k v
theorem inR_iff (lo hi : Int) (x : It) : inR lo hi x = true ↔ lo ≤ x.1 ∧ x.1 < hi := by unfold inR; rw [Bool.and_eq_true, decide_eq_true_eq, decide_eq_true_eq]
theorem mem_scan {l : List HC} {root lo hi : Int} {x : It} : x ∈ scanT l root lo hi ↔ x ∈ listT l root ∧ lo ≤ x.1 ∧ x.1 < hi := by rw [scan_is, List.mem_filter, inR_iff]
theorem scan_asc {l : List HC} {keep root : Int} (hl : AllR l) (hr : rightR ⟨l, keep⟩ root = true) (lo hi : Int) : Asc (scanT l root lo hi) := by
  rw [scan_is]; exact List.Pairwise.filter _ (listT_asc hl hr).1
def hasK (mid : Int) (xs : List It) : Bool := xs.any (fun x => decide (x.1 = mid))
structure ScanF (l : List HC) (root lo hi mid : Int) (xs : List It) (o : Option Int) : Prop where
  a : ∀ k (hk : k < xs.length), getT l root xs[k].1 = some xs[k].2 ∧ lo ≤ xs[k].1 ∧ xs[k].1 < hi
  b : ∀ k (hk : k < xs.length) (h0 : 0 < k), xs[k - 1].1 < xs[k].1
  c : ∀ k (hk : k < xs.length), xs[k].1 = mid → o = some xs[k].2 ∧ (lo ≤ mid ∧ mid < hi) ∧ hasK mid (xs.take k) = false
  d : ∀ v, o = some v → lo ≤ mid → mid < hi → hasK mid xs = true
  e : lo ≤ mid → mid ≤ hi → scanT l root lo mid ++ scanT l root mid hi = xs
theorem scan_facts {l : List HC} {keep root lo hi mid : Int} {xs : List It} {o : Option Int} (hl : AllR l) (hr : rightR ⟨l, keep⟩ root = true) (hxs : scanT l root lo hi = xs) (ho : getT l root mid = o) : ScanF l root lo hi mid xs o := by
  have hasc := scan_asc hl hr lo hi
  rw [hxs] at hasc
  have hmem : ∀ x, x ∈ xs ↔ x ∈ listT l root ∧ lo ≤ x.1 ∧ x.1 < hi := fun x => by rw [← hxs]; exact mem_scan
  have hpw := List.pairwise_iff_getElem.1 hasc
  refine ⟨fun k hk => ?_, fun k hk h0 => hpw (k - 1) k (by omega) hk (by omega), fun k hk he => ?_, fun v hv h1 h2 => ?_, fun h1 h2 => ?_⟩
  · have h := (hmem xs[k]).1 (List.getElem_mem hk)
    exact ⟨(get_iff hl hr _ _).2 h.1, h.2⟩
  · have h := (hmem xs[k]).1 (List.getElem_mem hk)
    refine ⟨?_, ?_, ?_⟩
    · rw [← ho, ← he]; exact (get_iff hl hr _ _).2 h.1
    · rw [← he]; exact h.2
    · unfold hasK
      rw [List.any_eq_false]
      intro y hy
      obtain ⟨j, hj, rfl⟩ := List.mem_iff_getElem.1 hy
      rw [List.length_take] at hj
      rw [List.getElem_take]
      have := hpw j k (by omega) hk (by omega)
      simp only [decide_eq_true_eq]
      omega
  · unfold hasK
    rw [List.any_eq_true]
    rw [hv] at ho
    exact ⟨(mid, v), (hmem _).2 ⟨(get_iff hl hr _ _).1 ho, h1, h2⟩, by simp⟩
  · rw [← hxs, scan_is, scan_is, scan_is]
    exact filter_parts (listT_asc hl hr).1 h1 h2
theorem hasK_step {mid : Int} {xs : List It} {k : Nat} (hk : k < xs.length) : hasK mid (xs.take (k + 1)) = (hasK mid (xs.take k) || decide (xs[k].1 = mid)) := by
  unfold hasK
  rw [List.take_succ_eq_append_getElem hk, List.any_append]
  simp
theorem scan_len {l : List HC} {keep root : Int} (hl : AllR l) (hr : rightR ⟨l, keep⟩ root = true) (lo hi : Int) : (scanT l root lo hi).length ≤ 1099511627776 := by
  rw [scan_is]
  exact Nat.le_trans (List.length_filter_le _ _) (listT_len hl hr)
end Go.Proofs.YtbfbpddfcakieaaGreat
namespace Go.Proofs.YtbfbpddfcakieaaGreat
open Go.RowKit

theorem belRow_congr {f g : Int → Gt} : ∀ {r : List It} {i : Nat} {o : Gt}, (∀ x ∈ r, g x.2 = f x.2) → belRow g i r o = belRow f i r o
  | [], _, _, _ => rfl
  | x :: r, i, o, h => by
    unfold belRow
    rw [h x List.mem_cons_self, belRow_congr (fun y hy => h y (List.mem_cons_of_mem _ hy))]
theorem flatMap_congr' {α β : Type} {f g : α → List β} : ∀ {r : List α}, (∀ x ∈ r, g x = f x) → r.flatMap g = r.flatMap f
  | [], _ => rfl
  | x :: r, h => by
    rw [List.flatMap_cons, List.flatMap_cons, h x List.mem_cons_self, flatMap_congr' (fun y hy => h y (List.mem_cons_of_mem _ hy))]
theorem bel_mono (l : List HC) : ∀ (m m' : Nat) (p : Int), (bel l m p).is = true → m ≤ m' → bel l m' p = bel l m p
  | 0, _, _, h, _ => (bel_zero h).elim
  | m + 1, 0, _, _, h => by omega
  | m + 1, m' + 1, p, h, hm => by
    obtain ⟨hr, hc⟩ := bel_is h
    rw [bel, if_neg (by omega)]
    rcases hc with ⟨hlf, e⟩ | ⟨hlf, e, hch⟩
    · rw [hlf, if_pos rfl, e]
    · rw [hlf, e]
      simp only [Bool.false_eq_true, if_false]
      exact belRow_congr (fun x hx => bel_mono l m m' x.2 (hch x hx).1 (by omega))
theorem listB_mono (l : List HC) : ∀ (m m' : Nat) (p : Int), (bel l m p).is = true → m ≤ m' → listB l m' p = listB l m p
  | 0, _, _, h, _ => (bel_zero h).elim
  | m + 1, 0, _, _, h => by omega
  | m + 1, m' + 1, p, h, hm => by
    obtain ⟨hr, hc⟩ := bel_is h
    rw [listB, listB]
    rcases hc with ⟨hlf, e⟩ | ⟨hlf, e, hch⟩
    · rw [hlf, if_pos rfl, if_pos rfl]
    · rw [hlf]
      simp only [Bool.false_eq_true, if_false]
      exact flatMap_congr' (fun x hx => listB_mono l m m' x.2 (hch x hx).1 (by omega))
theorem nodesB_mono (l : List HC) : ∀ (m m' : Nat) (p : Int), (bel l m p).is = true → m ≤ m' → nodesB l m' p = nodesB l m p
  | 0, _, _, h, _ => (bel_zero h).elim
  | m + 1, 0, _, _, h => by omega
  | m + 1, m' + 1, p, h, hm => by
    obtain ⟨hr, hc⟩ := bel_is h
    rw [nodesB, nodesB]
    rcases hc with ⟨hlf, e⟩ | ⟨hlf, e, hch⟩
    · rw [hlf, if_pos rfl, if_pos rfl]
    · rw [hlf]
      simp only [Bool.false_eq_true, if_false]
      rw [flatMap_congr' (fun x hx => nodesB_mono l m m' x.2 (hch x hx).1 (by omega))]
theorem filter_all' {xs : List It} {P : It → Bool} (h : ∀ x ∈ xs, P x = true) : xs.filter P = xs := List.filter_eq_self.2 h
/-- All keys: a scan from 0 to behind the greatest number is all. -/
theorem scan_whole {l : List HC} {keep root : Int} (hl : AllR l) (hr : rightR ⟨l, keep⟩ root = true) : scanT l root 0 2147483648 = listT l root := by
  rw [scan_is]
  refine filter_all' (fun x hx => ?_)
  have h := (listT_asc hl hr).2 x hx
  unfold okIt at h
  rw [inR_iff]
  omega
/-- The root of a right tree that has one: its cell, and what is below. -/
structure RootF (l : List HC) (keep root : Int) (k : Nat) (hk : k < l.length) : Prop where
  at_ : root = (k : Int)
  ref : 0 < l[k].ref
  nd : NdR l[k].it
  leaf : l[k].leaf = true → listT l root = l[k].it
  inner : l[k].leaf = false → (listT l root = l[k].it.flatMap (fun x => listT l x.2)) ∧ ∀ x ∈ l[k].it, rightR ⟨l, keep⟩ x.2 = true ∧ 0 ≤ x.2 ∧ x.2 < l.length ∧ highT l x.2 = highT l root - 1 ∧ (∃ y r, listT l x.2 = y :: r ∧ y.1 = x.1)
theorem rightR_of {l : List HC} {keep p : Int} (h0 : 0 ≤ p) (h1 : p < l.length) (hb : (bel l 20 p).is = true) : rightR ⟨l, keep⟩ p = true := by
  obtain ⟨k, rfl⟩ := Int.eq_ofNat_of_zero_le h0
  have hk : k < l.length := by omega
  have hr := (bel_is (m := 19) hb).1
  rw [cellT_at hk] at hr
  unfold rightR
  rw [show usedH ⟨l, keep⟩ (k : Int) = true from by show usedC l (k : Int) = true; rw [usedC_at hk, decide_eq_true hr], hb]
  simp
theorem root_facts {l : List HC} {keep root : Int} (hl : AllR l) (hr : rightR ⟨l, keep⟩ root = true) (h0 : 0 ≤ root) : ∃ k, ∃ hk : k < l.length, RootF l keep root k hk := by
  rcases rightR_iff hr with h | ⟨_, h1, hb⟩
  · omega
  obtain ⟨k, rfl⟩ := Int.eq_ofNat_of_zero_le h0
  have hk : k < l.length := by omega
  obtain ⟨hrf, hc⟩ := bel_is (m := 19) hb
  rw [cellT_at hk] at hrf hc
  have hok := cell_ok (hl k hk) hrf
  refine ⟨k, hk, rfl, hrf, hok.1, fun hlf => ?_, fun hlf => ?_⟩
  · unfold listT
    rw [if_neg (by omega), listB, cellT_at hk, hlf, if_pos rfl]
  · rcases hc with ⟨hlf', _⟩ | ⟨_, e, hch⟩
    · rw [hlf] at hlf'; cases hlf'
    have hx20 : ∀ x ∈ l[k].it, (bel l 20 x.2).is = true ∧ bel l 20 x.2 = bel l 19 x.2 := fun x hx => by
      have := bel_mono l 19 20 x.2 (hch x hx).1 (by omega)
      exact ⟨by rw [this]; exact (hch x hx).1, this⟩
    refine ⟨?_, fun x hx => ?_⟩
    · unfold listT
      rw [if_neg (by omega), listB, cellT_at hk, hlf]
      simp only [Bool.false_eq_true, if_false]
      refine flatMap_congr' (fun x hx => ?_)
      have hp := (hok.2 hlf x hx).1
      rw [if_neg (by omega)]
      exact (listB_mono l 19 20 x.2 (hch x hx).1 (by omega)).symm
    · have hp := hok.2 hlf x hx
      have hs := listB_spans l hl 20 x.2 hp.1 (by omega) (hx20 x hx).1
      obtain ⟨y, r, he, hy⟩ := hs.head
      refine ⟨rightR_of hp.1 (by omega) (hx20 x hx).1, hp.1, by omega, ?_, y, r, ?_, ?_⟩
      · unfold highT
        rw [if_neg (by omega), if_neg (by omega), (hx20 x hx).2]
        have h9 : (bel l 19 x.2).high + 1 = (bel l 20 (k : Int)).high := (hch x hx).2.2
        omega
      · unfold listT
        rw [if_neg (by omega)]
        exact he
      · rw [hy, (hx20 x hx).2]
        exact (hch x hx).2.1
end Go.Proofs.YtbfbpddfcakieaaGreat
namespace Go.Proofs.YtbfbpddfcakieaaGreat
open Go.RowKit
attribute [local go_sem ↓] Go.wp_at_zero Go.wp_at_succ

/-- append of items onto a row of the call's own, however many. -/
theorem app_itemsW (w : World) {ops : Array Oper} {rest : List Oper} {o : Oper} {a : Act} {Q : Exit → Act → World → Prop} (hgd : o.guard = none) (s x : Operand)
    (ho : o.op = .call { callee := .builtin .append, args := #[s, x], argTypes := #[47, 47] })
    (B : Nat) (v : Value) (n : Nat) (l : List It) (hs : a.eval s = v) (hown : w.ownsRow B 46 2 v n (ivs l))
    (A : Option Addr) (m c : Nat) (k : List It) (hx : a.eval x = .slice A m c) (hl : k.length = m) (hS : Sl w A m c (ivs k))
    (hsz : n + m ≤ 4398046511104) (hB : B ≤ w.heap.size)
    (h : ∀ A' c' w', w'.ownsRow B 46 2 (.slice A' (n + m) c') (n + m) (ivs (l ++ k)) → w.grownBy w' v.ownBlock → wpList Tryz.prog ops Q rest (a.put o.dst (.slice A' (n + m) c')) w') : wpList Tryz.prog ops Q (o :: rest) a w := by
  refine wpList_app_sl w hgd s x 47 ho B 46 (.agg #[.int .i64 0, .int .i64 0]) 2 16 Tryz.underlying47 infoIt rfl (by omega) v n (ivs l) hs hown A m c (ivs k) hx (by rw [ivs_length, hl]) hS (ivs_oneCell k) (by unfold maxLen; omega) (by omega) hB ?_
  intro A' c' w' h1 h2
  rw [← ivs_append] at h1
  exact h A' c' w' h1 h2
theorem sl_lit' {w : World} {z : Nat} (hz : z = w.heap.size) (e n : Nat) (xs : List Value) (hn : n ≤ maxLen) : Sl (w.alloc (.cells xs.toArray e)) (some ⟨z, 0, none⟩) n n xs := by subst hz; exact sl_lit w e n xs hn
theorem filter_take {l : List It} (P : It → Bool) {j : Nat} (hj : j < l.length) : (l.take (j + 1)).filter P = (l.take j).filter P ++ (if P l[j] then [l[j]] else []) := by
  rw [List.take_succ_eq_append_getElem hj, List.filter_append]
  congr 1
  simp only [List.filter_cons, List.filter_nil]
set_option maxRecDepth 100000 in
set_option maxHeartbeats 3200000 in
theorem ref07Scan_any (R : Option Addr) (l : List HC) (n q : Nat) (keep keep' p lo hi : Int) (w : World) (hl : AllR l) (hn : l.length ≤ 2000) (hr : rightR ⟨l, keep'⟩ p = true) (hA : HcSl w R n q l) :
    Calls Tryz.prog 36 #[.agg #[.slice R n q, .int .i64 keep], .int .i64 p, .int .i64 lo, .int .i64 hi] w fun e w' => ∃ S s d, e = .returned (.slice S s d) ∧ s = (scanT l p lo hi).length ∧ Sl w' S s d (ivs (scanT l p lo hi)) ∧ Ext w w' := by
  have hx0 := (Ext.refl w).alloc (.cells #[.slice R n q, .int .i64 keep] 24)
  have HX := Lib.hid hx0
  have HB := Lib.hid (Bx.new w #[.slice R n q, .int .i64 keep] 24)
  have HL := Lib.hid (ref07List_any R l n q keep keep' p _ hl hn hr (hA.ext hx0))
  obtain ⟨P, hP⟩ : ∃ P : It → Bool, (fun x : It => decide (lo ≤ x.1) && decide (x.1 < hi)) = P := ⟨_, rfl⟩
  have hsc : scanT l p lo hi = (listT l p).filter P := by rw [← hP]; rfl
  rw [hsc]
  have HP := Lib.hid (fun (x : It) => (show P x = (decide (lo ≤ x.1) && decide (x.1 < hi)) by rw [← hP]))
  have hlen := listT_len hl hr
  generalize listT l p = t at *
  obtain ⟨p0, p1, p2⟩ := HB.out.read2
  clear hx0 hl hn hr hA hsc hP
  go_enter Tryz.func36, Tryz.ntmps36
  go_wp2_with (go_at_call 18; refine HL.out.mono ?_; rintro e w1 ⟨S, s, d, rfl, hs, hsl, hx⟩; have HX1 := Lib.hid (HX.out.trans hx); have HS := Lib.hid hs; have HSL := Lib.hid hsl; clear hs hsl hx p0 p1 p2)
  have hsb : s ≤ 1099511627776 := by rw [HS.out]; exact hlen
  go_loopw [10, 11] (fun v i wr => ∃ (j u : Nat) (A : Option Addr) (c : Nat), j ≤ s ∧ i = .int .i64 j ∧ v = .slice A u c ∧ (u = ((t.take j).filter P).length ∧ u ≤ j) ∧ wr.ownsRow w1.heap.size 46 2 (.slice A u c) u (ivs ((t.take j).filter P)) ∧ Ext w1 wr) (fun _ i _ => s - (intOf i).toNat)
  case atStart => exact ⟨0, 0, none, 0, Nat.zero_le _, rfl, rfl, ⟨by simp, by omega⟩, by rw [List.take_zero, List.filter_nil]; exact ⟨rfl, .inl ⟨rfl, rfl⟩⟩, Ext.refl _⟩
  case round =>
    obtain ⟨j, u, A, c, hj, rfl, rfl, ⟨hu, huj⟩, ho, hx⟩ := hrel
    have HU := Lib.hid hu
    have HO := Lib.hid ho
    have HXR := Lib.hid hx
    clear hu ho
    rcases Nat.lt_or_ge j s with hlt | hlt
    · have hjt : j < t.length := by rw [← HS.out]; exact hlt
      obtain ⟨b, off, rfl, hb, a0, a1⟩ := it_at HSL.out hjt
      have i0 := (hx.cell (p := ⟨b, off + j * 2, none⟩) hb).trans a0
      have i1 := (hx.cell (p := ⟨b, off + j * 2 + 1, none⟩) hb).trans a1
      have hji : (j : Int) < (s : Int) := by omega
      have HPJ := Lib.hid (HP.out t[j])
      have HFT := Lib.hid (filter_take P hjt)
      obtain ⟨⟨K, V⟩, hkv⟩ : ∃ x, t[j] = x := ⟨_, rfl⟩
      rw [hkv] at i0 i1 HPJ HFT
      simp only at i0 i1 HPJ
      clear hkv a0 a1 hjt hx hb
      rcases Int.lt_or_le K lo with h1 | h1
      · have d0 : decide (lo ≤ K) = false := decide_eq_false (by omega)
        rw [d0, Bool.false_and] at HPJ
        rw [HPJ.out] at HFT
        simp only [Bool.false_eq_true, if_false, List.append_nil] at HFT
        go_wp2
        go_roundw
        case rel => exact ⟨j + 1, u, A, c, by omega, by go_num, rfl, ⟨by rw [HFT.out]; exact HU.out, by omega⟩, by rw [HFT.out]; exact HO.out, HXR.out⟩
        case measure => simp [intOf]; omega
      · have d0 : decide (lo ≤ K) = true := decide_eq_true h1
        rcases Int.lt_or_le K hi with h2 | h2
        · have d1 : decide (K < hi) = true := decide_eq_true h2
          rw [d0, d1, Bool.true_and] at HPJ
          rw [HPJ.out] at HFT
          simp only [if_true] at HFT
          go_wp2_with (at_builtin; refine stop_here ?_)
          refine stop_on ?_
          refine app_itemsW _ rfl _ _ rfl w1.heap.size _ u ((t.take j).filter P) rfl (own_ext HO.out ((Ext.refl _).alloc _)) _ 1 1 [(K, V)] rfl rfl (sl_lit' rfl _ 1 _ (by unfold maxLen; omega)) (by omega) (by have := HXR.out.size; simp; omega) ?_
          intro A5 c5 w5 hown hg
          have HX5 := Lib.hid (Ext.app (HXR.out.alloc _) (own_ext HO.out ((Ext.refl _).alloc _)) (Nat.le_refl _) hg)
          rw [← HFT.out] at hown
          have HO5 := Lib.hid hown
          clear hown hg
          go_wp2_with fail
          go_roundw
          case rel => exact ⟨j + 1, u + 1, A5, c5, by omega, by go_num, rfl, ⟨by rw [HFT.out, List.length_append, ← HU.out]; rfl, by omega⟩, HO5.out, HX5.out⟩
          case measure => simp [intOf]; omega
        · have d1 : decide (K < hi) = false := decide_eq_false (by omega)
          rw [d0, d1, Bool.and_false] at HPJ
          rw [HPJ.out] at HFT
          simp only [Bool.false_eq_true, if_false, List.append_nil] at HFT
          go_wp2
          go_roundw
          case rel => exact ⟨j + 1, u, A, c, by omega, by go_num, rfl, ⟨by rw [HFT.out]; exact HU.out, by omega⟩, by rw [HFT.out]; exact HO.out, HXR.out⟩
          case measure => simp [intOf]; omega
    · obtain rfl : s = j := by omega
      have d0 : decide ((s : Int) < (s : Int)) = false := decide_eq_false (by omega)
      have HE := Lib.hid (show t.take s = t by rw [HS.out, List.take_length])
      rw [HE.out] at HU HO
      clear hlt hx
      go_wp2
      go_ret
      exact ⟨A, u, c, rfl, HU.out, own_sl HO.out, HX1.out.trans HXR.out⟩
end Go.Proofs.YtbfbpddfcakieaaGreat
namespace Go.Proofs.YtbfbpddfcakieaaGreat
open Go.RowKit
attribute [local go_sem ↓] Go.wp_at_zero Go.wp_at_succ

theorem Bx.free4 {w : World} {k : Nat} {a b c d : Value} (h : Bx w k #[a, b, c, d]) : w.frozen? ⟨k, 0, none⟩ = false ∧ w.frozen? ⟨k, 1, none⟩ = false ∧ w.frozen? ⟨k, 2, none⟩ = false ∧ w.frozen? ⟨k, 3, none⟩ = false := ⟨h.free 0, h.free 1, h.free 2, h.free 3⟩
theorem Bx.set4 {w : World} {k : Nat} {a b c d : Value} (h : Bx w k #[a, b, c, d]) (x y z u : Value) : Bx ((((w.setCell ⟨k, 0, none⟩ x).setCell ⟨k, 1, none⟩ y).setCell ⟨k, 2, none⟩ z).setCell ⟨k, 3, none⟩ u) k #[x, y, z, u] := (((h.set 0 x).set 1 y).set 2 z).set 3 u
theorem Bx.other4 {w : World} {k j : Nat} {cs : Array Value} (h : Bx w k cs) (hj : j ≠ k) (x y z u : Value) : Bx ((((w.setCell ⟨j, 0, none⟩ x).setCell ⟨j, 1, none⟩ y).setCell ⟨j, 2, none⟩ z).setCell ⟨j, 3, none⟩ u) k cs :=
  (((h.set_other (p := ⟨j, 0, none⟩) hj x).set_other (p := ⟨j, 1, none⟩) hj y).set_other (p := ⟨j, 2, none⟩) hj z).set_other (p := ⟨j, 3, none⟩) hj u
theorem Ext.store4 {w0 w : World} (h : Ext w0 w) {k : Nat} (hk : w0.heap.size ≤ k) (x y z u : Value) : Ext w0 ((((w.setCell ⟨k, 0, none⟩ x).setCell ⟨k, 1, none⟩ y).setCell ⟨k, 2, none⟩ z).setCell ⟨k, 3, none⟩ u) :=
  (((h.set (p := ⟨k, 0, none⟩) hk x).set (p := ⟨k, 1, none⟩) hk y).set (p := ⟨k, 2, none⟩) hk z).set (p := ⟨k, 3, none⟩) hk u
theorem Bx.drew {w : World} {k : Nat} {cs : Array Value} (h : Bx w k cs) : Bx w.drew k cs := h
theorem ret4_cell {P : Program} {fn : Func} {R : Ending → World → Prop} {a : Act} {W : World} {v : Value} {k : Nat} {x y z u : Value} (hb : Bx W k #[x, y, z, u])
    (h : W.cell? ⟨k, 0, none⟩ = some x → W.cell? ⟨k, 1, none⟩ = some y → W.cell? ⟨k, 2, none⟩ = some z → W.cell? ⟨k, 3, none⟩ = some u → (results fn a.tmps).run P W = .ok v W) (hd : a.defers = []) (hR : R (.returned v) W) : bodyPost P fn R .ret a W :=
  bodyPost_ret (h hb.read4.1 hb.read4.2.1 hb.read4.2.2.1 hb.read4.2.2.2) hd hR
def gv (g : Gt) : Value := .agg #[.int .i64 g.lo, .int .i64 g.hi, .int .i64 g.high, .bool g.is]
theorem belRow_high {f : Int → Gt} {b : Int} (hb : 0 ≤ b) : ∀ {r : List It} {i : Nat} {o : Gt}, (∀ x ∈ r, 0 ≤ (f x.2).high ∧ (f x.2).high ≤ b) → (0 ≤ o.high ∧ o.high ≤ b + 1) → 0 ≤ (belRow f i r o).high ∧ (belRow f i r o).high ≤ b + 1
  | [], i, o, _, h => h
  | x :: r, i, o, hf, h => by
    unfold belRow
    split
    · exact ⟨by simp [Gt.no], by simp [Gt.no]; omega⟩
    · refine belRow_high hb (fun y hy => hf y (List.mem_cons_of_mem _ hy)) ?_
      have := hf x List.mem_cons_self
      unfold nextR
      split <;> simp only <;> omega
theorem bel_high (l : List HC) : ∀ (m : Nat) (p : Int), 0 ≤ (bel l m p).high ∧ (bel l m p).high ≤ m
  | 0, p => by simp [bel, Gt.no]
  | m + 1, p => by
    unfold bel
    split
    · exact ⟨by simp [Gt.no], by simp [Gt.no]; omega⟩
    · split
      · exact ⟨by simp, by simp only; omega⟩
      · have h := belRow_high (f := bel l m) (b := m) (by omega) (r := (cellT l p).it) (i := 0) (o := Gt.no) (fun x _ => bel_high l m x.2) (by simp [Gt.no]; omega)
        exact ⟨h.1, by have := h.2; omega⟩
theorem firstK_at {it : List It} (h : 0 < it.length) : firstK it = it[0].1 := by unfold firstK; rw [List.getD_eq_getElem?_getD, List.getElem?_eq_getElem h]; rfl
theorem lastK_at {it : List It} (h : 0 < it.length) : lastK it = (it[it.length - 1]'(by omega)).1 := by unfold lastK; rw [List.getD_eq_getElem?_getD, List.getElem?_eq_getElem (by omega)]; rfl
theorem Bx.drewN {w : World} {k : Nat} {cs : Array Value} (h : Bx w k cs) (n : Nat) : Bx (w.drewN n) k cs := h
theorem belRow_bad {f : Int → Gt} {it : List It} {j : Nat} {o : Gt} (hj : j < it.length) (h : badR j it[j] (f it[j].2) o = true) : belRow f j (it.drop j) o = Gt.no := by
  rw [List.drop_eq_getElem_cons hj, belRow, if_pos h]
theorem belRow_good {f : Int → Gt} {it : List It} {j : Nat} {o : Gt} (hj : j < it.length) (h : badR j it[j] (f it[j].2) o = false) : belRow f j (it.drop j) o = belRow f (j + 1) (it.drop (j + 1)) (nextR j (f it[j].2) o) := by
  rw [List.drop_eq_getElem_cons hj, belRow, h]; rfl
end Go.Proofs.YtbfbpddfcakieaaGreat
namespace Go.Proofs.YtbfbpddfcakieaaGreat
open Go.RowKit

/-- What each node of a right tree is. -/
theorem node_in (l : List HC) (hl : AllR l) : ∀ (m : Nat) (p : Int), 0 ≤ p → p < l.length → (bel l m p).is = true → ∀ y ∈ nodesB l m p,
    ∃ m' : Nat, m' ≤ m ∧ (bel l m' y).is = true ∧ (0 ≤ y ∧ y < l.length) ∧ (bel l m' y).high ≤ (bel l m p).high ∧ ∀ z ∈ listB l m' y, z ∈ listB l m p
  | 0, p, _, _, h, _, _ => (bel_zero h).elim
  | m + 1, p, h0, h1, h, y, hy => by
    obtain ⟨k, rfl⟩ := Int.eq_ofNat_of_zero_le h0
    have hk : k < l.length := by omega
    obtain ⟨hr, hc⟩ := bel_is h
    have hr2 := hr
    rw [cellT_at hk] at hr
    have hok := cell_ok (hl k hk) hr
    rw [nodesB] at hy
    rcases List.mem_cons.1 hy with rfl | hy
    · exact ⟨m + 1, Nat.le_refl _, h, ⟨h0, h1⟩, Int.le_refl _, fun z hz => hz⟩
    · rcases hc with ⟨hlf, _⟩ | ⟨hlf, e, hch⟩
      · rw [hlf] at hy; simp at hy
      · rw [hlf] at hy
        simp only [Bool.false_eq_true, if_false] at hy
        obtain ⟨x, hx, hy⟩ := List.mem_flatMap.1 hy
        have hx' : x ∈ l[k].it := by rw [cellT_at hk] at hx; exact hx
        have hlf' : l[k].leaf = false := by rw [cellT_at hk] at hlf; exact hlf
        obtain ⟨c1, c2, c3⟩ := hch x hx
        have hp := hok.2 hlf' x hx'
        obtain ⟨m', d1, d2, d3, d4, d5⟩ := node_in l hl m x.2 hp.1 (by omega) c1 y hy
        refine ⟨m', by omega, d2, d3, by omega, fun z hz => ?_⟩
        rw [listB, hlf]
        simp only [Bool.false_eq_true, if_false]
        exact List.mem_flatMap.2 ⟨x, hx, d5 z hz⟩
theorem belRow_pair {f : Int → Gt} : ∀ {r : List It} {i : Nat} {o : Gt}, (∀ x ∈ r, (f x.2).lo ≤ (f x.2).hi) → (belRow f i r o).is = true →
    r.Pairwise (fun a b => (f a.2).hi < (f b.2).lo) ∧ (0 < i → ∀ x ∈ r, o.hi < (f x.2).lo)
  | [], _, _, _, _ => ⟨List.Pairwise.nil, fun _ x hx => by cases hx⟩
  | x :: r, i, o, hs, hb => by
    unfold belRow at hb
    cases hbad : badR i x (f x.2) o
    · rw [hbad] at hb
      simp only [Bool.false_eq_true, if_false] at hb
      obtain ⟨h1, h2⟩ := belRow_pair (fun y hy => hs y (List.mem_cons_of_mem _ hy)) hb
      have hnx : (nextR i (f x.2) o).hi = (f x.2).hi := rfl
      have h3 := h2 (by omega)
      rw [hnx] at h3
      refine ⟨List.pairwise_cons.2 ⟨fun y hy => h3 y hy, h1⟩, fun hi y hy => ?_⟩
      unfold badR at hbad
      simp only [Bool.or_eq_false_iff, Bool.and_eq_false_iff, decide_eq_false_iff_not] at hbad
      have hlt : o.hi < (f x.2).lo := by
        rcases hbad.2.2 with b | b
        · omega
        · omega
      rcases List.mem_cons.1 hy with rfl | hy
      · exact hlt
      · have h4 := h3 y hy
        have h5 := hs x List.mem_cons_self
        omega
    · rw [hbad] at hb; simp [Gt.no] at hb
theorem nodup_fm {α : Type} {g : α → List Int} : ∀ {r : List α}, (∀ x ∈ r, (g x).Nodup) → r.Pairwise (fun a b => ∀ y, y ∈ g a → y ∉ g b) → (r.flatMap g).Nodup
  | [], _, _ => by simp
  | x :: r, h, hp => by
    obtain ⟨h1, h2⟩ := List.pairwise_cons.1 hp
    rw [List.flatMap_cons, List.nodup_append]
    refine ⟨h x List.mem_cons_self, nodup_fm (fun y hy => h y (List.mem_cons_of_mem _ hy)) h2, ?_⟩
    intro a ha b hb e
    subst e
    obtain ⟨z, hz, hb⟩ := List.mem_flatMap.1 hb
    exact h1 z hz a ha hb
/-- Each node stands once. -/
theorem nodes_once (l : List HC) (hl : AllR l) : ∀ (m : Nat) (p : Int), 0 ≤ p → p < l.length → (bel l m p).is = true → (nodesB l m p).Nodup
  | 0, p, _, _, h => (bel_zero h).elim
  | m + 1, p, h0, h1, h => by
    obtain ⟨k, rfl⟩ := Int.eq_ofNat_of_zero_le h0
    have hk : k < l.length := by omega
    obtain ⟨hr, hc⟩ := bel_is h
    rw [cellT_at hk] at hr
    have hok := cell_ok (hl k hk) hr
    rw [nodesB]
    rcases hc with ⟨hlf, _⟩ | ⟨hlf, e, hch⟩
    · rw [hlf, if_pos rfl]; simp
    · rw [hlf]
      simp only [Bool.false_eq_true, if_false]
      have hx' : ∀ x ∈ (cellT l (k : Int)).it, 0 ≤ x.2 ∧ x.2 < l.length := fun x hx => by
        rw [cellT_at hk] at hx hlf
        exact hok.2 hlf x hx
      rw [List.nodup_cons]
      constructor
      · intro hin
        obtain ⟨x, hx, hy⟩ := List.mem_flatMap.1 hin
        obtain ⟨c1, c2, c3⟩ := hch x hx
        obtain ⟨m', d1, d2, d3, d4, d5⟩ := node_in l hl m x.2 (hx' x hx).1 (hx' x hx).2 c1 _ hy
        rw [bel_mono l m' (m + 1) _ d2 (by omega)] at c3
        omega
      · have hsp : ∀ x ∈ (cellT l (k : Int)).it, Spans (listB l m x.2) (bel l m x.2).lo (bel l m x.2).hi := fun x hx => listB_spans l hl m x.2 (hx' x hx).1 (hx' x hx).2 (hch x hx).1
        rw [e] at h
        have hpw := (belRow_pair (f := bel l m) (fun x hx => (hsp x hx).le2) h).1
        refine nodup_fm (fun x hx => nodes_once l hl m x.2 (hx' x hx).1 (hx' x hx).2 (hch x hx).1) ?_
        refine List.Pairwise.imp_of_mem ?_ hpw
        intro a b ha hb hlt y hya hyb
        obtain ⟨m1, a1, a2, a3, _, a5⟩ := node_in l hl m a.2 (hx' a ha).1 (hx' a ha).2 (hch a ha).1 y hya
        obtain ⟨m2, b1, b2, b3, _, b5⟩ := node_in l hl m b.2 (hx' b hb).1 (hx' b hb).2 (hch b hb).1 y hyb
        have e1 := listB_mono l m1 m y a2 a1
        have e2 := listB_mono l m2 m y b2 b1
        have hs := listB_spans l hl m1 y a3.1 a3.2 a2
        obtain ⟨z, r, hz, _⟩ := hs.head
        have hz1 : z ∈ listB l m1 y := by rw [hz]; exact List.mem_cons_self
        have hz2 : z ∈ listB l m2 y := by rw [← e2, e1]; exact hz1
        have k1 := (hsp a ha).le z (a5 z hz1)
        have k2 := (hsp b hb).ge z (b5 z hz2)
        omega
/-- A node's own items, if it is a leaf. -/
def leafI (l : List HC) (y : Int) : List It := if (cellT l y).leaf then (cellT l y).it else []
theorem leaves_all (l : List HC) : ∀ (m : Nat) (p : Int), (bel l m p).is = true → (nodesB l m p).flatMap (leafI l) = listB l m p
  | 0, p, h => (bel_zero h).elim
  | m + 1, p, h => by
    obtain ⟨hr, hc⟩ := bel_is h
    rw [nodesB, listB, List.flatMap_cons]
    rcases hc with ⟨hlf, _⟩ | ⟨hlf, e, hch⟩
    · unfold leafI
      rw [hlf]; simp
    · have h0 : leafI l p = [] := by unfold leafI; rw [hlf]; rfl
      rw [hlf, h0]
      simp only [Bool.false_eq_true, if_false, List.nil_append]
      rw [List.flatMap_assoc]
      exact flatMap_congr' (fun x hx => leaves_all l m x.2 (hch x hx).1)
structure NodesF (l : List HC) (root : Int) (L : List Int) : Prop where
  once : L.Nodup
  used : ∀ i (hi : i < L.length), ∃ j, ∃ hj : j < l.length, L[i] = (j : Int) ∧ 0 < l[j].ref
  head : 0 < L.length ∧ ∀ h : 0 < L.length, L[0] = root
  all : L.flatMap (leafI l) = listT l root
  kids : ∀ x ∈ (cellT l root).it, (cellT l root).leaf = false → x.2 ∈ L
  high : 1 ≤ highT l root ∧ highT l root ≤ 20
  len : L.length ≤ 4398046511104
theorem self_node {l : List HC} {m : Nat} {p : Int} (h : (bel l m p).is = true) : p ∈ nodesB l m p := by
  cases m with
  | zero => exact (bel_zero h).elim
  | succ m => rw [nodesB]; exact List.mem_cons_self
theorem bel_pos (l : List HC) (hl : AllR l) : ∀ (m : Nat) (p : Int), 0 ≤ p → p < l.length → (bel l m p).is = true → 1 ≤ (bel l m p).high
  | 0, p, _, _, h => (bel_zero h).elim
  | m + 1, p, h0, h1, h => by
    obtain ⟨k, rfl⟩ := Int.eq_ofNat_of_zero_le h0
    have hk : k < l.length := by omega
    obtain ⟨hr, hc⟩ := bel_is h
    rw [cellT_at hk] at hr hc
    have hok := cell_ok (hl k hk) hr
    rcases hc with ⟨hlf, e⟩ | ⟨hlf, e, hch⟩
    · rw [e]; simp
    · have hlen := hok.1.1.1
      have hx : l[k].it[0] ∈ l[k].it := List.getElem_mem (by omega)
      have h2 := (hch _ hx).2.2
      have h3 := (bel_high l m l[k].it[0].2).1
      omega
theorem nodes_facts {l : List HC} {keep root : Int} (hl : AllR l) (hr : rightR ⟨l, keep⟩ root = true) (h0 : 0 ≤ root) {L : List Int} (hL : nodesT l root = L) : NodesF l root L := by
  rcases rightR_iff hr with h | ⟨_, h1, hb⟩
  · omega
  have hL' : nodesB l 20 root = L := by rw [← hL]; unfold nodesT; rw [if_neg (by omega)]
  subst hL'
  refine ⟨nodes_once l hl 20 root h0 h1 hb, fun i hi => ?_, ⟨List.length_pos_of_mem (self_node hb), fun h => rfl⟩, ?_, fun x hx hlf => ?_, ?_, ?_⟩
  · obtain ⟨m', a1, a2, a3, _, _⟩ := node_in l hl 20 root h0 h1 hb _ (List.getElem_mem hi)
    obtain ⟨j, hj⟩ := Int.eq_ofNat_of_zero_le a3.1
    have hjl : j < l.length := by omega
    refine ⟨j, hjl, hj, ?_⟩
    cases m' with
    | zero => exact (bel_zero a2).elim
    | succ m' =>
      have := (bel_is a2).1
      rw [hj, cellT_at hjl] at this
      exact this
  · rw [leaves_all l 20 root hb]
    unfold listT
    rw [if_neg (by omega)]
  · obtain ⟨hrf, hc⟩ := bel_is (m := 19) hb
    rcases hc with ⟨hlf', _⟩ | ⟨_, e, hch⟩
    · rw [hlf] at hlf'; cases hlf'
    · show x.2 ∈ nodesB l (19 + 1) root
      rw [nodesB, hlf]
      simp only [Bool.false_eq_true, if_false]
      exact List.mem_cons_of_mem _ (List.mem_flatMap.2 ⟨x, hx, self_node (hch x hx).1⟩)
  · unfold highT
    rw [if_neg (by omega)]
    exact ⟨bel_pos l hl 20 root h0 h1 hb, (bel_high l 20 root).2⟩
  · have := nodesB_len l hl 20 root h0 h1 hb
    have h4 : 2 * 4 ^ 20 ≤ 4398046511104 := by decide
    omega
end Go.Proofs.YtbfbpddfcakieaaGreat
