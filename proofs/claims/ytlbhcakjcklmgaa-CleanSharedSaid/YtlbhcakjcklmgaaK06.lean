/- The walk of High of the reference of layer 7. The walk of List of the reference of layer 7. Items of right trees rise; what keys tell of them; parts of scans. No program in sight. The walk of Nodes of the reference of layer 7. Walks of List, Nodes of any root, of Scan and of Get of the reference of layer 7. What scans and keys of right trees tell: for the law on scans. No program in sight. -/
import Derived.Test.YtlbhcakjcklmgaaK05
import Derived.Deep.AppendLies
import Derived.Deep.RegionHeld3
import Derived.Deep.DeepCutAuto
import Derived.Deep.DrawnRows
import Derived.RegionTactic
import Derived.Deep.QuietTactic
import Derived.BigQuiet
namespace Go.Proofs.Ytlbhcakjcklmgaa
open Go.RowKit
attribute [local go_sem ↓] Go.wp_at_zero Go.wp_at_succ

/-- A cell's node, its row opened. -/
theorem it_at {w : World} {A : Option Addr} {n c : Nat} {it : List It} (h : Sl w A n c (ivs it)) {k : Nat} (hk : k < it.length) : ∃ b off, A = some ⟨b, off, none⟩ ∧ b < w.heap.size ∧ w.cell? ⟨b, off + k * 2, none⟩ = some (.int .i64 it[k].1) ∧ w.cell? ⟨b, off + k * 2 + 1, none⟩ = some (.int .i64 it[k].2) := by
  obtain ⟨b, off, e, hlt, hc⟩ := h.cells.it hk
  exact ⟨b, off, e, hlt, hc k hk⟩
end Go.Proofs.Ytlbhcakjcklmgaa
namespace Go.Proofs.Ytlbhcakjcklmgaa
open Go.RowKit
attribute [local go_sem ↓] Go.wp_at_zero Go.wp_at_succ

theorem flatMap_le {α β : Type} (f : α → List β) (b : Nat) : ∀ (l : List α), (∀ x ∈ l, (f x).length ≤ b) → (l.flatMap f).length ≤ l.length * b
  | [], _ => by simp
  | x :: l, h => by
    rw [List.flatMap_cons, List.length_append, List.length_cons, Nat.succ_mul, Nat.add_comm]
    exact Nat.add_le_add (flatMap_le f b l (fun y hy => h y (List.mem_cons_of_mem _ hy))) (h x List.mem_cons_self)
/-- How many items there are at most. -/
theorem listB_len (l : List HC) (hl : AllR l) : ∀ (m : Nat) (p : Int), 0 ≤ p → p < l.length → (bel l m p).is = true → (listB l m p).length ≤ 4 ^ m
  | 0, p, h0, h1, h => (bel_zero h).elim
  | m + 1, p, h0, h1, h => by
    obtain ⟨k, rfl⟩ := Int.eq_ofNat_of_zero_le h0
    have hk : k < l.length := by omega
    obtain ⟨hr, hc⟩ := bel_is h
    rw [cellT_at hk] at hr hc
    have hok := cell_ok (hl k hk) hr
    have hp : 0 < 4 ^ m := Nat.pow_pos (by omega)
    unfold listB
    rw [cellT_at hk, Nat.pow_succ]
    rcases hc with ⟨hlf, _⟩ | ⟨hlf, _, hch⟩
    · rw [hlf, if_pos rfl]
      have := hok.1.1
      omega
    · rw [hlf]
      simp only [Bool.false_eq_true, if_false]
      have h2 := flatMap_le (fun x => listB l m x.2) (4 ^ m) l[k].it (fun x hx => listB_len l hl m x.2 (hok.2 hlf x hx).1 (by have := (hok.2 hlf x hx).2; omega) (hch x hx).1)
      have h3 := Nat.mul_le_mul_right (4 ^ m) hok.1.1.2
      omega
theorem flatMap_take {α β : Type} (f : α → List β) (l : List α) {j : Nat} (hj : j < l.length) : (l.take (j + 1)).flatMap f = (l.take j).flatMap f ++ f l[j] := by
  rw [List.take_succ_eq_append_getElem hj, List.flatMap_append]; simp
theorem flatMap_take_le {α β : Type} (f : α → List β) (l : List α) (j : Nat) : ((l.take j).flatMap f).length ≤ (l.flatMap f).length := by
  have h : l.flatMap f = (l.take j).flatMap f ++ (l.drop j).flatMap f := by rw [← List.flatMap_append, List.take_append_drop]
  rw [h, List.length_append]; omega
set_option maxRecDepth 100000 in
set_option maxHeartbeats 3200000 in
theorem ref07List_bel (l : List HC) (hl : AllR l) (hn : l.length ≤ 2000) : ∀ (m : Nat) (p : Int) (R : Option Addr) (n q : Nat) (keep : Int) (w : World), m ≤ 20 → 0 ≤ p → p < l.length → (bel l m p).is = true → HcSl w R n q l →
    Calls Try.prog 12 #[.agg #[.slice R n q, .int .i64 keep], .int .i64 p] w fun e w' => ∃ S s d, e = .returned (.slice S s d) ∧ s = (listB l m p).length ∧ Sl w' S s d (ivs (listB l m p)) ∧ Ext w w'
  | 0, p, R, n, q, keep, w, hm, h0, h1, h, hA => (bel_zero h).elim
  | m + 1, p, R, n, q, keep, w, hm, h0, h1, h, hA => by
    obtain ⟨k, rfl⟩ := Int.eq_ofNat_of_zero_le h0
    have hk : k < l.length := by omega
    have hnl := hA.1
    have hlen0 := listB_len l hl (m + 1) (k : Int) h0 h1 h
    obtain ⟨hr, hc⟩ := bel_is h
    rw [cellT_at hk] at hr hc
    have hx0 := (Ext.refl w).alloc (.cells #[.slice R n q, .int .i64 keep] 24)
    have HB0 := Lib.hid (Bx.new w #[.slice R n q, .int .i64 keep] 24)
    have HX := Lib.hid hx0
    obtain ⟨p0, p1, p2⟩ := HB0.out.read2
    obtain ⟨b, off, rfl, hbl, A, c, r0, r1, r2, r3, hI⟩ := (hA.ext hx0).cell hk
    have hok := cell_ok (hl k hk) hr
    have hkn : k < n := by omega
    have hlen := hok.1.1
    have he : listB l (m + 1) (k : Int) = if l[k].leaf then l[k].it else l[k].it.flatMap (fun x => listB l m x.2) := by rw [listB, cellT_at hk]
    rcases hc with ⟨hlf, hb⟩ | ⟨hlf, hb, hch⟩
    · rw [hlf, if_pos rfl] at he
      rw [he]
      rw [hlf] at r2
      have HI := Lib.hid (hI.ext ((Ext.refl _).alloc (.cells #[.bool true, .slice A l[k].it.length c] 36)))
      generalize hit : l[k].it = it at *
      obtain ⟨li, hli⟩ : ∃ li, it.length = li := ⟨_, rfl⟩
      rw [hli] at HI r3 hlen
      have HLI := Lib.hid hli
      clear hb h hok hA hI hx0 hnl hr hlf h0 h1 he hit hli hlen0
      go_enter Try.func12, Try.ntmps12
      go_wp2
      go_ret
      exact ⟨A, li, c, rfl, HLI.out.symm, HI.out, HX.out.alloc _⟩
    · rw [hlf] at he
      simp only [Bool.false_eq_true, if_false] at he
      rw [he]
      rw [he] at hlen0
      rw [hlf] at r2
      have HIH := Lib.hid (fun j (hj : j < l[k].it.length) w' (hx : Ext w w') => ref07List_bel l hl hn m l[k].it[j].2 (some ⟨b, off, none⟩) n q keep w' (by omega) (hok.2 hlf _ (List.getElem_mem hj)).1 (by have := (hok.2 hlf _ (List.getElem_mem hj)).2; omega) (hch _ (List.getElem_mem hj)).1 (hA.ext hx))
      have hst : Ext (w.alloc (.cells #[.slice (some ⟨b, off, none⟩) n q, .int .i64 keep] 24)) ((w.alloc (.cells #[.slice (some ⟨b, off, none⟩) n q, .int .i64 keep] 24)).alloc (.cells #[.bool false, .slice A l[k].it.length c] 36)) := (Ext.refl _).alloc _
      have HI := Lib.hid (hI.ext hst)
      have HBN := Lib.hid (Bx.new (w.alloc (.cells #[.slice (some ⟨b, off, none⟩) n q, .int .i64 keep] 24)) #[.bool false, .slice A l[k].it.length c] 36)
      have HBH := Lib.hid (HB0.out.ext hst)
      have HX1 := Lib.hid (hx0.trans hst)
      rw [World.size_alloc] at HBN
      generalize hit : l[k].it = it at *
      obtain ⟨li, hli⟩ : ∃ li, it.length = li := ⟨_, rfl⟩
      rw [hli] at HI r3 hlen HBN HBH HX1
      have HLI := Lib.hid hli
      have HLE := Lib.hid (show (it.flatMap (fun x => listB l m x.2)).length ≤ 1099511627776 from Nat.le_trans hlen0 (Nat.le_trans (Nat.pow_le_pow_right (by omega) hm) (by decide)))
      clear hb h hok hA hI hx0 hnl hr hlf h0 h1 he hit hli hlen0 hst hch HB0
      obtain ⟨F, hF⟩ : ∃ F : It → List It, (fun x => listB l m x.2) = F := ⟨_, rfl⟩
      rw [hF] at HLE
      rw [hF]
      have HIH := Lib.hid (fun j (hj : j < it.length) w' (hx : Ext w w') => (show Calls Try.prog 12 #[.agg #[.slice (some ⟨b, off, none⟩) n q, .int .i64 keep], .int .i64 it[j].2] w' fun e w2 => ∃ S s d, e = .returned (.slice S s d) ∧ s = (F it[j]).length ∧ Sl w2 S s d (ivs (F it[j])) ∧ Ext w' w2 from by rw [← hF]; exact HIH.out j hj w' hx))
      clear hF
      go_enter Try.func12, Try.ntmps12
      go_wp2
      generalize World.alloc (World.alloc w _) _ = W at *
      clear p0 p1 p2 r0 r1 r2 r3 hbl HX
      go_loopw [6, 7] (fun v i wr => ∃ (j t : Nat) (S : Option Addr) (d : Nat), j ≤ li ∧ i = .int .i64 j ∧ v = .slice S t d ∧ t = ((it.take j).flatMap F).length ∧ wr.ownsRow W.heap.size 46 2 (.slice S t d) t (ivs ((it.take j).flatMap F)) ∧ Ext W wr) (fun _ i _ => li - (intOf i).toNat)
      case atStart => exact ⟨0, 0, none, 0, Nat.zero_le _, rfl, rfl, by simp, by rw [List.take_zero, List.flatMap_nil]; exact ⟨rfl, .inl ⟨rfl, rfl⟩⟩, Ext.refl _⟩
      case round =>
        obtain ⟨j, t, S, d, hj, rfl, rfl, ht, ho, hx⟩ := hrel
        have HT := Lib.hid ht
        have HO := Lib.hid ho
        have HXR := Lib.hid hx
        obtain ⟨p0, p1, p2⟩ := (HBH.out.ext hx).read2
        obtain ⟨r0, r1, r2⟩ := (HBN.out.ext hx).read2
        rcases Nat.lt_or_ge j li with hlt | hlt
        · have hjl : j < it.length := by rw [HLI.out]; exact hlt
          obtain ⟨b2, off2, rfl, hb2, i0, i1⟩ := it_at HI.out hjl
          have i0 := (hx.cell (p := ⟨b2, off2 + j * 2, none⟩) hb2).trans i0
          have i1 := (hx.cell (p := ⟨b2, off2 + j * 2 + 1, none⟩) hb2).trans i1
          have hji : (j : Int) < (li : Int) := by omega
          have HTK := Lib.hid (flatMap_take F it hjl)
          have HTL := Lib.hid (show ((it.take (j + 1)).flatMap F).length ≤ 1099511627776 from Nat.le_trans (flatMap_take_le F it (j + 1)) HLE.out)
          have HCL := Lib.hid (fun w' (hx : Ext w w') => HIH.out j hjl w' hx)
          have HM := Lib.hid (HX1.out.trans hx)
          generalize it[j].2 = V at *
          generalize it[j].1 = K at *
          generalize it[j] = xj at *
          clear ht ho hjl
          go_wp2
          go_region_law
            (first
              | ((go_simp
                  go_at_call 12
                  refine (HCL.out _ ?_).mono ?_
                  (first | exact HM.out.drew | exact HM.out)
                  rintro e w4 ⟨S4, s4, d4, rfl, hs4, hsl4, hx4⟩
                  have E4 := Lib.hid (show Ext wr w4 from by first | exact (Ext.refl _).drew.trans hx4 | exact hx4)
                  have N4 := Lib.hid hs4
                  have S4H := Lib.hid hsl4
                  clear hs4 hsl4 hx4))
              | ((refine step_app_sl ?_ ?_ ?_ 34 ?_ W.heap.size 46 (.agg #[.int .i64 0, .int .i64 0]) 2 16 Try.underlying34 infoIt rfl Nat.two_pos ?_ t (ivs ((it.take j).flatMap F)) ?_ ?_ S4 s4 d4 (ivs (F xj)) ?_ (by rw [ivs_length, N4.out]) S4H.out (ivs_oneCell _) ?_ ?_ ?_ ?_
                  rfl
                  rotate_left 2
                  rfl
                  rotate_left 1
                  rfl
                  (exact own_ext HO.out E4.out)
                  rfl
                  (have h1 := HTL.out; rw [HTK.out, List.length_append, ← HT.out, ← N4.out] at h1; unfold maxLen; omega)
                  (have h1 := HTL.out; rw [HTK.out, List.length_append, ← HT.out, ← N4.out] at h1; omega)
                  (exact (HXR.out.trans E4.out).size)
                  intro A5 d5 w5 hown hg
                  have HX5 := Lib.hid (Ext.app (HXR.out.trans E4.out) (own_ext HO.out E4.out) (Nat.le_refl _) hg)
                  rw [← ivs_append, ← HTK.out] at hown
                  have HO5 := Lib.hid hown
                  clear hown hg)))
          all_goals
            go_wp2_with fail
            go_roundw
            case rel => exact ⟨j + 1, t + s4, A5, d5, by omega, by go_num, rfl, by rw [HTK.out, List.length_append, ← HT.out, ← N4.out], HO5.out, HX5.out⟩
            case measure => simp [intOf]; omega
        · obtain rfl : li = j := by omega
          have d0 : decide ((li : Int) < (li : Int)) = false := decide_eq_false (by omega)
          have HE := Lib.hid (show it.take li = it by rw [← HLI.out, List.take_length])
          rw [HE.out] at HT HO
          clear ht ho hlt
          go_wp2
          go_ret
          exact ⟨S, t, d, rfl, HT.out, own_sl HO.out, HX1.out.trans HXR.out⟩
end Go.Proofs.Ytlbhcakjcklmgaa
namespace Go.Proofs.Ytlbhcakjcklmgaa
open Go.RowKit

def Asc (xs : List It) : Prop := xs.Pairwise (fun a b => a.1 < b.1)
/-- Items that rise, from the key lo to the key hi. -/
structure Spans (xs : List It) (lo hi : Int) : Prop where
  asc : Asc xs
  head : ∃ y r, xs = y :: r ∧ y.1 = lo
  last : ∃ y ∈ xs, y.1 = hi
  le : ∀ x ∈ xs, x.1 ≤ hi
  ok : ∀ x ∈ xs, okIt x
theorem Spans.ge {xs : List It} {lo hi : Int} (h : Spans xs lo hi) : ∀ x ∈ xs, lo ≤ x.1 := by
  obtain ⟨y, r, rfl, rfl⟩ := h.head
  intro x hx
  rcases List.mem_cons.1 hx with rfl | hx
  · exact Int.le_refl _
  · exact Int.le_of_lt ((List.pairwise_cons.1 h.asc).1 x hx)
theorem Spans.le2 {xs : List It} {lo hi : Int} (h : Spans xs lo hi) : lo ≤ hi := by
  obtain ⟨y, hy, rfl⟩ := h.last
  exact h.ge y hy
theorem asc_of {xs : List It} (h : NdR xs) : Asc xs := by
  unfold Asc
  rw [List.pairwise_iff_getElem]
  intro i j hi hj hij
  exact h.rise j i hj hij
theorem spans_leaf {xs : List It} (h : NdR xs) : Spans xs (firstK xs) (lastK xs) := by
  have hlen := h.1.1
  refine ⟨asc_of h, ?_, ?_, ?_, h.ok⟩
  · cases xs with
    | nil => simp at hlen
    | cons y r => exact ⟨y, r, rfl, rfl⟩
  · refine ⟨xs[xs.length - 1], List.getElem_mem _, ?_⟩
    unfold lastK
    rw [List.getD_eq_getElem?_getD, List.getElem?_eq_getElem (by omega)]
    rfl
  · intro x hx
    obtain ⟨i, hi, rfl⟩ := List.mem_iff_getElem.1 hx
    unfold lastK
    rw [List.getD_eq_getElem?_getD, List.getElem?_eq_getElem (by omega)]
    show xs[i].1 ≤ xs[xs.length - 1].1
    rcases Nat.lt_or_ge i (xs.length - 1) with h' | h'
    · exact Int.le_of_lt (h.rise (xs.length - 1) i (by omega) h')
    · have : i = xs.length - 1 := by omega
      subst this
      exact Int.le_refl _
theorem Spans.app {xs ys : List It} {a b c d : Int} (h : Spans xs a b) (k : Spans ys c d) (hbc : b < c) : Spans (xs ++ ys) a d := by
  refine ⟨?_, ?_, ?_, ?_, ?_⟩
  · unfold Asc
    rw [List.pairwise_append]
    exact ⟨h.asc, k.asc, fun x hx y hy => by have h1 := h.le x hx; have h2 := k.ge y hy; omega⟩
  · obtain ⟨y, r, rfl, hy⟩ := h.head
    exact ⟨y, r ++ ys, rfl, hy⟩
  · obtain ⟨y, hy, e⟩ := k.last
    exact ⟨y, List.mem_append_right _ hy, e⟩
  · intro x hx
    rcases List.mem_append.1 hx with hx | hx
    · have h1 := h.le x hx; have h2 := k.le2; omega
    · exact k.le x hx
  · intro x hx
    rcases List.mem_append.1 hx with hx | hx
    · exact h.ok x hx
    · exact k.ok x hx
/-- Rows whose parts span what is found of them: all of it spans from the first part's least key to the last one's greatest. -/
theorem spans_row {f : Int → Gt} {g : Int → List It} : ∀ {r : List It} {i : Nat} {o : Gt} {xs : List It}, (∀ x ∈ r, Spans (g x.2) (f x.2).lo (f x.2).hi) → (belRow f i r o).is = true →
    0 < i → Spans xs o.lo o.hi → Spans (xs ++ r.flatMap (fun x => g x.2)) (belRow f i r o).lo (belRow f i r o).hi
  | [], i, o, xs, _, _, _, h => by simpa [belRow] using h
  | x :: r, i, o, xs, hg, hb, hi, h => by
    unfold belRow at hb ⊢
    cases hbad : badR i x (f x.2) o
    · rw [hbad] at hb
      simp only [Bool.false_eq_true, if_false] at hb ⊢
      unfold badR at hbad
      simp only [Bool.or_eq_false_iff, Bool.and_eq_false_iff, decide_eq_false_iff_not] at hbad
      have hlt : o.hi < (f x.2).lo := by
        rcases hbad.2.2 with b | b
        · omega
        · omega
      have h1 := h.app (hg x List.mem_cons_self) hlt
      have hnx : (nextR i (f x.2) o).lo = o.lo ∧ (nextR i (f x.2) o).hi = (f x.2).hi := by
        unfold nextR
        simp only
        rw [if_neg (by omega)]
        exact ⟨rfl, trivial⟩
      rw [← hnx.1, ← hnx.2] at h1
      have h2 := spans_row (fun y hy => hg y (List.mem_cons_of_mem _ hy)) hb (by omega) h1
      rw [List.flatMap_cons, ← List.append_assoc]
      exact h2
    · rw [hbad] at hb; simp [Gt.no] at hb
/-- A right tree's items span from its least key to its greatest. -/
theorem listB_spans (l : List HC) (hl : AllR l) : ∀ (m : Nat) (p : Int), 0 ≤ p → p < l.length → (bel l m p).is = true → Spans (listB l m p) (bel l m p).lo (bel l m p).hi
  | 0, p, _, _, h => (bel_zero h).elim
  | m + 1, p, h0, h1, h => by
    obtain ⟨k, rfl⟩ := Int.eq_ofNat_of_zero_le h0
    have hk : k < l.length := by omega
    obtain ⟨hr, hc⟩ := bel_is h
    rw [cellT_at hk] at hr hc
    have hok := cell_ok (hl k hk) hr
    unfold listB
    rw [cellT_at hk]
    rcases hc with ⟨hlf, e⟩ | ⟨hlf, e, hch⟩
    · rw [hlf, if_pos rfl, e]
      exact spans_leaf hok.1
    · rw [hlf]
      simp only [Bool.false_eq_true, if_false]
      rw [e] at h ⊢
      have hg : ∀ x ∈ l[k].it, Spans (listB l m x.2) (bel l m x.2).lo (bel l m x.2).hi := fun x hx => listB_spans l hl m x.2 (hok.2 hlf x hx).1 (by have := (hok.2 hlf x hx).2; omega) (hch x hx).1
      have hlen := hok.1.1.1
      generalize l[k].it = it at *
      cases it with
      | nil => simp at hlen
      | cons x r =>
        unfold belRow at h ⊢
        cases hbad : badR 0 x (bel l m x.2) Gt.no
        · rw [hbad] at h
          simp only [Bool.false_eq_true, if_false] at h ⊢
          have h1 := hg x List.mem_cons_self
          have hnx : (nextR 0 (bel l m x.2) Gt.no).lo = (bel l m x.2).lo ∧ (nextR 0 (bel l m x.2) Gt.no).hi = (bel l m x.2).hi := ⟨rfl, rfl⟩
          rw [← hnx.1, ← hnx.2] at h1
          rw [List.flatMap_cons]
          exact spans_row (fun y hy => hg y (List.mem_cons_of_mem _ hy)) h (by omega) h1
        · rw [hbad] at h; simp [Gt.no] at h
/-- In items that rise each key stands once. -/
theorem asc_one {xs : List It} (h : Asc xs) : ∀ x ∈ xs, ∀ y ∈ xs, x.1 = y.1 → x = y := by
  induction xs with
  | nil => intro x hx; cases hx
  | cons z r ih =>
    intro x hx y hy e
    obtain ⟨h1, h2⟩ := List.pairwise_cons.1 h
    rcases List.mem_cons.1 hx with e1 | e1 <;> rcases List.mem_cons.1 hy with e2 | e2
    · rw [e1, e2]
    · have := h1 y e2; rw [e1] at e; omega
    · have := h1 x e1; rw [e2] at e; omega
    · exact ih h2 x e1 y e2 e
theorem getL_iff {xs : List It} (h : Asc xs) (k v : Int) : (xs.find? (fun x => decide (x.1 = k))).map (·.2) = some v ↔ (k, v) ∈ xs := by
  cases hf : xs.find? (fun x => decide (x.1 = k)) with
  | none =>
    have h1 := List.find?_eq_none.1 hf
    constructor
    · intro h; cases h
    · intro hm; have := h1 _ hm; simp at this
  | some z =>
    have h1 := List.find?_some hf
    have h2 := List.mem_of_find?_eq_some hf
    simp only [decide_eq_true_eq] at h1
    constructor
    · intro he
      have : z.2 = v := by simpa using he
      rw [← h1, ← this]; exact h2
    · intro hm
      have := asc_one h z h2 (k, v) hm h1
      subst this
      rfl
def inR (lo hi : Int) (x : It) : Bool := decide (lo ≤ x.1) && decide (x.1 < hi)
/-- Scans of two parts, one behind the other, are the scan of both. -/
theorem filter_parts {xs : List It} (h : Asc xs) {lo mid hi : Int} (h1 : lo ≤ mid) (h2 : mid ≤ hi) : xs.filter (inR lo mid) ++ xs.filter (inR mid hi) = xs.filter (inR lo hi) := by
  induction xs with
  | nil => rfl
  | cons z r ih =>
    obtain ⟨h3, h4⟩ := List.pairwise_cons.1 h
    have ih := ih h4
    simp only [List.filter_cons]
    by_cases hz : z.1 < mid
    · have e1 : inR mid hi z = false := by unfold inR; rw [decide_eq_false (show ¬ mid ≤ z.1 by omega)]; rfl
      have e2 : inR lo mid z = inR lo hi z := by unfold inR; rw [decide_eq_true hz, decide_eq_true (show z.1 < hi by omega)]
      rw [e1, e2]
      cases inR lo hi z
      · simpa using ih
      · simpa using ih
    · have e0 : ∀ y ∈ z :: r, inR lo mid y = false := by
        intro y hy
        have : z.1 ≤ y.1 := by
          rcases List.mem_cons.1 hy with rfl | hy
          · exact Int.le_refl _
          · exact Int.le_of_lt (h3 y hy)
        unfold inR
        rw [decide_eq_false (show ¬ y.1 < mid by omega)]; simp
      have e1 : r.filter (inR lo mid) = [] := by
        rw [List.filter_eq_nil_iff]
        intro y hy
        rw [e0 y (List.mem_cons_of_mem _ hy)]
        simp
      have e2 : inR mid hi z = inR lo hi z := by unfold inR; rw [decide_eq_true (show mid ≤ z.1 by omega), decide_eq_true (show lo ≤ z.1 by omega)]
      rw [e0 z List.mem_cons_self, e2]
      rw [e1] at ih ⊢
      simp only [List.nil_append] at ih
      cases inR lo hi z
      · simpa using ih
      · simpa using ih
end Go.Proofs.Ytlbhcakjcklmgaa
namespace Go.Proofs.Ytlbhcakjcklmgaa
open Go.RowKit
attribute [local go_sem ↓] Go.wp_at_zero Go.wp_at_succ

/-- How many nodes there are at most. -/
theorem nodesB_len (l : List HC) (hl : AllR l) : ∀ (m : Nat) (p : Int), 0 ≤ p → p < l.length → (bel l m p).is = true → (nodesB l m p).length + 1 ≤ 2 * 4 ^ m
  | 0, p, h0, h1, h => (bel_zero h).elim
  | m + 1, p, h0, h1, h => by
    obtain ⟨k, rfl⟩ := Int.eq_ofNat_of_zero_le h0
    have hk : k < l.length := by omega
    obtain ⟨hr, hc⟩ := bel_is h
    rw [cellT_at hk] at hr hc
    have hok := cell_ok (hl k hk) hr
    have hp : 0 < 4 ^ m := Nat.pow_pos (by omega)
    unfold nodesB
    rw [cellT_at hk, Nat.pow_succ]
    rcases hc with ⟨hlf, _⟩ | ⟨hlf, _, hch⟩
    · rw [hlf, if_pos rfl]
      simp only [List.length_cons, List.length_nil]
      omega
    · rw [hlf]
      simp only [Bool.false_eq_true, if_false, List.length_cons]
      have h2 := flatMap_le (fun x => nodesB l m x.2) (2 * 4 ^ m - 1) l[k].it (fun x hx => by have := nodesB_len l hl m x.2 (hok.2 hlf x hx).1 (by have := (hok.2 hlf x hx).2; omega) (hch x hx).1; omega)
      have h3 := Nat.mul_le_mul_right (2 * 4 ^ m - 1) hok.1.1.2
      omega
theorem infoI1 : (Try.prog.info? 3).map (fun i => (i.zero, i.size, i.bytes)) = some (some (.int .i64 0), 1, 8) := by kernel_rfl
theorem iv_one (l : List Int) : ∀ u ∈ l.map iv, u.oneCell' = true := by
  intro u hu
  obtain ⟨_, _, rfl⟩ := List.mem_map.1 hu
  rfl
/-- A row of numbers of the call's own is no node's box. -/
theorem own_ne {w : World} {B e n : Nat} {v : Value} {l : List Int} (h : w.ownsRow B e 1 v n (l.map iv)) (hl : l ≠ []) {x : Nat} {u : Value} {b : Bool} (hb : Bx w x #[.bool b, u]) : v.ownBlock ≠ some x := by
  intro hv
  rcases h.2 with ⟨h', h2⟩ | ⟨g, cap, cur, rfl, _⟩
  · have h1 := h.1
    subst h2
    apply hl
    simpa using h1
  · cases hv
    have h1 := h.1
    have hn : 0 < n * 1 := by
      rcases Nat.eq_zero_or_pos n with h0 | h0
      · exfalso; apply hl; subst h0; simpa using h1
      · omega
    have h2 := World.ownsRow.cellAt h 0 hn
    rw [hb.at 0 _ rfl] at h2
    cases l with
    | nil => exact hl rfl
    | cons y r => simp [iv] at h2
set_option maxRecDepth 100000 in
set_option maxHeartbeats 3200000 in
theorem ref07Nodes_bel (l : List HC) (hl : AllR l) (hn : l.length ≤ 2000) : ∀ (m : Nat) (p : Int) (R : Option Addr) (n q : Nat) (keep : Int) (w : World), m ≤ 20 → 0 ≤ p → p < l.length → (bel l m p).is = true → HcSl w R n q l →
    Calls Try.prog 9 #[.agg #[.slice R n q, .int .i64 keep], .int .i64 p] w fun e w' => ∃ S s d, e = .returned (.slice S s d) ∧ s = (nodesB l m p).length ∧ Sl w' S s d ((nodesB l m p).map iv) ∧ Ext w w'
  | 0, p, R, n, q, keep, w, hm, h0, h1, h, hA => (bel_zero h).elim
  | m + 1, p, R, n, q, keep, w, hm, h0, h1, h, hA => by
    obtain ⟨k, rfl⟩ := Int.eq_ofNat_of_zero_le h0
    have hk : k < l.length := by omega
    have hnl := hA.1
    have hlen0 := nodesB_len l hl (m + 1) (k : Int) h0 h1 h
    obtain ⟨hr, hc⟩ := bel_is h
    rw [cellT_at hk] at hr hc
    have hxa := (Ext.refl w).alloc (.cells #[.slice R n q, .int .i64 keep] 24)
    have hxb := (Ext.refl (w.alloc (.cells #[.slice R n q, .int .i64 keep] 24))).alloc (.cells #[.int .i64 k] 3)
    have hx0 := hxa.trans hxb
    have HB0 := Lib.hid ((Bx.new w #[.slice R n q, .int .i64 keep] 24).ext hxb)
    have HX := Lib.hid hx0
    have ho0 := World.ownsRow_lit (base := w.heap.size + 1) (e := 3) (size := 1) (w.alloc (.cells #[.slice R n q, .int .i64 keep] 24)) #[.int .i64 k] 1 (by rw [World.size_alloc]; omega) (by unfold maxLen; omega) rfl
    rw [World.size_alloc] at ho0
    obtain ⟨p0, p1, p2⟩ := HB0.out.read2
    obtain ⟨b, off, rfl, hbl, A, c, r0, r1, r2, r3, hI⟩ := (hA.ext hx0).cell hk
    have hbw : b < w.heap.size := by obtain ⟨b', off', e', h', _⟩ := hA.cell hk; cases e'; exact h'
    have hok := cell_ok (hl k hk) hr
    have hkn : k < n := by omega
    have hlen := hok.1.1
    have he : nodesB l (m + 1) (k : Int) = (k : Int) :: (if l[k].leaf then [] else l[k].it.flatMap (fun x => nodesB l m x.2)) := by rw [nodesB, cellT_at hk]
    have hst := fun lf => (Ext.refl ((w.alloc (.cells #[.slice (some ⟨b, off, none⟩) n q, .int .i64 keep] 24)).alloc (.cells #[.int .i64 k] 3))).alloc (.cells #[.bool lf, .slice A l[k].it.length c] 36)
    have hbn := fun lf => Bx.new ((w.alloc (.cells #[.slice (some ⟨b, off, none⟩) n q, .int .i64 keep] 24)).alloc (.cells #[.int .i64 k] 3)) #[.bool lf, .slice A l[k].it.length c] 36
    rcases hc with ⟨hlf, hb⟩ | ⟨hlf, hb, hch⟩
    · rw [hlf, if_pos rfl] at he
      rw [he]
      rw [hlf] at r2
      have HO1 := Lib.hid (own_ext ho0 (hst true))
      have HX1 := Lib.hid (hx0.trans (hst true))
      have HBN := Lib.hid (hbn true)
      rw [World.size_alloc, World.size_alloc] at HBN
      generalize l[k].it.length = li at *
      clear hb h hok hA hI hx0 hxa hxb hnl hr hlf h0 h1 he hlen0 ho0 hst hbn
      go_enter Try.func9, Try.ntmps9
      go_wp2
      generalize World.alloc (World.alloc (World.alloc w _) _) _ = W at *
      clear p0 p1 p2 r0 r1 r2 r3
      obtain ⟨r0, r1, r2⟩ := HBN.out.read2
      have hli : decide ((0 : Int) < (li : Int)) = true := decide_eq_true (by omega)
      have hli2 : decide (0 < li) = true := decide_eq_true (by omega)
      go_loopw [5, 7] (fun v i wr => v = .slice (some ⟨w.heap.size + 1, 0, none⟩) 1 1 ∧ i = .int .i64 0 ∧ wr = W) (fun _ _ _ => 0)
      case atStart => exact ⟨rfl, rfl, rfl⟩
      case round =>
        obtain ⟨rfl, rfl, rfl⟩ := hrel
        go_wp2
        go_ret
        exact ⟨_, 1, 1, rfl, rfl, own_sl HO1.out, HX1.out⟩
    · rw [hlf] at he
      simp only [Bool.false_eq_true, if_false] at he
      rw [he]
      rw [he] at hlen0
      rw [hlf] at r2
      have HIH := Lib.hid (fun j (hj : j < l[k].it.length) w' (hx : Ext w w') => ref07Nodes_bel l hl hn m l[k].it[j].2 (some ⟨b, off, none⟩) n q keep w' (by omega) (hok.2 hlf _ (List.getElem_mem hj)).1 (by have := (hok.2 hlf _ (List.getElem_mem hj)).2; omega) (hch _ (List.getElem_mem hj)).1 (hA.ext hx))
      have HI := Lib.hid (show Sl w A l[k].it.length c (ivs l[k].it) by
        obtain ⟨b', off', e', _, A', c', _, _, _, q3, hI'⟩ := hA.cell hk
        cases e'
        have h3 := (hx0.cell (p := ⟨b, off + k * 4 + 3, none⟩) hbw).trans q3
        rw [r3] at h3
        cases h3
        exact hI')
      have HO1 := Lib.hid (own_ext ho0 (hst false))
      have HX1 := Lib.hid (hx0.trans (hst false))
      have HBN := Lib.hid (hbn false)
      have HBH := Lib.hid (HB0.out.ext (hst false))
      rw [World.size_alloc, World.size_alloc] at HBN
      generalize hit : l[k].it = it at *
      obtain ⟨li, hli⟩ : ∃ li, it.length = li := ⟨_, rfl⟩
      rw [hli] at HI r3 hlen HBN HBH HX1 HO1
      have HLI := Lib.hid hli
      have HLE := Lib.hid (show (((k : Int) :: it.flatMap (fun x => nodesB l m x.2)).length ≤ 2199023255552) from by
        have h1 := Nat.pow_le_pow_right (n := 4) (by omega) hm
        have h2 : (4 : Nat) ^ 20 = 1099511627776 := by decide
        omega)
      obtain ⟨F, hF⟩ : ∃ F : It → List Int, (fun x => nodesB l m x.2) = F := ⟨_, rfl⟩
      rw [hF] at HLE
      rw [hF]
      have HIH := Lib.hid (fun j (hj : j < it.length) w' (hx : Ext w w') => (show Calls Try.prog 9 #[.agg #[.slice (some ⟨b, off, none⟩) n q, .int .i64 keep], .int .i64 it[j].2] w' fun e w2 => ∃ S s d, e = .returned (.slice S s d) ∧ s = (F it[j]).length ∧ Sl w2 S s d ((F it[j]).map iv) ∧ Ext w' w2 from by rw [← hF]; exact HIH.out j hj w' hx))
      clear hF hb h hok hA hI hx0 hxa hxb hnl hr hlf h0 h1 he hit hli hlen0 hst hch hbn HB0 ho0 hbw
      go_enter Try.func9, Try.ntmps9
      go_wp2
      generalize World.alloc (World.alloc (World.alloc w _) _) _ = W at *
      clear p0 p1 p2 r0 r1 r2 r3 hbl HX
      go_loopw [5, 7] (fun v i wr => ∃ (j t : Nat) (S : Option Addr) (d : Nat), j ≤ li ∧ i = .int .i64 j ∧ v = .slice S t d ∧ t = ((k : Int) :: (it.take j).flatMap F).length ∧ wr.ownsRow (w.heap.size + 1) 3 1 (.slice S t d) t (((k : Int) :: (it.take j).flatMap F).map iv) ∧ Ext w wr ∧ Bx wr w.heap.size #[.slice (some ⟨b, off, none⟩) n q, .int .i64 keep] ∧ Bx wr (w.heap.size + 1 + 1) #[.bool false, .slice A li c]) (fun _ i _ => li - (intOf i).toNat)
      case atStart => exact ⟨0, 1, _, 1, Nat.zero_le _, rfl, rfl, by simp, by rw [List.take_zero, List.flatMap_nil]; exact HO1.out, HX1.out, HBH.out, HBN.out⟩
      case round =>
        obtain ⟨j, t, S, d, hj, rfl, rfl, ht, ho, hx, hbh, hbn⟩ := hrel
        have HT := Lib.hid ht
        have HO := Lib.hid ho
        have HXR := Lib.hid hx
        have HBHR := Lib.hid hbh
        have HBNR := Lib.hid hbn
        obtain ⟨p0, p1, p2⟩ := hbh.read2
        obtain ⟨r0, r1, r2⟩ := hbn.read2
        clear hbh hbn
        rcases Nat.lt_or_ge j li with hlt | hlt
        · have hjl : j < it.length := by rw [HLI.out]; exact hlt
          obtain ⟨b2, off2, rfl, hb2, i0, i1⟩ := it_at HI.out hjl
          have i0 := (hx.cell (p := ⟨b2, off2 + j * 2, none⟩) hb2).trans i0
          have i1 := (hx.cell (p := ⟨b2, off2 + j * 2 + 1, none⟩) hb2).trans i1
          have hji : (j : Int) < (li : Int) := by omega
          have hjd : decide ((j : Int) < (li : Int)) = true := decide_eq_true hji
          have hjd2 : decide (j < li) = true := decide_eq_true hlt
          have HTK := Lib.hid (show (k : Int) :: (it.take (j + 1)).flatMap F = ((k : Int) :: (it.take j).flatMap F) ++ F it[j] by rw [flatMap_take F it hjl]; rfl)
          have HTL := Lib.hid (show ((k : Int) :: (it.take (j + 1)).flatMap F).length ≤ 2199023255552 from Nat.le_trans (by rw [List.length_cons, List.length_cons]; exact Nat.succ_le_succ (flatMap_take_le F it (j + 1))) HLE.out)
          have HCL := Lib.hid (fun w' (hx : Ext w w') => HIH.out j hjl w' hx)
          generalize it[j].2 = V at *
          generalize it[j].1 = K at *
          generalize it[j] = xj at *
          clear ht ho hjl hx
          go_wp2
          go_region_law
            (first
              | ((go_simp
                  go_at_call 9
                  refine (HCL.out _ ?_).mono ?_
                  (first | exact HXR.out.drew | exact HXR.out)
                  rintro e w4 ⟨S4, s4, d4, rfl, hs4, hsl4, hx4⟩
                  have E4 := Lib.hid (show Ext wr w4 from by first | exact (Ext.refl _).drew.trans hx4 | exact hx4)
                  have N4 := Lib.hid hs4
                  have S4H := Lib.hid hsl4
                  clear hs4 hsl4 hx4))
              | ((refine step_app_sl ?_ ?_ ?_ 25 ?_ (w.heap.size + 1) 3 (.int .i64 0) 1 8 Try.underlying25 infoI1 rfl Nat.one_pos ?_ t (((k : Int) :: (it.take j).flatMap F).map iv) ?_ ?_ S4 s4 d4 ((F xj).map iv) ?_ (by rw [List.length_map, N4.out, Nat.mul_one]) S4H.out (iv_one _) ?_ ?_ ?_ ?_
                  rfl
                  rotate_left 2
                  rfl
                  rotate_left 1
                  rfl
                  (exact own_ext HO.out E4.out)
                  rfl
                  (have h1 := HTL.out; rw [HTK.out, List.length_append, ← HT.out, ← N4.out] at h1; unfold maxLen; omega)
                  (have h1 := HTL.out; rw [HTK.out, List.length_append, ← HT.out, ← N4.out] at h1; omega)
                  (have h1 := E4.out.size; omega)
                  intro A5 d5 w5 hown hg
                  have HX5 := Lib.hid (Ext.app (HXR.out.trans E4.out) (own_ext HO.out E4.out) (by omega) hg)
                  have HBN5 := Lib.hid ((HBNR.out.ext E4.out).grown hg (own_ne (own_ext HO.out E4.out) (by simp) (HBNR.out.ext E4.out)))
                  have HBH5 := Lib.hid ((HBHR.out.ext E4.out).grown hg (own_old (own_ext HO.out E4.out) (by omega)))
                  rw [← List.map_append, ← HTK.out] at hown
                  have HO5 := Lib.hid hown
                  clear hown hg)))
          all_goals
            go_wp2_with fail
            go_roundw
            case rel => exact ⟨j + 1, t + s4, A5, d5, by omega, by go_num, rfl, by rw [HTK.out, List.length_append, ← HT.out, ← N4.out], HO5.out, HX5.out, HBH5.out, HBN5.out⟩
            case measure => simp [intOf]; omega
        · obtain rfl : li = j := by omega
          have d0 : decide ((li : Int) < (li : Int)) = false := decide_eq_false (by omega)
          have HE := Lib.hid (show it.take li = it by rw [← HLI.out, List.take_length])
          rw [HE.out] at HT HO
          clear ht ho hlt hx
          go_wp2
          go_ret
          exact ⟨S, t, d, rfl, HT.out, own_sl HO.out, HXR.out⟩
end Go.Proofs.Ytlbhcakjcklmgaa
namespace Go.Proofs.Ytlbhcakjcklmgaa
open Go.RowKit
attribute [local go_sem ↓] Go.wp_at_zero Go.wp_at_succ

theorem rightR_iff {l : List HC} {keep p : Int} (h : rightR ⟨l, keep⟩ p = true) : p < 0 ∨ (0 ≤ p ∧ p < l.length ∧ (bel l 20 p).is = true) := by
  unfold rightR at h
  rw [Bool.or_eq_true, Bool.and_eq_true] at h
  rcases h with h | ⟨hu, hb⟩
  · have := of_decide_eq_true h; omega
  · obtain ⟨k, hk, rfl, _⟩ := usedC_iff (show usedC l p = true from hu)
    exact .inr ⟨by omega, by omega, hb⟩
theorem listT_len {l : List HC} {keep p : Int} (hl : AllR l) (h : rightR ⟨l, keep⟩ p = true) : (listT l p).length ≤ 1099511627776 := by
  unfold listT
  rcases rightR_iff h with h0 | ⟨h0, h1, hb⟩
  · rw [if_pos h0]; exact Nat.zero_le _
  · rw [if_neg (by omega)]
    exact Nat.le_trans (listB_len l hl 20 p h0 h1 hb) (by decide)
set_option maxHeartbeats 800000 in
theorem ref07List_any (R : Option Addr) (l : List HC) (n q : Nat) (keep keep' p : Int) (w : World) (hl : AllR l) (hn : l.length ≤ 2000) (hr : rightR ⟨l, keep'⟩ p = true) (hA : HcSl w R n q l) :
    Calls Try.prog 12 #[.agg #[.slice R n q, .int .i64 keep], .int .i64 p] w fun e w' => ∃ S s d, e = .returned (.slice S s d) ∧ s = (listT l p).length ∧ Sl w' S s d (ivs (listT l p)) ∧ Ext w w' := by
  unfold listT
  rcases rightR_iff hr with h0 | ⟨h0, h1, hb⟩
  · have HX := Lib.hid ((Ext.refl w).alloc (.cells #[.slice R n q, .int .i64 keep] 24))
    have d0 : decide (p < 0) = true := decide_eq_true h0
    rw [if_pos h0]
    clear hr hl hn hA
    go_enter Try.func12, Try.ntmps12
    go_wp2
    go_ret
    exact ⟨none, 0, 0, rfl, rfl, Sl.nil _, HX.out⟩
  · rw [if_neg (by omega)]
    exact ref07List_bel l hl hn 20 p R n q keep w (by omega) h0 h1 hb hA
set_option maxHeartbeats 800000 in
theorem ref07Nodes_any (R : Option Addr) (l : List HC) (n q : Nat) (keep keep' p : Int) (w : World) (hl : AllR l) (hn : l.length ≤ 2000) (hr : rightR ⟨l, keep'⟩ p = true) (hA : HcSl w R n q l) :
    Calls Try.prog 9 #[.agg #[.slice R n q, .int .i64 keep], .int .i64 p] w fun e w' => ∃ S s d, e = .returned (.slice S s d) ∧ s = (nodesT l p).length ∧ Sl w' S s d ((nodesT l p).map iv) ∧ Ext w w' := by
  unfold nodesT
  rcases rightR_iff hr with h0 | ⟨h0, h1, hb⟩
  · have HX := Lib.hid ((Ext.refl w).alloc (.cells #[.slice R n q, .int .i64 keep] 24))
    have d0 : decide (p < 0) = true := decide_eq_true h0
    rw [if_pos h0]
    clear hr hl hn hA
    go_enter Try.func9, Try.ntmps9
    go_wp2
    go_ret
    exact ⟨none, 0, 0, rfl, rfl, Sl.nil _, HX.out⟩
  · rw [if_neg (by omega)]
    exact ref07Nodes_bel l hl hn 20 p R n q keep w (by omega) h0 h1 hb hA
theorem find_take {l : List It} {P : It → Bool} {j : Nat} (hj : j < l.length) (h : (l.take j).find? P = none) : (l.take (j + 1)).find? P = if P l[j] then some l[j] else none := by
  rw [List.take_succ_eq_append_getElem hj, List.find?_append, h]
  simp only [Option.none_or, List.find?_cons, List.find?_nil]
  cases P l[j] <;> rfl
theorem find_hit {l : List It} {P : It → Bool} {j : Nat} (hj : j < l.length) (h : (l.take j).find? P = none) (hp : P l[j] = true) : l.find? P = some l[j] := by
  have h1 := find_take hj h
  rw [if_pos hp] at h1
  have h2 : l.find? P = (l.take (j + 1) ++ l.drop (j + 1)).find? P := by rw [List.take_append_drop]
  rw [h2, List.find?_append, h1]; rfl
def getV (o : Option Int) : Int := match o with | some v => v | none => 0
def getE (o : Option Int) : Int := match o with | some _ => 0 | none => 4
end Go.Proofs.Ytlbhcakjcklmgaa
namespace Go.Proofs.Ytlbhcakjcklmgaa
open Go.RowKit

theorem listT_asc {l : List HC} {keep root : Int} (hl : AllR l) (hr : rightR ⟨l, keep⟩ root = true) : Asc (listT l root) ∧ ∀ x ∈ listT l root, okIt x := by
  unfold listT
  rcases rightR_iff hr with h0 | ⟨h0, h1, hb⟩
  · rw [if_pos h0]
    exact ⟨List.Pairwise.nil, fun x hx => by cases hx⟩
  · rw [if_neg (by omega)]
    have := listB_spans l hl 20 root h0 h1 hb
    exact ⟨this.asc, this.ok⟩
theorem scan_is (l : List HC) (root lo hi : Int) : scanT l root lo hi = (listT l root).filter (inR lo hi) := rfl
theorem get_iff {l : List HC} {keep root : Int} (hl : AllR l) (hr : rightR ⟨l, keep⟩ root = true) (k v : Int) : getT l root k = some v ↔ (k, v) ∈ listT l root := getL_iff (listT_asc hl hr).1 k v
theorem inR_iff (lo hi : Int) (x : It) : inR lo hi x = true ↔ lo ≤ x.1 ∧ x.1 < hi := by unfold inR; rw [Bool.and_eq_true, decide_eq_true_eq, decide_eq_true_eq]
theorem mem_scan {l : List HC} {root lo hi : Int} {x : It} : x ∈ scanT l root lo hi ↔ x ∈ listT l root ∧ lo ≤ x.1 ∧ x.1 < hi := by rw [scan_is, List.mem_filter, inR_iff]
theorem scan_asc {l : List HC} {keep root : Int} (hl : AllR l) (hr : rightR ⟨l, keep⟩ root = true) (lo hi : Int) : Asc (scanT l root lo hi) := by
  rw [scan_is]; exact List.Pairwise.filter _ (listT_asc hl hr).1
def hasK (mid : Int) (xs : List It) : Bool := xs.any (fun x => decide (x.1 = mid))
structure ScanF (l : List HC) (root lo hi mid : Int) (xs : List It) (o : Option Int) : Prop where
  a : ∀ k (hk : k < xs.length), getT l root xs[k].1 = some xs[k].2 ∧ lo ≤ xs[k].1 ∧ xs[k].1 < hi
  b : ∀ k (hk : k < xs.length) (h0 : 0 < k), xs[k - 1].1 < xs[k].1
  c : ∀ k (hk : k < xs.length), xs[k].1 = mid → o = some xs[k].2 ∧ (lo ≤ mid ∧ mid < hi) ∧ hasK mid (xs.take k) = false
  d : ∀ v, o = some v → lo ≤ mid → mid < hi → hasK mid xs = true
  e : lo ≤ mid → mid ≤ hi → scanT l root lo mid ++ scanT l root mid hi = xs
theorem scan_facts {l : List HC} {keep root lo hi mid : Int} {xs : List It} {o : Option Int} (hl : AllR l) (hr : rightR ⟨l, keep⟩ root = true) (hxs : scanT l root lo hi = xs) (ho : getT l root mid = o) : ScanF l root lo hi mid xs o := by
  have hasc := scan_asc hl hr lo hi
  rw [hxs] at hasc
  have hmem : ∀ x, x ∈ xs ↔ x ∈ listT l root ∧ lo ≤ x.1 ∧ x.1 < hi := fun x => by rw [← hxs]; exact mem_scan
  have hpw := List.pairwise_iff_getElem.1 hasc
  refine ⟨fun k hk => ?_, fun k hk h0 => hpw (k - 1) k (by omega) hk (by omega), fun k hk he => ?_, fun v hv h1 h2 => ?_, fun h1 h2 => ?_⟩
  · have h := (hmem xs[k]).1 (List.getElem_mem hk)
    exact ⟨(get_iff hl hr _ _).2 h.1, h.2⟩
  · have h := (hmem xs[k]).1 (List.getElem_mem hk)
    refine ⟨?_, ?_, ?_⟩
    · rw [← ho, ← he]; exact (get_iff hl hr _ _).2 h.1
    · rw [← he]; exact h.2
    · unfold hasK
      rw [List.any_eq_false]
      intro y hy
      obtain ⟨j, hj, rfl⟩ := List.mem_iff_getElem.1 hy
      rw [List.length_take] at hj
      rw [List.getElem_take]
      have := hpw j k (by omega) hk (by omega)
      simp only [decide_eq_true_eq]
      omega
  · unfold hasK
    rw [List.any_eq_true]
    rw [hv] at ho
    exact ⟨(mid, v), (hmem _).2 ⟨(get_iff hl hr _ _).1 ho, h1, h2⟩, by simp⟩
  · rw [← hxs, scan_is, scan_is, scan_is]
    exact filter_parts (listT_asc hl hr).1 h1 h2
theorem hasK_step {mid : Int} {xs : List It} {k : Nat} (hk : k < xs.length) : hasK mid (xs.take (k + 1)) = (hasK mid (xs.take k) || decide (xs[k].1 = mid)) := by
  unfold hasK
  rw [List.take_succ_eq_append_getElem hk, List.any_append]
  simp
theorem scan_len {l : List HC} {keep root : Int} (hl : AllR l) (hr : rightR ⟨l, keep⟩ root = true) (lo hi : Int) : (scanT l root lo hi).length ≤ 1099511627776 := by
  rw [scan_is]
  exact Nat.le_trans (List.length_filter_le _ _) (listT_len hl hr)
end Go.Proofs.Ytlbhcakjcklmgaa
