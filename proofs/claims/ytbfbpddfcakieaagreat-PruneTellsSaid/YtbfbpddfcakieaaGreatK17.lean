/- What the program's way tells of right trees: items from a key on; and how it tells right trees from others. No program in sight. -/
import Derived.Test.YtbfbpddfcakieaaGreatK16
namespace Go.Proofs.YtbfbpddfcakieaaGreat
open Go.RowKit

theorem drop_asc {key : Int} : ∀ {xs : List It}, Asc xs → xs.drop (xs.countP (fun x => decide (x.1 < key))) = xs.filter (fun x => decide (key ≤ x.1))
  | [], _ => rfl
  | x :: r, h => by
    obtain ⟨h1, h2⟩ := List.pairwise_cons.1 h
    by_cases hx : x.1 < key
    · rw [List.countP_cons_of_pos (by simpa using hx), List.drop_succ_cons, drop_asc h2, List.filter_cons_of_neg (by simp; omega)]
    · have h0 : (x :: r).countP (fun x => decide (x.1 < key)) = 0 := by
        rw [List.countP_eq_zero]
        intro y hy
        simp only [decide_eq_true_eq]
        rcases List.mem_cons.1 hy with rfl | hy
        · exact hx
        · have := h1 y hy; omega
      rw [h0, List.drop_zero]
      refine (List.filter_eq_self.2 (fun y hy => ?_)).symm
      simp only [decide_eq_true_eq]
      rcases List.mem_cons.1 hy with rfl | hy
      · omega
      · have := h1 y hy; omega
theorem at_low {it : List It} (h : NdR it) (key : Int) : ∃ hi : (atI false it key).toNat < it.length, 0 < (atI false it key).toNat → (it[(atI false it key).toNat]'hi).1 ≤ key := by
  cases hb : atB it key
  · rw [atI_not hb, Int.toNat_natCast]
    have h1 : atC it key ≤ it.length := List.countP_le_length
    have h2 := h.1.1
    refine ⟨by omega, fun h0 => ?_⟩
    have := (atC_lt h key (j := atC it key - 1) (by omega)).2 (by omega)
    omega
  · obtain ⟨k, hk, he⟩ := atB_ex hb
    rw [atI_yes hb, Int.toNat_natCast, atC_at h hk he]
    exact ⟨hk, fun _ => by omega⟩
/-- A node's own items from a key on, if it is a leaf. -/
def itemsY (l : List HC) (key : Int) (y : Int) : List It := if (cellT l y).leaf then fromT (cellT l y).it true key else []
theorem items_right {l : List HC} (hl : AllR l) (key : Int) : ∀ (m : Nat) (p : Int), 0 ≤ p → p < l.length → (bel l m p).is = true → (fromB l key m p).flatMap (itemsY l key) = (listB l m p).filter (fun x => decide (key ≤ x.1))
  | 0, p, _, _, h => (bel_zero h).elim
  | m + 1, p, h0, h1, h => by
    obtain ⟨k, rfl⟩ := Int.eq_ofNat_of_zero_le h0
    have hk : k < l.length := by omega
    obtain ⟨hr, hch⟩ := bel_is h
    rw [cellT_at hk] at hr hch
    have hok := cell_ok (hl k hk) hr
    unfold fromB listB
    rw [List.flatMap_cons]
    unfold itemsY
    rw [cellT_at hk]
    rcases hch with ⟨hlf, _⟩ | ⟨hlf, e, hch⟩
    · rw [hlf]
      simp only [if_true, List.flatMap_nil, List.append_nil]
      unfold fromT
      rw [atI_leaf, Int.toNat_natCast]
      unfold atC
      exact drop_asc (asc_of hok.1)
    · rw [hlf]
      simp only [Bool.false_eq_true, if_false, List.nil_append]
      have hx' : ∀ x ∈ l[k].it, 0 ≤ x.2 ∧ x.2 < l.length := fun x hx => hok.2 hlf x hx
      have hsp : ∀ x ∈ l[k].it, Spans (listB l m x.2) (bel l m x.2).lo (bel l m x.2).hi := fun x hx => listB_spans l hl m x.2 (hx' x hx).1 (hx' x hx).2 (hch x hx).1
      rw [e] at h
      have hpw := (belRow_pair (f := bel l m) (fun x hx => (hsp x hx).le2) h).1
      obtain ⟨hi, hle⟩ := at_low hok.1 key
      unfold fromT
      obtain ⟨i, hie⟩ : ∃ i, (atI false l[k].it key).toNat = i := ⟨_, rfl⟩
      simp only [hie] at hi hle ⊢
      conv => rhs; rw [← List.take_append_drop i l[k].it, List.flatMap_append, List.filter_append]
      have hnil : ((l[k].it.take i).flatMap (fun x => listB l m x.2)).filter (fun x => decide (key ≤ x.1)) = [] := by
        rw [List.filter_eq_nil_iff]
        intro z hz
        obtain ⟨x, hx, hz⟩ := List.mem_flatMap.1 hz
        have hi0 : 0 < i := by
          rcases Nat.eq_zero_or_pos i with h | h
          · subst h; simp at hx
          · exact h
        rw [← List.take_append_drop i l[k].it, List.pairwise_append] at hpw
        have hw : l[k].it[i] ∈ l[k].it.drop i := by rw [List.drop_eq_getElem_cons hi]; exact List.mem_cons_self
        have h3 := hpw.2.2 x hx _ hw
        have h4 := (hsp x (List.mem_of_mem_take hx)).le z hz
        have h5 := (hch _ (List.getElem_mem hi)).2.1
        have h6 := hle hi0
        simp only [decide_eq_true_eq]
        omega
      rw [hnil, List.nil_append, List.flatMap_assoc, List.filter_flatMap]
      refine flatMap_congr' (fun x hx => ?_)
      have hxm := List.mem_of_mem_drop hx
      exact items_right hl key m x.2 (hx' x hxm).1 (hx' x hxm).2 (hch x hxm).1
/-- The items that the program meets from a root. -/
def itemsP (l : List HC) (root key : Int) : List It := (nodesP l root key).flatMap (itemsY l key)
theorem itemsP_right {l : List HC} (hl : AllR l) (hn : l.length ≤ 2000) {keep root : Int} (hr : rightR ⟨l, keep⟩ root = true) (key : Int) : itemsP l root key = (listT l root).filter (fun x => decide (key ≤ x.1)) := by
  unfold itemsP
  rw [nodesP_right hl hn hr]
  unfold listT
  rcases rightR_iff hr with h | ⟨h0, h1, hb⟩
  · rw [if_pos h, if_pos h]; rfl
  · rw [if_neg (by omega), if_neg (by omega)]
    exact items_right hl key 20 root h0 h1 hb
theorem get_first {l : List HC} (hl : AllR l) {keep root : Int} (hr : rightR ⟨l, keep⟩ root = true) (key : Int) :
    ((listT l root).filter (fun x => decide (key ≤ x.1)) = [] → getT l root key = none) ∧ (∀ x r, (listT l root).filter (fun x => decide (key ≤ x.1)) = x :: r → (x.1 = key → getT l root key = some x.2) ∧ (x.1 ≠ key → getT l root key = none)) := by
  have hno : (∀ v, (key, v) ∉ listT l root) → getT l root key = none := fun h => by
    cases hg : getT l root key with
    | none => rfl
    | some v => exact absurd ((get_iff hl hr key v).1 hg) (h v)
  refine ⟨fun h => hno (fun v hv => ?_), fun x r h => ⟨fun e => ?_, fun e => hno (fun v hv => ?_)⟩⟩
  · have := List.filter_eq_nil_iff.1 h _ hv
    simp at this
  · rw [get_iff hl hr]
    have hx : x ∈ (listT l root).filter (fun x => decide (key ≤ x.1)) := by rw [h]; exact List.mem_cons_self
    have := (List.mem_filter.1 hx).1
    subst e
    exact this
  · have hx : x ∈ (listT l root).filter (fun x => decide (key ≤ x.1)) := by rw [h]; exact List.mem_cons_self
    have h1 := (List.mem_filter.1 hx).2
    simp only [decide_eq_true_eq] at h1
    have h2 : (key, v) ∈ (listT l root).filter (fun x => decide (key ≤ x.1)) := List.mem_filter.2 ⟨hv, by simp⟩
    have hasc : Asc ((listT l root).filter (fun x => decide (key ≤ x.1))) := List.Pairwise.filter _ (listT_asc hl hr).1
    rw [h] at h2 hasc
    rcases List.mem_cons.1 h2 with h3 | h3
    · exact e (by rw [← h3])
    · have := (List.pairwise_cons.1 hasc).1 _ h3
      simp only at this
      omega
theorem scan_from (l : List HC) (root lo hi : Int) : scanT l root lo hi = ((listT l root).filter (fun x => decide (lo ≤ x.1))).filter (fun x => decide (x.1 < hi)) := by
  unfold scanT
  rw [List.filter_filter]
  congr 1
  funext x
  exact Bool.and_comm _ _
/-- A scan that stops at the first item that is too far. -/
theorem scan_stops {l : List HC} (hl : AllR l) {keep root lo hi : Int} (hr : rightR ⟨l, keep⟩ root = true) {ini : List It} {last : It} (hp : ini ++ [last] <+: (listT l root).filter (fun x => decide (lo ≤ x.1))) (h1 : ∀ x ∈ ini, x.1 < hi) (h2 : hi ≤ last.1) : scanT l root lo hi = ini := by
  rw [scan_from]
  have hasc : Asc ((listT l root).filter (fun x => decide (lo ≤ x.1))) := List.Pairwise.filter _ (listT_asc hl hr).1
  obtain ⟨r, hr'⟩ := hp
  rw [← hr'] at hasc ⊢
  unfold Asc at hasc
  rw [List.append_assoc, List.pairwise_append] at hasc
  rw [List.append_assoc, List.filter_append, List.filter_eq_self.2 (fun x hx => by simpa using h1 x hx)]
  have hnil : ([last] ++ r).filter (fun x => decide (x.1 < hi)) = [] := by
    rw [List.filter_eq_nil_iff]
    intro x hx
    simp only [decide_eq_true_eq]
    rcases List.mem_cons.1 hx with rfl | hx
    · omega
    · have := (List.pairwise_cons.1 hasc.2.1).1 x hx
      omega
  rw [hnil, List.append_nil]
theorem scan_all {l : List HC} {root lo hi : Int} (h1 : ∀ x ∈ (listT l root).filter (fun x => decide (lo ≤ x.1)), x.1 < hi) : scanT l root lo hi = (listT l root).filter (fun x => decide (lo ≤ x.1)) := by
  rw [scan_from]
  exact List.filter_eq_self.2 (fun x hx => by simpa using h1 x hx)

/-! How the program tells right trees. -/
def nextT (it : List It) (i : Nat) (e : Int) : Int := if i + 1 < it.length then (it.getD (i + 1) (0, 0)).1 else e
def chk (l : List HC) : Nat → It → Int → Bool
  | 0, _, _ => false
  | k + 1, x, e => usedC l x.2 && (((cellT l x.2).leaf == decide (k = 0)) && (decide (firstK (cellT l x.2).it = x.1) && (decide (lastK (cellT l x.2).it < e) &&
      ((cellT l x.2).leaf || (List.range (cellT l x.2).it.length).all (fun i => chk l k ((cellT l x.2).it.getD i (0, 0)) (nextT (cellT l x.2).it i e))))))
theorem nextT_cons (x : It) (r : List It) (j : Nat) (e : Int) : nextT (x :: r) (j + 1) e = nextT r j e := by
  unfold nextT
  simp only [List.length_cons, List.getD_cons_succ]
  by_cases h : j + 1 < r.length
  · rw [if_pos h, if_pos (by omega)]
  · rw [if_neg h, if_neg (by omega)]
def headK (r : List It) (e : Int) : Int := match r with | [] => e | x :: _ => x.1
theorem belRow_mk {f : Int → Gt} {e h : Int} : ∀ {r : List It} {i : Nat} {o : Gt}, (∀ j (hj : j < r.length), (f r[j].2).is = true ∧ (f r[j].2).high = h ∧ (f r[j].2).lo = r[j].1 ∧ (f r[j].2).hi < nextT r j e) → (0 < r.length ∨ 0 < i) →
    (0 < i → o.high = h + 1 ∧ o.hi < headK r e) → (belRow f i r o).is = true ∧ (belRow f i r o).high = h + 1 ∧ (belRow f i r o).hi < e ∧ (belRow f i r o).lo = if i = 0 then headK r 0 else o.lo
  | [], i, o, _, hne, ho => by
    have hi : 0 < i := hne.elim (fun h => by simp at h) id
    obtain ⟨h1, h2⟩ := ho hi
    unfold belRow
    rw [if_neg (by omega)]
    exact ⟨rfl, h1, h2, rfl⟩
  | x :: r, i, o, hf, _, ho => by
    obtain ⟨a1, a2, a3, a4⟩ := hf 0 (by simp)
    simp only [List.getElem_cons_zero] at a1 a2 a3 a4
    have hbad : badR i x (f x.2) o = false := by
      unfold badR
      rw [a1, decide_eq_false (show ¬ (f x.2).lo ≠ x.1 from fun h => h a3)]
      rcases Nat.eq_zero_or_pos i with h | h
      · subst h; rfl
      · obtain ⟨h1, h2⟩ := ho h
        have h2' : o.hi < x.1 := h2
        rw [decide_eq_false (show ¬ (f x.2).lo ≤ o.hi by omega), decide_eq_false (show ¬ o.high ≠ (f x.2).high + 1 by omega)]
        simp
    unfold belRow
    rw [hbad]
    simp only [Bool.false_eq_true, if_false]
    have hnx : (nextR i (f x.2) o).high = h + 1 ∧ (nextR i (f x.2) o).hi = (f x.2).hi ∧ (nextR i (f x.2) o).lo = if i = 0 then x.1 else o.lo := by
      unfold nextR
      refine ⟨?_, rfl, ?_⟩
      · simp only
        split
        · omega
        · exact (ho (by omega)).1
      · simp only
        split
        · exact a3
        · rfl
    have h1 := belRow_mk (f := f) (e := e) (h := h) (r := r) (i := i + 1) (o := nextR i (f x.2) o) (fun j hj => by
      have := hf (j + 1) (by simp; omega)
      rw [nextT_cons] at this
      simpa using this) (.inr (by omega)) (fun _ => ⟨hnx.1, by
        rw [hnx.2.1]
        cases r with
        | nil => exact a4
        | cons y r => exact a4⟩)
    rw [if_neg (by omega)] at h1
    exact ⟨h1.1, h1.2.1, h1.2.2.1, by rw [h1.2.2.2, hnx.2.2]; rfl⟩
theorem range_all {n : Nat} {p : Nat → Bool} : (List.range n).all p = true ↔ ∀ i, i < n → p i = true := by
  rw [List.all_eq_true]
  exact ⟨fun h i hi => h i (List.mem_range.2 hi), fun h i hi => h i (List.mem_range.1 hi)⟩
theorem itD_at {it : List It} {i : Nat} (h : i < it.length) : it.getD i (0, 0) = it[i] := by rw [List.getD_eq_getElem?_getD, List.getElem?_eq_getElem h]; rfl
theorem chk_iff {l : List HC} (hl : AllR l) : ∀ (k m : Nat) (x : It) (e : Int), 0 ≤ x.2 → k ≤ m → (chk l k x e = true ↔ x.2 < l.length ∧ (bel l m x.2).is = true ∧ (bel l m x.2).high = k ∧ (bel l m x.2).lo = x.1 ∧ (bel l m x.2).hi < e)
  | 0, m, x, e, h0, hm => by
    constructor
    · intro h; simp [chk] at h
    · rintro ⟨h1, h2, h3, _⟩
      have := bel_pos l hl m x.2 h0 h1 h2
      omega
  | k + 1, 0, x, e, h0, hm => by omega
  | k + 1, m + 1, (xa, xb), e, h0, hm => by
    obtain ⟨j, rfl⟩ := Int.eq_ofNat_of_zero_le h0
    unfold chk
    simp only
    rcases Nat.lt_or_ge j l.length with hj | hj
    rotate_left
    · rw [usedC_big (show (l.length : Int) ≤ (j : Int) by omega)]
      simp only [Bool.false_and, Bool.false_eq_true, false_iff]
      omega
    rw [usedC_at hj, cellT_at hj]
    by_cases hrf : 0 < l[j].ref
    rotate_left
    · rw [decide_eq_false hrf]
      simp only [Bool.false_and, Bool.false_eq_true, false_iff]
      rintro ⟨_, h2, _⟩
      have := (bel_is h2).1
      rw [cellT_at hj] at this
      omega
    have hok := cell_ok (hl j hj) hrf
    have hlen := hok.1.1.1
    rw [decide_eq_true hrf, Bool.true_and]
    cases hlf : l[j].leaf
    · simp only [Bool.false_or, Bool.and_eq_true, decide_eq_true_eq, beq_iff_eq, range_all]
      have hcl : cellT l (j : Int) = l[j] := cellT_at hj
      constructor
      · rintro ⟨h1, h2, h3, h4⟩
        have hk : k ≠ 0 := by simpa using h1
        have hb : bel l (m + 1) (j : Int) = belRow (bel l m) 0 l[j].it Gt.no := by rw [bel, hcl, if_neg (by omega), hlf]; rfl
        have h5 := belRow_mk (f := bel l m) (e := e) (h := (k : Int)) (r := l[j].it) (i := 0) (o := Gt.no) (fun i hi => by
          have := (chk_iff hl k m _ _ (by rw [itD_at hi]; exact (hok.2 hlf _ (List.getElem_mem hi)).1) (by omega)).1 (h4 i hi)
          rw [itD_at hi] at this
          exact this.2) (.inl (by omega)) (fun h => by omega)
        rw [hb]
        refine ⟨by omega, h5.1, by rw [h5.2.1]; omega, ?_, h5.2.2.1⟩
        rw [h5.2.2.2, if_pos rfl, ← h2]
        cases hit : l[j].it with
        | nil => rw [hit] at hlen; simp at hlen
        | cons y r => rfl
      · rintro ⟨_, h2, h3, h4, h5⟩
        obtain ⟨_, hc⟩ := bel_is h2
        rw [hcl] at hc
        rcases hc with ⟨h, _⟩ | ⟨_, eb, hch⟩
        · rw [hlf] at h; cases h
        have hpos : ∀ y ∈ l[j].it, 0 ≤ y.2 ∧ y.2 < l.length := fun y hy => hok.2 hlf y hy
        have hsp : ∀ y ∈ l[j].it, Spans (listB l m y.2) (bel l m y.2).lo (bel l m y.2).hi := fun y hy => listB_spans l hl m y.2 (hpos y hy).1 (hpos y hy).2 (hch y hy).1
        have hwhole := listB_spans l hl (m + 1) (j : Int) h0 (by omega) h2
        have hhi : ∀ y ∈ l[j].it, (bel l m y.2).hi < e := fun y hy => by
          obtain ⟨z, hz, e1⟩ := (hsp y hy).last
          have : z ∈ listB l (m + 1) (j : Int) := by
            rw [listB, hcl, hlf]
            simp only [Bool.false_eq_true, if_false]
            exact List.mem_flatMap.2 ⟨y, hy, hz⟩
          have := hwhole.le z this
          omega
        have h2' := h2
        rw [eb] at h2'
        have hpw := (belRow_pair (f := bel l m) (fun y hy => (hsp y hy).le2) h2').1
        rw [List.pairwise_iff_getElem] at hpw
        have hf : l[j].it[0] ∈ l[j].it := List.getElem_mem (by omega)
        have hpos0 := bel_pos l hl m _ (hpos _ hf).1 (hpos _ hf).2 (hch _ hf).1
        have hk : k ≠ 0 := by have := (hch _ hf).2.2; omega
        refine ⟨by simpa using hk, ?_, ?_, fun i hi => ?_⟩
        · rw [← h4, eb]
          cases hit : l[j].it with
          | nil => rw [hit] at hlen; simp at hlen
          | cons y r =>
            rw [eb, hit] at h2
            unfold belRow at h2 ⊢
            cases hbad : badR 0 y (bel l m y.2) Gt.no
            · rw [hbad] at h2
              simp only [Bool.false_eq_true, if_false] at h2 ⊢
              have := ((belRow_is h2).2.2 (by omega)).2
              rw [this]
              show y.1 = (bel l m y.2).lo
              exact ((hch y (by rw [hit]; exact List.mem_cons_self)).2.1).symm
            · rw [hbad] at h2; simp [Gt.no] at h2
        · rw [lastK_at (by omega)]
          have hm2 : l[j].it[l[j].it.length - 1] ∈ l[j].it := List.getElem_mem (by omega)
          have h6 := (hsp _ hm2).le2
          have h7 := hhi _ hm2
          have h8 := (hch _ hm2).2.1
          omega
        · have hm2 : l[j].it[i] ∈ l[j].it := List.getElem_mem hi
          rw [itD_at hi]
          refine (chk_iff hl k m _ _ (hpos _ hm2).1 (by omega)).2 ⟨(hpos _ hm2).2, (hch _ hm2).1, by have := (hch _ hm2).2.2; omega, (hch _ hm2).2.1, ?_⟩
          unfold nextT
          by_cases hlt : i + 1 < l[j].it.length
          · rw [if_pos hlt, itD_at hlt]
            have h6 := hpw i (i + 1) hi hlt (by omega)
            have h7 := (hch _ (List.getElem_mem hlt)).2.1
            omega
          · rw [if_neg hlt]
            exact hhi _ hm2
    · have hb : bel l (m + 1) (j : Int) = ⟨firstK l[j].it, lastK l[j].it, 1, true⟩ := by rw [bel, cellT_at hj, if_neg (by omega), hlf]; rfl
      rw [hb]
      simp only [Bool.true_or, Bool.and_true, Bool.and_eq_true, decide_eq_true_eq, beq_iff_eq]
      constructor
      · rintro ⟨h1, h2, h3⟩
        have hk : k = 0 := by simpa using h1.symm
        exact ⟨by omega, trivial, by omega, h2, h3⟩
      · rintro ⟨_, _, h1, h2, h3⟩
        exact ⟨by have : k = 0 := by omega
                  simp [this], h2, h3⟩
/-- Which trees the program calls right. -/
def rightP (l : List HC) (p : Int) : Bool := decide (p = -1) || ((decide (1 ≤ hgtP l p) && decide (hgtP l p ≤ 20)) && chk l (hgtP l p) (firstK (cellT l p).it, p) 9223372036854775807)
theorem hgtP_used {l : List HC} {p : Int} (h : hgtP l p ≠ 0) : usedC l p = true := by
  unfold hgtP nodesP dn at h
  cases hu : usedC l p
  · rw [hu] at h; exact absurd rfl h
  · rfl
theorem rightP_is {l : List HC} (hl : AllR l) (hn : l.length ≤ 2000) (keep p : Int) : rightP l p = rightR ⟨l, keep⟩ p := by
  rw [Bool.eq_iff_iff]
  constructor
  · intro h
    unfold rightP at h
    simp only [Bool.or_eq_true, Bool.and_eq_true, decide_eq_true_eq] at h
    rcases h with rfl | ⟨⟨h1, h2⟩, h3⟩
    · unfold rightR; simp
    · obtain ⟨k, hk, rfl, _⟩ := usedC_iff (hgtP_used (l := l) (p := p) (by omega))
      have := (chk_iff hl (hgtP l (k : Int)) 20 _ _ (by simp) h2).1 h3
      exact rightR_of (by omega) this.1 this.2.1
  · intro h
    have hh := hgtP_right hl hn h
    unfold rightP
    simp only [Bool.or_eq_true, Bool.and_eq_true, decide_eq_true_eq]
    by_cases hp : p = -1
    · exact .inl hp
    · right
      rcases rightR_iff h with h0 | ⟨h0, h1, hb⟩
      · have : usedH ⟨l, keep⟩ p = true := by unfold rightR at h; simp [hp] at h; exact h.1
        have h5 : usedC l p = true := this
        rw [usedC_neg h0] at h5
        cases h5
      · have hp1 := bel_pos l hl 20 p h0 h1 hb
        have hp2 := (bel_high l 20 p).2
        unfold highT at hh
        rw [if_neg (by omega)] at hh
        refine ⟨⟨by omega, by omega⟩, ?_⟩
        refine (chk_iff hl (hgtP l p) 20 _ _ h0 (by omega)).2 ⟨h1, hb, hh.symm, ?_, ?_⟩
        · have hsp := listB_spans l hl 20 p h0 h1 hb
          obtain ⟨k, rfl⟩ := Int.eq_ofNat_of_zero_le h0
          have hk : k < l.length := by omega
          obtain ⟨hrf, hc⟩ := bel_is (m := 19) hb
          rcases hc with ⟨_, e⟩ | ⟨hlf, e, hch⟩
          · rw [e]
          · have hx20 := (chk_iff hl (hgtP l (k : Int)) 20 ((bel l 20 (k : Int)).lo, (k : Int)) ((bel l 20 (k : Int)).hi + 1) h0 (by omega)).2 ⟨h1, hb, hh.symm, rfl, by show (bel l 20 (k : Int)).hi < (bel l 20 (k : Int)).hi + 1; omega⟩
            obtain ⟨j, hj⟩ : ∃ j, hgtP l (k : Int) = j + 1 := ⟨hgtP l (k : Int) - 1, by omega⟩
            rw [hj] at hx20
            unfold chk at hx20
            simp only [Bool.and_eq_true, decide_eq_true_eq] at hx20
            exact hx20.2.2.1.symm
        · have hsp := listB_spans l hl 20 p h0 h1 hb
          obtain ⟨y, hy, e1⟩ := hsp.last
          have := (hsp.ok y hy).1.2
          show (bel l 20 p).hi < 9223372036854775807
          omega
end Go.Proofs.YtbfbpddfcakieaaGreat
