/- Cells that are counted: what refers to each; what is laid, and what is loosed, keeps the count. No program in sight. The program's way through a tree: nodes from a key on, each ahead of those below, at most so many; what they are for right trees. No program in sight. -/
import Derived.Test.YtbfbpddfcakieaaGreatK14
import Derived.Test.YtbfbpddfcakieaaGreatK15
import Derived.Test.YtbfbpddfcakieaaGreatK11
namespace Go.Proofs.YtbfbpddfcakieaaGreat
open Go.RowKit

/-- What a cell tells, if something refers to it. -/
def tellC (c : HC) : List Int := if 0 < c.ref then toldL c.leaf c.it else []
/-- How often cells tell a place. -/
def inn (l : List HC) (k : Int) : Nat := (l.map (fun c => (tellC c).count k)).sum
/-- Each cell's Ref is what is said of it, and how often cells tell it. -/
def RC (l : List HC) (E : Int → Int) : Prop := ∀ k (hk : k < l.length), l[k].ref = E (k : Int) + (inn l (k : Int) : Nat)
theorem inn_set : ∀ {l : List HC} {j : Nat} (hj : j < l.length) (x : HC) (k : Int), inn (l.set j x) k + (tellC l[j]).count k = inn l k + (tellC x).count k
  | [], j, hj, _, _ => by simp at hj
  | y :: l, 0, _, x, k => by simp only [inn, List.set_cons_zero, List.map_cons, List.sum_cons, List.getElem_cons_zero]; omega
  | y :: l, j + 1, hj, x, k => by
    have := inn_set (l := l) (j := j) (by simpa using hj) x k
    simp only [inn, List.set_cons_succ, List.map_cons, List.sum_cons, List.getElem_cons_succ] at this ⊢
    omega
theorem inn_congr {l g : List HC} (hl : g.length = l.length) (h : ∀ j (hj : j < l.length) (hj' : j < g.length), tellC g[j] = tellC l[j]) (k : Int) : inn g k = inn l k := by
  unfold inn
  congr 1
  apply List.ext_getElem (by simp [hl])
  intro j h1 h2
  rw [List.getElem_map, List.getElem_map, h j (by simpa using h2) (by simpa using h1)]
theorem rc_congr {l : List HC} {E E' : Int → Int} (h : RC l E) (he : ∀ k : Nat, k < l.length → E' k = E k) : RC l E' := fun k hk => by rw [he k hk]; exact h k hk
/-- What is laid keeps the count: one more of the node itself; what is held already has one less besides. -/
theorem rc_alloc {l : List HC} {leaf : Bool} {it : List It} {held : List Int} {keep : Int} {q : Nat} (hr : rightH ⟨l, keep⟩ = true) (hg : (ndR it && leadsC l leaf it) = true) (hq : q < l.length) (hf : firstF l = q) {E : Int → Int} (h : RC l E) :
    RC (allocL l leaf it held) (fun k => E k + (if k = (q : Int) then 1 else 0) - (if inL held k then ((toldL leaf it).count k : Nat) else 0 : Int)) := by
  have hlen : (allocL l leaf it held).length = l.length := by rw [alloc_up hg hq hf, List.length_set, upL_len]
  have hg2 := hg
  rw [Bool.and_eq_true] at hg2
  have hun : ∀ k (hk : k < l.length), ¬ 0 < l[k].ref → (toldL leaf it).count (k : Int) = 0 := fun k hk h0 => count_unused (told_all hg2.2) hk h0
  have hfree := first_free hr hq hf
  have hinn : ∀ k : Int, inn (allocL l leaf it held) k = inn l k + (toldL leaf it).count k := fun k => by
    have h1 := inn_set hq (⟨1, false, leaf, it⟩ : HC) k
    rw [hfree] at h1
    have h2 : tellC ⟨0, false, false, []⟩ = [] := rfl
    have h3 : tellC ⟨1, false, leaf, it⟩ = toldL leaf it := rfl
    rw [h2, h3, List.count_nil, Nat.add_zero] at h1
    rw [← h1]
    refine inn_congr (by rw [hlen, List.length_set]) (fun j hj hj' => ?_) k
    have hjl : j < l.length := by rw [List.length_set] at hj; exact hj
    by_cases hjq : j = q
    · subst hjq
      rw [alloc_cell hg hq hf hj', List.getElem_set_self]
    · rw [alloc_other hg hq hf hjl hjq hj', List.getElem_set_ne (Ne.symm hjq)]
      unfold tellC
      simp only
      by_cases h0 : 0 < l[j].ref
      · rw [if_pos h0, if_pos (by split <;> omega)]
      · rw [hun j hjl h0, if_neg h0, if_neg (by simpa using h0)]
  intro k hk
  have hkl : k < l.length := by rw [hlen] at hk; exact hk
  rw [hinn]
  have hrc := h k hkl
  by_cases hkq : k = q
  · subst hkq
    have h0 := hun k hkl (by rw [hfree]; simp)
    rw [alloc_cell hg hkl hf hk, h0]
    rw [hfree] at hrc
    simp only at hrc ⊢
    rw [if_pos trivial]
    split <;> omega
  · rw [alloc_other hg hq hf hkl hkq hk]
    simp only
    rw [if_neg (show ¬ (k : Int) = (q : Int) by omega)]
    split <;> omega
/-- What was told is told yet: used cells stay used, with what is in them. -/
structure Keeps (c c' : List HC) : Prop where
  len : c'.length = c.length
  cell : ∀ k (hk : k < c.length) (hk' : k < c'.length), 0 < c[k].ref → 0 < c'[k].ref ∧ c'[k].leaf = c[k].leaf ∧ c'[k].it = c[k].it
theorem Keeps.refl (c : List HC) : Keeps c c := ⟨rfl, fun _ _ _ h => ⟨h, rfl, rfl⟩⟩
theorem Keeps.trans {a b c : List HC} (h : Keeps a b) (k : Keeps b c) : Keeps a c := ⟨k.len.trans h.len, fun i hi hi' h0 => by
  have hb : i < b.length := by rw [h.len]; exact hi
  obtain ⟨h1, h2, h3⟩ := h.cell i hi hb h0
  obtain ⟨k1, k2, k3⟩ := k.cell i hb hi' h1
  exact ⟨k1, k2.trans h2, k3.trans h3⟩⟩
theorem alloc_keeps {l : List HC} {leaf : Bool} {it : List It} {held : List Int} {keep : Int} {q : Nat} (hr : rightH ⟨l, keep⟩ = true) (hg : (ndR it && leadsC l leaf it) = true) (hq : q < l.length) (hf : firstF l = q) : Keeps l (allocL l leaf it held) := by
  refine ⟨by rw [alloc_up hg hq hf, List.length_set, upL_len], fun k hk hk' h0 => ?_⟩
  have hkq : k ≠ q := fun e => by subst e; rw [first_free hr hk hf] at h0; simp at h0
  rw [alloc_other hg hq hf hk hkq hk']
  exact ⟨by simp only; split <;> omega, rfl, rfl⟩
theorem Keeps.used {c c' : List HC} (h : Keeps c c') {p : Int} (hp : usedC c p = true) : usedC c' p = true := by
  obtain ⟨k, hk, rfl, h0⟩ := usedC_iff hp
  have hk' : k < c'.length := by rw [h.len]; exact hk
  rw [usedC_at hk', decide_eq_true (h.cell k hk hk' h0).1]
/-- A right tree stays one, with its items. -/
theorem bel_keeps {c c' : List HC} (h : Keeps c c') (hl : AllR c) : ∀ (m : Nat) (p : Int), 0 ≤ p → p < c.length → (bel c m p).is = true → bel c' m p = bel c m p ∧ listB c' m p = listB c m p
  | 0, p, _, _, hb => (bel_zero hb).elim
  | m + 1, p, h0, h1, hb => by
    obtain ⟨k, rfl⟩ := Int.eq_ofNat_of_zero_le h0
    have hk : k < c.length := by omega
    have hk' : k < c'.length := by rw [h.len]; exact hk
    obtain ⟨hr, hc⟩ := bel_is hb
    rw [cellT_at hk] at hr hc
    have hok := cell_ok (hl k hk) hr
    obtain ⟨g1, g2, g3⟩ := h.cell k hk hk' hr
    rw [bel, bel, listB, listB, cellT_at hk, cellT_at hk', if_neg (show ¬ c'[k].ref < 1 by omega), if_neg (show ¬ c[k].ref < 1 by omega), g2, g3]
    rcases hc with ⟨hlf, _⟩ | ⟨hlf, _, hch⟩
    · rw [hlf]; exact ⟨rfl, rfl⟩
    · rw [hlf]
      simp only [Bool.false_eq_true, if_false]
      have hrec := fun x (hx : x ∈ c[k].it) => bel_keeps h hl m x.2 (hok.2 hlf x hx).1 (by have := (hok.2 hlf x hx).2; omega) (hch x hx).1
      exact ⟨belRow_congr (fun x hx => (hrec x hx).1), flatMap_congr' (fun x hx => (hrec x hx).2)⟩
/-- Refs are lowered, and what has none left is taken away. -/
structure Cuts (c g : List HC) : Prop where
  len : g.length = c.length
  on : ∀ k (hk : k < c.length) (hk' : k < g.length), 0 < g[k].ref → 0 < c[k].ref ∧ g[k].leaf = c[k].leaf ∧ g[k].it = c[k].it ∧ g[k].ref ≤ c[k].ref ∧ (g[k].pin = false ∨ g[k].pin = c[k].pin)
  off : ∀ k (hk : k < c.length) (hk' : k < g.length), ¬ 0 < g[k].ref → g[k] = c[k] ∨ (0 < c[k].ref ∧ g[k] = ⟨0, true, false, []⟩)
theorem Cuts.refl (c : List HC) : Cuts c c := ⟨rfl, fun _ _ _ h => ⟨h, rfl, rfl, Int.le_refl _, .inr rfl⟩, fun _ _ _ _ => .inl rfl⟩
theorem Cuts.trans {a b c : List HC} (h : Cuts a b) (k : Cuts b c) : Cuts a c := by
  refine ⟨k.len.trans h.len, fun i hi hi' h0 => ?_, fun i hi hi' h0 => ?_⟩
  · have hb : i < b.length := by rw [h.len]; exact hi
    obtain ⟨k1, k2, k3, k4, k5⟩ := k.on i hb hi' h0
    obtain ⟨h1, h2, h3, h4, h5⟩ := h.on i hi hb k1
    refine ⟨h1, k2.trans h2, k3.trans h3, Int.le_trans k4 h4, ?_⟩
    rcases k5 with k5 | k5
    · exact .inl k5
    · rw [k5]; exact h5
  · have hb : i < b.length := by rw [h.len]; exact hi
    rcases k.off i hb hi' h0 with k1 | ⟨k1, k2⟩
    · rw [k1] at h0 ⊢
      exact h.off i hi hb h0
    · exact .inr ⟨(h.on i hi hb k1).1, k2⟩
theorem cuts_set {c : List HC} {k : Nat} (hk : k < c.length) {x : HC} (h1 : 0 < x.ref → 0 < c[k].ref ∧ x.leaf = c[k].leaf ∧ x.it = c[k].it ∧ x.ref ≤ c[k].ref ∧ (x.pin = false ∨ x.pin = c[k].pin)) (h2 : ¬ 0 < x.ref → x = c[k] ∨ (0 < c[k].ref ∧ x = ⟨0, true, false, []⟩)) : Cuts c (c.set k x) := by
  refine ⟨by simp, fun i hi hi' h0 => ?_, fun i hi hi' h0 => ?_⟩
  · by_cases h : i = k
    · subst h; rw [List.getElem_set_self] at h0 ⊢; exact h1 h0
    · rw [List.getElem_set_ne (Ne.symm h)] at h0 ⊢
      exact ⟨h0, rfl, rfl, Int.le_refl _, .inr rfl⟩
  · by_cases h : i = k
    · subst h; rw [List.getElem_set_self] at h0 ⊢; exact h2 h0
    · rw [List.getElem_set_ne (Ne.symm h)]; exact .inl rfl
theorem fold_cuts {f : Nat} (h : ∀ (c : List HC) (p : Int), Cuts c (looseL f c p)) : ∀ (ps : List Int) (c : List HC), Cuts c (ps.foldl (looseL f) c)
  | [], c => Cuts.refl c
  | p :: ps, c => (h c p).trans (fold_cuts h ps _)
theorem loose_cuts : ∀ (f : Nat) (c : List HC) (p : Int), Cuts c (looseL f c p)
  | 0, c, _ => Cuts.refl c
  | f + 1, c, p => by
    cases h : usedC c p
    · rw [looseL_no _ h]; exact Cuts.refl c
    · obtain ⟨k, hk, rfl, h0⟩ := usedC_iff h
      by_cases h1 : 1 < c[k].ref
      · rw [looseL_at f hk h, if_pos h1]
        exact cuts_set hk (fun _ => ⟨h0, rfl, rfl, by simp; omega, .inl rfl⟩) (fun h2 => by simp at h2; omega)
      · rw [looseL_told f hk h h1]
        exact (cuts_set hk (x := ⟨0, true, false, []⟩) (fun h2 => by simp at h2) (fun _ => .inr ⟨h0, rfl⟩)).trans (fold_cuts (fun c p => loose_cuts f c p) _ _)
theorem cuts_right {c g : List HC} {keep : Int} (h : Cuts c g) (hr : rightH ⟨c, keep⟩ = true) : rightH ⟨g, keep⟩ = true := by
  obtain ⟨h1, h2⟩ := rightH_iff hr
  refine rightH_yes (by rw [h.len]; exact h1) fun k hk => ?_
  have hk' : k < c.length := by rw [h.len] at hk; exact hk
  have hc := h2 k hk'
  by_cases h0 : 0 < g[k].ref
  · obtain ⟨e1, e2, e3, e4, e5⟩ := h.on k hk' hk h0
    have hp := used_nopin hc e1
    have h6 := cellR_used hc e1 g[k].ref h0 (by have := (right_ref hr k hk').2; omega)
    have he : g[k] = ⟨g[k].ref, c[k].pin, c[k].leaf, c[k].it⟩ := by
      rw [← e2, ← e3]
      have : g[k].pin = c[k].pin := e5.elim (fun e => by rw [e, hp]) id
      rw [← this]
    rw [he, h.len]
    exact h6
  · rw [h.len]
    rcases h.off k hk' hk h0 with e | ⟨_, e⟩
    · rw [e]; exact hc
    · rw [e]; rfl
theorem cuts_free {c g : List HC} (h : Cuts c g) (_hr : ∀ k (hk : k < c.length), 0 ≤ c[k].ref) : g.countP freeC = c.countP freeC := by
  have e : g.map freeC = c.map freeC := by
    apply List.ext_getElem (by simp [h.len])
    intro k h1 h2
    have hk : k < g.length := by simpa using h1
    have hk' : k < c.length := by simpa using h2
    rw [List.getElem_map, List.getElem_map]
    by_cases h0 : 0 < g[k].ref
    · have := (h.on k hk' hk h0).1
      unfold freeC
      rw [decide_eq_false (by omega), decide_eq_false (by omega)]
      rfl
    · rcases h.off k hk' hk h0 with e | ⟨e1, e⟩
      · rw [e]
      · rw [e]
        unfold freeC
        rw [decide_eq_false (show ¬ c[k].ref = 0 by omega)]
        rfl
  have h1 : ∀ m : List HC, m.countP freeC = (m.map freeC).countP id := fun m => by rw [List.countP_map]; rfl
  rw [h1, h1, e]
/-- What used cells tell are cells. -/
def Tells (c : List HC) : Prop := ∀ k (hk : k < c.length), ∀ p ∈ tellC c[k], 0 ≤ p ∧ p < c.length
theorem tells_right {c : List HC} {keep : Int} (hr : rightH ⟨c, keep⟩ = true) : Tells c := fun k hk p hp => by
  unfold tellC at hp
  by_cases h0 : 0 < c[k].ref
  · rw [if_pos h0] at hp
    have hok := cell_ok ((rightH_iff hr).2 k hk) h0
    unfold toldL at hp
    cases hlf : c[k].leaf
    · rw [hlf] at hp
      simp only [Bool.false_eq_true, if_false] at hp
      obtain ⟨x, hx, rfl⟩ := List.mem_map.1 hp
      have := hok.2 hlf x hx
      exact ⟨this.1, by omega⟩
    · rw [hlf] at hp; simp at hp
  · rw [if_neg h0] at hp; simp at hp
theorem tells_cuts {c g : List HC} (h : Cuts c g) (ht : Tells c) : Tells g := fun k hk p hp => by
  have hk' : k < c.length := by rw [h.len] at hk; exact hk
  unfold tellC at hp
  by_cases h0 : 0 < g[k].ref
  · rw [if_pos h0] at hp
    obtain ⟨e1, e2, e3, _⟩ := h.on k hk' hk h0
    rw [h.len]
    refine ht k hk' p ?_
    unfold tellC
    rw [if_pos e1, ← e2, ← e3]
    exact hp
  · rw [if_neg h0] at hp; simp at hp
theorem fold_rc {f : Nat} (hf : ∀ (c : List HC) (E : Int → Int) (k : Nat), Tells c → (∀ j, 0 ≤ E j) → usedN c < f → RC c E → k < c.length → 1 ≤ E (k : Int) → RC (looseL f c (k : Int)) (fun j => E j - (if j = (k : Int) then 1 else 0))) :
    ∀ (ps : List Int) (c : List HC) (B : Int → Int), Tells c → (∀ j, 0 ≤ B j) → usedN c < f → (∀ p ∈ ps, 0 ≤ p ∧ p < c.length) → RC c (fun j => B j + (ps.count j : Nat)) → RC (ps.foldl (looseL f) c) B
  | [], c, B, _, _, _, _, h => by simpa using h
  | p :: ps, c, B, ht, hB, hu, hp, h => by
    obtain ⟨h0, h1⟩ := hp p List.mem_cons_self
    obtain ⟨k, rfl⟩ := Int.eq_ofNat_of_zero_le h0
    have hcut := loose_cuts f c (k : Int)
    have h2 := hf c _ k ht (fun j => by have := hB j; omega) hu h (by omega) (by
      rw [List.count_cons_self]
      have := hB (k : Int)
      omega)
    refine fold_rc hf ps _ B (tells_cuts hcut ht) hB (Nat.lt_of_le_of_lt (loose_used f c _) hu) (fun q hq => by rw [hcut.len]; exact hp q (List.mem_cons_of_mem _ hq)) ?_
    refine rc_congr h2 (fun j hj => ?_)
    simp only [List.count_cons]
    by_cases hjk : j = k
    · subst hjk; simp; omega
    · rw [if_neg (show ¬ (j : Int) = (k : Int) by omega)]
      have : ((k : Int) == (j : Int)) = false := by rw [beq_eq_false_iff_ne]; omega
      rw [this]
      simp
/-- What is loosed keeps the count: one less of it. -/
theorem rc_loose : ∀ (f : Nat) (c : List HC) (E : Int → Int) (k : Nat), Tells c → (∀ j, 0 ≤ E j) → usedN c < f → RC c E → k < c.length → 1 ≤ E (k : Int) → RC (looseL f c (k : Int)) (fun j => E j - (if j = (k : Int) then 1 else 0))
  | 0, _, _, _, _, _, h, _, _, _ => by omega
  | f + 1, c, E, k, ht, hE, hu, h, hk, h1 => by
    have hrk := h k hk
    have h0 : 0 < c[k].ref := by omega
    have huk : usedC c (k : Int) = true := by rw [usedC_at hk, decide_eq_true h0]
    by_cases h2 : 1 < c[k].ref
    · rw [looseL_at f hk huk, if_pos h2]
      have hin : ∀ j : Int, inn (c.set k ⟨c[k].ref - 1, false, c[k].leaf, c[k].it⟩) j = inn c j := fun j => by
        have h3 := inn_set hk (⟨c[k].ref - 1, false, c[k].leaf, c[k].it⟩ : HC) j
        have e1 : tellC ⟨c[k].ref - 1, false, c[k].leaf, c[k].it⟩ = tellC c[k] := by
          unfold tellC
          rw [if_pos h0, if_pos (by simp only; omega)]
        rw [e1] at h3
        omega
      intro j hj
      have hjc : j < c.length := by simpa using hj
      rw [hin]
      have hrj := h j hjc
      by_cases hjk : j = k
      · subst hjk
        rw [List.getElem_set_self]
        show c[j].ref - 1 = E (j : Int) - (if (j : Int) = (j : Int) then 1 else 0) + ((inn c (j : Int) : Nat) : Int)
        rw [if_pos rfl]
        omega
      · rw [List.getElem_set_ne (Ne.symm hjk)]
        show c[j].ref = E (j : Int) - (if (j : Int) = (k : Int) then 1 else 0) + ((inn c (j : Int) : Nat) : Int)
        rw [if_neg (show ¬ (j : Int) = (k : Int) by omega)]
        omega
    · rw [looseL_told f hk huk h2]
      have hr1 : c[k].ref = 1 := by omega
      have hin : ∀ j : Int, inn (c.set k ⟨0, true, false, []⟩) j + (toldL c[k].leaf c[k].it).count j = inn c j := fun j => by
        have h3 := inn_set hk (⟨0, true, false, []⟩ : HC) j
        have e1 : tellC ⟨0, true, false, []⟩ = [] := rfl
        have e2 : tellC c[k] = toldL c[k].leaf c[k].it := by unfold tellC; rw [if_pos h0]
        rw [e1, e2, List.count_nil] at h3
        omega
      have hcut := cuts_set hk (x := ⟨0, true, false, []⟩) (fun h2 => by simp at h2) (fun _ => .inr ⟨h0, rfl⟩)
      have hus := usedN_set hk (⟨0, true, false, []⟩ : HC) (by simp) h0
      refine fold_rc (fun c E k => rc_loose f c E k) _ _ (fun j => E j - (if j = (k : Int) then 1 else 0)) (tells_cuts hcut ht) (fun j => ?_) (by omega) (fun p hp => ?_) ?_
      · have := hE j
        by_cases hjk : j = (k : Int)
        · subst hjk; simp; omega
        · rw [if_neg hjk]; omega
      · rw [List.length_set]
        refine ht k hk p ?_
        unfold tellC
        rw [if_pos h0]
        exact hp
      · intro j hj
        have hjc : j < c.length := by simpa using hj
        have h3 := hin (j : Int)
        have hrj := h j hjc
        by_cases hjk : j = k
        · subst hjk
          rw [List.getElem_set_self]
          show (0 : Int) = E (j : Int) - (if (j : Int) = (j : Int) then 1 else 0) + (((toldL c[j].leaf c[j].it).count (j : Int) : Nat) : Int) + ((inn (c.set j ⟨0, true, false, []⟩) (j : Int) : Nat) : Int)
          rw [if_pos rfl]
          omega
        · rw [List.getElem_set_ne (Ne.symm hjk)]
          show c[j].ref = E (j : Int) - (if (j : Int) = (k : Int) then 1 else 0) + (((toldL c[k].leaf c[k].it).count (j : Int) : Nat) : Int) + ((inn (c.set k ⟨0, true, false, []⟩) (j : Int) : Nat) : Int)
          rw [if_neg (show ¬ (j : Int) = (k : Int) by omega)]
          omega
end Go.Proofs.YtbfbpddfcakieaaGreat
namespace Go.Proofs.YtbfbpddfcakieaaGreat
open Go.RowKit

/-- What the way meets: the nodes' places; how many more it may meet; whether it came to the end. -/
structure Dn where
  ys : List Int
  left : Nat
  ok : Bool
def dnRow (f : Nat → Int → Dn) : Nat → List It → Dn
  | c, [] => ⟨[], c, true⟩
  | c, x :: r => if (f c x.2).ok then ⟨(f c x.2).ys ++ (dnRow f (f c x.2).left r).ys, (dnRow f (f c x.2).left r).left, (dnRow f (f c x.2).left r).ok⟩ else f c x.2
def fromT (it : List It) (leaf : Bool) (key : Int) : List It := it.drop (atI leaf it key).toNat
def dn (l : List HC) (key : Int) : Nat → Nat → Int → Dn
  | 0, c, _ => ⟨[], c, false⟩
  | m + 1, c, p => if usedC l p && decide (c ≠ 0) then (if (cellT l p).leaf then ⟨[p], c - 1, true⟩ else
      ⟨p :: (dnRow (dn l key m) (c - 1) (fromT (cellT l p).it false key)).ys, (dnRow (dn l key m) (c - 1) (fromT (cellT l p).it false key)).left, (dnRow (dn l key m) (c - 1) (fromT (cellT l p).it false key)).ok⟩) else ⟨[], c, false⟩
theorem dnRow_count {f : Nat → Int → Dn} : ∀ {r : List It} {c : Nat}, (∀ x ∈ r, ∀ c, (f c x.2).ys.length + (f c x.2).left = c) → (dnRow f c r).ys.length + (dnRow f c r).left = c
  | [], c, _ => by simp [dnRow]
  | x :: r, c, h => by
    unfold dnRow
    have h1 := h x List.mem_cons_self c
    split
    · have h2 := dnRow_count (r := r) (c := (f c x.2).left) (fun y hy => h y (List.mem_cons_of_mem _ hy))
      simp only [List.length_append]
      omega
    · exact h1
theorem dn_count (l : List HC) (key : Int) : ∀ (m c : Nat) (p : Int), (dn l key m c p).ys.length + (dn l key m c p).left = c
  | 0, c, p => by simp [dn]
  | m + 1, c, p => by
    unfold dn
    by_cases h : (usedC l p && decide (c ≠ 0)) = true
    · rw [if_pos h]
      simp only [Bool.and_eq_true, decide_eq_true_eq] at h
      split
      · simp only [List.length_singleton]; omega
      · have h2 := dnRow_count (f := dn l key m) (r := fromT (cellT l p).it false key) (c := c - 1) (fun x _ c => dn_count l key m c x.2)
        simp only [List.length_cons]
        omega
    · rw [if_neg h]; simp
theorem dnRow_used {l : List HC} {f : Nat → Int → Dn} : ∀ {r : List It} {c : Nat}, (∀ x ∈ r, ∀ c, ∀ y ∈ (f c x.2).ys, usedC l y = true) → ∀ y ∈ (dnRow f c r).ys, usedC l y = true
  | [], c, _, y, hy => by simp [dnRow] at hy
  | x :: r, c, h, y, hy => by
    unfold dnRow at hy
    split at hy
    · rcases List.mem_append.1 hy with hy | hy
      · exact h x List.mem_cons_self _ y hy
      · exact dnRow_used (fun z hz => h z (List.mem_cons_of_mem _ hz)) y hy
    · exact h x List.mem_cons_self _ y hy
theorem dn_used (l : List HC) (key : Int) : ∀ (m c : Nat) (p : Int), ∀ y ∈ (dn l key m c p).ys, usedC l y = true
  | 0, c, p, y, hy => by simp [dn] at hy
  | m + 1, c, p, y, hy => by
    unfold dn at hy
    by_cases h : (usedC l p && decide (c ≠ 0)) = true
    · rw [if_pos h] at hy
      simp only [Bool.and_eq_true, decide_eq_true_eq] at h
      split at hy
      · simp only [List.mem_singleton] at hy; subst hy; exact h.1
      · rcases List.mem_cons.1 hy with rfl | hy
        · exact h.1
        · exact dnRow_used (fun x _ c => dn_used l key m c x.2) y hy
    · rw [if_neg h] at hy; simp at hy
/-- The nodes that the program meets from a root. -/
def nodesP (l : List HC) (root key : Int) : List Int := (dn l key 2001 2000 root).ys
theorem nodesP_len (l : List HC) (root key : Int) : (nodesP l root key).length ≤ 2000 := by
  have := dn_count l key 2001 2000 root
  unfold nodesP
  omega
/-- A right tree's nodes from a key on. -/
def fromB (l : List HC) (key : Int) : Nat → Int → List Int
  | 0, _ => []
  | m + 1, p => p :: (if (cellT l p).leaf then [] else (fromT (cellT l p).it false key).flatMap (fun x => fromB l key m x.2))
theorem sub_flatMap {α β : Type} {f g : α → List β} : ∀ {r : List α}, (∀ x ∈ r, (f x).Sublist (g x)) → (r.flatMap f).Sublist (r.flatMap g)
  | [], _ => by simp
  | x :: r, h => by
    rw [List.flatMap_cons, List.flatMap_cons]
    exact (h x List.mem_cons_self).append (sub_flatMap (fun y hy => h y (List.mem_cons_of_mem _ hy)))
theorem sub_flatMap' {α β : Type} (g : α → List β) : ∀ {r s : List α}, r.Sublist s → (r.flatMap g).Sublist (s.flatMap g) := fun {r s} h => by
  induction h with
  | slnil => simp
  | cons a h ih => rw [List.flatMap_cons]; exact ih.trans (List.sublist_append_right _ _)
  | cons_cons a h ih => rw [List.flatMap_cons, List.flatMap_cons]; exact (List.Sublist.refl _).append ih
theorem fromB_sub (l : List HC) (key : Int) : ∀ (m : Nat) (p : Int), (fromB l key m p).Sublist (nodesB l m p)
  | 0, p => by simp [fromB, nodesB]
  | m + 1, p => by
    unfold fromB nodesB
    refine List.Sublist.cons_cons _ ?_
    cases (cellT l p).leaf
    · simp only [Bool.false_eq_true, if_false]
      exact (sub_flatMap (fun x _ => fromB_sub l key m x.2)).trans (sub_flatMap' _ (List.drop_sublist _ _))
    · simp
/-- As many as there are, at most, where each is there once. -/
theorem nodup_len : ∀ (n : Nat) (xs : List Int), xs.Nodup → (∀ x ∈ xs, 0 ≤ x ∧ x < n) → xs.length ≤ n
  | 0, xs, _, h => by
    cases xs with
    | nil => simp
    | cons x r => have := h x List.mem_cons_self; omega
  | n + 1, xs, hn, h => by
    by_cases hm : (n : Int) ∈ xs
    · have h1 := List.length_erase_of_mem hm
      have h2 := nodup_len n (xs.erase (n : Int)) (hn.erase _) (fun x hx => by
        have h3 := (hn.mem_erase_iff).1 hx
        have h4 := h x h3.2
        have h5 := h3.1
        omega)
      have := List.length_pos_of_mem hm
      omega
    · have := nodup_len n xs hn (fun x hx => by
        have h4 := h x hx
        have : x ≠ n := fun e => hm (by subst e; exact hx)
        omega)
      omega
theorem fromB_len {l : List HC} (hl : AllR l) (hn : l.length ≤ 2000) (key : Int) {m : Nat} {p : Int} (h0 : 0 ≤ p) (h1 : p < l.length) (h : (bel l m p).is = true) : (fromB l key m p).length ≤ 2000 := by
  have h2 := (fromB_sub l key m p).length_le
  have h3 := nodup_len l.length (nodesB l m p) (nodes_once l hl m p h0 h1 h) (fun y hy => by
    obtain ⟨_, _, _, h5, _, _⟩ := node_in l hl m p h0 h1 h y hy
    exact h5)
  omega
theorem dnRow_right {f : Nat → Int → Dn} {g : Int → List Int} : ∀ {r : List It} {c : Nat}, (∀ x ∈ r, ∀ c, (g x.2).length ≤ c → f c x.2 = ⟨g x.2, c - (g x.2).length, true⟩) → (r.flatMap (fun x => g x.2)).length ≤ c →
    dnRow f c r = ⟨r.flatMap (fun x => g x.2), c - (r.flatMap (fun x => g x.2)).length, true⟩
  | [], c, _, _ => by simp [dnRow]
  | x :: r, c, h, hc => by
    rw [List.flatMap_cons, List.length_append] at hc
    unfold dnRow
    rw [h x List.mem_cons_self c (by omega)]
    simp only [if_true]
    rw [dnRow_right (fun y hy => h y (List.mem_cons_of_mem _ hy)) (by omega), List.flatMap_cons, List.length_append]
    simp only [Dn.mk.injEq, and_true, true_and]
    omega
theorem dn_right {l : List HC} (hl : AllR l) (key : Int) : ∀ (m m' c : Nat) (p : Int), 0 ≤ p → p < l.length → (bel l m p).is = true → m ≤ m' → (fromB l key m p).length ≤ c → dn l key m' c p = ⟨fromB l key m p, c - (fromB l key m p).length, true⟩
  | 0, _, _, p, _, _, h, _, _ => (bel_zero h).elim
  | _ + 1, 0, _, _, _, _, _, hm, _ => by omega
  | m + 1, m' + 1, c, p, h0, h1, h, hm, hc => by
    obtain ⟨k, rfl⟩ := Int.eq_ofNat_of_zero_le h0
    have hk : k < l.length := by omega
    obtain ⟨hr, hch⟩ := bel_is h
    rw [cellT_at hk] at hr hch
    have hok := cell_ok (hl k hk) hr
    unfold fromB at hc ⊢
    unfold dn
    rw [cellT_at hk] at hc ⊢
    simp only [List.length_cons] at hc
    rw [usedC_at hk, decide_eq_true hr, decide_eq_true (show c ≠ 0 by omega)]
    simp only [Bool.and_self, if_true]
    rcases hch with ⟨hlf, _⟩ | ⟨hlf, _, hch⟩
    · rw [hlf]; simp
    · rw [hlf] at hc ⊢
      simp only [Bool.false_eq_true, if_false] at hc ⊢
      have h2 := dnRow_right (f := dn l key m') (g := fromB l key m) (r := fromT l[k].it false key) (c := c - 1) (fun x hx c hc => by
        have hx' : x ∈ l[k].it := List.mem_of_mem_drop hx
        exact dn_right hl key m m' c x.2 (hok.2 hlf x hx').1 (by have := (hok.2 hlf x hx').2; omega) (hch x hx').1 (by omega) hc) (by omega)
      rw [h2]
      simp only [List.length_cons, Dn.mk.injEq, and_true, true_and]
      omega
/-- A right tree's nodes, as the program meets them. -/
theorem nodesP_right {l : List HC} (hl : AllR l) (hn : l.length ≤ 2000) {keep root : Int} (hr : rightR ⟨l, keep⟩ root = true) (key : Int) : nodesP l root key = if root < 0 then [] else fromB l key 20 root := by
  unfold nodesP
  rcases rightR_iff hr with h | ⟨h0, h1, hb⟩
  · rw [if_pos h]
    unfold dn
    rw [usedC_neg h]
    rfl
  · rw [if_neg (by omega), dn_right hl key 20 2001 2000 root h0 h1 hb (by omega) (fromB_len hl hn key h0 h1 hb)]
/-- With a key below all others it is all nodes. -/
theorem atI_low {it : List It} (h : NdR it) {key : Int} (hk : key < 0) : atI false it key = 0 := by
  have h1 : atB it key = false := atB_no (fun j hj e => by have := (h.2 j hj).1.1.1; omega)
  rw [atI_not h1]
  have h2 : atC it key = 0 := by
    unfold atC
    rw [List.countP_eq_zero]
    intro x hx
    have := (h.ok x hx).1.1
    simp only [decide_eq_true_eq]
    omega
  rw [h2]
  rfl
theorem fromB_low {l : List HC} (hl : AllR l) {key : Int} (hkey : key < 0) : ∀ (m : Nat) (p : Int), 0 ≤ p → p < l.length → (bel l m p).is = true → fromB l key m p = nodesB l m p
  | 0, p, _, _, h => (bel_zero h).elim
  | m + 1, p, h0, h1, h => by
    obtain ⟨k, rfl⟩ := Int.eq_ofNat_of_zero_le h0
    have hk : k < l.length := by omega
    obtain ⟨hr, hch⟩ := bel_is h
    rw [cellT_at hk] at hr hch
    have hok := cell_ok (hl k hk) hr
    unfold fromB nodesB
    rw [cellT_at hk]
    rcases hch with ⟨hlf, _⟩ | ⟨hlf, _, hch⟩
    · rw [hlf]; simp
    · rw [hlf]
      simp only [Bool.false_eq_true, if_false]
      unfold fromT
      rw [atI_low hok.1 hkey]
      simp only [Int.toNat_zero, List.drop_zero]
      rw [flatMap_congr' (fun x hx => fromB_low hl hkey m x.2 (hok.2 hlf x hx).1 (by have := (hok.2 hlf x hx).2; omega) (hch x hx).1)]
theorem nodesP_all {l : List HC} (hl : AllR l) (hn : l.length ≤ 2000) {keep root : Int} (hr : rightR ⟨l, keep⟩ root = true) {key : Int} (hkey : key < 0) : nodesP l root key = nodesT l root := by
  rw [nodesP_right hl hn hr key]
  unfold nodesT
  rcases rightR_iff hr with h | ⟨h0, h1, hb⟩
  · rw [if_pos h, if_pos h]
  · rw [if_neg (by omega), if_neg (by omega), fromB_low hl hkey 20 root h0 h1 hb]
/-- How high the program finds it: how many nodes come to the first leaf. -/
def upTo (l : List HC) : List Int → Nat
  | [] => 0
  | y :: r => if (cellT l y).leaf then 1 else (if upTo l r = 0 then 0 else upTo l r + 1)
def hgtP (l : List HC) (root : Int) : Nat := upTo l (nodesP l root (-9223372036854775808))
theorem upTo_app {l : List HC} : ∀ {xs : List Int} (ys : List Int), upTo l xs ≠ 0 → upTo l (xs ++ ys) = upTo l xs
  | [], _, h => by simp [upTo] at h
  | x :: xs, ys, h => by
    unfold upTo at h
    rw [List.cons_append]
    unfold upTo
    split
    · rfl
    · rename_i hl
      rw [if_neg hl] at h
      have h2 : upTo l xs ≠ 0 := fun e => by rw [if_pos e] at h; exact h rfl
      rw [upTo_app ys h2]
theorem upTo_nodes {l : List HC} (hl : AllR l) : ∀ (m : Nat) (p : Int), 0 ≤ p → p < l.length → (bel l m p).is = true → (upTo l (nodesB l m p) : Int) = (bel l m p).high
  | 0, p, _, _, h => (bel_zero h).elim
  | m + 1, p, h0, h1, h => by
    obtain ⟨k, rfl⟩ := Int.eq_ofNat_of_zero_le h0
    have hk : k < l.length := by omega
    obtain ⟨hr, hch⟩ := bel_is h
    rw [cellT_at hk] at hr hch
    have hok := cell_ok (hl k hk) hr
    unfold nodesB upTo
    rw [cellT_at hk]
    rcases hch with ⟨hlf, e⟩ | ⟨hlf, _, hch⟩
    · rw [hlf, e]; simp
    · rw [hlf]
      simp only [Bool.false_eq_true, if_false]
      have hlen := hok.1.1.1
      obtain ⟨it, hit⟩ : ∃ it, l[k].it = it := ⟨_, rfl⟩
      rw [hit] at hch hok hlen ⊢
      cases it with
      | nil => simp at hlen
      | cons x r =>
        have hx := hok.2 hlf x List.mem_cons_self
        have h2 := upTo_nodes hl m x.2 hx.1 (by omega) (hch x List.mem_cons_self).1
        have h3 := (hch x List.mem_cons_self).2.2
        have h4 := bel_pos l hl m x.2 hx.1 (by omega) (hch x List.mem_cons_self).1
        rw [List.flatMap_cons, upTo_app _ (by omega), if_neg (by omega)]
        omega
theorem hgtP_right {l : List HC} (hl : AllR l) (hn : l.length ≤ 2000) {keep root : Int} (hr : rightR ⟨l, keep⟩ root = true) : (hgtP l root : Int) = highT l root := by
  unfold hgtP
  rw [nodesP_all hl hn hr (by omega)]
  unfold nodesT highT
  rcases rightR_iff hr with h | ⟨h0, h1, hb⟩
  · rw [if_pos h, if_pos h]; rfl
  · rw [if_neg (by omega), if_neg (by omega)]
    exact upTo_nodes hl 20 root h0 h1 hb
end Go.Proofs.YtbfbpddfcakieaaGreat
