/- The walk of loose of package heap. Walks of changed and changedUsed of package heap, at each thing that is done. -/
import Derived.Test.YtbfbpddfcakieaaGreatK07
namespace Go.Proofs.YtbfbpddfcakieaaGreat
open Go.RowKit
attribute [local go_sem ↓] Go.wp_at_zero Go.wp_at_succ

theorem grown_ext {w w' : World} (h : Ext w w') (row : Option Nat) : w.grownBy w' row := ⟨h.os, h.tape, h.output, h.size, fun k hk _ => h.block k hk⟩
theorem grown_hc (w : World) (g a b c d : Nat) (x y z t : Value) : w.grownBy ((((w.setCell ⟨g, a, none⟩ x).setCell ⟨g, b, none⟩ y).setCell ⟨g, c, none⟩ z).setCell ⟨g, d, none⟩ t) (some g) :=
  grown_trans (grown_trans (grown_trans (grown_set w g a x) (grown_set _ g b y)) (grown_set _ g c z)) (grown_set _ g d t)
theorem grown_le {w w' : World} {row : Option Nat} (h : w.grownBy w' row) : w.heap.size ≤ w'.heap.size := h.size
/-- A row of numbers that was made behind a block isn't it. -/
theorem own_apart {w : World} {B e s n d g : Nat} {S : Option Addr} {xs : List Value} (h : w.ownsRow B e s (.slice S n d) n xs) (hg : g < B) : xs ≠ [] → ∀ p, S = some p → some g ≠ some p.block := fun hx p hp e9 => by
  rcases h.2 with ⟨e0, h0⟩ | ⟨g', cap', cur, e0, hg', _⟩
  · cases e0; cases hp
  · cases e0; cases hp
    have := Option.some.inj e9
    simp only at this
    omega
def okC (c : HC) : Prop := c.ref ≤ 9000000000000000000 ∧ (0 < c.ref → c.pin = false) ∧ c.it.length ≤ 90000
def OkL (l : List HC) : Prop := ∀ k (hk : k < l.length), okC l[k]
theorem OkL.set {l : List HC} (h : OkL l) (k : Nat) (x : HC) (hx : okC x) : OkL (l.set k x) := fun j hj => by
  rw [List.length_set] at hj
  rw [List.getElem_set]
  split
  · exact hx
  · exact h j hj
theorem okC_zero : okC ⟨0, true, false, []⟩ := ⟨by simp, fun h => by simp at h, by simp⟩
theorem loose_ok : ∀ (f : Nat) (l : List HC) (p : Int), OkL l → OkL (looseL f l p)
  | 0, _, _, h => h
  | f + 1, l, p, hb => by
    cases h : usedC l p
    · rw [looseL_no _ h]; exact hb
    · obtain ⟨k, hk, rfl, _⟩ := usedC_iff h
      rw [looseL_at f hk h]
      split
      · exact hb.set _ _ ⟨by have := (hb k hk).1; simp only; omega, fun _ => rfl, (hb k hk).2.2⟩
      · split
        · exact hb.set _ _ okC_zero
        · exact foldl_inv (P := OkL) (g := fun g (x : It) => looseL f g x.2) (fun b a hb => loose_ok f b a.2 hb) _ _ (hb.set _ _ okC_zero)
theorem right_okL {l : List HC} {keep : Int} (h : rightH ⟨l, keep⟩ = true) : OkL l := fun k hk => by
  have h1 := (rightH_iff h).2 k hk
  unfold cellR at h1
  split at h1
  · rename_i e
    simp only [Bool.and_eq_true, Bool.not_eq_true', decide_eq_true_eq] at h1
    exact ⟨by omega, fun h => by omega, by omega⟩
  · simp only [Bool.and_eq_true, decide_eq_true_eq, Bool.not_eq_true'] at h1
    have h4 := ((ndR_iff _).1 h1.2.2.2.1).1
    exact ⟨by omega, fun _ => h1.2.2.1, by omega⟩
theorem looseL_told {l : List HC} {k : Nat} (f : Nat) (hk : k < l.length) (h : usedC l (k : Int) = true) (h1 : ¬ 1 < l[k].ref) :
    looseL (f + 1) l (k : Int) = (toldL l[k].leaf l[k].it).foldl (looseL f) (l.set k ⟨0, true, false, []⟩) := by
  rw [looseL_at f hk h, if_neg h1]
  unfold toldL
  cases l[k].leaf
  · simp only [Bool.false_eq_true, if_false, List.foldl_map]
  · rfl
theorem foldl_takeI {β : Type} (g : β → Int → β) (b : β) {ps : List Int} {k : Nat} (hk : k < ps.length) : (ps.take (k + 1)).foldl g b = g ((ps.take k).foldl g b) ps[k] := by
  rw [List.take_succ_eq_append_getElem hk, List.foldl_append]; rfl

set_option maxRecDepth 100000 in
set_option maxHeartbeats 3200000 in
theorem hpLoose_at : ∀ (N f : Nat) (v w : World) (g cap : Nat) (l : List HC) (n k : Nat), usedN l ≤ N → N < f → n = l.length → n ≤ 90000 → OkL l → usedC l (k : Int) = true → Own v w g cap l →
    Calls Tryz.prog 51 #[.slice (some ⟨g, 0, none⟩) n cap, .int .i64 k] w fun e w' => e = .returned (.tuple #[]) ∧ Own v w' g cap (looseL f l (k : Int)) ∧ w.grownBy w' (some g) := by
  intro N
  induction N using Nat.strongRecOn with
  | ind N ih =>
  intro f v w g cap l n k hN hf hn hb hok hu hO
  obtain ⟨f, rfl⟩ : ∃ f', f = f' + 1 := ⟨f - 1, by omega⟩
  obtain ⟨hk, hpos⟩ : ∃ hk : k < l.length, 0 < l[k].ref := by
    obtain ⟨k', hk', e, hp⟩ := usedC_iff hu
    obtain rfl : k = k' := by omega
    exact ⟨hk', hp⟩
  have hg := hO.ge
  obtain ⟨A, c, r0, r1, r2, r3, hI⟩ := hO.cell hk
  have f0 := hO.free (k * 4)
  have hkb := (hok k hk).1
  have hki : (k : Int) < (n : Int) := by omega
  by_cases h1 : 1 < l[k].ref
  · have e1 := looseL_at f hk hu
    rw [if_pos h1] at e1
    have hO1 := hO.ref hk (l[k].ref - 1)
    rw [(hok k hk).2.1 hpos, ← e1] at hO1
    have HO1 := Lib.hid hO1
    have d0 : decide (0 < l[k].ref - 1) = true := decide_eq_true (by omega)
    have d1 : decide (1 < l[k].ref) = true := decide_eq_true h1
    have hr1 : -9223372036854775808 ≤ l[k].ref - 1 := by omega
    have HG := Lib.hid (grown_set w g (k * 4) (.int .i64 (l[k].ref - 1)))
    clear hO hO1 ih hok hu e1 hI h1 hpos
    generalize looseL (f + 1) l (k : Int) = l' at *
    generalize l[k].ref = rf at *
    subst hn
    go_enter Tryz.func51, Tryz.ntmps51
    go_wp2_with fail
    refine bodyPost_ret (results_none rfl _ _ _) rfl ?_
    exact ⟨rfl, HO1.out, HG.out⟩
  have hr1 : l[k].ref = 1 := by omega
  have e1 := looseL_told f hk hu h1
  rw [e1]
  have hO1 := hO.ref hk 0
  have HO1 := Lib.hid hO1
  obtain ⟨l1, hl1⟩ : ∃ l1, l.set k ⟨0, true, false, []⟩ = l1 := ⟨_, rfl⟩
  rw [hl1]
  have hu1 : usedN l1 + 1 = usedN l := by rw [← hl1]; exact usedN_set hk _ (by simp) hpos
  have hok1 : OkL l1 := by rw [← hl1]; exact hok.set _ _ okC_zero
  have hll1 : l1.length = l.length := by rw [← hl1, List.length_set]
  have HO3 := Lib.hid (fun w' (h : Own v w' g cap (l.set k ⟨0, l[k].pin, l[k].leaf, l[k].it⟩)) => (show Own v ((((w'.setCell ⟨g, k * 4, none⟩ (.int .i64 0)).setCell ⟨g, k * 4 + 1, none⟩ (.bool true)).setCell ⟨g, k * 4 + 2, none⟩ (.bool false)).setCell ⟨g, k * 4 + 3, none⟩ (.slice none 0 0)) g cap l1 from by
    have h2 := h.set (k := k) (by rw [List.length_set]; exact hk) ⟨0, true, false, []⟩ (A := none) (c := 0) (Sl.nil v)
    rw [List.set_set, hl1] at h2
    exact h2))
  have HRD := Lib.hid (fun w' (h : Own v w' g cap (l.set k ⟨0, l[k].pin, l[k].leaf, l[k].it⟩)) => (show (∃ a b c d, (w'.cell? ⟨g, k * 4, none⟩ = some a ∧ w'.cell? ⟨g, k * 4 + 1, none⟩ = some b) ∧ (w'.cell? ⟨g, k * 4 + 2, none⟩ = some c ∧ w'.cell? ⟨g, k * 4 + 3, none⟩ = some d)) ∧ (w'.frozen? ⟨g, k * 4, none⟩ = false ∧ w'.frozen? ⟨g, k * 4 + 1, none⟩ = false) ∧ (w'.frozen? ⟨g, k * 4 + 2, none⟩ = false ∧ w'.frozen? ⟨g, k * 4 + 3, none⟩ = false) from by
    obtain ⟨A, c, r0, r1, r2, r3, _⟩ := h.cell (k := k) (by rw [List.length_set]; exact hk)
    exact ⟨⟨_, _, _, _, ⟨r0, r1⟩, r2, r3⟩, ⟨h.free _, h.free _⟩, h.free _, h.free _⟩))
  have HG1 := Lib.hid (grown_set w g (k * 4) (.int .i64 0))
  have HX := Lib.hid (show Ext v w from by obtain ⟨_, _, _, h⟩ := hO; exact h)
  have HI := Lib.hid hI
  have hm9 := (hok k hk).2.2
  have HIH := Lib.hid (fun w' (l' : List HC) (p : Nat) (h1 : usedN l' ≤ N - 1) (h2 : OkL l') (h3 : n = l'.length) (h4 : usedC l' (p : Int) = true) (h5 : Own v w' g cap l') => ih (N - 1) (by omega) f v w' g cap l' n p h1 (by omega) h3 hb h2 h4 h5)
  have HF := Lib.hid (fun (t : List Int) => (show usedN (t.foldl (looseL f) l1) ≤ N - 1 ∧ OkL (t.foldl (looseL f) l1) ∧ n = (t.foldl (looseL f) l1).length from
    ⟨foldl_inv (P := fun g => usedN g ≤ N - 1) (g := looseL f) (fun b a hb => Nat.le_trans (loose_used f b a) hb) _ _ (by omega), foldl_inv (P := OkL) (g := looseL f) (fun b a hb => loose_ok f b a hb) _ _ hok1, foldl_inv (P := fun g : List HC => n = g.length) (g := looseL f) (fun b a hb => by rw [loose_len]; exact hb) _ _ (by omega)⟩))
  rw [hr1] at r0
  clear hO1 hu e1 ih hok hI h1 hr1 hl1 hu1 hok1 hll1 hpos hkb hN hf
  generalize l.set k ⟨0, l[k].pin, l[k].leaf, l[k].it⟩ = l0 at *
  generalize l[k].it = it at *
  generalize l[k].leaf = lf at *
  generalize l[k].pin = pn at *
  obtain ⟨m, hm⟩ : ∃ m, it.length = m := ⟨_, rfl⟩
  rw [hm] at HI r3 hm9
  have HTC := Lib.hid (fun w' (hx : Ext v w') => hpTold_any lf A it m c w' hm.symm hm9 (HI.out.ext hx))
  have HX1 := Lib.hid (HX.out.set (p := ⟨g, k * 4, none⟩) hg.1 (.int .i64 0))
  clear hm hO
  subst hn
  generalize toldL lf it = ps at *
  go_enter Tryz.func51, Tryz.ntmps51
  go_wp2_with (go_at_call 79; refine stop_here ?_)
  refine stop_on ?_
  generalize hw1 : World.setCell w _ _ = w1 at *
  have hgw : g < w1.heap.size := by rw [← hw1]; simpa [World.setCell] using hg.2
  clear hw1
  refine (HTC.out _ HX1.out).mono ?_
  rintro e w2 ⟨S, t, d, rfl, ht, ho, hx⟩
  have HT := Lib.hid ht
  have HSL := Lib.hid (own_sl ho)
  have HAP := Lib.hid (own_apart ho hgw)
  have HO2 := Lib.hid (HO1.out.ext hx)
  obtain ⟨⟨v0, v1, v2, v3, ⟨z0, z1⟩, z2, z3⟩, ⟨q0, q1⟩, q2, q3⟩ := HRD.out w2 HO2.out
  have HG2 := Lib.hid (grown_trans HG1.out (grown_ext hx (some g)))
  have HO4 := Lib.hid (HO3.out w2 HO2.out)
  have HGW := Lib.hid (grown_hc w2 g (k * 4) (k * 4 + 1) (k * 4 + 2) (k * 4 + 3) (.int .i64 0) (.bool true) (.bool false) (.slice none 0 0))
  clear ho ht hx r0 r1 r2 r3 f0
  go_wp2_with fail
  have HS3 := Lib.hid (HSL.out.grown HGW.out HAP.out)
  have HG3 := Lib.hid (grown_trans HG2.out HGW.out)
  generalize World.setCell (World.setCell (World.setCell (World.setCell w2 _ _) _ _) _ _) _ _ = w3 at *
  have htl := HSL.out.len
  unfold maxLen at htl
  clear z0 z1 z2 z3 q0 q1 q2 q3
  go_loopw [33] (fun i wr => ∃ j : Nat, j ≤ t ∧ i = .int .i64 j ∧ Own v wr g cap ((ps.take j).foldl (looseL f) l1) ∧ w3.grownBy wr (some g)) (fun i _ => t - (intOf i).toNat)
  case atStart => exact ⟨0, Nat.zero_le _, rfl, HO4.out, World.grownBy.refl _ _⟩
  case round =>
    obtain ⟨j, hj, rfl, ho, hgr⟩ := hrel
    have HO := Lib.hid ho
    have HGR := Lib.hid hgr
    rcases Nat.lt_or_ge j t with hlt | hlt
    · have hjl : j < ps.length := by rw [← HT.out]; exact hlt
      obtain ⟨bi, oi, rfl, hbi, hc⟩ := (HS3.out.grown hgr HAP.out).cells.num hjl
      have hcj := hc j hjl
      have hji : (j : Int) < (t : Int) := by omega
      have HST := Lib.hid (foldl_takeI (looseL f) l1 hjl)
      obtain ⟨h6, h7, h8⟩ := HF.out (ps.take j)
      obtain ⟨lj, hlj⟩ : ∃ lj, (ps.take j).foldl (looseL f) l1 = lj := ⟨_, rfl⟩
      rw [hlj] at HO HST h6 h7 h8 ho
      have H6 := Lib.hid h6
      have H7 := Lib.hid h7
      have H8 := Lib.hid h8
      have hsl := ho.sl
      rw [← h8] at hsl
      have HU := Lib.hid (hpUsed_any (some ⟨g, 0, none⟩) lj l.length cap ps[j] wr hsl)
      clear hc ho hgr h6 h7 h8 hsl hlj
      generalize hp : ps[j] = p at *
      clear hp
      obtain ⟨u, hu⟩ : ∃ u, usedC lj p = u := ⟨_, rfl⟩
      rw [hu] at HU
      cases u
      · rw [looseL_no _ hu] at HST
        clear hu
        go_wp2_with (go_at_call 84; refine HU.out.mono ?_; rintro e w4 ⟨rfl, rfl⟩)
        go_roundw
        case rel => exact ⟨j + 1, by omega, by go_num, by rw [HST.out]; exact HO.out, HGR.out⟩
        case measure => simp [intOf]; omega
      · obtain ⟨k', hk', rfl, _⟩ := usedC_iff hu
        have HC := Lib.hid (HIH.out wr lj k' H6.out H7.out H8.out hu HO.out)
        clear hu
        go_wp2_with (first | (go_at_call 84; with_reducible refine HU.out.mono ?_; rintro e w4 ⟨rfl, rfl⟩) | (go_at_call 51; refine stop_here ?_))
        refine stop_on ?_
        refine HC.out.mono ?_
        rintro e w4 ⟨rfl, ho4, hg4⟩
        have HO5 := Lib.hid ho4
        have HG5 := Lib.hid (grown_trans HGR.out hg4)
        clear ho4 hg4
        go_wp2_with fail
        go_roundw
        case rel => exact ⟨j + 1, by omega, by go_num, by rw [HST.out]; exact HO5.out, HG5.out⟩
        case measure => simp [intOf]; omega
    · obtain rfl : j = t := by omega
      have hE : ps.take j = ps := by rw [HT.out, List.take_length]
      rw [hE] at HO
      have HG5 := Lib.hid (grown_trans HG3.out HGR.out)
      clear ho hgr hlt hE
      go_wp2_with fail
      go_end0
      exact ⟨rfl, HO.out, HG5.out⟩
end Go.Proofs.YtbfbpddfcakieaaGreat
namespace Go.Proofs.YtbfbpddfcakieaaGreat
open Go.RowKit
attribute [local go_sem ↓] Go.wp_at_zero Go.wp_at_succ

theorem own_base {w : World} {B B' e s n : Nat} {v : Value} {xs : List Value} (h : w.ownsRow B e s v n xs) (hb : B' ≤ B) : w.ownsRow B' e s v n xs := by
  refine ⟨h.1, ?_⟩
  rcases h.2 with h0 | ⟨g, cap, cur, e0, hg, h1⟩
  · exact .inl h0
  · exact .inr ⟨g, cap, cur, e0, Nat.le_trans hb hg, h1⟩
theorem Own.other {v w : World} {g cap : Nat} {l : List HC} (h : Own v w g cap l) {p : Addr} (hp : p.block ≠ g) (hv : v.heap.size ≤ p.block) (u : Value) : Own v (w.setCell p u) g cap l := by
  obtain ⟨cs, h1, h2, h3⟩ := h
  exact ⟨cs, ownsRow_setCell_other h1 (by simpa [Value.ownBlock] using Ne.symm hp) u, h2, h3.set hv u⟩
theorem Own.grown {v w w' : World} {g cap : Nat} {l : List HC} {row : Option Nat} (h : Own v w g cap l) (hg : w.grownBy w' row) (hne : row ≠ some g) (hx : Ext v w') : Own v w' g cap l := by
  obtain ⟨cs, h1, h2, h3⟩ := h
  exact ⟨cs, h1.kept hg (by simpa [Value.ownBlock] using fun e => hne e.symm), h2, hx⟩
/-- copied, told over an elder world in which the cells lie. -/
theorem hpCopied_v (v : World) (R : Option Addr) (l : List HC) (n q : Nat) (w : World) (hx : Ext v w) (hb : n ≤ 90000) (hA : HcSl v R n q l) :
    Calls Tryz.prog 102 #[.slice R n q] w fun e w' => ∃ g, e = .returned (.slice (some ⟨g, 0, none⟩) n n) ∧ w.heap.size ≤ g ∧ Own v w' g n l ∧ Ext w w' := by
  obtain ⟨hn, cs, hsl, hat⟩ := hA
  refine (hpCopiedC_cs R l n q w cs hn hb (hsl.ext hx) (hat.ext hx)).mono ?_
  rintro e w' ⟨g, rfl, h1, h2⟩
  exact ⟨g, rfl, (h1.lt g rfl).1, ⟨cs, own_base h1 hx.size, hat, hx.trans h2⟩, h2⟩
set_option maxRecDepth 100000 in
set_option maxHeartbeats 3200000 in
theorem hpChangedHold_any (v : World) (R : Option Addr) (l : List HC) (n q : Nat) (keep : Int) (S : Option Addr) (ps : List Int) (t d : Nat) (F : List HC → Int → List HC) (w : World) (hx : Ext v w) (hb : n ≤ 90000) (hA : HcSl v R n q l) (ht : t = ps.length) (hS : Sl w S t d (ps.map iv))
    (hD : ∀ (lj : List HC) (j : Nat) (hj : j < ps.length) (g : Nat) (wr : World), lj = (ps.take j).foldl F l → Own v wr g n lj → Calls Tryz.prog 58 #[.slice (some ⟨g, 0, none⟩) n n, .int .i64 ps[j]] wr fun e w' => e = .returned (.tuple #[]) ∧ Own v w' g n (F lj ps[j]) ∧ wr.grownBy w' (some g)) :
    Calls Tryz.prog 81 #[.agg #[.slice R n q, .int .i64 keep], .func (.func 58) #[] #[], .slice S t d] w fun e w' => ∃ g, e = .returned (.agg #[.slice (some ⟨g, 0, none⟩) n n, .int .i64 keep]) ∧ w.heap.size ≤ g ∧ Own v w' g n (ps.foldl F l) ∧ Ext w w' := by
  obtain ⟨W, hW⟩ : ∃ W, (w.alloc (.cells #[.slice R n q, .int .i64 keep] 24)).alloc (.cells #[.slice none 0 0, .int .i64 0] 24) = W := ⟨_, rfl⟩
  obtain ⟨hx0, hb0, hb1⟩ := allocs2 hW
  have hsz : W.heap.size = w.heap.size + 1 + 1 := by rw [← hW]; simp
  have HX := Lib.hid hx0
  have HXV := Lib.hid hx
  have HB0 := Lib.hid hb0
  have HB1 := Lib.hid hb1
  have HSZ := Lib.hid hsz
  have HT := Lib.hid ht
  have HS := Lib.hid hS
  have HD := Lib.hid hD
  have HC := Lib.hid (hpCopied_v v R l n q W (hx.trans hx0) hb hA)
  have htl := hS.len
  unfold maxLen at htl
  obtain ⟨p0, p1, p2⟩ := hb0.read2
  clear hx hx0 hb0 hb1 hsz hA ht hS hD
  subst hW
  go_enter Tryz.func81, Tryz.ntmps81
  go_wp2_with (go_at_call 102; refine stop_here ?_)
  refine stop_on ?_
  generalize hW : World.alloc (World.alloc w _) _ = W at *
  clear hW
  refine HC.out.mono ?_
  rintro e w1 ⟨g, rfl, hg, ho, hx1⟩
  have hgw : w.heap.size + 1 + 1 ≤ g := by have := HSZ.out; omega
  have HO := Lib.hid ho
  have HX1 := Lib.hid (HX.out.trans hx1)
  have HC0 := Lib.hid (HB0.out.ext hx1)
  have HC1 := Lib.hid (HB1.out.ext hx1)
  have HS1 := Lib.hid (HS.out.ext HX1.out)
  have HAP := Lib.hid (HS.out.cells.apart (g := g) (by omega))
  clear ho hx1 p0 p1 p2 hg
  go_wp2_with fail
  go_loopw [15] (fun i wr => ∃ j : Nat, j ≤ t ∧ i = .int .i64 j ∧ Own v wr g n ((ps.take j).foldl F l) ∧ w1.grownBy wr (some g)) (fun i _ => t - (intOf i).toNat)
  case atStart => exact ⟨0, Nat.zero_le _, rfl, HO.out, World.grownBy.refl _ _⟩
  case round =>
    obtain ⟨j, hj, rfl, ho, hgr⟩ := hrel
    have HOR := Lib.hid ho
    have HGR := Lib.hid hgr
    rcases Nat.lt_or_ge j t with hlt | hlt
    · have hjl : j < ps.length := by rw [← HT.out]; exact hlt
      obtain ⟨bi, oi, rfl, hbi, hc⟩ := (HS1.out.grown hgr HAP.out).cells.num hjl
      have hcj := hc j hjl
      have hji : (j : Int) < (t : Int) := by omega
      have HST := Lib.hid (foldl_takeI F l hjl)
      have HCL := Lib.hid (HD.out _ j hjl g wr rfl ho)
      rw [← HST.out] at HCL
      clear hc ho hgr
      generalize ps[j] = p at *
      go_wp2_with (go_at_call 58; refine stop_here ?_)
      refine stop_on ?_
      refine HCL.out.mono ?_
      rintro e w4 ⟨rfl, ho4, hg4⟩
      have HO5 := Lib.hid ho4
      have HG5 := Lib.hid (grown_trans HGR.out hg4)
      clear ho4 hg4
      go_wp2_with fail
      go_roundw
      case rel => exact ⟨j + 1, by omega, by go_num, HO5.out, HG5.out⟩
      case measure => simp [intOf]; omega
    · obtain rfl : j = t := by omega
      have hE : ps.take j = ps := by rw [HT.out, List.take_length]
      rw [hE] at HOR
      have HE0 := Lib.hid (HC0.out.grown hgr (fun e => by have := Option.some.inj e; omega))
      have HE1 := Lib.hid (HC1.out.grown hgr (fun e => by have := Option.some.inj e; omega))
      have HXR := Lib.hid (Ext.row' HX1.out hgr (by omega))
      have hvs := HXV.out.size
      obtain ⟨t0, t1, t2⟩ := HE0.out.read2
      obtain ⟨y0, y1⟩ := HE0.out.free2
      obtain ⟨s0, s1, s2⟩ := HE1.out.read2
      obtain ⟨x0, x1⟩ := HE1.out.free2
      clear ho hgr hlt hE
      have HF1 := Lib.hid (HE1.out.set_other (p := ⟨w.heap.size, 0, none⟩) (by simp) (.slice (some ⟨g, 0, none⟩) n n))
      have HF2 := Lib.hid (HF1.out.set2 (.slice (some ⟨g, 0, none⟩) n n) (.int .i64 keep))
      have HFO := Lib.hid (((HOR.out.other (p := ⟨w.heap.size, 0, none⟩) (by simp; omega) (by simpa using hvs) (.slice (some ⟨g, 0, none⟩) n n)).other (p := ⟨w.heap.size + 1, 0, none⟩) (by simp; omega) (by simp; omega) (.slice (some ⟨g, 0, none⟩) n n)).other (p := ⟨w.heap.size + 1, 1, none⟩) (by simp; omega) (by simp; omega) (.int .i64 keep))
      have HFX := Lib.hid (((HXR.out.set (p := ⟨w.heap.size, 0, none⟩) (by simp) (.slice (some ⟨g, 0, none⟩) n n)).set (p := ⟨w.heap.size + 1, 0, none⟩) (by simp) (.slice (some ⟨g, 0, none⟩) n n)).set (p := ⟨w.heap.size + 1, 1, none⟩) (by simp) (.int .i64 keep))
      go_wp2_with fail
      refine ret2_cell (k := w.heap.size + 1) (x := .slice (some ⟨g, 0, none⟩) n n) (y := .int .i64 keep) (v := .agg #[.slice (some ⟨g, 0, none⟩) n n, .int .i64 keep]) ?hb4 (fun r0 r1 => by simp [results, Tryz.results81, go_sem, r0, r1]) rfl ?hx4
      case hb4 => exact HF2.out
      case hx4 => exact ⟨g, rfl, by omega, HFO.out, HFX.out⟩
set_option maxRecDepth 100000 in
set_option maxHeartbeats 3200000 in
theorem hpChangedLoose_any (v : World) (R : Option Addr) (l : List HC) (n q : Nat) (keep : Int) (S : Option Addr) (ps : List Int) (t d : Nat) (F : List HC → Int → List HC) (w : World) (hx : Ext v w) (hb : n ≤ 90000) (hA : HcSl v R n q l) (ht : t = ps.length) (hS : Sl w S t d (ps.map iv))
    (hD : ∀ (lj : List HC) (j : Nat) (hj : j < ps.length) (g : Nat) (wr : World), lj = (ps.take j).foldl F l → Own v wr g n lj → Calls Tryz.prog 51 #[.slice (some ⟨g, 0, none⟩) n n, .int .i64 ps[j]] wr fun e w' => e = .returned (.tuple #[]) ∧ Own v w' g n (F lj ps[j]) ∧ wr.grownBy w' (some g)) :
    Calls Tryz.prog 81 #[.agg #[.slice R n q, .int .i64 keep], .func (.func 51) #[] #[], .slice S t d] w fun e w' => ∃ g, e = .returned (.agg #[.slice (some ⟨g, 0, none⟩) n n, .int .i64 keep]) ∧ w.heap.size ≤ g ∧ Own v w' g n (ps.foldl F l) ∧ Ext w w' := by
  obtain ⟨W, hW⟩ : ∃ W, (w.alloc (.cells #[.slice R n q, .int .i64 keep] 24)).alloc (.cells #[.slice none 0 0, .int .i64 0] 24) = W := ⟨_, rfl⟩
  obtain ⟨hx0, hb0, hb1⟩ := allocs2 hW
  have hsz : W.heap.size = w.heap.size + 1 + 1 := by rw [← hW]; simp
  have HX := Lib.hid hx0
  have HXV := Lib.hid hx
  have HB0 := Lib.hid hb0
  have HB1 := Lib.hid hb1
  have HSZ := Lib.hid hsz
  have HT := Lib.hid ht
  have HS := Lib.hid hS
  have HD := Lib.hid hD
  have HC := Lib.hid (hpCopied_v v R l n q W (hx.trans hx0) hb hA)
  have htl := hS.len
  unfold maxLen at htl
  obtain ⟨p0, p1, p2⟩ := hb0.read2
  clear hx hx0 hb0 hb1 hsz hA ht hS hD
  subst hW
  go_enter Tryz.func81, Tryz.ntmps81
  go_wp2_with (go_at_call 102; refine stop_here ?_)
  refine stop_on ?_
  generalize hW : World.alloc (World.alloc w _) _ = W at *
  clear hW
  refine HC.out.mono ?_
  rintro e w1 ⟨g, rfl, hg, ho, hx1⟩
  have hgw : w.heap.size + 1 + 1 ≤ g := by have := HSZ.out; omega
  have HO := Lib.hid ho
  have HX1 := Lib.hid (HX.out.trans hx1)
  have HC0 := Lib.hid (HB0.out.ext hx1)
  have HC1 := Lib.hid (HB1.out.ext hx1)
  have HS1 := Lib.hid (HS.out.ext HX1.out)
  have HAP := Lib.hid (HS.out.cells.apart (g := g) (by omega))
  clear ho hx1 p0 p1 p2 hg
  go_wp2_with fail
  go_loopw [15] (fun i wr => ∃ j : Nat, j ≤ t ∧ i = .int .i64 j ∧ Own v wr g n ((ps.take j).foldl F l) ∧ w1.grownBy wr (some g)) (fun i _ => t - (intOf i).toNat)
  case atStart => exact ⟨0, Nat.zero_le _, rfl, HO.out, World.grownBy.refl _ _⟩
  case round =>
    obtain ⟨j, hj, rfl, ho, hgr⟩ := hrel
    have HOR := Lib.hid ho
    have HGR := Lib.hid hgr
    rcases Nat.lt_or_ge j t with hlt | hlt
    · have hjl : j < ps.length := by rw [← HT.out]; exact hlt
      obtain ⟨bi, oi, rfl, hbi, hc⟩ := (HS1.out.grown hgr HAP.out).cells.num hjl
      have hcj := hc j hjl
      have hji : (j : Int) < (t : Int) := by omega
      have HST := Lib.hid (foldl_takeI F l hjl)
      have HCL := Lib.hid (HD.out _ j hjl g wr rfl ho)
      rw [← HST.out] at HCL
      clear hc ho hgr
      generalize ps[j] = p at *
      go_wp2_with (go_at_call 51; refine stop_here ?_)
      refine stop_on ?_
      refine HCL.out.mono ?_
      rintro e w4 ⟨rfl, ho4, hg4⟩
      have HO5 := Lib.hid ho4
      have HG5 := Lib.hid (grown_trans HGR.out hg4)
      clear ho4 hg4
      go_wp2_with fail
      go_roundw
      case rel => exact ⟨j + 1, by omega, by go_num, HO5.out, HG5.out⟩
      case measure => simp [intOf]; omega
    · obtain rfl : j = t := by omega
      have hE : ps.take j = ps := by rw [HT.out, List.take_length]
      rw [hE] at HOR
      have HE0 := Lib.hid (HC0.out.grown hgr (fun e => by have := Option.some.inj e; omega))
      have HE1 := Lib.hid (HC1.out.grown hgr (fun e => by have := Option.some.inj e; omega))
      have HXR := Lib.hid (Ext.row' HX1.out hgr (by omega))
      have hvs := HXV.out.size
      obtain ⟨t0, t1, t2⟩ := HE0.out.read2
      obtain ⟨y0, y1⟩ := HE0.out.free2
      obtain ⟨s0, s1, s2⟩ := HE1.out.read2
      obtain ⟨x0, x1⟩ := HE1.out.free2
      clear ho hgr hlt hE
      have HF1 := Lib.hid (HE1.out.set_other (p := ⟨w.heap.size, 0, none⟩) (by simp) (.slice (some ⟨g, 0, none⟩) n n))
      have HF2 := Lib.hid (HF1.out.set2 (.slice (some ⟨g, 0, none⟩) n n) (.int .i64 keep))
      have HFO := Lib.hid (((HOR.out.other (p := ⟨w.heap.size, 0, none⟩) (by simp; omega) (by simpa using hvs) (.slice (some ⟨g, 0, none⟩) n n)).other (p := ⟨w.heap.size + 1, 0, none⟩) (by simp; omega) (by simp; omega) (.slice (some ⟨g, 0, none⟩) n n)).other (p := ⟨w.heap.size + 1, 1, none⟩) (by simp; omega) (by simp; omega) (.int .i64 keep))
      have HFX := Lib.hid (((HXR.out.set (p := ⟨w.heap.size, 0, none⟩) (by simp) (.slice (some ⟨g, 0, none⟩) n n)).set (p := ⟨w.heap.size + 1, 0, none⟩) (by simp) (.slice (some ⟨g, 0, none⟩) n n)).set (p := ⟨w.heap.size + 1, 1, none⟩) (by simp) (.int .i64 keep))
      go_wp2_with fail
      refine ret2_cell (k := w.heap.size + 1) (x := .slice (some ⟨g, 0, none⟩) n n) (y := .int .i64 keep) (v := .agg #[.slice (some ⟨g, 0, none⟩) n n, .int .i64 keep]) ?hb4 (fun r0 r1 => by simp [results, Tryz.results81, go_sem, r0, r1]) rfl ?hx4
      case hb4 => exact HF2.out
      case hx4 => exact ⟨g, rfl, by omega, HFO.out, HFX.out⟩
set_option maxRecDepth 100000 in
set_option maxHeartbeats 3200000 in
theorem hpUsedNoHold_any (R : Option Addr) (l : List HC) (n q : Nat) (keep p : Int) (w : World) (hu : usedC l p = false) (hA : HcSl w R n q l) :
    Calls Tryz.prog 50 #[.agg #[.slice R n q, .int .i64 keep], .func (.func 58) #[] #[], .int .i64 p] w fun e w' => e = .returned (.tuple #[.agg #[.slice R n q, .int .i64 keep], .int .i64 4]) ∧ Ext w w' := by
  obtain ⟨W, hW⟩ : ∃ W, (w.alloc (.cells #[.slice R n q, .int .i64 keep] 24)).alloc (.cells #[.slice none 0 0, .int .i64 0] 24) = W := ⟨_, rfl⟩
  obtain ⟨hx0, hb0, hb1⟩ := allocs2 hW
  have HX := Lib.hid hx0
  have HB1 := Lib.hid hb1
  have HU := Lib.hid (hpUsed_any R l n q p W (hA.ext hx0))
  rw [hu] at HU
  obtain ⟨p0, p1, p2⟩ := hb0.read2
  obtain ⟨t0, t1, t2⟩ := hb1.read2
  obtain ⟨y0, y1⟩ := hb1.free2
  clear hx0 hb0 hb1 hA hu
  subst hW
  go_enter Tryz.func50, Tryz.ntmps50
  go_wp2_with (go_at_call 84; refine stop_here ?_)
  refine stop_on ?_
  generalize hW : World.alloc (World.alloc w _) _ = W at *
  clear hW
  refine HU.out.mono ?_
  rintro e w4 ⟨rfl, rfl⟩
  go_wp2_with fail
  refine ret2_cell (k := w.heap.size + 1) (x := .slice R n q) (y := .int .i64 keep) (v := .tuple #[.agg #[.slice R n q, .int .i64 keep], .int .i64 4]) ?hb4 (fun r0 r1 => by simp [results, Tryz.results50, go_sem, r0, r1]) rfl ?hx4
  case hb4 => exact HB1.out.set2 _ _
  case hx4 => exact ⟨rfl, HX.out.store2 (by omega) _ _⟩
set_option maxRecDepth 100000 in
set_option maxHeartbeats 3200000 in
theorem hpUsedYesHold_any (v : World) (R : Option Addr) (l : List HC) (n q : Nat) (keep p : Int) (l' : List HC) (w : World) (hx : Ext v w) (hb : n ≤ 90000) (hu : usedC l p = true) (hA : HcSl v R n q l)
    (hD : ∀ (g : Nat) (wr : World), Own v wr g n l → Calls Tryz.prog 58 #[.slice (some ⟨g, 0, none⟩) n n, .int .i64 p] wr fun e w' => e = .returned (.tuple #[]) ∧ Own v w' g n l' ∧ wr.grownBy w' (some g)) :
    Calls Tryz.prog 50 #[.agg #[.slice R n q, .int .i64 keep], .func (.func 58) #[] #[], .int .i64 p] w fun e w' => ∃ g, e = .returned (.tuple #[.agg #[.slice (some ⟨g, 0, none⟩) n n, .int .i64 keep], .int .i64 0]) ∧ w.heap.size ≤ g ∧ Own v w' g n l' ∧ Ext w w' := by
  obtain ⟨W, hW⟩ : ∃ W, (w.alloc (.cells #[.slice R n q, .int .i64 keep] 24)).alloc (.cells #[.slice none 0 0, .int .i64 0] 24) = W := ⟨_, rfl⟩
  obtain ⟨hx0, hb0, hb1⟩ := allocs2 hW
  have hsz : W.heap.size = w.heap.size + 1 + 1 := by rw [← hW]; simp
  have HX := Lib.hid hx0
  have HXV := Lib.hid hx
  have HB1 := Lib.hid hb1
  have HSZ := Lib.hid hsz
  have HU := Lib.hid (hpUsed_any R l n q p W (hA.ext (hx.trans hx0)))
  rw [hu] at HU
  have HC := Lib.hid (fun w' S (hx' : Ext v w') (hS : Sl w' S 1 1 ([p].map iv)) => hpChangedHold_any v R l n q keep S [p] 1 1 (fun _ _ => l') w' hx' hb hA rfl hS (fun lj j hj g wr e ho => by
    have hj0 : j = 0 := by simpa using hj
    subst hj0
    subst e
    exact hD g wr ho))
  obtain ⟨p0, p1, p2⟩ := hb0.read2
  clear hx hx0 hb0 hb1 hA hu hsz hD
  subst hW
  go_enter Tryz.func50, Tryz.ntmps50
  go_wp2_with (first | (go_at_call 84; with_reducible refine HU.out.mono ?_; rintro e w4 ⟨rfl, rfl⟩) | (go_at_call 81; refine stop_here ?_))
  refine stop_on ?_
  generalize hW : World.alloc (World.alloc w _) _ = W at *
  clear hW
  refine (HC.out _ _ ((HXV.out.trans HX.out).alloc _) ?hsl).mono ?_
  case hsl => exact hpl_lit' (by rw [HSZ.out]) _ 1 _ (by unfold maxLen; omega)
  rintro e w5 ⟨g, rfl, hg, ho, hx5⟩
  have hsz := HSZ.out
  have hgw : w.heap.size + 1 + 1 < g := by simp at hg; omega
  have hx6 : Ext W w5 := ((Ext.refl W).alloc _).trans hx5
  have HX6 := Lib.hid (HX.out.trans hx6)
  have hc1 := HB1.out.ext hx6
  have HC1 := Lib.hid hc1
  have hvs := HXV.out.size
  have HFO := Lib.hid ((ho.other (p := ⟨w.heap.size + 1, 0, none⟩) (by simp; omega) (by simp; omega) (.slice (some ⟨g, 0, none⟩) n n)).other (p := ⟨w.heap.size + 1, 1, none⟩) (by simp; omega) (by simp; omega) (.int .i64 keep))
  clear p0 p1 p2 hg ho hx5 hx6
  obtain ⟨t0, t1, t2⟩ := hc1.read2
  obtain ⟨y0, y1⟩ := hc1.free2
  clear hc1 hsz
  go_wp2_with fail
  refine ret2_cell (k := w.heap.size + 1) (x := .slice (some ⟨g, 0, none⟩) n n) (y := .int .i64 keep) (v := .tuple #[.agg #[.slice (some ⟨g, 0, none⟩) n n, .int .i64 keep], .int .i64 0]) ?hb4 (fun r0 r1 => by simp [results, Tryz.results50, go_sem, r0, r1]) rfl ?hx4
  case hb4 => exact HC1.out.set2 _ _
  case hx4 => exact ⟨g, rfl, by omega, HFO.out, HX6.out.store2 (by omega) _ _⟩
set_option maxRecDepth 100000 in
set_option maxHeartbeats 3200000 in
theorem hpUsedNoLoose_any (R : Option Addr) (l : List HC) (n q : Nat) (keep p : Int) (w : World) (hu : usedC l p = false) (hA : HcSl w R n q l) :
    Calls Tryz.prog 50 #[.agg #[.slice R n q, .int .i64 keep], .func (.func 51) #[] #[], .int .i64 p] w fun e w' => e = .returned (.tuple #[.agg #[.slice R n q, .int .i64 keep], .int .i64 4]) ∧ Ext w w' := by
  obtain ⟨W, hW⟩ : ∃ W, (w.alloc (.cells #[.slice R n q, .int .i64 keep] 24)).alloc (.cells #[.slice none 0 0, .int .i64 0] 24) = W := ⟨_, rfl⟩
  obtain ⟨hx0, hb0, hb1⟩ := allocs2 hW
  have HX := Lib.hid hx0
  have HB1 := Lib.hid hb1
  have HU := Lib.hid (hpUsed_any R l n q p W (hA.ext hx0))
  rw [hu] at HU
  obtain ⟨p0, p1, p2⟩ := hb0.read2
  obtain ⟨t0, t1, t2⟩ := hb1.read2
  obtain ⟨y0, y1⟩ := hb1.free2
  clear hx0 hb0 hb1 hA hu
  subst hW
  go_enter Tryz.func50, Tryz.ntmps50
  go_wp2_with (go_at_call 84; refine stop_here ?_)
  refine stop_on ?_
  generalize hW : World.alloc (World.alloc w _) _ = W at *
  clear hW
  refine HU.out.mono ?_
  rintro e w4 ⟨rfl, rfl⟩
  go_wp2_with fail
  refine ret2_cell (k := w.heap.size + 1) (x := .slice R n q) (y := .int .i64 keep) (v := .tuple #[.agg #[.slice R n q, .int .i64 keep], .int .i64 4]) ?hb4 (fun r0 r1 => by simp [results, Tryz.results50, go_sem, r0, r1]) rfl ?hx4
  case hb4 => exact HB1.out.set2 _ _
  case hx4 => exact ⟨rfl, HX.out.store2 (by omega) _ _⟩
set_option maxRecDepth 100000 in
set_option maxHeartbeats 3200000 in
theorem hpUsedYesLoose_any (v : World) (R : Option Addr) (l : List HC) (n q : Nat) (keep p : Int) (l' : List HC) (w : World) (hx : Ext v w) (hb : n ≤ 90000) (hu : usedC l p = true) (hA : HcSl v R n q l)
    (hD : ∀ (g : Nat) (wr : World), Own v wr g n l → Calls Tryz.prog 51 #[.slice (some ⟨g, 0, none⟩) n n, .int .i64 p] wr fun e w' => e = .returned (.tuple #[]) ∧ Own v w' g n l' ∧ wr.grownBy w' (some g)) :
    Calls Tryz.prog 50 #[.agg #[.slice R n q, .int .i64 keep], .func (.func 51) #[] #[], .int .i64 p] w fun e w' => ∃ g, e = .returned (.tuple #[.agg #[.slice (some ⟨g, 0, none⟩) n n, .int .i64 keep], .int .i64 0]) ∧ w.heap.size ≤ g ∧ Own v w' g n l' ∧ Ext w w' := by
  obtain ⟨W, hW⟩ : ∃ W, (w.alloc (.cells #[.slice R n q, .int .i64 keep] 24)).alloc (.cells #[.slice none 0 0, .int .i64 0] 24) = W := ⟨_, rfl⟩
  obtain ⟨hx0, hb0, hb1⟩ := allocs2 hW
  have hsz : W.heap.size = w.heap.size + 1 + 1 := by rw [← hW]; simp
  have HX := Lib.hid hx0
  have HXV := Lib.hid hx
  have HB1 := Lib.hid hb1
  have HSZ := Lib.hid hsz
  have HU := Lib.hid (hpUsed_any R l n q p W (hA.ext (hx.trans hx0)))
  rw [hu] at HU
  have HC := Lib.hid (fun w' S (hx' : Ext v w') (hS : Sl w' S 1 1 ([p].map iv)) => hpChangedLoose_any v R l n q keep S [p] 1 1 (fun _ _ => l') w' hx' hb hA rfl hS (fun lj j hj g wr e ho => by
    have hj0 : j = 0 := by simpa using hj
    subst hj0
    subst e
    exact hD g wr ho))
  obtain ⟨p0, p1, p2⟩ := hb0.read2
  clear hx hx0 hb0 hb1 hA hu hsz hD
  subst hW
  go_enter Tryz.func50, Tryz.ntmps50
  go_wp2_with (first | (go_at_call 84; with_reducible refine HU.out.mono ?_; rintro e w4 ⟨rfl, rfl⟩) | (go_at_call 81; refine stop_here ?_))
  refine stop_on ?_
  generalize hW : World.alloc (World.alloc w _) _ = W at *
  clear hW
  refine (HC.out _ _ ((HXV.out.trans HX.out).alloc _) ?hsl).mono ?_
  case hsl => exact hpl_lit' (by rw [HSZ.out]) _ 1 _ (by unfold maxLen; omega)
  rintro e w5 ⟨g, rfl, hg, ho, hx5⟩
  have hsz := HSZ.out
  have hgw : w.heap.size + 1 + 1 < g := by simp at hg; omega
  have hx6 : Ext W w5 := ((Ext.refl W).alloc _).trans hx5
  have HX6 := Lib.hid (HX.out.trans hx6)
  have hc1 := HB1.out.ext hx6
  have HC1 := Lib.hid hc1
  have hvs := HXV.out.size
  have HFO := Lib.hid ((ho.other (p := ⟨w.heap.size + 1, 0, none⟩) (by simp; omega) (by simp; omega) (.slice (some ⟨g, 0, none⟩) n n)).other (p := ⟨w.heap.size + 1, 1, none⟩) (by simp; omega) (by simp; omega) (.int .i64 keep))
  clear p0 p1 p2 hg ho hx5 hx6
  obtain ⟨t0, t1, t2⟩ := hc1.read2
  obtain ⟨y0, y1⟩ := hc1.free2
  clear hc1 hsz
  go_wp2_with fail
  refine ret2_cell (k := w.heap.size + 1) (x := .slice (some ⟨g, 0, none⟩) n n) (y := .int .i64 keep) (v := .tuple #[.agg #[.slice (some ⟨g, 0, none⟩) n n, .int .i64 keep], .int .i64 0]) ?hb4 (fun r0 r1 => by simp [results, Tryz.results50, go_sem, r0, r1]) rfl ?hx4
  case hb4 => exact HC1.out.set2 _ _
  case hx4 => exact ⟨g, rfl, by omega, HFO.out, HX6.out.store2 (by omega) _ _⟩
end Go.Proofs.YtbfbpddfcakieaaGreat
