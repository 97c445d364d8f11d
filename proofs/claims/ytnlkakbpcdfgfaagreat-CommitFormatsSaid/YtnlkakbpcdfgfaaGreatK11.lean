/- Walks of set, more and Hold of the reference. Walks of Same, New and Settle of the reference. Walks of New and Settle of the reference. Where everything stands on a disk, and a book's blocks: the plain theory. No program in sight. -/
import Derived.Test.YtnlkakbpcdfgfaaGreatK10
import Derived.Test.YtnlkakbpcdfgfaaGreatK03
namespace Go.Proofs.YtnlkakbpcdfgfaaGreat
set_option maxRecDepth 20000
open Go.RowKit
attribute [local go_sem ↓] Go.wp_at_zero Go.wp_at_succ

theorem infoHc : (Tryz.prog.info? 72).map (fun i => (i.zero, i.size, i.bytes)) = some (some (.agg #[.int .i64 0, .bool false, .bool false, .slice none 0 0]), 4, 48) := by kernel_rfl
/-- append of cells onto a row of the call's own. -/
theorem app_hcs (w : World) {ops : Array Oper} {rest : List Oper} {o : Oper} {a : Act} {Q : Exit → Act → World → Prop} (hgd : o.guard = none) (s x : Operand)
    (ho : o.op = .call { callee := .builtin .append, args := #[s, x], argTypes := #[27, 27] })
    (B : Nat) (v : Value) (n : Nat) (xs : List Value) (hs : a.eval s = v) (hown : w.ownsRow B 72 4 v n xs)
    (A : Option Addr) (m c : Nat) (ys : List Value) (hx : a.eval x = .slice A m c) (hl : ys.length = m * 4) (hS : Sl w A m c ys) (h1 : ∀ u ∈ ys, u.oneCell' = true)
    (hsz : n + m ≤ 100000) (hB : B ≤ w.heap.size)
    (h : ∀ A' c' w', w'.ownsRow B 72 4 (.slice A' (n + m) c') (n + m) (xs ++ ys) → w.grownBy w' v.ownBlock → wpList Tryz.prog ops Q rest (a.put o.dst (.slice A' (n + m) c')) w') : wpList Tryz.prog ops Q (o :: rest) a w :=
  wpList_app_sl w hgd s x 27 ho B 72 (.agg #[.int .i64 0, .bool false, .bool false, .slice none 0 0]) 4 48 Tryz.underlying27 infoHc rfl (by omega) v n xs hs hown A m c ys hx hl hS h1 (by unfold maxLen; omega) (by omega) hB h

theorem own_hc_read {w : World} {B e g n cap : Nat} {cs : List Value} {l : List HC} (h : w.ownsRow B e 4 (.slice (some ⟨g, 0, none⟩) n cap) n cs) (hn : n = l.length) {w0 : World} (ha : HcAt w0 cs l) {k : Nat} (hk : k < n) :
    ∃ a b c d, w.cell? ⟨g, k * 4, none⟩ = some a ∧ w.cell? ⟨g, k * 4 + 1, none⟩ = some b ∧ w.cell? ⟨g, k * 4 + 2, none⟩ = some c ∧ w.cell? ⟨g, k * 4 + 3, none⟩ = some d := by
  obtain ⟨A, c, e1, e2, e3, e4, _⟩ := ha.2 k (by omega)
  have hl := h.1
  exact ⟨_, _, _, _, (h.cellAt (k * 4) (by omega)).trans e1, (h.cellAt (k * 4 + 1) (by omega)).trans e2, (h.cellAt (k * 4 + 2) (by omega)).trans e3, (h.cellAt (k * 4 + 3) (by omega)).trans e4⟩
set_option maxRecDepth 100000 in
set_option maxHeartbeats 1600000 in
theorem ref05set_any (R : Option Addr) (l : List HC) (n q k : Nat) (keep : Int) (x : HC) (A : Option Addr) (m c : Nat) (w : World) (hk : k < n) (hb : n ≤ 90000) (hA : HcSl w R n q l) (hm : m = x.it.length) (hI : Sl w A m c (ivs x.it)) :
    Calls Tryz.prog 91 #[.agg #[.slice R n q, .int .i64 keep], .int .i64 k, .agg #[.int .i64 x.ref, .bool x.pin, .bool x.leaf, .slice A m c]] w fun e w' => ∃ S d, e = .returned (.agg #[.slice S n d, .int .i64 keep]) ∧ HcSl w' S n d (l.set k x) ∧ Ext w w' := by
  obtain ⟨hn, cs, hsl, hat⟩ := hA
  have HX3 := Lib.hid ((((Ext.refl w).alloc (.cells #[.slice R n q, .int .i64 keep] 29)).alloc (.cells #[.int .i64 x.ref, .bool x.pin, .bool x.leaf, .slice A m c] 72)).alloc (.cells #[.slice none 0 0, .int .i64 0] 29))
  obtain ⟨W, hW⟩ : ∃ W, W = ((w.alloc (.cells #[.slice R n q, .int .i64 keep] 29)).alloc (.cells #[.int .i64 x.ref, .bool x.pin, .bool x.leaf, .slice A m c] 72)).alloc (.cells #[.slice none 0 0, .int .i64 0] 29) := ⟨_, rfl⟩
  obtain ⟨_, hb0, hb1, hb2⟩ := allocs3 hW.symm
  have hsz : W.heap.size = w.heap.size + 1 + 1 + 1 := by rw [hW]; simp
  rw [← hW] at HX3
  have HB0 := Lib.hid hb0
  have HB1 := Lib.hid hb1
  have HB2 := Lib.hid hb2
  have HSZ := Lib.hid hsz
  have HN := Lib.hid hn
  have HAT := Lib.hid hat
  have HSL := Lib.hid hsl
  have HSET := Lib.hid (hat.set (p := k) (by omega) x (A := A) (c := c) (by rw [← hm]; exact hI))
  rw [← hm] at HSET
  have h1 := hc_one hat
  have H1 := Lib.hid h1
  have hcl := hat.1
  have HCL := Lib.hid hcl
  obtain ⟨rf, pn, lf, it⟩ := x
  simp only at HB1 HSET ⊢
  clear hb0 hb1 hb2 hsz hn hat hsl h1 hcl hm hI
  obtain ⟨p0, p1, p2⟩ := HB0.out.read2
  subst hW
  go_enter Tryz.func91, Tryz.ntmps91
  go_wp2_with (at_builtin; refine stop_here ?_)
  refine stop_on ?_
  generalize hW : World.alloc (World.alloc (World.alloc w _) _) _ = W at *
  clear hW
  have hoe := own_empty W 72 4
  rw [HSZ.out] at hoe
  refine app_hcs _ rfl _ _ rfl (w.heap.size + 1 + 1 + 1) _ 0 [] rfl hoe R n q cs rfl (by rw [HCL.out, ← HN.out]) (HSL.out.ext (HX3.out.alloc _)) H1.out (by omega) (by have := HSZ.out; simp; omega) ?_
  clear hoe
  intro A1 c1 w1 hown hg
  rw [List.nil_append, Nat.zero_add] at hown
  rw [Nat.zero_add]
  have HX1 := Lib.hid (show Ext W w1 from Below.grown ((Ext.refl W).alloc _) hg (by simp) (by intro q hq; cases hq; exact Nat.le_of_eq HSZ.out))
  obtain ⟨g, rfl, hgB⟩ := own_some hown (by omega)
  have HO1 := Lib.hid hown
  clear hown hg p0 p1 p2
  obtain ⟨p0, p1, p2⟩ := (HB0.out.ext HX1.out).read2
  obtain ⟨q0, q1, q2, q3⟩ := (HB1.out.ext HX1.out).read4
  have q4 := (HB1.out.ext HX1.out).lt
  obtain ⟨v0, v1, v2, v3, z0, z1, z2, z3⟩ := own_hc_read HO1.out HN.out HAT.out hk
  have f0 := own_free HO1.out (k * 4)
  have f1 := own_free HO1.out (k * 4 + 1)
  have f2 := own_free HO1.out (k * 4 + 2)
  have f3 := own_free HO1.out (k * 4 + 3)
  have hki : (k : Int) < (n : Int) := by omega
  have hne : ¬ g = w.heap.size := by omega
  have hne1 : ¬ g = w.heap.size + 1 := by omega
  have hne2 : ¬ w.heap.size = g := by omega
  have hne3 : ¬ w.heap.size + 1 = g := by omega
  have hne4 : ¬ w.heap.size + 1 + 1 = g := by omega
  have hne5 : ¬ g = w.heap.size + 1 + 1 := by omega
  obtain ⟨t0, t1, t2⟩ := (HB2.out.ext HX1.out).read2
  obtain ⟨y0, y1⟩ := (HB2.out.ext HX1.out).free2
  go_wp2_with fail
  have HXA := Lib.hid (HX3.out.trans HX1.out)
  have hgw : w.heap.size ≤ g := by omega
  have HO5 := Lib.hid (own_hc HO1.out hk (.int .i64 rf) (.bool pn) (.bool lf) (.slice A m c))
  have HX5 := Lib.hid ((((HXA.out.set (p := ⟨g, k * 4, none⟩) hgw (.int .i64 rf)).set (p := ⟨g, k * 4 + 1, none⟩) hgw (.bool pn)).set (p := ⟨g, k * 4 + 2, none⟩) hgw (.bool lf)).set (p := ⟨g, k * 4 + 3, none⟩) hgw (.slice A m c))
  have HB5 := Lib.hid (((((HB2.out.ext HX1.out).set_other (p := ⟨g, k * 4, none⟩) hne5 (.int .i64 rf)).set_other (p := ⟨g, k * 4 + 1, none⟩) hne5 (.bool pn)).set_other (p := ⟨g, k * 4 + 2, none⟩) hne5 (.bool lf)).set_other (p := ⟨g, k * 4 + 3, none⟩) hne5 (.slice A m c))
  clear p0 p1 p2 q0 q1 q2 q3 q4 z0 z1 z2 z3 f0 f1 f2 f3 t0 t1 t2 y0 y1
  generalize World.setCell (World.setCell (World.setCell (World.setCell w1 _ _) _ _) _ _) _ _ = w5 at *
  refine ret2_cell (k := w.heap.size + 1 + 1) (x := .slice (some ⟨g, 0, none⟩) n c1) (y := .int .i64 keep) (v := .agg #[.slice (some ⟨g, 0, none⟩) n c1, .int .i64 keep]) ?hb3 (fun r0 r1 => by simp [results, Tryz.results91, go_sem, r0, r1]) rfl ?hx3
  case hb3 => exact HB5.out.set2 _ _
  case hx3 =>
    have hx6 := (HX5.out.set (p := ⟨w.heap.size + 1 + 1, 0, none⟩) (by simp; omega) (.slice (some ⟨g, 0, none⟩) n c1)).set (p := ⟨w.heap.size + 1 + 1, 1, none⟩) (by simp; omega) (.int .i64 keep)
    refine ⟨_, _, rfl, ⟨by rw [List.length_set]; exact HN.out, _, own_sl (ownsRow_setCell_other (ownsRow_setCell_other HO5.out (a := ⟨w.heap.size + 1 + 1, 0, none⟩) ?_ _) (a := ⟨w.heap.size + 1 + 1, 1, none⟩) ?_ _), HSET.out.ext hx6⟩, hx6⟩
    · simp [Value.ownBlock, hne5]
    · simp [Value.ownBlock, hne5]

theorem holdH_at {l : List HC} {keep : Int} {k : Nat} (hk : k < l.length) (h : usedC l (k : Int) = true) : holdH ⟨l, keep⟩ (k : Int) = ⟨l.set k l[k].more, keep⟩ ∧ holdE ⟨l, keep⟩ (k : Int) = 0 := by
  unfold holdH holdE moreH setH usedH
  simp only [h, if_true, Int.toNat_natCast, List.getD_eq_getElem?_getD, List.getElem?_eq_getElem hk, Option.getD_some]
  first | exact ⟨rfl, rfl⟩ | exact ⟨rfl, trivial⟩ | trivial
theorem holdH_no {l : List HC} {keep p : Int} (h : usedC l p = false) : holdH ⟨l, keep⟩ p = ⟨l, keep⟩ ∧ holdE ⟨l, keep⟩ p = 4 := by
  unfold holdH holdE usedH
  simp only [h]
  first | exact ⟨rfl, rfl⟩ | trivial
theorem hold_len (h : Hp) (p : Int) : (holdH h p).c.length = h.c.length ∧ (holdH h p).keep = h.keep := by
  unfold holdH moreH setH; split <;> simp
end Go.Proofs.YtnlkakbpcdfgfaaGreat
namespace Go.Proofs.YtnlkakbpcdfgfaaGreat
set_option maxRecDepth 20000
open Go.RowKit
attribute [local go_sem ↓] Go.wp_at_zero Go.wp_at_succ

def sameH (a b : Hp) : Bool := decide (a = b)
theorem sameN_iff {f g : Bool} {a b : List It} : sameN f a g b = true ↔ f = g ∧ a = b := by unfold sameN sameI; simp
theorem hc_same {x y : HC} (h1 : sameN x.leaf x.it y.leaf y.it = true) (h2 : x.ref = y.ref) (h3 : x.pin = y.pin) : x = y := by
  obtain ⟨e1, e2⟩ := sameN_iff.1 h1
  cases x; cases y; simp_all
theorem hc_node {x y : HC} (h1 : sameN x.leaf x.it y.leaf y.it = false) : x ≠ y := fun e => by
  subst e; unfold sameN sameI at h1; simp at h1
set_option maxRecDepth 100000 in
set_option maxHeartbeats 3200000 in
theorem ref05Same_any (R S : Option Addr) (a b : List HC) (n m q q' : Nat) (ka kb : Int) (w : World) (hA : HcSl w R n q a) (hB : HcSl w S m q' b) :
    Calls Tryz.prog 21 #[.agg #[.slice R n q, .int .i64 ka], .agg #[.slice S m q', .int .i64 kb]] w fun e w' => e = .returned (.bool (sameH ⟨a, ka⟩ ⟨b, kb⟩)) ∧ Ext w w' := by
  have hn := hA.1
  have hm := hB.1
  have hml : n ≤ maxLen := by obtain ⟨_, cs, h, _⟩ := hA; exact h.len
  unfold maxLen at hml
  obtain ⟨W, hW⟩ : ∃ W, W = (w.alloc (.cells #[.slice R n q, .int .i64 ka] 29)).alloc (.cells #[.slice S m q', .int .i64 kb] 29) := ⟨_, rfl⟩
  obtain ⟨hx, hb0, hb1⟩ := allocs2 hW.symm
  have HX := Lib.hid hx
  have HB0 := Lib.hid hb0
  have HB1 := Lib.hid hb1
  have HA := Lib.hid (hA.ext hx)
  have HB := Lib.hid (hB.ext hx)
  have HNA := Lib.hid hn
  have HNB := Lib.hid hm
  obtain ⟨p0, p1, p2⟩ := hb0.read2
  obtain ⟨q0, q1, q2⟩ := hb1.read2
  clear hx hb0 hb1 hA hB hn hm
  by_cases hk : ka = kb
  rotate_left
  · have HE := Lib.hid (show sameH ⟨a, ka⟩ ⟨b, kb⟩ = false from decide_eq_false (fun e => hk (congrArg Hp.keep e)))
    have e1 : (ka != kb) = true := bne_iff_ne.2 hk
    clear hk
    subst hW
    go_enter Tryz.func21, Tryz.ntmps21
    go_wp2_with fail
    go_ret
    exact ⟨ret_bool HE.out.symm, HX.out⟩
  subst hk
  by_cases hl : n = m
  rotate_left
  · have HE := Lib.hid (show sameH ⟨a, ka⟩ ⟨b, ka⟩ = false from decide_eq_false (fun e => hl (by rw [HNA.out, HNB.out, show a = b from congrArg Hp.c e])))
    have e2 : ((n : Int) != (m : Int)) = true := bne_iff_ne.2 (by omega)
    clear hl
    subst hW
    go_enter Tryz.func21, Tryz.ntmps21
    go_wp2_with fail
    go_ret
    exact ⟨ret_bool HE.out.symm, HX.out⟩
  subst hl
  have HLL := Lib.hid (show a.length = b.length by rw [← HNA.out, ← HNB.out])
  subst hW
  go_enter Tryz.func21, Tryz.ntmps21
  go_wp2_with fail
  generalize hW : World.alloc (World.alloc w _) _ = W at *
  clear hW
  go_loopw [5] (fun i wr => ∃ k : Nat, k ≤ n ∧ i = .int .i64 k ∧ Ext W wr ∧ a.take k = b.take k) (fun i _ => n - (intOf i).toNat)
  case atStart => exact ⟨0, Nat.zero_le _, rfl, Ext.refl _, rfl⟩
  case round =>
    obtain ⟨k, hk, rfl, hx, ht⟩ := hrel
    have HT := Lib.hid ht
    have HXR := Lib.hid hx
    clear ht p0 p1 p2 q0 q1 q2
    obtain ⟨p0, p1, p2⟩ := (HB0.out.ext hx).read2
    obtain ⟨q0, q1, q2⟩ := (HB1.out.ext hx).read2
    rcases Nat.lt_or_ge k n with hlt | hlt
    · have hka : k < a.length := by rw [← HNA.out]; exact hlt
      have hkb : k < b.length := by rw [← HNB.out]; exact hlt
      obtain ⟨ba, oa, rfl, hba, Aa, ca, r0, r1, r2, r3, hI⟩ := (HA.out.ext hx).cell hka
      obtain ⟨bb, ob, rfl, hbb, Ab, cb, s0, s1, s2, s3, hJ⟩ := (HB.out.ext hx).cell hkb
      have hki : (k : Int) < (n : Int) := by omega
      have HF := Lib.hid (ne_at (a := a) (b := b) k hka hkb)
      have HS := Lib.hid (eq_step (a := a) (b := b) k hka hkb HT.out)
      have HCX := Lib.hid (fun w' (hx : Ext wr w') => ref04Same_any a[k].leaf b[k].leaf Aa Ab a[k].it b[k].it a[k].it.length b[k].it.length ca cb w' rfl rfl (hI.ext hx) (hJ.ext hx))
      have HKA := Lib.hid (fun w' (hx : Ext wr w') => (show w'.cell? ⟨ba, oa + k * 4, none⟩ = some (.int .i64 a[k].ref) ∧ w'.cell? ⟨ba, oa + k * 4 + 1, none⟩ = some (.bool a[k].pin) from ⟨(hx.cell (p := ⟨ba, oa + k * 4, none⟩) hba).trans r0, (hx.cell (p := ⟨ba, oa + k * 4 + 1, none⟩) hba).trans r1⟩))
      have HKB := Lib.hid (fun w' (hx : Ext wr w') => (show w'.cell? ⟨bb, ob + k * 4, none⟩ = some (.int .i64 b[k].ref) ∧ w'.cell? ⟨bb, ob + k * 4 + 1, none⟩ = some (.bool b[k].pin) from ⟨(hx.cell (p := ⟨bb, ob + k * 4, none⟩) hbb).trans s0, (hx.cell (p := ⟨bb, ob + k * 4 + 1, none⟩) hbb).trans s1⟩))
      have HBB := Lib.hid (fun w' (hx : Ext wr w') => (show Bx w' w.heap.size #[.slice (some ⟨ba, oa, none⟩) n q, .int .i64 ka] ∧ Bx w' (w.heap.size + 1) #[.slice (some ⟨bb, ob, none⟩) n q', .int .i64 ka] from ⟨HB0.out.ext (HXR.out.trans hx), HB1.out.ext (HXR.out.trans hx)⟩))
      have HSM := Lib.hid (fun (h1 : sameN a[k].leaf a[k].it b[k].leaf b[k].it = true) (h2 : a[k].ref = b[k].ref) (h3 : a[k].pin = b[k].pin) => hc_same h1 h2 h3)
      have HN1 := Lib.hid (fun (h : sameN a[k].leaf a[k].it b[k].leaf b[k].it = false) => hc_node h)
      have HN2 := Lib.hid (fun (h : a[k].ref ≠ b[k].ref) => (show a[k] ≠ b[k] from fun e => h (congrArg HC.ref e)))
      have HN3 := Lib.hid (fun (h : a[k].pin ≠ b[k].pin) => (show a[k] ≠ b[k] from fun e => h (congrArg HC.pin e)))
      have HE0 := Lib.hid (fun (h : a ≠ b) => (show sameH ⟨a, ka⟩ ⟨b, ka⟩ = false from decide_eq_false (fun e => h (congrArg Hp.c e))))
      clear HT hI hJ hx r0 r1 s0 s1
      generalize a[k] = x at *
      generalize b[k] = y at *
      obtain ⟨u, hu⟩ : ∃ u, sameN x.leaf x.it y.leaf y.it = u := ⟨_, rfl⟩
      rw [hu] at HCX HSM HN1
      clear hu
      generalize x.leaf = lf at *
      generalize y.leaf = lf2 at *
      generalize x.it.length = m1 at *
      generalize y.it.length = m2 at *
      obtain ⟨rf, hrf⟩ : ∃ r, x.ref = r := ⟨_, rfl⟩
      obtain ⟨rf2, hrf2⟩ : ∃ r, y.ref = r := ⟨_, rfl⟩
      obtain ⟨pn, hpn⟩ : ∃ r, x.pin = r := ⟨_, rfl⟩
      obtain ⟨pn2, hpn2⟩ : ∃ r, y.pin = r := ⟨_, rfl⟩
      rw [hrf, hpn] at HKA
      rw [hrf2, hpn2] at HKB
      rw [hrf, hrf2] at HSM HN2
      rw [hpn, hpn2] at HSM HN3
      clear hrf hrf2 hpn hpn2
      go_wp2_with fail
      go_cut [6] from 28 to 41 (fun v wx => v = .bool u ∧ Ext wr wx)
      case first =>
        go_region_law
          (first
            | ((go_simp
                go_at_call 38
                refine (HCX.out _ ?_).mono ?_
                (first | exact (Ext.refl _).drew | exact Ext.refl _)
                rintro e w1 ⟨rfl, hx⟩
                have HX1 := Lib.hid (show Ext wr w1 from by first | exact (Ext.refl _).drew.trans hx | exact hx)
                clear hx)))
        all_goals
          go_wp2_with fail
          go_meet
          exact ⟨rfl, HX1.out⟩
      case rest =>
        obtain ⟨rfl, hx⟩ := hcut
        have HX1 := Lib.hid hx
        obtain ⟨k0, k1⟩ := HKA.out _ hx
        obtain ⟨k2, k3⟩ := HKB.out _ hx
        obtain ⟨g0, g1⟩ := HBB.out _ hx
        clear p0 p1 p2 q0 q1 q2 r2 r3 s2 s3 hx
        obtain ⟨p0, p1, p2⟩ := g0.read2
        obtain ⟨q0, q1, q2⟩ := g1.read2
        clear g0 g1
        cases u
        · have HE := Lib.hid (HE0.out (HF.out (HN1.out rfl)))
          go_wp2_with fail
          go_quiet (fail)
          go_wp2
          go_ret
          exact ⟨ret_bool HE.out.symm, HX.out.trans (HXR.out.trans (HX1.out.drewN _))⟩
        by_cases h1 : rf = rf2
        rotate_left
        · have HE := Lib.hid (HE0.out (HF.out (HN2.out h1)))
          have e3 : (rf != rf2) = true := bne_iff_ne.2 h1
          clear h1
          go_wp2_with fail
          go_quiet (fail)
          go_wp2
          go_ret
          exact ⟨ret_bool HE.out.symm, HX.out.trans (HXR.out.trans (HX1.out.drewN _))⟩
        subst h1
        by_cases h2 : pn = pn2
        rotate_left
        · have HE := Lib.hid (HE0.out (HF.out (HN3.out h2)))
          cases pn <;> cases pn2 <;> first | (exact absurd rfl h2) | skip
          all_goals
            clear h2
            go_wp2_with fail
            go_quiet (fail)
            go_wp2
            go_ret
            exact ⟨ret_bool HE.out.symm, HX.out.trans (HXR.out.trans (HX1.out.drewN _))⟩
        subst h2
        have HE := Lib.hid (HS.out (HSM.out rfl rfl rfl))
        cases pn
        all_goals
          go_wp2_with fail
          go_quiet (fail)
          go_wp2
          go_roundw
          case rel => exact ⟨k + 1, by omega, by go_num, HXR.out.trans (HX1.out.drewN _), HE.out⟩
          case measure => simp [intOf]; omega
    · obtain rfl : k = n := by omega
      have HE := Lib.hid (show a = b from by
        have h := HT.out
        rw [HNA.out] at h
        exact eq_end HLL.out h)
      have HE2 := Lib.hid (show sameH ⟨a, ka⟩ ⟨b, ka⟩ = true from decide_eq_true (by rw [HE.out]))
      clear hlt hx
      go_wp2_with fail
      go_ret
      exact ⟨ret_bool HE2.out.symm, HX.out.trans HXR.out⟩
end Go.Proofs.YtnlkakbpcdfgfaaGreat
namespace Go.Proofs.YtnlkakbpcdfgfaaGreat
set_option maxRecDepth 20000
open Go.RowKit
attribute [local go_sem ↓] Go.wp_at_zero Go.wp_at_succ

def newOk (n keep : Int) : Prop := (1 ≤ n ∧ n ≤ 2000) ∧ 0 ≤ keep ∧ keep ≤ n
instance (n keep : Int) : Decidable (newOk n keep) := by unfold newOk; infer_instance
def newH (n keep : Int) : Hp := if newOk n keep then ⟨List.replicate n.toNat HC.none, keep⟩ else ⟨[], 0⟩
def newHE (n keep : Int) : Int := if newOk n keep then 0 else 1
theorem hc_zeros (w : World) (n : Nat) : HcAt w (madeCells (Value.agg #[.int .i64 0, .bool false, .bool false, .slice none 0 0]).cells (n * 4)).toList (List.replicate n HC.none) := by
  have hz : (Value.agg #[.int .i64 0, .bool false, .bool false, .slice none 0 0]).cells = #[.int .i64 0, .bool false, .bool false, .slice none 0 0] := by simp [Value.cells]
  rw [hz]
  refine ⟨by simp [size_madeCells], fun i hi => ?_⟩
  simp only [List.length_replicate] at hi
  have hg : ∀ j, j < n * 4 → (madeCells #[.int .i64 0, .bool false, .bool false, .slice none 0 0] (n * 4)).toList[j]? = some ((#[.int .i64 0, .bool false, .bool false, .slice none 0 0] : Array Value)[j % 4]!) := fun j hj => by
    simp [madeCells, hj]
  refine ⟨none, 0, ?_, ?_, ?_, ?_, ?_⟩
  · rw [hg _ (by omega), show i * 4 % 4 = 0 by omega]; simp [HC.none]
  · rw [hg _ (by omega), show (i * 4 + 1) % 4 = 1 by omega]; simp [HC.none]
  · rw [hg _ (by omega), show (i * 4 + 2) % 4 = 2 by omega]; simp [HC.none]
  · rw [hg _ (by omega), show (i * 4 + 3) % 4 = 3 by omega]; simp [HC.none]
  · simp only [List.getElem_replicate]
    exact Sl.nil _
set_option maxRecDepth 100000 in
set_option maxHeartbeats 1600000 in
theorem ref05New_any (n keep : Int) (w : World) :
    Calls Tryz.prog 34 #[.int .i64 n, .int .i64 keep] w fun e w' => ∃ S d, e = .returned (.tuple #[.agg #[.slice S (newH n keep).c.length d, .int .i64 (newH n keep).keep], .int .i64 (newHE n keep)]) ∧ HcSl w' S (newH n keep).c.length d (newH n keep).c ∧ Ext w w' := by
  have hb := Bx.new w #[.slice none 0 0, .int .i64 0] 29
  have HB := Lib.hid hb
  have HX := Lib.hid ((Ext.refl w).alloc (.cells #[.slice none 0 0, .int .i64 0] 29))
  obtain ⟨t0, t1, t2⟩ := hb.read2
  obtain ⟨y0, y1⟩ := hb.free2
  clear hb
  by_cases hok : newOk n keep
  rotate_left
  · have e1 : newH n keep = ⟨[], 0⟩ := by unfold newH; rw [if_neg hok]
    have e2 : newHE n keep = 1 := by unfold newHE; rw [if_neg hok]
    rw [e1, e2]
    clear e1 e2
    unfold newOk at hok
    have hc : n < 1 ∨ (1 ≤ n ∧ 2000 < n) ∨ (1 ≤ n ∧ n ≤ 2000 ∧ keep < 0) ∨ (1 ≤ n ∧ n ≤ 2000 ∧ 0 ≤ keep ∧ n < keep) := by omega
    clear hok
    rcases hc with h | ⟨h, h1⟩ | ⟨h, h1, h2⟩ | ⟨h, h1, h2, h3⟩
    · have d0 : decide (n < 1) = true := decide_eq_true h
      go_enter Tryz.func34, Tryz.ntmps34
      go_wp2_with fail
      refine ret2_cell (k := w.heap.size) (x := .slice none 0 0) (y := .int .i64 0) (v := .tuple #[.agg #[.slice none 0 0, .int .i64 0], .int .i64 1]) HB.out (fun r0 r1 => by simp [results, Tryz.results34, go_sem, r0, r1]) rfl ⟨none, 0, rfl, ⟨rfl, [], Sl.nil _, HcAt.nil _⟩, HX.out⟩
    · have d0 : decide (n < 1) = false := decide_eq_false (by omega)
      have d1 : decide (2000 < n) = true := decide_eq_true h1
      go_enter Tryz.func34, Tryz.ntmps34
      go_wp2_with fail
      refine ret2_cell (k := w.heap.size) (x := .slice none 0 0) (y := .int .i64 0) (v := .tuple #[.agg #[.slice none 0 0, .int .i64 0], .int .i64 1]) HB.out (fun r0 r1 => by simp [results, Tryz.results34, go_sem, r0, r1]) rfl ⟨none, 0, rfl, ⟨rfl, [], Sl.nil _, HcAt.nil _⟩, HX.out⟩
    · have d0 : decide (n < 1) = false := decide_eq_false (by omega)
      have d1 : decide (2000 < n) = false := decide_eq_false (by omega)
      have d2 : decide (keep < 0) = true := decide_eq_true h2
      go_enter Tryz.func34, Tryz.ntmps34
      go_wp2_with fail
      refine ret2_cell (k := w.heap.size) (x := .slice none 0 0) (y := .int .i64 0) (v := .tuple #[.agg #[.slice none 0 0, .int .i64 0], .int .i64 1]) HB.out (fun r0 r1 => by simp [results, Tryz.results34, go_sem, r0, r1]) rfl ⟨none, 0, rfl, ⟨rfl, [], Sl.nil _, HcAt.nil _⟩, HX.out⟩
    · have d0 : decide (n < 1) = false := decide_eq_false (by omega)
      have d1 : decide (2000 < n) = false := decide_eq_false (by omega)
      have d2 : decide (keep < 0) = false := decide_eq_false (by omega)
      have d3 : decide (n < keep) = true := decide_eq_true h3
      go_enter Tryz.func34, Tryz.ntmps34
      go_wp2_with fail
      refine ret2_cell (k := w.heap.size) (x := .slice none 0 0) (y := .int .i64 0) (v := .tuple #[.agg #[.slice none 0 0, .int .i64 0], .int .i64 1]) HB.out (fun r0 r1 => by simp [results, Tryz.results34, go_sem, r0, r1]) rfl ⟨none, 0, rfl, ⟨rfl, [], Sl.nil _, HcAt.nil _⟩, HX.out⟩
  · have e1 : newH n keep = ⟨List.replicate n.toNat HC.none, keep⟩ := by unfold newH; rw [if_pos hok]
    have e2 : newHE n keep = 0 := by unfold newHE; rw [if_pos hok]
    rw [e1, e2]
    clear e1 e2
    obtain ⟨⟨h0, h1⟩, h2, h3⟩ := hok
    obtain ⟨m, rfl⟩ := Int.eq_ofNat_of_zero_le (show 0 ≤ n by omega)
    simp only [Int.toNat_natCast, List.length_replicate]
    have d0 : decide ((m : Int) < 1) = false := decide_eq_false (by omega)
    have d0' : decide (m < 1) = false := decide_eq_false (by omega)
    have d0'' : decide (m = 0) = false := decide_eq_false (by omega)
    have d1 : decide ((2000 : Int) < (m : Int)) = false := decide_eq_false (by omega)
    have d1' : decide (2000 < m) = false := decide_eq_false (by omega)
    have d2 : decide (keep < 0) = false := decide_eq_false (by omega)
    have d3 : decide ((m : Int) < keep) = false := decide_eq_false (by omega)
    obtain ⟨i0, hi, hz0, hz1, hz2⟩ := info_parts infoHc
    have HI := Lib.hid hi
    have HZ0 := Lib.hid hz0
    have HZ1 := Lib.hid hz1
    have HZ2 := Lib.hid hz2
    clear hi hz0 hz1 hz2
    have hm : m ≤ 2000 := by omega
    go_enter Tryz.func34, Tryz.ntmps34
    go_wp2_with (at_make; refine stop_here ?_)
    refine stop_on ?_
    refine wpList_make_cap _ rfl _ _ 27 rfl 72 i0 _ Tryz.underlying27 HI.out HZ0.out _ _ _ _ m m rfl rfl (by omega) (by omega) (by omega) (by rw [HZ2.out]; omega) (by unfold maxLen; omega) ?_
    rw [HZ1.out]
    have HZ := Lib.hid (fun w' => hc_zeros w' m)
    have hcs : (madeCells (Value.agg #[.int .i64 0, .bool false, .bool false, .slice none 0 0]).cells (m * 4)).size = m * 4 := size_madeCells _ _
    have HCS := Lib.hid hcs
    generalize madeCells (Value.agg #[.int .i64 0, .bool false, .bool false, .slice none 0 0]).cells (m * 4) = cs at *
    clear hcs
    have hsl := sl_lit (w.alloc (.cells #[.slice (some ⟨w.heap.size + 1, 0, none⟩) m m, .int .i64 keep] 29)) 72 m cs.toList (by unfold maxLen; omega)
    rw [Array.toArray_toList, show (w.alloc (.cells #[.slice (some ⟨w.heap.size + 1, 0, none⟩) m m, .int .i64 keep] 29)).heap.size = w.heap.size + 1 by simp] at hsl
    have HSL := Lib.hid (show HcSl ((w.alloc (.cells #[.slice (some ⟨w.heap.size + 1, 0, none⟩) m m, .int .i64 keep] 29)).alloc (.cells cs 72)) (some ⟨w.heap.size + 1, 0, none⟩) m m (List.replicate m HC.none) from ⟨by simp, _, hsl, HZ.out _⟩)
    clear hsl
    go_wp2_with fail
    refine ret2_cell (k := w.heap.size) (x := .slice (some ⟨w.heap.size + 1, 0, none⟩) m m) (y := .int .i64 keep) (v := .tuple #[.agg #[.slice (some ⟨w.heap.size + 1, 0, none⟩) m m, .int .i64 keep], .int .i64 0]) ?hb4 (fun r0 r1 => by simp [results, Tryz.results34, go_sem, r0, r1]) rfl ?hx4
    case hb4 => exact (Bx.new w _ _).ext ((Ext.refl _).alloc _)
    case hx4 => exact ⟨_, _, rfl, HSL.out, ((Ext.refl w).alloc _).alloc _⟩

def stC (c : HC) : HC := ⟨c.ref, false, c.leaf, c.it⟩
def stK (l : List HC) (k : Nat) : List HC := (l.take k).map stC ++ l.drop k
theorem stK_len (l : List HC) (k : Nat) : (stK l k).length = l.length := by unfold stK; simp; omega
theorem stK_at {l : List HC} {k : Nat} (hk : k < l.length) : (stK l k)[k]'(by rw [stK_len]; exact hk) = l[k] := by
  unfold stK
  rw [List.getElem_append_right (by rw [List.length_map, List.length_take]; omega)]
  simp [Nat.min_eq_left (Nat.le_of_lt hk)]
theorem stK_succ {l : List HC} {k : Nat} (hk : k < l.length) : stK l (k + 1) = (stK l k).set k (stC l[k]) := by
  unfold stK
  have h : (List.map stC (l.take k)).length = k := by rw [List.length_map, List.length_take]; omega
  rw [List.take_succ_eq_append_getElem hk, List.map_append, List.set_append, if_neg (by omega), h, Nat.sub_self, List.append_assoc]
  rw [show l.drop k = l[k] :: l.drop (k + 1) from List.drop_eq_getElem_cons hk]
  rfl
theorem stK_zero (l : List HC) : stK l 0 = l := by unfold stK; simp
theorem stK_all (l : List HC) : stK l l.length = l.map stC := by unfold stK; simp
theorem stK_same {l : List HC} {k : Nat} (hk : k < l.length) (h : l[k].pin = false) : stK l (k + 1) = stK l k := by
  rw [stK_succ hk]
  have e : stC l[k] = (stK l k)[k]'(by rw [stK_len]; exact hk) := by rw [stK_at hk]; unfold stC; rw [← h]
  rw [e, List.set_getElem_self]
set_option maxRecDepth 100000 in
set_option maxHeartbeats 1600000 in
theorem ref05Settle_any (R : Option Addr) (l : List HC) (n q : Nat) (keep : Int) (w : World) (hb : n ≤ 90000) (hA : HcSl w R n q l) :
    Calls Tryz.prog 61 #[.agg #[.slice R n q, .int .i64 keep]] w fun e w' => ∃ S d, e = .returned (.agg #[.slice S n d, .int .i64 keep]) ∧ HcSl w' S n d (settleH ⟨l, keep⟩).c ∧ Ext w w' := by
  have hn := hA.1
  have hx := ((Ext.refl w).alloc (.cells #[.slice R n q, .int .i64 keep] 29)).alloc (.cells #[.slice none 0 0, .int .i64 0] 29)
  have HX := Lib.hid hx
  have HB0 := Lib.hid ((Bx.new w #[.slice R n q, .int .i64 keep] 29).ext ((Ext.refl _).alloc (.cells #[.slice none 0 0, .int .i64 0] 29)))
  have hb1 := Bx.new (w.alloc (.cells #[.slice R n q, .int .i64 keep] 29)) #[.slice none 0 0, .int .i64 0] 29
  rw [show (w.alloc (.cells #[.slice R n q, .int .i64 keep] 29)).heap.size = w.heap.size + 1 by simp] at hb1
  have HB1 := Lib.hid hb1
  have HA := Lib.hid (hA.ext hx)
  have HN := Lib.hid hn
  clear hx hb1 hA hn
  go_enter Tryz.func61, Tryz.ntmps61
  go_wp2_with fail
  generalize hW : World.alloc (World.alloc w _) _ = W at *
  clear hW
  go_loopw [3] (fun i wr => ∃ k : Nat, k ≤ n ∧ i = .int .i64 k ∧ ∃ S d, HcSl wr S n d (stK l k) ∧ Ext w wr ∧ Bx wr w.heap.size #[.slice S n d, .int .i64 keep] ∧ Bx wr (w.heap.size + 1) #[.slice none 0 0, .int .i64 0]) (fun i _ => n - (intOf i).toNat)
  case atStart => exact ⟨0, Nat.zero_le _, rfl, R, q, by rw [stK_zero]; exact HA.out, HX.out, HB0.out, HB1.out⟩
  case round =>
    obtain ⟨k, hk, rfl, S, d, hs, hx, hb0, hb1⟩ := hrel
    have HS := Lib.hid hs
    have HXR := Lib.hid hx
    have HC0 := Lib.hid hb0
    have HC1 := Lib.hid hb1
    obtain ⟨p0, p1, p2⟩ := hb0.read2
    rcases Nat.lt_or_ge k n with hlt | hlt
    · have hkl : k < l.length := by rw [← HN.out]; exact hlt
      have hks : k < (stK l k).length := by rw [stK_len]; exact hkl
      obtain ⟨b, off, rfl, hbl, A, c, r0, r1, r2, r3, hI⟩ := hs.cell hks
      have hki : (k : Int) < (n : Int) := by omega
      have HST := Lib.hid (stK_at hkl)
      rw [HST.out] at r0 r1 r2 r3 hI
      have HSET := Lib.hid (show ∀ w', Ext wr w' → Calls Tryz.prog 91 #[.agg #[.slice (some ⟨b, off, none⟩) n d, .int .i64 keep], .int .i64 k, .agg #[.int .i64 l[k].ref, .bool false, .bool l[k].leaf, .slice A l[k].it.length c]] w' fun e w2 => ∃ S d, e = .returned (.agg #[.slice S n d, .int .i64 keep]) ∧ HcSl w2 S n d (stK l (k + 1)) ∧ Ext w' w2 from fun w' hx => by
        rw [stK_succ hkl]
        exact ref05set_any (some ⟨b, off, none⟩) (stK l k) n d k keep (stC l[k]) A l[k].it.length c w' (by omega) hb (HS.out.ext hx) rfl (hI.ext hx))
      have HSAME := Lib.hid (fun h => stK_same hkl h)
      clear hs hx hb0 hb1 hI
      generalize hpn : l[k].pin = pn at *
      generalize l[k].ref = rf at *
      generalize l[k].leaf = lf at *
      generalize l[k].it.length = m at *
      clear hpn
      cases pn
      · have HE := Lib.hid (HSAME.out rfl)
        clear HSET HSAME
        go_wp2_with fail
        go_roundw
        case rel => exact ⟨k + 1, by omega, by go_num, _, _, by rw [HE.out]; exact HS.out, HXR.out, HC0.out, HC1.out⟩
        case measure => simp [intOf]; omega
      · clear HSAME
        go_wp2_with (go_at_call 91; refine stop_here ?_)
        refine stop_on ?_
        refine (HSET.out _ ((Ext.refl wr).alloc _)).mono ?_
        rintro e w1 ⟨S2, d2, rfl, hs2, hx2⟩
        have hx3 : Ext wr w1 := ((Ext.refl wr).alloc _).trans hx2
        have HX3 := Lib.hid (HXR.out.trans hx3)
        have HS2 := Lib.hid hs2
        have HD0 := Lib.hid (HC0.out.ext hx3)
        have HD1 := Lib.hid (HC1.out.ext hx3)
        clear hs2 hx2 hx3 p0 p1 p2 r0 r1 r2 r3
        obtain ⟨p0, p1, p2⟩ := HD0.out.read2
        obtain ⟨y0, y1⟩ := HD0.out.free2
        go_wp2_with fail
        go_roundw
        case rel => exact ⟨k + 1, by omega, by go_num, S2, d2, HS2.out.boxed2 HD0.out _ _, HX3.out.store2 (Nat.le_refl _) _ _, HD0.out.set2 _ _, (HD1.out.set_other (p := ⟨w.heap.size, 0, none⟩) (by simp) _).set_other (p := ⟨w.heap.size, 1, none⟩) (by simp) _⟩
        case measure => simp [intOf]; omega
    · obtain rfl : k = n := by omega
      have HE := Lib.hid (show stK l k = (settleH ⟨l, keep⟩).c by rw [HN.out, stK_all]; rfl)
      obtain ⟨t0, t1, t2⟩ := hb1.read2
      obtain ⟨y0, y1⟩ := hb1.free2
      clear hs hx hb0 hb1 hlt
      go_wp2_with fail
      refine ret2_cell (k := w.heap.size + 1) (x := .slice S k d) (y := .int .i64 keep) (v := .agg #[.slice S k d, .int .i64 keep]) ?hb4 (fun r0 r1 => by simp [results, Tryz.results61, go_sem, r0, r1]) rfl ?hx4
      case hb4 => exact HC1.out.set2 _ _
      case hx4 => exact ⟨S, d, rfl, by rw [← HE.out]; exact HS.out.boxed2 HC1.out _ _, HXR.out.store2 (by omega) _ _⟩
end Go.Proofs.YtnlkakbpcdfgfaaGreat
namespace Go.Proofs.YtnlkakbpcdfgfaaGreat
set_option maxRecDepth 20000
open Go.RowKit

/-- P14.1 -/
def areaP (n : Nat) : Nat := (1670 + 2 * n) / 40
def baseP (n : Nat) : Nat := 2 + 2 * areaP n
def cellsF (b : Nat) : Nat → Nat → Nat
  | 0, n => n
  | f + 1, n => if baseP (n + 1) + n + 1 ≤ b then cellsF b f (n + 1) else n
def cellsP (b : Nat) : Nat := cellsF b 2000 0
theorem area_room (n : Nat) : 1631 + 2 * n ≤ 40 * areaP n ∧ 40 * areaP n < 1631 + 2 * n + 40 := by unfold areaP; omega
theorem cellsF_facts (b : Nat) : ∀ (f n : Nat), n ≤ cellsF b f n ∧ cellsF b f n ≤ n + f ∧ (n < cellsF b f n → baseP (cellsF b f n) + cellsF b f n ≤ b) ∧ (cellsF b f n = n + f ∨ b < baseP (cellsF b f n + 1) + cellsF b f n + 1)
  | 0, n => by
    rw [cellsF]
    exact ⟨by omega, by omega, fun h => by omega, .inl rfl⟩
  | f + 1, n => by
    rw [cellsF]
    split
    · rename_i h
      obtain ⟨h1, h2, h3, h4⟩ := cellsF_facts b f (n + 1)
      refine ⟨by omega, by omega, fun _ => ?_, ?_⟩
      · rcases Nat.lt_or_ge (n + 1) (cellsF b f (n + 1)) with g | g
        · exact h3 g
        · have e : cellsF b f (n + 1) = n + 1 := by omega
          rw [e]; omega
      · rcases h4 with h4 | h4
        · left; omega
        · right; exact h4
    · rename_i h
      exact ⟨by omega, by omega, fun h => by omega, .inr (by omega)⟩
theorem cells_facts (b : Nat) : cellsP b ≤ 2000 ∧ (0 < cellsP b → baseP (cellsP b) + cellsP b ≤ b) ∧ (cellsP b = 2000 ∨ b < baseP (cellsP b + 1) + cellsP b + 1) := by
  obtain ⟨_, h2, h3, h4⟩ := cellsF_facts b 2000 0
  unfold cellsP
  exact ⟨by omega, h3, by rcases h4 with h | h; exact .inl (by omega); exact .inr h⟩
/-- P14.1: a book's blocks. -/
abbrev Bl := List UInt8
def padB (l : Bl) : Bl := l ++ List.replicate (40 - l.length) 0
def chunkF : Nat → Bl → List Bl
  | 0, _ => []
  | f + 1, l => if l = [] then [] else padB (l.take 40) :: chunkF f (l.drop 40)
def chunksP (l : Bl) : List Bl := chunkF l.length l
theorem padB_len {l : Bl} (h : l.length ≤ 40) : (padB l).length = 40 := by unfold padB; simp; omega
theorem chunkF_fuel : ∀ (f g : Nat) (l : Bl), l.length ≤ f → l.length ≤ g → chunkF f l = chunkF g l
  | 0, 0, _, _, _ => rfl
  | 0, g + 1, l, h, _ => by
    obtain rfl : l = [] := List.eq_nil_of_length_eq_zero (by omega)
    simp [chunkF]
  | f + 1, 0, l, _, h => by
    obtain rfl : l = [] := List.eq_nil_of_length_eq_zero (by omega)
    simp [chunkF]
  | f + 1, g + 1, l, h1, h2 => by
    rw [chunkF, chunkF]
    split
    · rfl
    · rename_i hl
      have hp : 0 < l.length := by cases l with | nil => exact absurd rfl hl | cons a r => simp
      rw [chunkF_fuel f g (l.drop 40) (by simp; omega) (by simp; omega)]
theorem chunks_nil : chunksP [] = [] := rfl
theorem chunks_cons {l : Bl} (h : l ≠ []) : chunksP l = padB (l.take 40) :: chunksP (l.drop 40) := by
  have hp : 0 < l.length := by cases l with | nil => exact absurd rfl h | cons a r => simp
  unfold chunksP
  obtain ⟨k, hk⟩ : ∃ k, l.length = k + 1 := ⟨l.length - 1, by omega⟩
  rw [hk, chunkF, if_neg h]
  congr 1
  exact chunkF_fuel _ _ _ (by simp; omega) (Nat.le_refl _)
theorem chunks_all : ∀ (f : Nat) (l : Bl), l.length ≤ f → (∀ c ∈ chunksP l, c.length = 40) ∧ (chunksP l).flatten.take l.length = l ∧ (chunksP l).flatten.drop l.length = List.replicate ((chunksP l).flatten.length - l.length) 0 ∧ l.length ≤ (chunksP l).flatten.length ∧ (chunksP l).flatten.length < l.length + 40
  | 0, l, h => by
    obtain rfl : l = [] := List.eq_nil_of_length_eq_zero (by omega)
    simp [chunks_nil]
  | f + 1, l, h => by
    by_cases hl : l = []
    · subst hl; simp [chunks_nil]
    · have hp : 0 < l.length := by cases l with | nil => exact absurd rfl hl | cons a r => simp
      obtain ⟨i1, i2, i3, i4, i5⟩ := chunks_all f (l.drop 40) (by simp; omega)
      rw [chunks_cons hl]
      have h40 : (padB (l.take 40)).length = 40 := padB_len (by simp; omega)
      have hd : (l.drop 40).length = l.length - 40 := by simp
      rw [hd] at i2 i3 i4 i5
      rw [List.flatten_cons, List.length_append, h40]
      refine ⟨fun c hc => ?_, ?_, ?_, by omega, ?_⟩
      · rcases List.mem_cons.1 hc with rfl | hc
        · exact h40
        · exact i1 c hc
      · rcases Nat.lt_or_ge 40 l.length with g | g
        · rw [List.take_append, h40, List.take_of_length_le (by omega), i2]
          unfold padB
          rw [show 40 - (l.take 40).length = 0 by simp; omega]
          simp
        · have hn : l.drop 40 = [] := List.drop_eq_nil_of_le g
          rw [hn, chunks_nil]
          unfold padB
          rw [List.take_of_length_le g]
          simp
      · rcases Nat.lt_or_ge 40 l.length with g | g
        · rw [List.drop_append, h40, List.drop_of_length_le (by omega), i3, List.nil_append]
          congr 1
          omega
        · have hn : l.drop 40 = [] := List.drop_eq_nil_of_le g
          rw [hn, chunks_nil]
          unfold padB
          rw [List.take_of_length_le g]
          simp
      · rcases Nat.lt_or_ge 40 l.length with g | g
        · omega
        · have hn : l.drop 40 = [] := List.drop_eq_nil_of_le g
          rw [hn, chunks_nil]
          simp
          omega
end Go.Proofs.YtnlkakbpcdfgfaaGreat
