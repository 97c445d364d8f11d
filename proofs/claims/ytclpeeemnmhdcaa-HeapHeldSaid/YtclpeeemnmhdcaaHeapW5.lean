/- Walks of Same, New and Settle of the reference. -/
import Derived.Test.YtclpeeemnmhdcaaHeapW4
namespace Go.Proofs.Ytclpeeemnmhdcaa
open Go.RowKit
attribute [local go_sem ↓] Go.wp_at_zero Go.wp_at_succ

def sameH (a b : Hp) : Bool := decide (a = b)
theorem sameN_iff {f g : Bool} {a b : List It} : sameN f a g b = true ↔ f = g ∧ a = b := by unfold sameN sameI; simp
theorem hc_same {x y : HC} (h1 : sameN x.leaf x.it y.leaf y.it = true) (h2 : x.ref = y.ref) (h3 : x.pin = y.pin) : x = y := by
  obtain ⟨e1, e2⟩ := sameN_iff.1 h1
  cases x; cases y; simp_all
theorem hc_node {x y : HC} (h1 : sameN x.leaf x.it y.leaf y.it = false) : x ≠ y := fun e => by
  subst e; unfold sameN sameI at h1; simp at h1
set_option maxRecDepth 100000 in
set_option maxHeartbeats 3200000 in
theorem ref05Same_any (R S : Option Addr) (a b : List HC) (n m q q' : Nat) (ka kb : Int) (w : World) (hA : HcSl w R n q a) (hB : HcSl w S m q' b) :
    Calls Try.prog 14 #[.agg #[.slice R n q, .int .i64 ka], .agg #[.slice S m q', .int .i64 kb]] w fun e w' => e = .returned (.bool (sameH ⟨a, ka⟩ ⟨b, kb⟩)) ∧ Ext w w' := by
  have hn := hA.1
  have hm := hB.1
  have hml : n ≤ maxLen := by obtain ⟨_, cs, h, _⟩ := hA; exact h.len
  unfold maxLen at hml
  obtain ⟨W, hW⟩ : ∃ W, W = (w.alloc (.cells #[.slice R n q, .int .i64 ka] 24)).alloc (.cells #[.slice S m q', .int .i64 kb] 24) := ⟨_, rfl⟩
  obtain ⟨hx, hb0, hb1⟩ := allocs2 hW.symm
  have HX := Lib.hid hx
  have HB0 := Lib.hid hb0
  have HB1 := Lib.hid hb1
  have HA := Lib.hid (hA.ext hx)
  have HB := Lib.hid (hB.ext hx)
  have HNA := Lib.hid hn
  have HNB := Lib.hid hm
  obtain ⟨p0, p1, p2⟩ := hb0.read2
  obtain ⟨q0, q1, q2⟩ := hb1.read2
  clear hx hb0 hb1 hA hB hn hm
  by_cases hk : ka = kb
  rotate_left
  · have HE := Lib.hid (show sameH ⟨a, ka⟩ ⟨b, kb⟩ = false from decide_eq_false (fun e => hk (congrArg Hp.keep e)))
    have e1 : (ka != kb) = true := bne_iff_ne.2 hk
    clear hk
    subst hW
    go_enter Try.func14, Try.ntmps14
    go_wp2_with fail
    go_ret
    exact ⟨ret_bool HE.out.symm, HX.out⟩
  subst hk
  by_cases hl : n = m
  rotate_left
  · have HE := Lib.hid (show sameH ⟨a, ka⟩ ⟨b, ka⟩ = false from decide_eq_false (fun e => hl (by rw [HNA.out, HNB.out, show a = b from congrArg Hp.c e])))
    have e2 : ((n : Int) != (m : Int)) = true := bne_iff_ne.2 (by omega)
    clear hl
    subst hW
    go_enter Try.func14, Try.ntmps14
    go_wp2_with fail
    go_ret
    exact ⟨ret_bool HE.out.symm, HX.out⟩
  subst hl
  have HLL := Lib.hid (show a.length = b.length by rw [← HNA.out, ← HNB.out])
  subst hW
  go_enter Try.func14, Try.ntmps14
  go_wp2_with fail
  generalize hW : World.alloc (World.alloc w _) _ = W at *
  clear hW
  go_loopw [5] (fun i wr => ∃ k : Nat, k ≤ n ∧ i = .int .i64 k ∧ Ext W wr ∧ a.take k = b.take k) (fun i _ => n - (intOf i).toNat)
  case atStart => exact ⟨0, Nat.zero_le _, rfl, Ext.refl _, rfl⟩
  case round =>
    obtain ⟨k, hk, rfl, hx, ht⟩ := hrel
    have HT := Lib.hid ht
    have HXR := Lib.hid hx
    clear ht p0 p1 p2 q0 q1 q2
    obtain ⟨p0, p1, p2⟩ := (HB0.out.ext hx).read2
    obtain ⟨q0, q1, q2⟩ := (HB1.out.ext hx).read2
    rcases Nat.lt_or_ge k n with hlt | hlt
    · have hka : k < a.length := by rw [← HNA.out]; exact hlt
      have hkb : k < b.length := by rw [← HNB.out]; exact hlt
      obtain ⟨ba, oa, rfl, hba, Aa, ca, r0, r1, r2, r3, hI⟩ := (HA.out.ext hx).cell hka
      obtain ⟨bb, ob, rfl, hbb, Ab, cb, s0, s1, s2, s3, hJ⟩ := (HB.out.ext hx).cell hkb
      have hki : (k : Int) < (n : Int) := by omega
      have HF := Lib.hid (ne_at (a := a) (b := b) k hka hkb)
      have HS := Lib.hid (eq_step (a := a) (b := b) k hka hkb HT.out)
      have HCX := Lib.hid (fun w' (hx : Ext wr w') => ref04Same_any a[k].leaf b[k].leaf Aa Ab a[k].it b[k].it a[k].it.length b[k].it.length ca cb w' rfl rfl (hI.ext hx) (hJ.ext hx))
      have HKA := Lib.hid (fun w' (hx : Ext wr w') => (show w'.cell? ⟨ba, oa + k * 4, none⟩ = some (.int .i64 a[k].ref) ∧ w'.cell? ⟨ba, oa + k * 4 + 1, none⟩ = some (.bool a[k].pin) from ⟨(hx.cell (p := ⟨ba, oa + k * 4, none⟩) hba).trans r0, (hx.cell (p := ⟨ba, oa + k * 4 + 1, none⟩) hba).trans r1⟩))
      have HKB := Lib.hid (fun w' (hx : Ext wr w') => (show w'.cell? ⟨bb, ob + k * 4, none⟩ = some (.int .i64 b[k].ref) ∧ w'.cell? ⟨bb, ob + k * 4 + 1, none⟩ = some (.bool b[k].pin) from ⟨(hx.cell (p := ⟨bb, ob + k * 4, none⟩) hbb).trans s0, (hx.cell (p := ⟨bb, ob + k * 4 + 1, none⟩) hbb).trans s1⟩))
      have HBB := Lib.hid (fun w' (hx : Ext wr w') => (show Bx w' w.heap.size #[.slice (some ⟨ba, oa, none⟩) n q, .int .i64 ka] ∧ Bx w' (w.heap.size + 1) #[.slice (some ⟨bb, ob, none⟩) n q', .int .i64 ka] from ⟨HB0.out.ext (HXR.out.trans hx), HB1.out.ext (HXR.out.trans hx)⟩))
      have HSM := Lib.hid (fun (h1 : sameN a[k].leaf a[k].it b[k].leaf b[k].it = true) (h2 : a[k].ref = b[k].ref) (h3 : a[k].pin = b[k].pin) => hc_same h1 h2 h3)
      have HN1 := Lib.hid (fun (h : sameN a[k].leaf a[k].it b[k].leaf b[k].it = false) => hc_node h)
      have HN2 := Lib.hid (fun (h : a[k].ref ≠ b[k].ref) => (show a[k] ≠ b[k] from fun e => h (congrArg HC.ref e)))
      have HN3 := Lib.hid (fun (h : a[k].pin ≠ b[k].pin) => (show a[k] ≠ b[k] from fun e => h (congrArg HC.pin e)))
      have HE0 := Lib.hid (fun (h : a ≠ b) => (show sameH ⟨a, ka⟩ ⟨b, ka⟩ = false from decide_eq_false (fun e => h (congrArg Hp.c e))))
      clear HT hI hJ hx r0 r1 s0 s1
      generalize a[k] = x at *
      generalize b[k] = y at *
      obtain ⟨u, hu⟩ : ∃ u, sameN x.leaf x.it y.leaf y.it = u := ⟨_, rfl⟩
      rw [hu] at HCX HSM HN1
      clear hu
      generalize x.leaf = lf at *
      generalize y.leaf = lf2 at *
      generalize x.it.length = m1 at *
      generalize y.it.length = m2 at *
      obtain ⟨rf, hrf⟩ : ∃ r, x.ref = r := ⟨_, rfl⟩
      obtain ⟨rf2, hrf2⟩ : ∃ r, y.ref = r := ⟨_, rfl⟩
      obtain ⟨pn, hpn⟩ : ∃ r, x.pin = r := ⟨_, rfl⟩
      obtain ⟨pn2, hpn2⟩ : ∃ r, y.pin = r := ⟨_, rfl⟩
      rw [hrf, hpn] at HKA
      rw [hrf2, hpn2] at HKB
      rw [hrf, hrf2] at HSM HN2
      rw [hpn, hpn2] at HSM HN3
      clear hrf hrf2 hpn hpn2
      go_wp2_with fail
      go_cut [6] from 28 to 41 (fun v wx => v = .bool u ∧ Ext wr wx)
      case first =>
        go_region_law
          (first
            | ((go_simp
                go_at_call 31
                refine (HCX.out _ ?_).mono ?_
                (first | exact (Ext.refl _).drew | exact Ext.refl _)
                rintro e w1 ⟨rfl, hx⟩
                have HX1 := Lib.hid (show Ext wr w1 from by first | exact (Ext.refl _).drew.trans hx | exact hx)
                clear hx)))
        all_goals
          go_wp2_with fail
          go_meet
          exact ⟨rfl, HX1.out⟩
      case rest =>
        obtain ⟨rfl, hx⟩ := hcut
        have HX1 := Lib.hid hx
        obtain ⟨k0, k1⟩ := HKA.out _ hx
        obtain ⟨k2, k3⟩ := HKB.out _ hx
        obtain ⟨g0, g1⟩ := HBB.out _ hx
        clear p0 p1 p2 q0 q1 q2 r2 r3 s2 s3 hx
        obtain ⟨p0, p1, p2⟩ := g0.read2
        obtain ⟨q0, q1, q2⟩ := g1.read2
        clear g0 g1
        cases u
        · have HE := Lib.hid (HE0.out (HF.out (HN1.out rfl)))
          go_wp2_with fail
          go_quiet (fail)
          go_wp2
          go_ret
          exact ⟨ret_bool HE.out.symm, HX.out.trans (HXR.out.trans (HX1.out.drewN _))⟩
        by_cases h1 : rf = rf2
        rotate_left
        · have HE := Lib.hid (HE0.out (HF.out (HN2.out h1)))
          have e3 : (rf != rf2) = true := bne_iff_ne.2 h1
          clear h1
          go_wp2_with fail
          go_quiet (fail)
          go_wp2
          go_ret
          exact ⟨ret_bool HE.out.symm, HX.out.trans (HXR.out.trans (HX1.out.drewN _))⟩
        subst h1
        by_cases h2 : pn = pn2
        rotate_left
        · have HE := Lib.hid (HE0.out (HF.out (HN3.out h2)))
          cases pn <;> cases pn2 <;> first | (exact absurd rfl h2) | skip
          all_goals
            clear h2
            go_wp2_with fail
            go_quiet (fail)
            go_wp2
            go_ret
            exact ⟨ret_bool HE.out.symm, HX.out.trans (HXR.out.trans (HX1.out.drewN _))⟩
        subst h2
        have HE := Lib.hid (HS.out (HSM.out rfl rfl rfl))
        cases pn
        all_goals
          go_wp2_with fail
          go_quiet (fail)
          go_wp2
          go_roundw
          case rel => exact ⟨k + 1, by omega, by go_num, HXR.out.trans (HX1.out.drewN _), HE.out⟩
          case measure => simp [intOf]; omega
    · obtain rfl : k = n := by omega
      have HE := Lib.hid (show a = b from by
        have h := HT.out
        rw [HNA.out] at h
        exact eq_end HLL.out h)
      have HE2 := Lib.hid (show sameH ⟨a, ka⟩ ⟨b, ka⟩ = true from decide_eq_true (by rw [HE.out]))
      clear hlt hx
      go_wp2_with fail
      go_ret
      exact ⟨ret_bool HE2.out.symm, HX.out.trans HXR.out⟩
end Go.Proofs.Ytclpeeemnmhdcaa
