/- Right of package tree. -/
import Derived.Test.YthlencnlgnbpaaaTreeM9
import Derived.Test.YthlencnlgnbpaaaTreeM7
import Derived.Test.YthlencnlgnbpaaaTreeM8
import Derived.StillTailTactics
namespace Go.Proofs.Ythlencnlgnbpaaa
open Go.RowKit
attribute [local go_sem] run_store_func

theorem treeHigh_hgt (R : Option Addr) (l : List HC) (n q : Nat) (keep p : Int) (w : World) (hl : AllR l) (hA : HcSl w R n q l) :
    Calls Try.prog 15 #[.agg #[.slice R n q, .int .i64 keep], .int .i64 p] w fun e w' => e = .returned (.int .i64 (hgtP l p)) ∧ Ext w w' := callsIn_wide.1 (high_in R l n q keep p w hl hA)
set_option maxRecDepth 100000 in
set_option maxHeartbeats 800000 in
theorem treeRight_any (R : Option Addr) (l : List HC) (n q : Nat) (keep p : Int) (w : World) (hl : AllR l) (hn : l.length ≤ 2000) (hA : HcSl w R n q l) :
    Calls Try.prog 12 #[.agg #[.slice R n q, .int .i64 keep], .int .i64 p] w fun e w' => e = .returned (.bool (rightR ⟨l, keep⟩ p)) ∧ Ext w w' := by
  rw [← rightP_is hl hn keep p]
  have HN := Lib.hid hA.1
  obtain ⟨W1, hW1⟩ : ∃ W1, w.alloc (.cells #[.slice R n q, .int .i64 keep] 24) = W1 := ⟨_, rfl⟩
  obtain ⟨hx1, hb1⟩ := allocs1 hW1
  have HX1 := Lib.hid hx1
  have HB1 := Lib.hid hb1
  obtain ⟨p0, p1, p2⟩ := hb1.read2
  by_cases hp : p = -1
  · have t0 : (p == -1) = true := by rw [beq_iff_eq]; exact hp
    have HC := Lib.hid (show rightP l p = true from by unfold rightP; rw [decide_eq_true hp]; rfl)
    clear hp hx1 hb1 hA
    go_enter Try.func12, Try.ntmps12
    go_wp2
    go_ret
    exact ⟨ret_bool HC.out.symm, HX1.out⟩
  have t0 : (p == -1) = false := by rw [beq_eq_false_iff_ne]; exact hp
  have HHG := Lib.hid (treeHigh_hgt R l n q keep p W1 hl (hA.ext hx1))
  have HPD := Lib.hid (show rightP l p = ((decide (1 ≤ hgtP l p) && decide (hgtP l p ≤ 20)) && chk l (hgtP l p) (firstK (cellT l p).it, p) 9223372036854775807) from by unfold rightP; rw [decide_eq_false hp]; rfl)
  obtain ⟨A, C, hLie⟩ := lie_ex hA
  have HLI := Lib.hid hLie
  have HU := Lib.hid (fun h : hgtP l p ≠ 0 => hgtP_used h)
  have HL := Lib.hid hl
  clear hp hx1 hb1 hA hLie hl hn
  go_enter Try.func12, Try.ntmps12
  go_wp2_with (go_at_call 15; refine stop_here ?_)
  refine stop_on ?_
  refine HHG.out.mono ?_
  rintro e w2 ⟨rfl, hx2⟩
  have HX2 := Lib.hid (HX1.out.trans hx2)
  have HB2 := Lib.hid (HB1.out.ext hx2)
  obtain ⟨p0, p1, p2⟩ := (HB1.out.ext hx2).read2
  clear hx2 HHG
  generalize hgtP l p = g at *
  rcases Nat.lt_or_ge g 1 with h1 | h1
  · have d0 : decide ((g : Int) < 1) = true := decide_eq_true (by omega)
    have d1 : decide (g < 1) = true := decide_eq_true h1
    have HC := Lib.hid (show rightP l p = false from by rw [HPD.out, decide_eq_false (show ¬ 1 ≤ g by omega)]; rfl)
    clear h1 HPD HU
    go_wp2
    go_ret
    exact ⟨ret_bool HC.out.symm, HX2.out⟩
  have d0 : decide ((g : Int) < 1) = false := decide_eq_false (by omega)
  have d1 : decide (g < 1) = false := decide_eq_false (by omega)
  rcases Nat.lt_or_ge 20 g with h2 | h2
  · have d2 : decide ((20 : Int) < (g : Int)) = true := decide_eq_true (by omega)
    have d3 : decide (20 < g) = true := decide_eq_true h2
    have HC := Lib.hid (show rightP l p = false from by rw [HPD.out, decide_eq_false (show ¬ g ≤ 20 by omega)]; simp)
    clear h1 h2 HPD HU
    go_wp2
    go_ret
    exact ⟨ret_bool HC.out.symm, HX2.out⟩
  have d2 : decide ((20 : Int) < (g : Int)) = false := decide_eq_false (by omega)
  have d3 : decide (20 < g) = false := decide_eq_false (by omega)
  have hch : rightP l p = chk l g (firstK (cellT l p).it, p) 9223372036854775807 := by rw [HPD.out, decide_eq_true h1, decide_eq_true h2]; rfl
  obtain ⟨k, hk, rfl, hrf⟩ := usedC_iff (HU.out (by omega))
  have hnd := (cell_ok (HL.out k hk) hrf).1
  rw [cellT_at hk] at hch
  obtain ⟨b, off, hRe, hbl, ⟨q0, q2, q3⟩, hI⟩ := HLI.out k hk
  obtain ⟨bb, of2, hAe, hbb, hc⟩ := hI.cells.it (k := 0) hnd.1.1
  have g0 := (hc 0 hnd.1.1).1
  rw [← firstK_at hnd.1.1, show of2 + 0 * 2 = of2 by omega] at g0
  have hlen := hnd.1.1
  have hkn : (k : Int) < (n : Int) := by have := HN.out; omega
  have h0n : (0 : Int) < (l[k].it.length : Int) := by omega
  rw [hAe] at q3
  subst hRe
  obtain ⟨W4, hW4⟩ : ∃ W4, w2.alloc (.cells #[.nilFunc] 64) = W4 := ⟨_, rfl⟩
  obtain ⟨hx4, hb4⟩ := allocs1 hW4
  have u0 := hb4.at 0 _ rfl
  have u1 := hb4.free 0
  have u2 := hb4.lt
  obtain ⟨FV, hFV⟩ : ∃ FV, Value.func (.func 31) #[] #[.pointer (some ⟨w.heap.size, 0, none⟩), .pointer (some ⟨w2.heap.size, 0, none⟩)] = FV := ⟨_, rfl⟩
  obtain ⟨W5, hW5⟩ : ∃ W5, W4.setCell ⟨w2.heap.size, 0, none⟩ FV = W5 := ⟨_, rfl⟩
  have hx5 : Ext w2 W5 := by rw [← hW5]; exact hx4.set (p := ⟨w2.heap.size, 0, none⟩) (Nat.le_refl _) _
  have hb5 : Bx W5 w2.heap.size #[FV] := by rw [← hW5]; exact hb4.set 0 FV
  have HX5 := Lib.hid (HX2.out.trans hx5)
  have v0 := hb5.at 0 _ rfl
  have v1 := hb5.lt
  obtain ⟨s0, s1, s2⟩ := (HB2.out.ext hx5).read2
  have r3 := (HX5.out.cell (p := ⟨b, off + k * 4 + 3, none⟩) hbl).trans q3
  have r0 := (HX5.out.cell (p := ⟨bb, of2, none⟩) hbb).trans g0
  have D : RtC l (some ⟨b, off, none⟩) n q keep A C w.heap.size w2.heap.size W5 := ⟨HL.out, HLI.out.ext HX5.out, HN.out, HB2.out.ext hx5, by rw [hFV]; exact hb5⟩
  have HR := Lib.hid (show ∀ W', Ext W5 W' → Calls Try.prog 31 #[.agg #[.int .i64 (firstK l[k].it), .int .i64 k], .int .i64 g, .int .i64 9223372036854775807, .pointer (some ⟨w.heap.size, 0, none⟩), .pointer (some ⟨w2.heap.size, 0, none⟩)] W' fun r W'' => r = .returned (.bool (chk l g (firstK l[k].it, (k : Int)) 9223372036854775807)) ∧ Ext W' W'' from by
    obtain ⟨g', rfl⟩ : ∃ g', g = g' + 1 := ⟨g - 1, by omega⟩
    exact fun W' h => rt_all l (some ⟨b, off, none⟩) n q keep A C w.heap.size w2.heap.size W5 D g' h2 (firstK l[k].it, (k : Int)) 9223372036854775807 W' h)
  rw [← hch] at HR
  clear hI hc hnd hlen hrf q0 q2 q3 g0 hch
  generalize firstK l[k].it = F at *
  generalize l[k] = x at *
  obtain ⟨xr, xp, lf, it⟩ := x
  simp only at h0n r3
  generalize it.length = li at *
  subst hFV
  clear hx4 hb4 hx5 hb5 D HPD HU hbb hbl h1 h2 hAe hk
  have h0m : 0 < li := by omega
  go_wp2
  go_still_tail 14, (by kernel_rfl)
  change wpList _ _ _ _ _ W5.drew
  go_wp2_with (go_at_call 31; refine stop_here ?_)
  refine stop_on ?_
  refine (HR.out _ (Ext.refl _).drew).mono ?_
  rintro e w7 ⟨rfl, hx7⟩
  have HX7 := Lib.hid (HX5.out.drew.trans hx7)
  clear hx7
  go_wp2
  go_ret
  exact ⟨rfl, HX7.out⟩
end Go.Proofs.Ythlencnlgnbpaaa
