/- The walk of below of the reference of layer 7. -/
import Derived.Test.YtlbhcakjcklmgaaK12
namespace Go.Proofs.Ytlbhcakjcklmgaa
open Go.RowKit
attribute [local go_sem ↓] Go.wp_at_zero Go.wp_at_succ

set_option maxRecDepth 100000 in
set_option maxHeartbeats 3200000 in
theorem ref07below_any (l : List HC) (hl : AllR l) (_ : l.length ≤ 2000) : ∀ (m : Nat) (p : Int) (R : Option Addr) (n q : Nat) (keep : Int) (w : World), m ≤ 19 → 0 ≤ p → p < l.length → HcSl w R n q l →
    Calls Try.prog 43 #[.agg #[.slice R n q, .int .i64 keep], .int .i64 p, .int .i64 ((m + 1 : Nat) : Int)] w fun e w' => e = .returned (gv (bel l (m + 1) p)) ∧ Ext w w' := by
  intro m
  induction m using Nat.strongRecOn with
  | ind m ih =>
    intro p R n q keep w hm h0 h1 hA
    obtain ⟨k, rfl⟩ := Int.eq_ofNat_of_zero_le h0
    have hk : k < l.length := by omega
    have hnl := hA.1
    have hkn : k < n := by omega
    have hxa := (Ext.refl w).alloc (.cells #[.slice R n q, .int .i64 keep] 24)
    have hxb := (Ext.refl (w.alloc (.cells #[.slice R n q, .int .i64 keep] 24))).alloc (.cells #[.int .i64 0, .int .i64 0, .int .i64 0, .bool false] 84)
    have hx0 := hxa.trans hxb
    obtain ⟨b, off, rfl, hbl, A, c, r0, r1, r2, r3, hI⟩ := (hA.ext hx0).cell hk
    by_cases hr : l[k].ref < 1
    · have he : bel l (m + 1) (k : Int) = Gt.no := by rw [bel, cellT_at hk, if_pos hr]
      rw [he]
      have d0 : decide (l[k].ref < 1) = true := decide_eq_true hr
      generalize l[k].it.length = li at *
      generalize l[k].ref = rf at *
      generalize l[k].leaf = lf at *
      clear ih he hI hA hnl hxa
      obtain ⟨M, hM⟩ : ∃ M : Int, ((m + 1 : Nat) : Int) = M := ⟨_, rfl⟩
      rw [hM]
      clear hM
      have HB0 := Lib.hid ((Bx.new w #[.slice (some ⟨b, off, none⟩) n q, .int .i64 keep] 24).ext hxb)
      obtain ⟨p0, p1, p2⟩ := HB0.out.read2
      have hst := (Ext.refl ((w.alloc (.cells #[.slice (some ⟨b, off, none⟩) n q, .int .i64 keep] 24)).alloc (.cells #[.int .i64 0, .int .i64 0, .int .i64 0, .bool false] 84))).alloc (.cells #[.bool lf, .slice A li c] 36)
      have q0 := (hst.cell (p := ⟨b, off + k * 4, none⟩) hbl).trans r0
      obtain ⟨v0, v1, v2⟩ := (HB0.out.ext hst).read2
      have HBR := Lib.hid ((Bx.new' (k := w.heap.size + 1) (by rw [World.size_alloc]) #[.int .i64 0, .int .i64 0, .int .i64 0, .bool false] 84).ext hst)
      have HX := Lib.hid (hx0.trans hst)
      obtain ⟨x0, x1, x2, x3⟩ := HBR.out.free4
      clear hst hxb hx0
      go_enter Try.func43, Try.ntmps43
      go_wp2
      refine ret4_cell (k := w.heap.size + 1) HBR.out (fun a0 a1 a2 a3 => by simp [results, Try.results43, go_sem, a0, a1, a2, a3]; rfl) rfl ⟨rfl, HX.out⟩
    · have hok := cell_ok (hl k hk) (by omega)
      have hlen := hok.1.1
      have d0 : decide (l[k].ref < 1) = false := decide_eq_false hr
      obtain ⟨li, hli⟩ : ∃ li, l[k].it.length = li := ⟨_, rfl⟩
      have hst := fun lf => (Ext.refl ((w.alloc (.cells #[.slice (some ⟨b, off, none⟩) n q, .int .i64 keep] 24)).alloc (.cells #[.int .i64 0, .int .i64 0, .int .i64 0, .bool false] 84))).alloc (.cells #[.bool lf, .slice A li c] 36)
      have HB0 := (Bx.new w #[.slice (some ⟨b, off, none⟩) n q, .int .i64 keep] 24).ext hxb
      have hbn := fun lf => Bx.new ((w.alloc (.cells #[.slice (some ⟨b, off, none⟩) n q, .int .i64 keep] 24)).alloc (.cells #[.int .i64 0, .int .i64 0, .int .i64 0, .bool false] 84)) #[.bool lf, .slice A li c] 36
      have hbr : Bx ((w.alloc (.cells #[.slice (some ⟨b, off, none⟩) n q, .int .i64 keep] 24)).alloc (.cells #[.int .i64 0, .int .i64 0, .int .i64 0, .bool false] 84)) (w.heap.size + 1) #[.int .i64 0, .int .i64 0, .int .i64 0, .bool false] := Bx.new' (by rw [World.size_alloc]) _ _
      have hpl := hok.2
      cases hlf : l[k].leaf
      · have he : bel l (m + 1) (k : Int) = belRow (bel l m) 0 l[k].it Gt.no := by rw [bel, cellT_at hk, if_neg hr, hlf]; rfl
        rw [he]
        cases m with
        | succ m' =>
          exact below_inner l k hk (m' + 1) (by omega) (by omega) _ n q keep w hA hr hlf hlen (bel l (m' + 1)) (fun v => ⟨(bel_high l (m' + 1) v).1, by have := (bel_high l (m' + 1) v).2; omega⟩)
            (fun j hj w' hx => ih m' (by omega) _ _ n q keep w' (by omega) (hpl hlf _ (List.getElem_mem hj)).1 (hpl hlf _ (List.getElem_mem hj)).2 (hA.ext hx))
        | zero =>
          have he2 : belRow (bel l 0) 0 l[k].it Gt.no = Gt.no := by
            cases hit : l[k].it with
            | nil => rw [hit] at hlen; simp at hlen
            | cons x r => rfl
          rw [he2]
          rw [hlf] at r2
          rw [hli] at r3
          have q0 := ((hst false).cell (p := ⟨b, off + k * 4, none⟩) hbl).trans r0
          have HBH := Lib.hid (HB0.ext (hst false))
          have HBR := Lib.hid (hbr.ext (hst false))
          have HBN := Lib.hid (hbn false)
          rw [World.size_alloc, World.size_alloc] at HBN
          have HX := Lib.hid (hx0.trans (hst false))
          obtain ⟨p0, p1, p2⟩ := HB0.read2
          obtain ⟨v0, v1, v2⟩ := HBH.out.read2
          obtain ⟨n0, n1, n2⟩ := HBN.out.read2
          obtain ⟨f0, f1, f2, f3⟩ := HBR.out.free4
          obtain ⟨g0, g1, g2, g3⟩ := HBR.out.read4
          have q2 := HBR.out.lt
          generalize l[k].ref = rf at *
          clear ih hok hpl hI hst hbn hbr HB0 he he2 hlf hli hA hnl hxa hxb hx0
          go_enter Try.func43, Try.ntmps43
          go_wp2
          exact ret4_cell (v := gv Gt.no) HBR.out (fun a0 a1 a2 a3 => by simp [results, Try.results43, go_sem, a0, a1, a2, a3]; rfl) rfl ⟨rfl, HX.out⟩
      · have he : bel l (m + 1) (k : Int) = ⟨firstK l[k].it, lastK l[k].it, 1, true⟩ := by rw [bel, cellT_at hk, if_neg hr, hlf, if_pos rfl]
        rw [he, firstK_at (by omega), lastK_at (by omega)]
        rw [hlf] at r2
        rw [hli] at r3 hlen hI
        have q0 := ((hst true).cell (p := ⟨b, off + k * 4, none⟩) hbl).trans r0
        have HBH := Lib.hid (HB0.ext (hst true))
        have HBR := Lib.hid (hbr.ext (hst true))
        have HBN := Lib.hid (hbn true)
        rw [World.size_alloc, World.size_alloc] at HBN
        have HX := Lib.hid (hx0.trans (hst true))
        have hI3 := hI.ext (hst true)
        obtain ⟨ba, oa, rfl, hba, a0, a1⟩ := it_at hI3 (show 0 < l[k].it.length by omega)
        obtain ⟨bb, ob, hbe, hbb, z0, z1⟩ := it_at hI3 (show l[k].it.length - 1 < l[k].it.length by omega)
        cases hbe
        obtain ⟨z, hz⟩ : ∃ z, l[k].it.length - 1 = z := ⟨_, rfl⟩
        simp only [hz] at z0 z1
        simp only [hz]
        generalize l[k].it[0].1 = K0 at *
        generalize l[k].it[0].2 = V0 at *
        generalize (l[k].it[z]'(by omega)).1 = K1 at *
        generalize (l[k].it[z]'(by omega)).2 = V1 at *
        rw [show oa + 0 * 2 + 1 = oa + 1 by omega] at a1
        rw [show oa + 0 * 2 = oa by omega] at a0
        have hzi : (li : Int) - 1 = (z : Int) := by omega
        have hzl : z < li := by omega
        have hzb : z ≤ 3 := by omega
        obtain ⟨M, hM⟩ : ∃ M : Int, ((m + 1 : Nat) : Int) = M := ⟨_, rfl⟩
        have d1 : decide ((1 : Int) ≤ M) = true := decide_eq_true (by omega)
        rw [hM]
        obtain ⟨p0, p1, p2⟩ := HB0.read2
        obtain ⟨v0, v1, v2⟩ := HBH.out.read2
        obtain ⟨n0, n1, n2⟩ := HBN.out.read2
        have HRI := Lib.hid (show _ ∧ _ from ⟨a0, z0⟩)
        generalize l[k].ref = rf at *
        clear ih hok hpl hI hI3 hst hbn hbr HB0 he hlf hli hz hM hA hnl hxa hxb hx0 a0 a1 z0 z1 hba hbb
        go_enter Try.func43, Try.ntmps43
        go_wp2
        generalize World.alloc (World.alloc (World.alloc w _) _) _ = W at *
        clear p0 p1 p2 r0 r1 r2 r3 hbl
        obtain ⟨a0, z0⟩ := HRI.out
        obtain ⟨f0, f1, f2, f3⟩ := HBR.out.free4
        obtain ⟨g0, g1, g2, g3⟩ := HBR.out.read4
        have h0li : 0 < li := hlen.1
        have hzw : IntKind.i64.wrap (z : Int) = (z : Int) := by rw [IntKind.wrap_i64]; omega
        have HB4 := Lib.hid (HBR.out.set4 (.int .i64 K0) (.int .i64 K1) (.int .i64 1) (.bool true)).drew
        have HX4 := Lib.hid (HX.out.store4 (k := w.heap.size + 1) (by omega) (.int .i64 K0) (.int .i64 K1) (.int .i64 1) (.bool true)).drew
        go_region_law (fail)
        all_goals
          go_wp2_with fail
          generalize World.drew (World.setCell (World.setCell _ _ _) _ _) = W4 at *
          exact ret4_cell (v := gv ⟨K0, K1, 1, true⟩) HB4.out (fun a0 a1 a2 a3 => by simp [results, Try.results43, go_sem, a0, a1, a2, a3]; rfl) rfl ⟨rfl, HX4.out⟩
end Go.Proofs.Ytlbhcakjcklmgaa
