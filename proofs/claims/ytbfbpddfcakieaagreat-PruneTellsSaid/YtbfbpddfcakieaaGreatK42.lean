/- The walk of Put of the reference of layer 9, where it is put into a tree whose root is split. The contract of Put of the reference of layer 9. The walk of Fill of the reference of layer 9. -/
import Derived.Test.YtbfbpddfcakieaaGreatK41
import Derived.Test.YtbfbpddfcakieaaGreatK19
import Derived.Test.YtbfbpddfcakieaaGreatK37
namespace Go.Proofs.YtbfbpddfcakieaaGreat
open Go.RowKit
attribute [local go_sem ↓] Go.wp_at_zero Go.wp_at_succ

set_option maxRecDepth 100000 in
set_option maxHeartbeats 3200000 in
theorem ref09Put_two (R : Option Addr) (l : List HC) (n q : Nat) (keep root : Int) (x : It) (deep : Bool) (w : World) (hx : okIt x) (hl : AllR l) (hn : n ≤ 2000) (hnl : n = l.length) (hkp : 0 ≤ keep ∧ keep ≤ 9223372036854775807) (hrr : rightR ⟨l, keep⟩ root = true) (hf : highT l root ≠ 20 ∧ fitsH ⟨l, keep⟩ (2 * highT l root + 1) deep = true) (h0 : 0 ≤ root) (c1 : List HC) (L1 : List It) (hL : L1.length = 2) (hbd1 : ∀ k (hk : k < c1.length), c1[k].ref ≤ 8000000000000000000) (hlc : (allocL c1 false L1 (L1.map (·.2))).length = l.length) (hbd : Bd (allocL c1 false L1 (L1.map (·.2)))) (hch : ∀ w', Ext w w' → Calls Tryz.prog 65 #[.agg #[.slice R n q, .int .i64 keep], .int .i64 root, .agg #[.int .i64 x.1, .int .i64 x.2]] w' fun e w2 => ∃ S d O z, e = .returned (.tuple #[.agg #[.slice S n d, .int .i64 keep], .slice O L1.length z]) ∧ HcSl w2 S n d c1 ∧ Sl w2 O L1.length z (ivs L1) ∧ Ext w' w2) (hA : HcSl w R n q l) :
    Calls Tryz.prog 37 #[.agg #[.slice R n q, .int .i64 keep], .int .i64 root, .int .i64 x.1, .int .i64 x.2, .bool deep] w fun e w' => ∃ S d, e = .returned (.tuple #[.agg #[.slice S n d, .int .i64 keep], .int .i64 (topS c1 L1).2, .int .i64 0]) ∧ HcSl w' S n d (looseL (l.length + 1) (topS c1 L1).1 root) ∧ Ext w w' := by
  have HCH := Lib.hid hch
  have d6 : decide (root < 0) = false := decide_eq_false (by omega)
  have hts : topS c1 L1 = (allocL c1 false L1 (L1.map (·.2)), (allocP c1 false L1 : Int)) := by unfold topS; rw [if_pos (by omega)]
  rw [hts]
  simp only
  have HL1 := Lib.hid (show 0 < L1.length by omega)
  have HOV := Lib.hid (fun w' S d B z (h : HcSl w' S n d c1) (hI : Sl w' B L1.length z (ivs L1)) => ref09Over_any S c1 n d keep B L1 L1.length z w' (by omega) hbd1 h rfl (by omega) hI)
  have HLO := Lib.hid (fun w' S d (h : HcSl w' S n d (allocL c1 false L1 (L1.map (·.2)))) => ref05Loose_is S _ n d keep root w' (by omega) hbd h)
  rw [hlc] at HLO
  have d7 : decide ((1 : Int) < (L1.length : Int)) = true := decide_eq_true (by omega)
  have hd7 : decide (1 < L1.length) = true := decide_eq_true (by omega)
  clear hts hlc hbd hbd1 hL
  generalize looseE ⟨allocL c1 false L1 (L1.map (·.2)), keep⟩ root = e9 at *
  generalize looseL (l.length + 1) (allocL c1 false L1 (L1.map (·.2))) root = c9 at *
  generalize allocL c1 false L1 (L1.map (·.2)) = c8 at *
  generalize (allocP c1 false L1 : Nat) = p8 at *
  generalize allocE c1 false L1 = e8 at *
  clear hch h0
  obtain ⟨W, hW⟩ : ∃ W, W = (w.alloc (.cells #[.slice R n q, .int .i64 keep] 24)).alloc (.cells #[.slice none 0 0, .int .i64 0] 24) := ⟨_, rfl⟩
  obtain ⟨hx1, hb0, hb1⟩ := allocs2 hW.symm
  have HX := Lib.hid hx1
  have HB0 := Lib.hid hb0
  have HB1 := Lib.hid hb1
  have HA := Lib.hid hA
  obtain ⟨key, val⟩ := x
  obtain ⟨⟨k0, k1⟩, v0, v1⟩ := hx
  simp only at k0 k1 v0 v1 ⊢
  have d0 : decide (key < 0) = false := decide_eq_false (by omega)
  have d1 : decide ((2147483647 : Int) < key) = false := decide_eq_false (by omega)
  have d2 : decide (val < 0) = false := decide_eq_false (by omega)
  have d3 : decide ((2147483647 : Int) < val) = false := decide_eq_false (by omega)
  have HKV := Lib.hid (And.intro k0 (And.intro k1 (And.intro v0 v1)))
  obtain ⟨H, hH⟩ : ∃ H, highT l root = H := ⟨_, rfl⟩
  have hHb : 0 ≤ H ∧ H ≤ 20 := by
    rw [← hH]; unfold highT
    split
    · omega
    · exact bel_high l 20 root
  have HHI := Lib.hid (fun w' (hx : Ext w w') => (ref07High_any R l n q keep root w' hl (by omega) hrr (hA.ext hx)).mono (fun e w2 h => (⟨h.1, h.2.2⟩ : e = .returned (.int .i64 (highT l root)) ∧ Ext w' w2)))
  rw [hH] at HHI
  have d5 : (H == 20) = false := by have := hf.1; rw [hH] at this; simpa using this
  have HNE := Lib.hid (fun w' => ref07Need_any H w' hHb.1 (by omega))
  have HFI := Lib.hid (fun w' (hx : Ext w w') => ref05Fits_any R l n q keep (2 * H + 1) deep w' hkp (hA.ext hx))
  obtain ⟨fb, hfb⟩ : ∃ fb, fitsH ⟨l, keep⟩ (2 * H + 1) deep = fb := ⟨_, rfl⟩
  have hf2 := hf.2
  rw [hH, hfb] at hf2
  subst hf2
  rw [hfb] at HFI
  obtain ⟨p0, p1, p2⟩ := hb0.read2
  clear hx1 hb0 hb1 hA k0 k1 v0 v1 hrr hl hH hfb hnl hn hf
  subst hW
  go_enter Tryz.func37, Tryz.ntmps37
  go_wp2_with (go_at_call 27; refine stop_here ?_)
  refine stop_on ?_
  generalize hW : World.alloc (World.alloc w _) _ = W at *
  clear hW p0 p1 p2
  refine (HHI.out _ HX.out).mono ?_
  rintro e w1 ⟨rfl, hx1⟩
  have HX1 := Lib.hid hx1
  obtain ⟨p0, p1, p2⟩ := (HB0.out.ext hx1).read2
  clear hx1
  go_wp2_with fail
  go_cut [14] from 43 to 47 (fun v wx => v = .bool true ∧ Ext w1 wx)
  case first =>
    go_region_law
      (first
        | ((go_simp
            go_at_call 63
            refine (HNE.out _).mono ?_
            rintro e w4 ⟨rfl, rfl⟩))
        | ((go_simp
            go_at_call 26
            refine (HFI.out _ ?_).mono ?_
            (first | exact (HX.out.trans HX1.out).drew | exact (HX.out.trans HX1.out))
            rintro e w4 ⟨rfl, hx4⟩
            have E4 := Lib.hid (show Ext w1 w4 from by first | exact (Ext.refl _).drew.trans hx4 | exact hx4)
            clear hx4)))
    all_goals
      go_wp2_with fail
      go_meet
      exact ⟨rfl, E4.out⟩
  case rest =>
    obtain ⟨rfl, hxc⟩ := hcut
    have HXC := Lib.hid (HX1.out.trans hxc)
    have HXA := Lib.hid ((HX.out.trans HX1.out).trans hxc)
    have HC0 := Lib.hid (HB0.out.ext HXC.out)
    have HC1 := Lib.hid (HB1.out.ext HXC.out)
    clear hxc p0 p1 p2
    obtain ⟨p0, p1, p2⟩ := HC0.out.read2
    obtain ⟨t0, t1, t2⟩ := HC1.out.read2
    obtain ⟨f0, f1⟩ := HC1.out.free2
    go_wp2_with (go_at_call 65; refine stop_here ?_)
    refine stop_on ?_
    refine (HCH.out _ ?_).mono ?_
    · exact HXA.out.trans ((Ext.refl wc).alloc _)
    rintro e w5 ⟨S5, d5', O5, z5, rfl, hs5, ho5, hx5⟩
    have HX5 := Lib.hid (((Ext.refl wc).alloc _).trans hx5)
    have HC5 := Lib.hid (HC1.out.ext HX5.out)
    clear p0 p1 p2 t0 t1 t2 f0 f1
    have hal := (Ext.refl w5).alloc (.cells #[.slice S5 n d5', .int .i64 keep] 24)
    obtain ⟨b2, off2, rfl, hb2, -, k1⟩ := it_at (ho5.ext hal) HL1.out
    rw [Nat.zero_mul, Nat.add_zero] at k1
    generalize (L1[0]'HL1.out).2 = V0 at *
    have HS5 := Lib.hid (hs5.ext hal)
    have HO5 := Lib.hid (ho5.ext hal)
    have HE5 := Lib.hid (HX5.out.trans hal)
    have HN5 := Lib.hid (Bx.new w5 #[.slice S5 n d5', .int .i64 keep] 24)
    clear hs5 ho5 hx5 hal
    go_wp2_with (go_at_call 66; refine stop_here ?_)
    refine stop_on ?_
    refine (HOV.out _ S5 d5' _ z5 HS5.out HO5.out).mono ?_
    rintro e w6 ⟨S6, d6', rfl, hs6, hx6⟩
    have HX6 := Lib.hid (HE5.out.trans hx6)
    have HN6 := Lib.hid (HN5.out.ext hx6)
    have hz := HC5.out.lt
    clear k1 hb2
    have hal := (Ext.refl w6).alloc (.cells #[.slice S6 n d6', .int .i64 keep] 24)
    have HS7 := Lib.hid ((hs6.boxed2 HN6.out (.slice S6 n d6') (.int .i64 keep)).ext ((Ext.refl _).alloc (.cells #[.slice S6 n d6', .int .i64 keep] 24)))
    have HX7 := Lib.hid ((HX6.out.store2 (k := w5.heap.size) HX5.out.size (.slice S6 n d6') (.int .i64 keep)).alloc (.cells #[.slice S6 n d6', .int .i64 keep] 24))
    clear hs6 hx6 hal
    obtain ⟨g0, g1, g2⟩ := HN6.out.read2
    obtain ⟨h0, h1⟩ := HN6.out.free2
    go_wp2_with (go_at_call 29; refine stop_here ?_)
    refine stop_on ?_
    refine (HLO.out _ S6 d6' HS7.out).mono ?_
    rintro e w7 ⟨S8, d8', rfl, hs8, hx8⟩
    have HX8 := Lib.hid (HX7.out.trans hx8)
    have HS8 := Lib.hid hs8
    have HC8 := Lib.hid (HC1.out.ext HX8.out)
    clear hs8 hx8 g0 g1 g2 h0 h1
    obtain ⟨t0, t1, t2⟩ := HC8.out.read2
    obtain ⟨f0, f1⟩ := HC8.out.free2
    go_wp2_with fail
    refine ret2_cell (k := w.heap.size + 1) (x := .slice S8 n d8') (y := .int .i64 keep) (v := .tuple #[.agg #[.slice S8 n d8', .int .i64 keep], .int .i64 (p8 : Nat), .int .i64 0]) ?hb4 (fun r0 r1 => by simp [results, Tryz.results37, go_sem, r0, r1]) rfl ?hx4
    case hb4 => exact (HC8.out.set2 _ _).ext ((Ext.refl _).alloc _)
    case hx4 => exact ⟨S8, d8', rfl, (HS8.out.boxed2 HC8.out _ _).ext ((Ext.refl _).alloc _), ((HXA.out.trans HX8.out).store2 (by omega) _ _).alloc _⟩
end Go.Proofs.YtbfbpddfcakieaaGreat
namespace Go.Proofs.YtbfbpddfcakieaaGreat
open Go.RowKit

/-- P9.1. -/
theorem ref09Put_any (R : Option Addr) (l : List HC) (n q : Nat) (keep root most : Int) (x : It) (deep : Bool) (w : World) (hmost : most ≤ 60) (hm : mayT ⟨l, keep⟩ root most = true) (hA : HcSl w R n q l) :
    Calls Tryz.prog 37 #[.agg #[.slice R n q, .int .i64 keep], .int .i64 root, .int .i64 x.1, .int .i64 x.2, .bool deep] w fun e w' => ∃ S d, e = .returned (.tuple #[.agg #[.slice S n d, .int .i64 keep], .int .i64 (putR ⟨l, keep⟩ root x deep).2.1, .int .i64 (putR ⟨l, keep⟩ root x deep).2.2]) ∧ HcSl w' S n d (putR ⟨l, keep⟩ root x deep).1 ∧ Ext w w' := by
  unfold mayT at hm
  rw [Bool.and_eq_true] at hm
  obtain ⟨hmay, hrr⟩ := hm
  obtain ⟨m1, m2, m3⟩ := may_iff hmay
  obtain ⟨kp0, kp1⟩ := may_keep hmay
  have hal := allR_of m3
  have hn := hA.1
  have hs : ∀ k (hk : k < l.length), l[k].ref ≤ 1000000 := fun k hk => (m2 k hk).2
  by_cases hx : okIt x
  rotate_left
  · have e : putR ⟨l, keep⟩ root x deep = (l, root, 1) := by unfold putR; rw [if_neg hx]
    rw [e]
    exact ref09Put_arg R l n q keep root x deep w hx hA
  by_cases hf : highT l root = 20 ∨ fitsH ⟨l, keep⟩ (2 * highT l root + 1) deep = false
  · have e : putR ⟨l, keep⟩ root x deep = (l, root, 3) := by unfold putR; rw [if_pos hx]; simp only; rw [if_pos hf]
    rw [e]
    exact ref09Put_full R l n q keep root x deep w hx hal (by omega) hn ⟨kp0, by omega⟩ hrr hf hA
  have e : putR ⟨l, keep⟩ root x deep = ((putG l root x).1, (putG l root x).2, 0) := by unfold putR; rw [if_pos hx]; simp only; rw [if_neg hf]
  rw [e]
  have hf2 : highT l root ≠ 20 ∧ fitsH ⟨l, keep⟩ (2 * highT l root + 1) deep = true := by
    rw [not_or, Bool.not_eq_false] at hf; exact hf
  have hfr := fits_free kp0 hf2.2
  rcases Int.lt_or_le root 0 with h0 | h0
  · have hh : highT l root = 0 := by unfold highT; rw [if_pos h0]
    rw [hh] at hfr
    obtain ⟨e1, -⟩ := above_none (root := root) m3 hs hx h0 (by omega)
    have := ref09Put_none R l n q keep root x deep w hx hal (by omega) hn ⟨kp0, by omega⟩ hrr hf2 h0 (fun k hk => by have := hs k hk; omega) hA
    rw [e1] at this
    unfold putG aboveS
    rw [if_pos h0, if_pos h0]
    exact this
  · have hh : highT l root = (bel l 20 root).high := by unfold highT; rw [if_neg (by omega)]
    obtain ⟨-, h1, hb⟩ := (rightR_iff hrr).resolve_left (by omega)
    have hbh := (bel_high l 20 root).2
    have hlt : (bel l 20 root).high < 20 := by have := hf2.1; omega
    rw [hh] at hfr
    obtain ⟨-, a, T⟩ := above_some m3 hs hx h0 h1 hb hlt hfr
    obtain ⟨e', he1, he2⟩ : ∃ e', (bel l 20 root).hi < e' ∧ x.1 < e' := by
      rcases Int.lt_or_le (bel l 20 root).hi x.1 with h | h
      · exact ⟨x.1 + 1, by omega, by omega⟩
      · exact ⟨(bel l 20 root).hi + 1, by omega, by omega⟩
    obtain ⟨a1, AN⟩ := anew_ok 20 l root x e' (Nat.le_refl _) m3 hs hx h0 h1 hb he1 he2 (by omega)
    have HC := fun w' (hx' : Ext w w') => ref09anew_any 20 l root x e' R n q w' (Nat.le_refl _) m3 hs hx h0 h1 hb he1 he2 (by omega) (by omega) (hA.ext hx')
    have hab : aboveS l root x = topS (anewS 20 l root x).1 (anewS 20 l root x).2 := by unfold aboveS; rw [if_neg (by omega)]
    have hpg : putG l root x = (looseL (l.length + 1) (topS (anewS 20 l root x).1 (anewS 20 l root x).2).1 root, (topS (anewS 20 l root x).1 (anewS 20 l root x).2).2) := by unfold putG; rw [if_neg (by omega), hab]
    rw [hpg]
    simp only
    rw [hab] at T
    have hTl := T.keeps.len
    have hTr := T.refs
    have hTm := T.many
    have hAl := AN.len
    have hAk := AN.keeps.len
    have hAr := AN.refs
    have hAm := AN.many
    have hBd : Bd (topS (anewS 20 l root x).1 (anewS 20 l root x).2).1 := fun k hk => by
      have hk' : k < l.length := by omega
      have h3 := hTr k hk' hk
      have h4 := hs k hk'
      split at h3 <;> omega
    have hBc : ∀ k (hk : k < (anewS 20 l root x).1.length), (anewS 20 l root x).1[k].ref ≤ 8000000000000000000 := fun k hk => by
      have hk' : k < l.length := by omega
      have h3 := hAr k hk' hk
      have h4 := hs k hk'
      split at h3 <;> omega
    clear T AN hTr hTm hAr hAm
    generalize anewS 20 l root x = r at *
    obtain ⟨c1, L1⟩ := r
    simp only at *
    by_cases h2 : L1.length = 1
    · exact ref09Put_one R l n q keep root x deep w hx hal (by omega) hn ⟨kp0, by omega⟩ hrr hf2 h0 c1 L1 h2 hAk (fun k hk => by have := hBc k hk; omega) HC hA
    · have ht : (topS c1 L1).1 = allocL c1 false L1 (L1.map (·.2)) := by unfold topS; rw [if_pos (by omega)]
      rw [ht] at hTl hBd
      exact ref09Put_two R l n q keep root x deep w hx hal (by omega) hn ⟨kp0, by omega⟩ hrr hf2 h0 c1 L1 (by omega) hBc hTl hBd HC hA
end Go.Proofs.YtbfbpddfcakieaaGreat
namespace Go.Proofs.YtbfbpddfcakieaaGreat
open Go.RowKit
attribute [local go_sem ↓] Go.wp_at_zero Go.wp_at_succ

set_option maxRecDepth 100000 in
set_option maxHeartbeats 3200000 in
theorem ref09Fill_any (R : Option Addr) (l : List HC) (n q : Nat) (keep root most : Int) (A : Option Addr) (it : List It) (m c : Nat) (w : World) (hmost : most ≤ 60) (hf : fineB ⟨l, keep⟩ root most = true) (hm : m = it.length) (hmb : m ≤ 90000) (hA : HcSl w R n q l) (hI : Sl w A m c (ivs it)) :
    Calls Tryz.prog 15 #[.agg #[.slice R n q, .int .i64 keep], .int .i64 root, .slice A m c] w fun e w' => ∃ S d, e = .returned (.tuple #[.agg #[.slice S n d, .int .i64 keep], .int .i64 (fillR keep it l root).2.1, .int .i64 (fillR keep it l root).2.2]) ∧ HcSl w' S n d (fillR keep it l root).1 ∧ Ext w w' := by
  obtain ⟨W, hW⟩ : ∃ W, W = (w.alloc (.cells #[.slice R n q, .int .i64 keep] 24)).alloc (.cells #[.slice none 0 0, .int .i64 0] 24) := ⟨_, rfl⟩
  obtain ⟨hx, hb0, hb1⟩ := allocs2 hW.symm
  have HX := Lib.hid hx
  have HB0 := Lib.hid hb0
  have HB1 := Lib.hid hb1
  have HA := Lib.hid (hA.ext hx)
  have HF := Lib.hid hf
  have HM := Lib.hid hm
  have HI := Lib.hid hI
  clear hx hb0 hb1 hA hf hm hI
  subst hW
  go_enter Tryz.func15, Tryz.ntmps15
  go_wp2_with fail
  generalize hW : World.alloc (World.alloc w _) _ = W at *
  clear hW
  go_loopw [1, 9] (fun r i wr => ∃ (j : Nat) (S : Option Addr) (d : Nat) (cj : List HC) (pj : Int), j ≤ m ∧ i = .int .i64 j ∧ r = .int .i64 pj ∧ fillR keep it l root = fillR keep (it.drop j) cj pj ∧ fineB ⟨cj, keep⟩ pj most = true ∧ Ext w wr ∧ Bx wr w.heap.size #[.slice S n d, .int .i64 keep] ∧ Bx wr (w.heap.size + 1) #[.slice none 0 0, .int .i64 0] ∧ HcSl wr S n d cj) (fun _ i _ => m - (intOf i).toNat)
  case atStart => exact ⟨0, R, q, l, root, Nat.zero_le _, rfl, rfl, rfl, HF.out, HX.out, HB0.out, HB1.out, HA.out⟩
  case round =>
    obtain ⟨j, S, d1, cj, pj, hj, rfl, rfl, heq, hfj, hx, hb0, hb1, hs⟩ := hrel
    have HEQ := Lib.hid heq
    have HXR := Lib.hid hx
    have HC0 := Lib.hid hb0
    have HC1 := Lib.hid hb1
    have HS := Lib.hid hs
    obtain ⟨p0, p1, p2⟩ := hb0.read2
    obtain ⟨f0, f1⟩ := hb0.free2
    obtain ⟨t0, t1, t2⟩ := hb1.read2
    obtain ⟨y0, y1⟩ := hb1.free2
    rcases Nat.lt_or_ge j m with hlt | hlt
    · have hjl : j < it.length := by rw [← HM.out]; exact hlt
      have hji : (j : Int) < (m : Int) := by omega
      obtain ⟨b2, off2, rfl, hbl2, k0w, k1w⟩ := it_at HI.out hjl
      have k0 := (hx.cell (p := ⟨b2, off2 + j * 2, none⟩) hbl2).trans k0w
      have k1 := (hx.cell (p := ⟨b2, off2 + j * 2 + 1, none⟩) hbl2).trans k1w
      have HST := Lib.hid (HEQ.out.trans (fill_step hjl))
      have HFN := Lib.hid (fun (h : (putR ⟨cj, keep⟩ pj it[j] false).2.2 = 0) => fine_next (x := it[j]) (deep := false) hmost hfj h)
      have HPU := Lib.hid (fun w' (hx : Ext wr w') => ref09Put_any S cj n d1 keep pj most it[j] false w' hmost (by unfold fineB at hfj; rw [Bool.and_eq_true] at hfj; exact hfj.1) (HS.out.ext hx))
      have hws := hx.size
      clear hb0 hb1 hs heq hfj k0w k1w hx
      generalize it[j] = y at *
      obtain ⟨ky, vy⟩ := y
      simp only at k0 k1 HPU
      generalize (putR ⟨cj, keep⟩ pj (ky, vy) false) = pr at *
      obtain ⟨c2, r2, e2⟩ := pr
      simp only at HST HFN HPU
      have hblr : b2 < wr.heap.size := by omega
      have hal := (Ext.refl wr).alloc (.cells #[.slice none 0 0, .int .i64 0] 24)
      have ra0 := (hal.cell (p := ⟨b2, off2 + j * 2, none⟩) hblr).trans k0
      have ra1 := (hal.cell (p := ⟨b2, off2 + j * 2 + 1, none⟩) hblr).trans k1
      clear hal
      go_wp2_with fail
      go_cut [10, 11, 12] from 13 to 42 (fun v u y wx => ∃ X S' d', v = .pointer (some ⟨X, 0, none⟩) ∧ u = .int .i64 r2 ∧ y = .int .i64 e2 ∧ Bx wx X #[.slice S' n d', .int .i64 keep] ∧ HcSl wx S' n d' c2 ∧ Ext wr wx)
      case first =>
        go_region_law
          (first
            | ((go_simp
                go_at_call 37
                refine (HPU.out _ ?_).mono ?_
                (first | exact (Ext.refl _).drew | exact ((Ext.refl _).drew).alloc _ | exact ((Ext.refl _).alloc _).drew | exact Ext.refl _)
                rintro e w4 ⟨S4, d4, rfl, hs4, hx4⟩
                have E4 := Lib.hid (show Ext wr w4 from by first | exact (Ext.refl _).drew.trans hx4 | exact (((Ext.refl _).drew).alloc _).trans hx4 | exact (((Ext.refl _).alloc _).drew).trans hx4 | exact hx4)
                have N4 := Lib.hid hs4
                (try (have B4 := Lib.hid (show Bx w4 wr.heap.size #[.slice none 0 0, .int .i64 0] from (Bx.new wr.drew _ _).ext hx4); have f0 := B4.out.free 0; have f1 := B4.out.free 1; have z1 := B4.out.lt; have q0 : w4.cell? ⟨wr.heap.size, 0, none⟩ = some (.slice none 0 0) := B4.out.at 0 _ rfl; have q1 : w4.cell? ⟨wr.heap.size, 1, none⟩ = some (.int .i64 0) := B4.out.at 1 _ rfl))
                clear hs4 hx4)))
        all_goals
          go_wp2_with fail
          go_meet
          first
          | exact ⟨_, S4, d4, rfl, rfl, rfl, Bx.new _ _ _, N4.out.ext ((Ext.refl _).alloc _), E4.out.alloc _⟩
          | exact ⟨_, S4, d4, rfl, rfl, rfl, B4.out.set2 _ _, N4.out.boxed2 B4.out _ _, E4.out.store2 (Nat.le_refl _) _ _⟩
      case rest =>
        obtain ⟨X, S5, d5, rfl, rfl, rfl, hbx, hs5, hx5⟩ := hcut
        have HX5 := Lib.hid (HXR.out.trans hx5)
        have HS5 := Lib.hid hs5
        have HE0 := Lib.hid (HC0.out.ext hx5)
        have HE1 := Lib.hid (HC1.out.ext hx5)
        have HSO := Lib.hid (HS.out.ext hx5)
        clear p0 p1 p2 f0 f1 t0 t1 t2 y0 y1 k0 k1 ra0 ra1
        obtain ⟨x0, x1, x2⟩ := hbx.read2
        obtain ⟨p0, p1, p2⟩ := HE0.out.read2
        obtain ⟨f0, f1⟩ := HE0.out.free2
        obtain ⟨t0, t1, t2⟩ := HE1.out.read2
        obtain ⟨y0, y1⟩ := HE1.out.free2
        clear hbx hs5 hx5
        by_cases he : e2 = 0
        · subst he
          rw [if_pos rfl] at HST
          go_wp2_with fail
          go_roundw
          case rel => exact ⟨j + 1, S5, d5, c2, r2, by omega, by go_num, rfl, HST.out, HFN.out rfl, HX5.out.store2 (Nat.le_refl _) _ _, HE0.out.set2 _ _, (HE1.out.set_other (p := ⟨w.heap.size, 0, none⟩) (by simp) _).set_other (p := ⟨w.heap.size, 1, none⟩) (by simp) _, HS5.out.boxed2 HE0.out _ _⟩
          case measure => simp [intOf]; omega
        · have d5e : (e2 == 0) = false := by simpa using he
          rw [if_neg he] at HST
          clear he
          go_wp2_with fail
          refine ret2_cell (k := w.heap.size + 1) (x := .slice S n d1) (y := .int .i64 keep) (v := .tuple #[.agg #[.slice S n d1, .int .i64 keep], .int .i64 pj, .int .i64 e2]) ?hb4 (fun r0 r1 => by simp [results, Tryz.results15, go_sem, r0, r1]) rfl ?hx4
          case hb4 => exact HE1.out.set2 _ _
          case hx4 => rw [HST.out]; exact ⟨S, d1, rfl, HSO.out.boxed2 HE1.out _ _, HX5.out.store2 (by omega) _ _⟩
    · obtain rfl : m = j := by omega
      have hfl : it.drop m = [] := by rw [HM.out, List.drop_length]
      rw [hfl] at heq
      have HEE := Lib.hid (heq.trans rfl : fillR keep it l root = (cj, pj, 0))
      have d4 : decide ((m : Int) < (m : Int)) = false := decide_eq_false (by omega)
      clear hb0 hb1 hs hx hlt hfl heq hfj
      go_wp2_with fail
      refine ret2_cell (k := w.heap.size + 1) (x := .slice S n d1) (y := .int .i64 keep) (v := .tuple #[.agg #[.slice S n d1, .int .i64 keep], .int .i64 pj, .int .i64 0]) ?hb4 (fun r0 r1 => by simp [results, Tryz.results15, go_sem, r0, r1]) rfl ?hx4
      case hb4 => exact HC1.out.set2 _ _
      case hx4 => rw [HEE.out]; exact ⟨S, d1, rfl, HS.out.boxed2 HC1.out _ _, HXR.out.store2 (by omega) _ _⟩
end Go.Proofs.YtbfbpddfcakieaaGreat
