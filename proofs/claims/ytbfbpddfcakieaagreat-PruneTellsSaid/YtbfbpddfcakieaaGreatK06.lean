/- The walk of Alloc of the reference, where the node may be laid. Walks of isNumber, Right and Same of package node. -/
import Derived.Test.YtbfbpddfcakieaaGreatK05
import Derived.Test.YtbfbpddfcakieaaGreatK02
namespace Go.Proofs.YtbfbpddfcakieaaGreat
open Go.RowKit
attribute [local go_sem ↓] Go.wp_at_zero Go.wp_at_succ

set_option maxRecDepth 100000 in
set_option maxHeartbeats 3200000 in
theorem ref05Alloc_leaf (R : Option Addr) (l : List HC) (n q : Nat) (keep : Int) (A : Option Addr) (it : List It) (m c : Nat) (H : Option Addr) (held : List Int) (t d : Nat) (w : World) (hg : (ndR it && leadsC l true it) = true) (hb : n ≤ 90000) (hbd : ∀ k (hk : k < l.length), l[k].ref ≤ 8000000000000000000) (hA : HcSl w R n q l) (hm : m = it.length) (hI : Sl w A m c (ivs it)) (ht : t = held.length) (hH : Sl w H t d (held.map iv)) :
    Calls Tryz.prog 64 #[.agg #[.slice R n q, .int .i64 keep], .agg #[.bool true, .slice A m c], .slice H t d] w fun e w' => ∃ S d, e = .returned (.tuple #[.agg #[.slice S n d, .int .i64 keep], .int .i64 (allocP l true it : Nat), .int .i64 (allocE l true it)]) ∧ HcSl w' S n d (allocL l true it held) ∧ Ext w w' := by
  have HBD := Lib.hid hbd
  have HH := Lib.hid hH
  have HTT := Lib.hid ht
  clear hbd hH ht
  obtain ⟨W, hW⟩ : ∃ W, W = (((w.alloc (.cells #[.slice R n q, .int .i64 keep] 24)).alloc (.cells #[.bool true, .slice A m c] 51)).alloc (.cells #[.slice none 0 0, .int .i64 0] 24)) := ⟨_, rfl⟩
  obtain ⟨hx, hb0, hb1, hb2⟩ := allocs3 hW.symm
  have hn := hA.1
  have HN := Lib.hid hn
  have HM := Lib.hid hm
  have HX := Lib.hid hx
  have HB0 := Lib.hid hb0
  have HB1 := Lib.hid hb1
  have HB2 := Lib.hid hb2
  have HA0 := Lib.hid hA
  have HI0 := Lib.hid hI
  have HA := Lib.hid (hA.ext hx)
  have hgood := hg
  rw [Bool.and_eq_true] at hg
  have hm4 : m ≤ 4 := by have := ((ndR_iff it).1 hg.1).1; omega
  have HR := Lib.hid (fun w' (hx2 : Ext W w') => ref04Right_any true A it m c w' hm ((hI.ext hx).ext hx2))
  have HL := Lib.hid (fun w' (hx2 : Ext W w') => ref05leads_any R l n q keep true A it m c w' ((hA.ext hx).ext hx2) hm ((hI.ext hx).ext hx2))
  have HSET := Lib.hid (fun (S : Option Addr) (g : List HC) (d k : Nat) w' (hk : k < n) (hg : HcSl w' S n d g) (hx : Ext w w') => ref05set_any S g n d k keep ⟨1, false, true, it⟩ A m c w' hk hb hg hm (hI.ext hx))
  rw [hg.1] at HR
  rw [hg.2] at HL
  have HLD := Lib.hid hg.2
  have HGOOD := Lib.hid hgood
  simp only at HSET
  clear hx hA hm hI hg hn hgood
  subst hW
  obtain ⟨p0, p1, p2⟩ := hb0.read2
  obtain ⟨q0, q1, q2⟩ := hb1.read2
  clear hb0 hb1 hb2
  go_enter Tryz.func64, Tryz.ntmps64
  go_wp2_with (go_at_call 91; refine stop_here ?_)
  refine stop_on ?_
  generalize hW : World.alloc (World.alloc (World.alloc w _) _) _ = W at *
  clear hW
  refine (HR.out _ (Ext.refl _)).mono ?_
  rintro e w1 ⟨rfl, hx⟩
  have HXW := Lib.hid hx
  clear p0 p1 p2 q0 q1 q2
  obtain ⟨p0, p1, p2⟩ := (HB0.out.ext hx).read2
  obtain ⟨q0, q1, q2⟩ := (HB1.out.ext hx).read2
  clear hx
  go_wp2_with (go_at_call 92; refine stop_here ?_)
  refine stop_on ?_
  refine (HL.out _ HXW.out).mono ?_
  rintro e w2 ⟨rfl, hx2⟩
  have hx := HXW.out.trans hx2
  have HX1 := Lib.hid (HX.out.trans hx)
  have HA1 := Lib.hid (HA.out.ext hx)
  have HC0 := Lib.hid (HB0.out.ext hx)
  have HC1 := Lib.hid (HB1.out.ext hx)
  have HC2 := Lib.hid (HB2.out.ext hx)
  clear p0 p1 p2 q0 q1 q2 hx hx2 HXW HR HL HB0 HB1 HB2 HA HX
  obtain ⟨p0, p1, p2⟩ := HC0.out.read2
  obtain ⟨q0, q1, q2⟩ := HC1.out.read2
  go_wp2_with fail
  go_loop [10] (fun i => ∃ k : Nat, k ≤ n ∧ i = .int .i64 k ∧ ∀ j (hj : j < l.length), j < k → stopC l[j] = false) (fun i => n - (intOf i).toNat)
  case atStart => exact ⟨0, Nat.zero_le _, rfl, fun j hj h => by omega⟩
  case round =>
    obtain ⟨k, hk, rfl, hne⟩ := hrel
    have HNE := Lib.hid hne
    clear hne
    rcases Nat.lt_or_ge k n with hlt | hlt
    rotate_left
    · obtain rfl : n = k := by omega
      have hf := first_no (l := l) (fun j hj => HNE.out j hj (by rw [HN.out]; exact hj))
      obtain ⟨e1, e2, e3⟩ := alloc_full (held := held) HGOOD.out hf
      have HE := Lib.hid (And.intro e1 (And.intro e2 e3))
      have d0 : decide ((n : Int) < (n : Int)) = false := decide_eq_false (by omega)
      have d1 : ((n : Int) == (n : Int)) = true := by simp
      obtain ⟨t0, t1, t2⟩ := HC2.out.read2
      obtain ⟨y0, y1⟩ := HC2.out.free2
      clear hf e1 e2 e3 hlt
      go_wp2_with fail
      refine ret2_cell (k := w.heap.size + 1 + 1) (x := .slice R n q) (y := .int .i64 keep) (v := .tuple #[.agg #[.slice R n q, .int .i64 keep], .int .i64 0, .int .i64 3]) ?hb4 (fun r0 r1 => by simp [results, Tryz.results64, go_sem, r0, r1]) rfl ?hx4
      case hb4 => exact HC2.out.set2 _ _
      case hx4 => rw [HE.out.1, HE.out.2.1, HE.out.2.2]; exact ⟨R, q, rfl, HA1.out.boxed2 HC2.out _ _, HX1.out.store2 (by omega) _ _⟩
    have hkl : k < l.length := by rw [← HN.out]; exact hlt
    obtain ⟨b, off, rfl, hbl, Ac, cc, r0, r1, r2, r3, _⟩ := HA1.out.cell hkl
    have hki : (k : Int) < (n : Int) := by omega
    have d0 : decide ((k : Int) < (n : Int)) = true := decide_eq_true hki
    have d0' : decide (k < n) = true := decide_eq_true hlt
    have HK := Lib.hid (fun (h : stopC l[k] = false) => (show ∀ j (hj : j < l.length), j < k + 1 → stopC l[j] = false from fun j hj hjk => by
      rcases Nat.lt_or_ge j k with h' | h'
      · exact HNE.out j hj h'
      · obtain rfl : j = k := by omega
        exact h))
    have HFI := Lib.hid (fun (h : stopC l[k] = true) => first_at hkl HNE.out h)
    have HST := Lib.hid (show stopC l[k] = !(decide (0 < l[k].ref) || l[k].pin) from rfl)
    clear r2 r3 HNE
    generalize stopC l[k] = sc at *
    generalize l[k].ref = rf at *
    generalize l[k].pin = pn at *
    rcases Int.lt_or_le 0 rf with h1 | h1
    · have d1 : decide (0 < rf) = true := decide_eq_true h1
      have HE := Lib.hid (HK.out (by rw [HST.out, d1]; rfl))
      clear h1
      go_wp2_with fail
      go_round
      case rel => exact ⟨k + 1, by omega, by go_num, HE.out⟩
      case measure => simp [intOf]; omega
    have d1 : decide (0 < rf) = false := decide_eq_false (by omega)
    cases pn
    rotate_left
    · have HE := Lib.hid (HK.out (by rw [HST.out]; simp))
      clear h1
      go_wp2_with fail
      go_round
      case rel => exact ⟨k + 1, by omega, by go_num, HE.out⟩
      case measure => simp [intOf]; omega
    have hf := HFI.out (by rw [HST.out, d1]; rfl)
    obtain ⟨e1, e2, e3⟩ := alloc_ok (held := held) HGOOD.out hkl hf
    have HE := Lib.hid (And.intro e1 (And.intro e2 e3))
    have d2 : ((k : Int) == (n : Int)) = false := by
      have : ¬ (k : Int) = (n : Int) := by omega
      simpa using this
    clear hf e1 e2 e3 h1 HFI HK HST
    go_wp2_with fail
    have hx3 : Ext w2 (w2.alloc (.cells #[.slice (some ⟨b, off, none⟩) n q, .int .i64 keep] 24)) := (Ext.refl w2).alloc _
    have HX3 := Lib.hid (HX1.out.trans hx3)
    have HA3 := Lib.hid (HA1.out.ext hx3)
    have HD0 := Lib.hid (HC0.out.ext hx3)
    have HD1 := Lib.hid (HC1.out.ext hx3)
    have HD2 := Lib.hid (HC2.out.ext hx3)
    have HD3 := Lib.hid (Bx.new w2 #[.slice (some ⟨b, off, none⟩) n q, .int .i64 keep] 24)
    have hz : w.heap.size + 1 + 1 < w2.heap.size := HC2.out.lt
    clear hx3 p0 p1 p2 q0 q1 q2 r0 r1 HC0 HC1 HC2 HA1 HX1
    generalize World.alloc w2 _ = w3 at *
    generalize w2.heap.size = z at *
    simp only [if_true] at HE
    go_loop [12] (fun i => i = .int .i64 0) (fun _ => 0)
    case atStart => rfl
    case round =>
      obtain rfl := hrel
      obtain ⟨p0, p1, p2⟩ := HD0.out.read2
      obtain ⟨q0, q1, q2⟩ := HD1.out.read2
      obtain ⟨s0, s1, s2⟩ := HD3.out.read2
      have hj : m = 0 ∨ 0 < m := by omega
      rcases hj with rfl | hj
      · go_wp2_with (go_at_call 57; refine stop_here ?_)
        refine stop_on ?_
        refine (HSET.out _ l _ k _ hlt HA3.out HX3.out).mono ?_
        rintro e w9 ⟨S9, d9, rfl, hs9, hx9⟩
        have HX9 := Lib.hid (HX3.out.trans hx9)
        have HB9 := Lib.hid (HD2.out.ext hx9)
        have HS9 := Lib.hid hs9
        clear hs9 hx9 p0 p1 p2 q0 q1 q2 s0 s1 s2
        obtain ⟨t0, t1, t2⟩ := HB9.out.read2
        obtain ⟨y0, y1⟩ := HB9.out.free2
        go_wp2_with fail
        refine ret2_cell (k := w.heap.size + 1 + 1) (x := .slice S9 n d9) (y := .int .i64 keep) (v := .tuple #[.agg #[.slice S9 n d9, .int .i64 keep], .int .i64 k, .int .i64 0]) ?hb5 (fun r0 r1 => by simp [results, Tryz.results64, go_sem, r0, r1]) rfl ?hx5
        case hb5 => exact HB9.out.set2 _ _
        case hx5 => rw [HE.out.1, HE.out.2.1, HE.out.2.2]; exact ⟨S9, d9, rfl, HS9.out.boxed2 HB9.out _ _, HX9.out.store2 (by omega) _ _⟩
      · have d4 : decide ((0 : Int) < (m : Int)) = true := decide_eq_true (by omega)
        have d4' : decide (0 < m) = true := decide_eq_true hj
        go_wp2_with (go_at_call 57; refine stop_here ?_)
        refine stop_on ?_
        refine (HSET.out _ l _ k _ hlt HA3.out HX3.out).mono ?_
        rintro e w9 ⟨S9, d9, rfl, hs9, hx9⟩
        have HX9 := Lib.hid (HX3.out.trans hx9)
        have HB9 := Lib.hid (HD2.out.ext hx9)
        have HS9 := Lib.hid hs9
        clear hs9 hx9 p0 p1 p2 q0 q1 q2 s0 s1 s2
        obtain ⟨t0, t1, t2⟩ := HB9.out.read2
        obtain ⟨y0, y1⟩ := HB9.out.free2
        go_wp2_with fail
        refine ret2_cell (k := w.heap.size + 1 + 1) (x := .slice S9 n d9) (y := .int .i64 keep) (v := .tuple #[.agg #[.slice S9 n d9, .int .i64 keep], .int .i64 k, .int .i64 0]) ?hb6 (fun r0 r1 => by simp [results, Tryz.results64, go_sem, r0, r1]) rfl ?hx6
        case hb6 => exact HB9.out.set2 _ _
        case hx6 => rw [HE.out.1, HE.out.2.1, HE.out.2.2]; exact ⟨S9, d9, rfl, HS9.out.boxed2 HB9.out _ _, HX9.out.store2 (by omega) _ _⟩

set_option maxRecDepth 100000 in
set_option maxHeartbeats 3200000 in
theorem ref05Alloc_over (R : Option Addr) (l : List HC) (n q : Nat) (keep : Int) (A : Option Addr) (it : List It) (m c : Nat) (H : Option Addr) (held : List Int) (t d : Nat) (w : World) (hg : (ndR it && leadsC l false it) = true) (hb : n ≤ 90000) (hbd : ∀ k (hk : k < l.length), l[k].ref ≤ 8000000000000000000) (hA : HcSl w R n q l) (hm : m = it.length) (hI : Sl w A m c (ivs it)) (ht : t = held.length) (hH : Sl w H t d (held.map iv)) :
    Calls Tryz.prog 64 #[.agg #[.slice R n q, .int .i64 keep], .agg #[.bool false, .slice A m c], .slice H t d] w fun e w' => ∃ S d, e = .returned (.tuple #[.agg #[.slice S n d, .int .i64 keep], .int .i64 (allocP l false it : Nat), .int .i64 (allocE l false it)]) ∧ HcSl w' S n d (allocL l false it held) ∧ Ext w w' := by
  have HBD := Lib.hid hbd
  have HH := Lib.hid hH
  have HTT := Lib.hid ht
  clear hbd hH ht
  obtain ⟨W, hW⟩ : ∃ W, W = (((w.alloc (.cells #[.slice R n q, .int .i64 keep] 24)).alloc (.cells #[.bool false, .slice A m c] 51)).alloc (.cells #[.slice none 0 0, .int .i64 0] 24)) := ⟨_, rfl⟩
  obtain ⟨hx, hb0, hb1, hb2⟩ := allocs3 hW.symm
  have hn := hA.1
  have HN := Lib.hid hn
  have HM := Lib.hid hm
  have HX := Lib.hid hx
  have HB0 := Lib.hid hb0
  have HB1 := Lib.hid hb1
  have HB2 := Lib.hid hb2
  have HA0 := Lib.hid hA
  have HI0 := Lib.hid hI
  have HA := Lib.hid (hA.ext hx)
  have hgood := hg
  rw [Bool.and_eq_true] at hg
  have hm4 : m ≤ 4 := by have := ((ndR_iff it).1 hg.1).1; omega
  have HR := Lib.hid (fun w' (hx2 : Ext W w') => ref04Right_any false A it m c w' hm ((hI.ext hx).ext hx2))
  have HL := Lib.hid (fun w' (hx2 : Ext W w') => ref05leads_any R l n q keep false A it m c w' ((hA.ext hx).ext hx2) hm ((hI.ext hx).ext hx2))
  have HSET := Lib.hid (fun (S : Option Addr) (g : List HC) (d k : Nat) w' (hk : k < n) (hg : HcSl w' S n d g) (hx : Ext w w') => ref05set_any S g n d k keep ⟨1, false, false, it⟩ A m c w' hk hb hg hm (hI.ext hx))
  rw [hg.1] at HR
  rw [hg.2] at HL
  have HLD := Lib.hid hg.2
  have HGOOD := Lib.hid hgood
  simp only at HSET
  clear hx hA hm hI hg hn hgood
  subst hW
  obtain ⟨p0, p1, p2⟩ := hb0.read2
  obtain ⟨q0, q1, q2⟩ := hb1.read2
  clear hb0 hb1 hb2
  go_enter Tryz.func64, Tryz.ntmps64
  go_wp2_with (go_at_call 91; refine stop_here ?_)
  refine stop_on ?_
  generalize hW : World.alloc (World.alloc (World.alloc w _) _) _ = W at *
  clear hW
  refine (HR.out _ (Ext.refl _)).mono ?_
  rintro e w1 ⟨rfl, hx⟩
  have HXW := Lib.hid hx
  clear p0 p1 p2 q0 q1 q2
  obtain ⟨p0, p1, p2⟩ := (HB0.out.ext hx).read2
  obtain ⟨q0, q1, q2⟩ := (HB1.out.ext hx).read2
  clear hx
  go_wp2_with (go_at_call 92; refine stop_here ?_)
  refine stop_on ?_
  refine (HL.out _ HXW.out).mono ?_
  rintro e w2 ⟨rfl, hx2⟩
  have hx := HXW.out.trans hx2
  have HX1 := Lib.hid (HX.out.trans hx)
  have HA1 := Lib.hid (HA.out.ext hx)
  have HC0 := Lib.hid (HB0.out.ext hx)
  have HC1 := Lib.hid (HB1.out.ext hx)
  have HC2 := Lib.hid (HB2.out.ext hx)
  clear p0 p1 p2 q0 q1 q2 hx hx2 HXW HR HL HB0 HB1 HB2 HA HX
  obtain ⟨p0, p1, p2⟩ := HC0.out.read2
  obtain ⟨q0, q1, q2⟩ := HC1.out.read2
  go_wp2_with fail
  go_loop [10] (fun i => ∃ k : Nat, k ≤ n ∧ i = .int .i64 k ∧ ∀ j (hj : j < l.length), j < k → stopC l[j] = false) (fun i => n - (intOf i).toNat)
  case atStart => exact ⟨0, Nat.zero_le _, rfl, fun j hj h => by omega⟩
  case round =>
    obtain ⟨k, hk, rfl, hne⟩ := hrel
    have HNE := Lib.hid hne
    clear hne
    rcases Nat.lt_or_ge k n with hlt | hlt
    rotate_left
    · obtain rfl : n = k := by omega
      have hf := first_no (l := l) (fun j hj => HNE.out j hj (by rw [HN.out]; exact hj))
      obtain ⟨e1, e2, e3⟩ := alloc_full (held := held) HGOOD.out hf
      have HE := Lib.hid (And.intro e1 (And.intro e2 e3))
      have d0 : decide ((n : Int) < (n : Int)) = false := decide_eq_false (by omega)
      have d1 : ((n : Int) == (n : Int)) = true := by simp
      obtain ⟨t0, t1, t2⟩ := HC2.out.read2
      obtain ⟨y0, y1⟩ := HC2.out.free2
      clear hf e1 e2 e3 hlt
      go_wp2_with fail
      refine ret2_cell (k := w.heap.size + 1 + 1) (x := .slice R n q) (y := .int .i64 keep) (v := .tuple #[.agg #[.slice R n q, .int .i64 keep], .int .i64 0, .int .i64 3]) ?hb4 (fun r0 r1 => by simp [results, Tryz.results64, go_sem, r0, r1]) rfl ?hx4
      case hb4 => exact HC2.out.set2 _ _
      case hx4 => rw [HE.out.1, HE.out.2.1, HE.out.2.2]; exact ⟨R, q, rfl, HA1.out.boxed2 HC2.out _ _, HX1.out.store2 (by omega) _ _⟩
    have hkl : k < l.length := by rw [← HN.out]; exact hlt
    obtain ⟨b, off, rfl, hbl, Ac, cc, r0, r1, r2, r3, _⟩ := HA1.out.cell hkl
    have hki : (k : Int) < (n : Int) := by omega
    have d0 : decide ((k : Int) < (n : Int)) = true := decide_eq_true hki
    have d0' : decide (k < n) = true := decide_eq_true hlt
    have HK := Lib.hid (fun (h : stopC l[k] = false) => (show ∀ j (hj : j < l.length), j < k + 1 → stopC l[j] = false from fun j hj hjk => by
      rcases Nat.lt_or_ge j k with h' | h'
      · exact HNE.out j hj h'
      · obtain rfl : j = k := by omega
        exact h))
    have HFI := Lib.hid (fun (h : stopC l[k] = true) => first_at hkl HNE.out h)
    have HST := Lib.hid (show stopC l[k] = !(decide (0 < l[k].ref) || l[k].pin) from rfl)
    clear r2 r3 HNE
    generalize stopC l[k] = sc at *
    generalize l[k].ref = rf at *
    generalize l[k].pin = pn at *
    rcases Int.lt_or_le 0 rf with h1 | h1
    · have d1 : decide (0 < rf) = true := decide_eq_true h1
      have HE := Lib.hid (HK.out (by rw [HST.out, d1]; rfl))
      clear h1
      go_wp2_with fail
      go_round
      case rel => exact ⟨k + 1, by omega, by go_num, HE.out⟩
      case measure => simp [intOf]; omega
    have d1 : decide (0 < rf) = false := decide_eq_false (by omega)
    cases pn
    rotate_left
    · have HE := Lib.hid (HK.out (by rw [HST.out]; simp))
      clear h1
      go_wp2_with fail
      go_round
      case rel => exact ⟨k + 1, by omega, by go_num, HE.out⟩
      case measure => simp [intOf]; omega
    have hf := HFI.out (by rw [HST.out, d1]; rfl)
    obtain ⟨e1, e2, e3⟩ := alloc_ok (held := held) HGOOD.out hkl hf
    have HE := Lib.hid (And.intro e1 (And.intro e2 e3))
    have d2 : ((k : Int) == (n : Int)) = false := by
      have : ¬ (k : Int) = (n : Int) := by omega
      simpa using this
    clear hf e1 e2 e3 h1 HFI HK HST
    go_wp2_with fail
    have hx3 : Ext w2 (w2.alloc (.cells #[.slice (some ⟨b, off, none⟩) n q, .int .i64 keep] 24)) := (Ext.refl w2).alloc _
    have HX3 := Lib.hid (HX1.out.trans hx3)
    have HA3 := Lib.hid (HA1.out.ext hx3)
    have HD0 := Lib.hid (HC0.out.ext hx3)
    have HD1 := Lib.hid (HC1.out.ext hx3)
    have HD2 := Lib.hid (HC2.out.ext hx3)
    have HD3 := Lib.hid (Bx.new w2 #[.slice (some ⟨b, off, none⟩) n q, .int .i64 keep] 24)
    have hz : w.heap.size + 1 + 1 < w2.heap.size := HC2.out.lt
    clear hx3 p0 p1 p2 q0 q1 q2 r0 r1 HC0 HC1 HC2 HA1 HX1
    generalize World.alloc w2 _ = w3 at *
    generalize w2.heap.size = z at *
    rw [if_neg (by simp), moreL_eq] at HE
    go_loopw [12] (fun i wr => ∃ j : Nat, j ≤ m ∧ i = .int .i64 j ∧ ∃ S d, HcSl wr S n d ((it.take j).foldl (moreS held) l) ∧ Up l ((it.take j).foldl (moreS held) l) j ∧ Ext w wr ∧ Bx wr w.heap.size #[.slice (some ⟨b, off, none⟩) n q, .int .i64 keep] ∧ Bx wr (w.heap.size + 1) #[.bool false, .slice A m c] ∧ Bx wr (w.heap.size + 1 + 1) #[.slice none 0 0, .int .i64 0] ∧ Bx wr z #[.slice S n d, .int .i64 keep]) (fun i _ => m - (intOf i).toNat)
    case atStart => exact ⟨0, Nat.zero_le _, rfl, _, _, HA3.out, Up.refl l, HX3.out, HD0.out, HD1.out, HD2.out, HD3.out⟩
    case round =>
      obtain ⟨j, hj, rfl, S1, d1', hs, hup, hx, hb0, hb1, hb2, hb3⟩ := hrel
      have HS := Lib.hid hs
      have HUP := Lib.hid hup
      have HXR := Lib.hid hx
      have HE0 := Lib.hid hb0
      have HE1 := Lib.hid hb1
      have HE2 := Lib.hid hb2
      have HE3 := Lib.hid hb3
      obtain ⟨q0, q1, q2⟩ := hb1.read2
      obtain ⟨s0, s1, s2⟩ := hb3.read2
      rcases Nat.lt_or_ge j m with hlj | hlj
      · have hjl : j < it.length := by rw [← HM.out]; exact hlj
        obtain ⟨bi, oi, rfl, hbi, hc⟩ := (HI0.out.ext hx).cells.it hjl
        have hcj := (hc j hjl).2
        have hji : (j : Int) < (m : Int) := by omega
        have d4 : decide ((j : Int) < (m : Int)) = true := decide_eq_true hji
        have d4' : decide (j < m) = true := decide_eq_true hlj
        obtain ⟨kv, hkv, hVk, hpos⟩ := usedC_iff (leads_used HLD.out hjl)
        have HF := Lib.hid (foldl_take (moreS held) l hjl)
        have HIN := Lib.hid (fun w' (hx : Ext w w') => ref05In_any H held t d it[j].2 w' HTT.out (HH.out.ext hx))
        obtain ⟨g, hg⟩ : ∃ g, (it.take j).foldl (moreS held) l = g := ⟨_, rfl⟩
        rw [hg] at hup hs
        have hkg : kv < g.length := by rw [hup.1]; exact hkv
        have hrf := hup.2 kv hkv hkg
        have hbk := HBD.out kv hkv
        have HMS := Lib.hid (show ∀ h : inL held it[j].2 = false, moreS held g it[j] = g.set kv g[kv].more from fun h => by
          unfold moreS
          rw [h, hVk, Int.toNat_natCast, List.getD_eq_getElem?_getD, List.getElem?_eq_getElem hkg]; rfl)
        have HMT := Lib.hid (show ∀ h : inL held it[j].2 = true, moreS held g it[j] = g from fun h => by unfold moreS; rw [h]; rfl)
        have HMO := Lib.hid (fun w' (hx : Ext wr w') => ref05more_any S1 g n d1' kv keep w' hkg hb ⟨by omega, by omega⟩ (hs.ext hx))
        have HUM := Lib.hid (hup.more hkg)
        have HUK := Lib.hid hup.keep
        rw [hg] at HF HS
        rw [hVk] at hcj HIN
        obtain ⟨u, hu⟩ : ∃ u, inL held (kv : Int) = u := ⟨_, rfl⟩
        have hu2 : inL held it[j].2 = u := by rw [hVk]; exact hu
        rw [hu] at HIN
        cases u
        · have HNX := Lib.hid (HF.out.trans (HMS.out hu2))
          clear hs hup hx hb0 hb1 hb2 hb3 hc hu hu2 hg HMS HMT HF HUK hVk
          go_wp2_with (go_at_call 93; refine (HIN.out _ HXR.out).mono ?_; rintro e w' ⟨rfl, rfl⟩)
          go_still_tail 7, (by kernel_rfl)
          change wpList _ _ _ _ _ wr.drew
          go_wp2_with (go_at_call 59; refine stop_here ?_)
          refine stop_on ?_
          refine (HMO.out _ (Ext.refl wr).drew).mono ?_
          rintro e w4 ⟨S4, d4s, rfl, hs4, hx4⟩
          have hx5 : Ext wr w4 := (Ext.refl wr).drew.trans hx4
          have HX5 := Lib.hid (HXR.out.trans hx5)
          have HS4 := Lib.hid hs4
          have HF0 := Lib.hid (HE0.out.ext hx5)
          have HF1 := Lib.hid (HE1.out.ext hx5)
          have HF2 := Lib.hid (HE2.out.ext hx5)
          have HF3 := Lib.hid (HE3.out.ext hx5)
          clear hs4 hx4 hx5 q0 q1 q2 s0 s1 s2
          obtain ⟨s0, s1, s2⟩ := HF3.out.read2
          obtain ⟨y0, y1⟩ := HF3.out.free2
          go_wp2_with fail
          go_roundw
          case rel => exact ⟨j + 1, by omega, by go_num, S4, d4s, by rw [HNX.out]; exact HS4.out.boxed2 HF3.out _ _, by rw [HNX.out]; exact HUM.out, HX5.out.store2 (by omega) _ _, (HF0.out.set_other (p := ⟨z, 0, none⟩) (by simp; omega) _).set_other (p := ⟨z, 1, none⟩) (by simp; omega) _, (HF1.out.set_other (p := ⟨z, 0, none⟩) (by simp; omega) _).set_other (p := ⟨z, 1, none⟩) (by simp; omega) _, (HF2.out.set_other (p := ⟨z, 0, none⟩) (by simp; omega) _).set_other (p := ⟨z, 1, none⟩) (by simp; omega) _, HF3.out.set2 _ _⟩
          case measure => simp [intOf]; omega
        · have HNX := Lib.hid (HF.out.trans (HMT.out hu2))
          clear hs hup hx hb0 hb1 hb2 hb3 hc hu hu2 hg HMS HMT HF HUM HMO hVk
          go_wp2_with (go_at_call 93; refine (HIN.out _ HXR.out).mono ?_; rintro e w' ⟨rfl, rfl⟩)
          go_roundw
          case rel => exact ⟨j + 1, by omega, by go_num, S1, d1', by rw [HNX.out]; exact HS.out, by rw [HNX.out]; exact HUK.out, HXR.out, HE0.out, HE1.out, HE2.out, HE3.out⟩
          case measure => simp [intOf]; omega
      · obtain rfl : m = j := by omega
        have hfl : it.take m = it := by rw [HM.out, List.take_length]
        rw [hfl] at HS
        have d4 : decide ((m : Int) < (m : Int)) = false := decide_eq_false (by omega)
        clear hs hup hx hb0 hb1 hb2 hb3 hlj hfl
        go_wp2_with (go_at_call 57; refine stop_here ?_)
        refine stop_on ?_
        refine (HSET.out _ _ _ k _ hlt HS.out HXR.out).mono ?_
        rintro e w9 ⟨S9, d9, rfl, hs9, hx9⟩
        have HX9 := Lib.hid (HXR.out.trans hx9)
        have HB9 := Lib.hid (HE2.out.ext hx9)
        have HS9 := Lib.hid hs9
        clear hs9 hx9 q0 q1 q2 s0 s1 s2
        obtain ⟨t0, t1, t2⟩ := HB9.out.read2
        obtain ⟨y0, y1⟩ := HB9.out.free2
        go_wp2_with fail
        refine ret2_cell (k := w.heap.size + 1 + 1) (x := .slice S9 n d9) (y := .int .i64 keep) (v := .tuple #[.agg #[.slice S9 n d9, .int .i64 keep], .int .i64 k, .int .i64 0]) ?hb5 (fun r0 r1 => by simp [results, Tryz.results64, go_sem, r0, r1]) rfl ?hx5
        case hb5 => exact HB9.out.set2 _ _
        case hx5 => rw [HE.out.1, HE.out.2.1, HE.out.2.2]; exact ⟨S9, d9, rfl, HS9.out.boxed2 HB9.out _ _, HX9.out.store2 (by omega) _ _⟩
end Go.Proofs.YtbfbpddfcakieaaGreat
namespace Go.Proofs.YtbfbpddfcakieaaGreat
open Go.RowKit

def isNum (x : Int) : Bool := decide (0 ≤ x) && decide (x ≤ 2147483647)
set_option maxHeartbeats 400000 in
theorem nodeIsNumber_any (x : Int) (w : World) :
    Calls Tryz.prog 99 #[.int .i64 x] w fun e w' => e = .returned (.bool (isNum x)) ∧ w = w' := by
  unfold isNum
  by_cases h0 : 0 ≤ x
  · by_cases h1 : x ≤ 2147483647
    · have d0 : decide (0 ≤ x) = true := decide_eq_true h0
      have d1 : decide (x ≤ 2147483647) = true := decide_eq_true h1
      go_enter Tryz.func99, Tryz.ntmps99
      go_wp2
      go_ret
      exact ⟨ret_bool (by first | rfl | (rw [d0, d1]; rfl)), rfl⟩
    · have d0 : decide (0 ≤ x) = true := decide_eq_true h0
      have d1 : decide (x ≤ 2147483647) = false := decide_eq_false h1
      go_enter Tryz.func99, Tryz.ntmps99
      go_wp2
      go_ret
      exact ⟨ret_bool (by first | rfl | (rw [d0, d1]; rfl)), rfl⟩
  · have d0 : decide (0 ≤ x) = false := decide_eq_false h0
    go_enter Tryz.func99, Tryz.ntmps99
    go_wp2
    go_ret
    exact ⟨ret_bool (by first | rfl | (rw [d0]; rfl)), rfl⟩
theorem isNum_iff (x : Int) : isNum x = true ↔ 0 ≤ x ∧ x ≤ 2147483647 := by unfold isNum; simp
theorem isNum_ok {x : It} (h1 : isNum x.1 = true) (h2 : isNum x.2 = true) : okIt x := ⟨(isNum_iff _).1 h1, (isNum_iff _).1 h2⟩
theorem isNum_no {x : It} (h : isNum x.1 = false ∨ isNum x.2 = false) : ¬ okIt x := fun e => by
  have h1 := (isNum_iff _).2 e.1
  have h2 := (isNum_iff _).2 e.2
  rw [h1, h2] at h
  simp at h
set_option maxRecDepth 100000 in
set_option maxHeartbeats 800000 in
theorem nodeRight_any (leaf : Bool) (A : Option Addr) (l : List It) (n c : Nat) (w : World) (hn : n = l.length) (hA : Sl w A n c (ivs l)) :
    Calls Tryz.prog 77 #[.agg #[.bool leaf, .slice A n c]] w fun e w' => e = .returned (.bool (ndR l)) ∧ Ext w w' := by
  subst hn
  have hl := hA.len
  unfold maxLen at hl
  have HX := Lib.hid ((Ext.refl w).alloc (.cells #[.bool leaf, .slice A l.length c] 51))
  have HB := Lib.hid (Bx.new w #[.bool leaf, .slice A l.length c] 51)
  have HA := Lib.hid (hA.cells.ext HX.out)
  clear hA
  by_cases h1 : l.length < 1
  · go_enter Tryz.func77, Tryz.ntmps77
    go_wp2
    go_ret
    exact ⟨ret_bool (ndR_no (fun h => by have := h.1; omega)).symm, HX.out⟩
  by_cases h4 : 4 < l.length
  · go_enter Tryz.func77, Tryz.ntmps77
    go_wp2
    go_ret
    exact ⟨ret_bool (ndR_no (fun h => by have := h.1; omega)).symm, HX.out⟩
  go_enter Tryz.func77, Tryz.ntmps77
  go_wp2
  generalize hW : World.alloc w _ = W at *
  clear hW
  go_loopw [18] (fun i wr => ∃ k : Nat, k ≤ l.length ∧ i = .int .i64 k ∧ NdK l k ∧ Ext W wr) (fun i _ => l.length - (intOf i).toNat)
  case atStart => exact ⟨0, Nat.zero_le _, rfl, NdK.zero l, Ext.refl _⟩
  case round =>
    obtain ⟨k, hk, rfl, hnk, hx⟩ := hrel
    have HK := Lib.hid hnk
    have HXR := Lib.hid hx
    obtain ⟨b0, b1, b2⟩ := (HB.out.ext hx).read2
    clear hnk
    by_cases hlt : k < l.length
    · obtain ⟨bb, off, rfl, hbb, hc⟩ := (HA.out.ext hx).it hlt
      obtain ⟨hck, hcv⟩ := hc k hlt
      have HNO := Lib.hid (fun (h : ¬ okIt l[k]) => ndR_no (l := l) (fun e => h (e.2 k hlt).1))
      have HS := Lib.hid (fun h h2 => HK.out.succ hlt h h2)
      have HNR := Lib.hid (fun (h0 : 0 < k) (h : ¬ l[k - 1].1 < l[k].1) => ndR_no (l := l) (fun e => h ((e.2 k hlt).2 h0)))
      have HPV := Lib.hid (fun (h0 : 0 < k) (h : k - 1 < l.length) => (hc (k - 1) h).1)
      have hki : (k : Int) < (l.length : Int) := by omega
      clear hc
      generalize hq : l[k] = q at *
      clear hq
      obtain ⟨K, V⟩ := q
      simp only at hck hcv
      have HXA := Lib.hid (hx.alloc (.cells #[.int .i64 K, .int .i64 V] 46))
      have HBI := Lib.hid (Bx.new wr #[.int .i64 K, .int .i64 V] 46)
      obtain ⟨x0, x1, x2⟩ := HBI.out.read2
      have HN1 := Lib.hid (nodeIsNumber_any K)
      have HN2 := Lib.hid (nodeIsNumber_any V)
      clear hx
      cases h0 : isNum K
      · rw [h0] at HN1
        go_wp2_with (go_at_call 99; refine (HN1.out _).mono ?_; rintro e w' ⟨rfl, rfl⟩)
        go_ret
        exact ⟨ret_bool (HNO.out (isNum_no (.inl h0))).symm, HX.out.trans HXA.out⟩
      rw [h0] at HN1
      cases h5 : isNum V
      · rw [h5] at HN2
        go_wp2_with (go_at_call 99; (first | (with_reducible refine (HN1.out _).mono ?_) | (with_reducible refine (HN2.out _).mono ?_)); rintro e w' ⟨rfl, rfl⟩)
        go_ret
        exact ⟨ret_bool (HNO.out (isNum_no (.inr h5))).symm, HX.out.trans HXA.out⟩
      rw [h5] at HN2
      have HOK := Lib.hid (isNum_ok (x := (K, V)) h0 h5)
      clear h0 h5
      rcases Nat.eq_zero_or_pos k with h0 | h0
      · subst h0
        simp only [Nat.zero_mul, Nat.add_zero] at hck hcv
        have HS1 := Lib.hid (HS.out HOK.out (fun h => absurd h (by omega)))
        have d0 : decide ((0 : Int) < ((0 : Nat) : Int)) = false := decide_eq_false (by omega)
        clear HS HK HNR HPV
        go_wp2_with (go_at_call 99; (first | (with_reducible refine (HN1.out _).mono ?_) | (with_reducible refine (HN2.out _).mono ?_)); rintro e w' ⟨rfl, rfl⟩)
        go_quiet (fail)
        go_wp2
        go_roundw
        case rel => exact ⟨1, by omega, by go_num, HS1.out, HXA.out.drewN _⟩
        case measure => simp [intOf]; omega
      · obtain ⟨j, rfl⟩ : ∃ j, k = j + 1 := ⟨k - 1, by omega⟩
        have hj := HPV.out h0 (by omega)
        have HNR2 := Lib.hid (HNR.out h0)
        simp only [Nat.add_sub_cancel] at hj HNR2
        have hj9 : j < l.length := by omega
        have HS2 := Lib.hid (show l[j].1 < K → NdK l (j + 1 + 1) from fun h => HS.out HOK.out (fun _ => h))
        clear HS HK HNR HPV
        have hj1 : (wr.alloc (.cells #[.int .i64 K, .int .i64 V] 46)).cell? ⟨bb, off + j * 2, none⟩ = some (.int .i64 l[j].1) := by
          exact (((Ext.refl wr).alloc _).cell (p := ⟨bb, off + j * 2, none⟩) (World.block_lt_of_cell? _ _ hj)).trans hj
        generalize l[j].1 = PK at *
        have hk0 : decide ((0 : Int) < ((j + 1 : Nat) : Int)) = true := decide_eq_true (by omega)
        have e1 : ((j + 1 : Nat) : Int) - 1 = (j : Int) := by omega
        have e2 : (j : Int) < (l.length : Int) := by omega
        rcases Decidable.em (K ≤ PK) with hp | hp
        · have HE := Lib.hid (HNR2.out (by omega))
          have hp' : decide (K ≤ PK) = true := decide_eq_true hp
          clear hp
          go_wp2_with (go_at_call 99; (first | (with_reducible refine (HN1.out _).mono ?_) | (with_reducible refine (HN2.out _).mono ?_)); rintro e w' ⟨rfl, rfl⟩)
          go_quiet (fail)
          go_wp2
          go_ret
          exact ⟨ret_bool HE.out.symm, HX.out.trans (HXA.out.drewN _)⟩
        · have hp' : decide (K ≤ PK) = false := decide_eq_false hp
          have HE := Lib.hid (HS2.out (by omega))
          clear hp
          go_wp2_with (go_at_call 99; (first | (with_reducible refine (HN1.out _).mono ?_) | (with_reducible refine (HN2.out _).mono ?_)); rintro e w' ⟨rfl, rfl⟩)
          go_quiet (fail)
          go_wp2
          go_roundw
          case rel => exact ⟨j + 1 + 1, by omega, by go_num, HE.out, HXA.out.drewN _⟩
          case measure => simp [intOf]; omega
    · obtain rfl : k = l.length := by omega
      have HE := Lib.hid ((ndR_iff l).2 (HK.out.all (by omega)))
      clear hx
      go_wp2
      go_ret
      exact ⟨ret_bool HE.out.symm, HX.out.trans HXR.out⟩
end Go.Proofs.YtbfbpddfcakieaaGreat
