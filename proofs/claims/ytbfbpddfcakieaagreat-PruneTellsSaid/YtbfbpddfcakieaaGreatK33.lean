/- The contract of Del of package prune. The contract of Del of package prune, whole. Items taken out one by one: the plain theory. -/
import Derived.Test.YtbfbpddfcakieaaGreatK31
import Derived.Test.YtbfbpddfcakieaaGreatK32
import Derived.Test.YtbfbpddfcakieaaGreatK27
namespace Go.Proofs.YtbfbpddfcakieaaGreat
open Go.RowKit
attribute [local go_sem ↓] Go.wp_at_zero Go.wp_at_succ

theorem pruneGet_any (R : Option Addr) (l : List HC) (n q : Nat) (keep keep' p key : Int) (w : World) (hl : AllR l) (hn : l.length ≤ 2000) (hr : rightR ⟨l, keep'⟩ p = true) (hA : HcSl w R n q l) :
    Calls Tryz.prog 20 #[.agg #[.slice R n q, .int .i64 keep], .int .i64 p, .int .i64 key] w fun e w' => e = .returned (.tuple #[.int .i64 (getV (getT l p key)), .int .i64 (getE (getT l p key))]) ∧ Ext w w' :=
  callsIn_wide.1 (get_in R l n q keep keep' p key w hl hn hr hA)
set_option maxRecDepth 100000 in
set_option maxHeartbeats 3200000 in
theorem pdel_walk_none (R : Option Addr) (c : List HC) (n q : Nat) (keep root key : Int) (w : World) (hl : AllR c) (hn : c.length ≤ 2000) (hr : rightR ⟨c, keep⟩ root = true) (hg : getT c root key = none) (hA : HcSl w R n q c) :
    Calls Tryz.prog 6 #[.agg #[.slice R n q, .int .i64 keep], .int .i64 root, .int .i64 key] w fun e w' => ∃ S d, e = .returned (.tuple #[.agg #[.slice S n d, .int .i64 keep], .int .i64 root, .int .i64 4]) ∧ HcSl w' S n d c ∧ Ext w w' := by
  obtain ⟨W, hW⟩ : ∃ W, W = (w.alloc (.cells #[.slice R n q, .int .i64 keep] 24)).alloc (.cells #[.slice none 0 0, .int .i64 0] 24) := ⟨_, rfl⟩
  obtain ⟨hx, hb0, hb1⟩ := allocs2 hW.symm
  have HX := Lib.hid hx
  have HB0 := Lib.hid hb0
  have HB1 := Lib.hid hb1
  have HA := Lib.hid hA
  have HG := Lib.hid (fun w' (hx : Ext w w') => pruneGet_any R c n q keep keep root key w' hl hn hr (hA.ext hx))
  obtain ⟨ge, hge⟩ : ∃ ge, getE (getT c root key) = ge := ⟨_, rfl⟩
  have hz : (ge != 0) = true := by rw [← hge, hg]; rfl
  have hge4 : ge = 4 := by rw [← hge, hg]; rfl
  rw [hge] at HG
  obtain ⟨p0, p1, p2⟩ := hb0.read2
  clear hx hb0 hb1 hA hl hn hr hg hge
  subst hge4
  subst hW
  go_enter Tryz.func6, Tryz.ntmps6
  go_wp2_with (go_at_call 20; refine stop_here ?_)
  refine stop_on ?_
  generalize hW : World.alloc (World.alloc w _) _ = W at *
  clear hW
  refine (HG.out _ HX.out).mono ?_
  rintro e w1 ⟨rfl, hx1⟩
  have HX1 := Lib.hid (HX.out.trans hx1)
  have HB2 := Lib.hid (HB0.out.ext hx1)
  have HT := Lib.hid (HB1.out.ext hx1)
  clear p0 p1 p2
  obtain ⟨p0, p1, p2⟩ := HB2.out.read2
  obtain ⟨t0, t1, t2⟩ := HT.out.read2
  obtain ⟨f0, f1⟩ := HT.out.free2
  clear hx1
  go_wp2_with fail
  refine ret2_cell (k := w.heap.size + 1) (x := .slice R n q) (y := .int .i64 keep) (v := .tuple #[.agg #[.slice R n q, .int .i64 keep], .int .i64 root, .int .i64 4]) ?hb4 (fun r0 r1 => by simp [results, Tryz.results6, go_sem, r0, r1]) rfl ?hx4
  case hb4 => exact HT.out.set2 _ _
  case hx4 => exact ⟨R, q, rfl, (HA.out.ext HX1.out).boxed2 HT.out _ _, HX1.out.store2 (by omega) _ _⟩
set_option maxRecDepth 100000 in
set_option maxHeartbeats 3200000 in
theorem pdel_walk_full (R : Option Addr) (c : List HC) (n q : Nat) (keep root key : Int) (w : World) (hM : mayH ⟨c, keep⟩ 60 = true) (hl : AllR c) (hn : c.length ≤ 2000) (hr : rightR ⟨c, keep⟩ root = true) (hg : getT c root key ≠ none) (hf : fitsH ⟨c, keep⟩ (highT c root) true = false) (hA : HcSl w R n q c) :
    Calls Tryz.prog 6 #[.agg #[.slice R n q, .int .i64 keep], .int .i64 root, .int .i64 key] w fun e w' => ∃ S d, e = .returned (.tuple #[.agg #[.slice S n d, .int .i64 keep], .int .i64 root, .int .i64 3]) ∧ HcSl w' S n d c ∧ Ext w w' := by
  obtain ⟨W, hW⟩ : ∃ W, W = (w.alloc (.cells #[.slice R n q, .int .i64 keep] 24)).alloc (.cells #[.slice none 0 0, .int .i64 0] 24) := ⟨_, rfl⟩
  obtain ⟨hx, hb0, hb1⟩ := allocs2 hW.symm
  have HX := Lib.hid hx
  have HB0 := Lib.hid hb0
  have HB1 := Lib.hid hb1
  have HA := Lib.hid hA
  have HG := Lib.hid (fun w' (hx : Ext w w') => pruneGet_any R c n q keep keep root key w' hl hn hr (hA.ext hx))
  have HH := Lib.hid (fun w' (hx : Ext w w') => pruneHigh_any R c n q keep keep root w' hl hn hr (hA.ext hx))
  have HF := Lib.hid (fun w' (hx : Ext w w') => heapFits_any R c n q keep w' (highT c root) true hM (hA.ext hx))
  rw [hf] at HF
  obtain ⟨ge, hge⟩ : ∃ ge, getE (getT c root key) = ge := ⟨_, rfl⟩
  have hz : (ge != 0) = false := by
    rw [← hge]
    cases h : getT c root key with
    | none => exact absurd h hg
    | some v => rfl
  rw [hge] at HG
  obtain ⟨p0, p1, p2⟩ := hb0.read2
  clear hx hb0 hb1 hA hl hn hr hg hge hf hM
  generalize highT c root = hi at *
  subst hW
  go_enter Tryz.func6, Tryz.ntmps6
  go_wp2_with (go_at_call 20; refine stop_here ?_)
  refine stop_on ?_
  generalize hW : World.alloc (World.alloc w _) _ = W at *
  clear hW
  refine (HG.out _ HX.out).mono ?_
  rintro e w1 ⟨rfl, hx1⟩
  have HX1 := Lib.hid (HX.out.trans hx1)
  have HB2 := Lib.hid (HB0.out.ext hx1)
  have HT := Lib.hid (HB1.out.ext hx1)
  clear p0 p1 p2
  obtain ⟨p0, p1, p2⟩ := HB2.out.read2
  have EC := Lib.hid (Ext.refl w1)
  clear hx1
  go_wp2_with fail
  go_region_law
    (first
      | ((go_simp
          go_at_call 22
          refine (HH.out _ (HX1.out.trans ?_)).mono ?_
          (first | exact EC.out | exact EC.out.drew)
          rintro e wa ⟨rfl, hxa⟩
          have EC := Lib.hid (show Ext w1 wa from by first | exact EC.out.trans hxa | exact EC.out.drew.trans hxa)
          obtain ⟨p0, p1, p2⟩ := (HB2.out.ext EC.out).read2
          clear hxa))
      | ((go_simp
          go_at_call 21
          refine (HF.out _ (HX1.out.trans EC.out)).mono ?_
          rintro e wb ⟨rfl, hxb⟩
          have EC := Lib.hid (EC.out.trans hxb)
          obtain ⟨p0, p1, p2⟩ := (HB2.out.ext EC.out).read2
          obtain ⟨t0, t1, t2⟩ := (HT.out.ext EC.out).read2
          obtain ⟨f0, f1⟩ := (HT.out.ext EC.out).free2
          clear hxb)))
  all_goals
    have HT5 := Lib.hid (HT.out.ext EC.out)
    have HX5 := Lib.hid (HX1.out.trans EC.out)
    go_wp2_with fail
    refine ret2_cell (k := w.heap.size + 1) (x := .slice R n q) (y := .int .i64 keep) (v := .tuple #[.agg #[.slice R n q, .int .i64 keep], .int .i64 root, .int .i64 3]) ?hb4 (fun r0 r1 => by simp [results, Tryz.results6, go_sem, r0, r1]) rfl ?hx4
    case hb4 => exact HT5.out.set2 _ _
    case hx4 => exact ⟨R, q, rfl, (HA.out.ext HX5.out).boxed2 HT5.out _ _, HX5.out.store2 (by omega) _ _⟩
set_option maxRecDepth 100000 in
set_option maxHeartbeats 3200000 in
theorem pdel_walk_go (R : Option Addr) (c : List HC) (n q : Nat) (keep root key : Int) (w : World) (hM : mayH ⟨c, keep⟩ 60 = true) (hl : AllR c) (hn : c.length ≤ 2000) (hr : rightR ⟨c, keep⟩ root = true) (hg : getT c root key ≠ none) (hf : fitsH ⟨c, keep⟩ (highT c root) true = true) (c2 c3 c4 : List HC) (top rt : Int)
    (hwi : ∀ w', Ext w w' → Calls Tryz.prog 23 #[.agg #[.slice R n q, .int .i64 keep], .int .i64 root, .int .i64 key] w' fun e w2 => ∃ S d, e = .returned (.tuple #[.agg #[.slice S n d, .int .i64 keep], .int .i64 top, .int .i64 0]) ∧ HcSl w2 S n d c2 ∧ Ext w' w2)
    (hlo : ∀ w' S d, HcSl w' S n d c2 → Calls Tryz.prog 8 #[.agg #[.slice S n d, .int .i64 keep], .int .i64 top] w' fun e w2 => ∃ S' d', e = .returned (.tuple #[.agg #[.slice S' n d', .int .i64 keep], .int .i64 rt]) ∧ HcSl w2 S' n d' c3 ∧ Ext w' w2)
    (hls : ∀ w' S d, HcSl w' S n d c3 → Calls Tryz.prog 24 #[.agg #[.slice S n d, .int .i64 keep], .int .i64 root] w' fun e w2 => ∃ S' d', e = .returned (.tuple #[.agg #[.slice S' n d', .int .i64 keep], .int .i64 0]) ∧ HcSl w2 S' n d' c4 ∧ Ext w' w2) (hA : HcSl w R n q c) :
    Calls Tryz.prog 6 #[.agg #[.slice R n q, .int .i64 keep], .int .i64 root, .int .i64 key] w fun e w' => ∃ S d, e = .returned (.tuple #[.agg #[.slice S n d, .int .i64 keep], .int .i64 rt, .int .i64 0]) ∧ HcSl w' S n d c4 ∧ Ext w w' := by
  obtain ⟨W, hW⟩ : ∃ W, W = (w.alloc (.cells #[.slice R n q, .int .i64 keep] 24)).alloc (.cells #[.slice none 0 0, .int .i64 0] 24) := ⟨_, rfl⟩
  obtain ⟨hx, hb0, hb1⟩ := allocs2 hW.symm
  have HX := Lib.hid hx
  have HB0 := Lib.hid hb0
  have HB1 := Lib.hid hb1
  have HA := Lib.hid hA
  have HG := Lib.hid (fun w' (hx : Ext w w') => pruneGet_any R c n q keep keep root key w' hl hn hr (hA.ext hx))
  have HH := Lib.hid (fun w' (hx : Ext w w') => pruneHigh_any R c n q keep keep root w' hl hn hr (hA.ext hx))
  have HF := Lib.hid (fun w' (hx : Ext w w') => heapFits_any R c n q keep w' (highT c root) true hM (hA.ext hx))
  rw [hf] at HF
  have HWI := Lib.hid hwi
  have HLO := Lib.hid hlo
  have HLS := Lib.hid hls
  obtain ⟨ge, hge⟩ : ∃ ge, getE (getT c root key) = ge := ⟨_, rfl⟩
  have hz : (ge != 0) = false := by
    rw [← hge]
    cases h : getT c root key with
    | none => exact absurd h hg
    | some v => rfl
  rw [hge] at HG
  obtain ⟨p0, p1, p2⟩ := hb0.read2
  clear hx hb0 hb1 hA hl hn hr hg hge hf hM hwi hlo hls
  generalize highT c root = hi at *
  subst hW
  go_enter Tryz.func6, Tryz.ntmps6
  go_wp2_with (go_at_call 20; refine stop_here ?_)
  refine stop_on ?_
  generalize hW : World.alloc (World.alloc w _) _ = W at *
  clear hW
  refine (HG.out _ HX.out).mono ?_
  rintro e w1 ⟨rfl, hx1⟩
  have HX1 := Lib.hid (HX.out.trans hx1)
  have HB2 := Lib.hid (HB0.out.ext hx1)
  have HT := Lib.hid (HB1.out.ext hx1)
  clear p0 p1 p2
  obtain ⟨p0, p1, p2⟩ := HB2.out.read2
  have EC := Lib.hid (Ext.refl w1)
  clear hx1
  go_wp2_with fail
  go_region_law
    (first
      | ((go_simp
          go_at_call 22
          refine (HH.out _ (HX1.out.trans ?_)).mono ?_
          (first | exact EC.out | exact EC.out.drew)
          rintro e wa ⟨rfl, hxa⟩
          have EC := Lib.hid (show Ext w1 wa from by first | exact EC.out.trans hxa | exact EC.out.drew.trans hxa)
          obtain ⟨p0, p1, p2⟩ := (HB2.out.ext EC.out).read2
          clear hxa))
      | ((go_simp
          go_at_call 21
          refine (HF.out _ (HX1.out.trans EC.out)).mono ?_
          rintro e wb ⟨rfl, hxb⟩
          have EC := Lib.hid (EC.out.trans hxb)
          obtain ⟨p0, p1, p2⟩ := (HB2.out.ext EC.out).read2
          clear hxb)))
  all_goals
    have HT5 := Lib.hid (HT.out.ext EC.out)
    have HX5 := Lib.hid (HX1.out.trans EC.out)
    go_wp2_with (go_at_call 23; refine stop_here ?_)
    refine stop_on ?_
    refine (HWI.out _ HX5.out).mono ?_
    rintro e w6 ⟨S6, d6, rfl, hs6, hx6⟩
    have hx7 := (Ext.refl w6).alloc (.cells #[.slice S6 n d6, .int .i64 keep] 24)
    have hb7 := Bx.new w6 #[.slice S6 n d6, .int .i64 keep] 24
    have HX7 := Lib.hid ((HX5.out.trans hx6).trans hx7)
    have HT7 := Lib.hid ((HT5.out.ext hx6).ext hx7)
    have HS7 := Lib.hid (hs6.ext hx7)
    have hlt7 := (HT5.out.ext hx6).lt
    obtain ⟨X, hX⟩ : ∃ X, w6.heap.size = X := ⟨_, rfl⟩
    rw [hX] at hb7 hlt7
    have HB7 := Lib.hid hb7
    have HLT := Lib.hid hlt7
    obtain ⟨x0, x1, x2⟩ := hb7.read2
    clear hs6 hx6 hx7 p0 p1 p2 hb7 hlt7
    go_wp2_with (go_at_call 8; refine stop_here ?_)
    refine stop_on ?_
    generalize hW7 : World.alloc w6 _ = W7 at *
    clear hW7 hX
    refine (HLO.out _ _ _ HS7.out).mono ?_
    rintro e w7 ⟨S7, d7, rfl, hs7, hx7⟩
    have hwX : w.heap.size ≤ X := by have := HLT.out; omega
    have hbx := HB7.out.ext hx7
    have HX8 := Lib.hid ((HX7.out.trans hx7).store2 (k := X) hwX (.slice S7 n d7) (.int .i64 keep))
    have HB8 := Lib.hid (hbx.set2 (.slice S7 n d7) (.int .i64 keep))
    have HT8 := Lib.hid (((HT7.out.ext hx7).set_other (p := ⟨X, 0, none⟩) (show X ≠ w.heap.size + 1 by have := HLT.out; omega) (.slice S7 n d7)).set_other (p := ⟨X, 1, none⟩) (show X ≠ w.heap.size + 1 by have := HLT.out; omega) (.int .i64 keep))
    have HS8 := Lib.hid (hs7.boxed2 hbx (.slice S7 n d7) (.int .i64 keep))
    clear x0 x1 x2 hs7 hx7
    obtain ⟨x0, x1, x2⟩ := hbx.read2
    obtain ⟨xf0, xf1⟩ := hbx.free2
    clear hbx
    go_wp2_with (go_at_call 24; refine stop_here ?_)
    refine stop_on ?_
    generalize hWs : World.setCell (World.setCell w7 _ _) _ _ = Ws at *
    clear hWs
    refine (HLS.out _ _ _ HS8.out).mono ?_
    rintro e w8 ⟨S9, d9, rfl, hs9, hx9⟩
    have hby := HB8.out.ext hx9
    have HXA := Lib.hid ((HX8.out.trans hx9).store2 (k := X) hwX (.slice S9 n d9) (.int .i64 keep))
    have HBA := Lib.hid (hby.set2 (.slice S9 n d9) (.int .i64 keep))
    have HTA := Lib.hid (((HT8.out.ext hx9).set_other (p := ⟨X, 0, none⟩) (show X ≠ w.heap.size + 1 by have := HLT.out; omega) (.slice S9 n d9)).set_other (p := ⟨X, 1, none⟩) (show X ≠ w.heap.size + 1 by have := HLT.out; omega) (.int .i64 keep))
    have HSA := Lib.hid (hs9.boxed2 hby (.slice S9 n d9) (.int .i64 keep))
    have HNE := Lib.hid (show w.heap.size + 1 ≠ X by have := HLT.out; omega)
    clear x0 x1 x2 xf0 xf1 hs9
    obtain ⟨x0, x1, x2⟩ := hby.read2
    obtain ⟨xf0, xf1⟩ := hby.free2
    obtain ⟨t0, t1, t2⟩ := (HT8.out.ext hx9).read2
    obtain ⟨f0, f1⟩ := (HT8.out.ext hx9).free2
    have hne1 : w.heap.size + 1 ≠ X := HNE.out
    have hne2 : X ≠ w.heap.size + 1 := Ne.symm HNE.out
    clear hby hx9
    go_wp2_with fail
    refine ret2_cell (k := w.heap.size + 1) (x := .slice S9 n d9) (y := .int .i64 keep) (v := .tuple #[.agg #[.slice S9 n d9, .int .i64 keep], .int .i64 rt, .int .i64 0]) ?hb4 (fun r0 r1 => by simp [results, Tryz.results6, go_sem, r0, r1]) rfl ?hx4
    case hb4 => exact HTA.out.set2 _ _
    case hx4 => exact ⟨S9, d9, rfl, HSA.out.boxed2 HTA.out _ _, HXA.out.store2 (by omega) _ _⟩
set_option maxRecDepth 100000 in
set_option maxHeartbeats 1600000 in
/-- Of no tree. -/
theorem pruneLow_none (R : Option Addr) (c : List HC) (n q : Nat) (keep : Int) (w : World) (hl : AllR c) (hn : c.length ≤ 2000) (hA : HcSl w R n q c) :
    Calls Tryz.prog 8 #[.agg #[.slice R n q, .int .i64 keep], .int .i64 (-1)] w fun e w' => ∃ S d, e = .returned (.tuple #[.agg #[.slice S n d, .int .i64 keep], .int .i64 (-1)]) ∧ HcSl w' S n d c ∧ Ext w w' := by
  obtain ⟨W, hW⟩ : ∃ W, W = (w.alloc (.cells #[.slice R n q, .int .i64 keep] 24)).alloc (.cells #[.slice none 0 0, .int .i64 0] 24) := ⟨_, rfl⟩
  obtain ⟨hx, hb0, hb2⟩ := allocs2 hW.symm
  have HX := Lib.hid hx
  have HB0 := Lib.hid hb0
  have HB2 := Lib.hid hb2
  have HA := Lib.hid hA
  have hhi : highT c (-1) = 0 := by unfold highT; rw [if_pos (by omega)]
  have HHI := Lib.hid (fun w' (hx : Ext w w') => show Calls Tryz.prog 22 #[.agg #[.slice R n q, .int .i64 keep], .int .i64 (-1)] w' fun e w2 => e = .returned (.int .i64 0) ∧ Ext w' w2 from by
    have h := pruneHigh_any R c n q keep keep (-1) w' hl hn (by unfold rightR; simp) (hA.ext hx)
    rw [hhi] at h
    exact h)
  obtain ⟨p0, p1, p2⟩ := hb0.read2
  clear hx hb0 hb2 hA hn hl hhi
  subst hW
  go_enter Tryz.func8, Tryz.ntmps8
  go_wp2
  refine wp_scope_jumps 0 (fun _ _ => False) (fun _ _ => 0) rfl ?_ ?_
  · go_wp2_with (go_at_call 22; refine stop_here ?_)
    refine stop_on ?_
    generalize hW : World.alloc (World.alloc w _) _ = W at *
    clear hW
    refine (HHI.out _ HX.out).mono ?_
    rintro e wr ⟨rfl, hx1⟩
    have HXR := Lib.hid (HX.out.trans hx1)
    have HBX := Lib.hid (HB0.out.ext hx1)
    have HT := Lib.hid (HB2.out.ext hx1)
    clear hx1 p0 p1 p2
    obtain ⟨p0, p1, p2⟩ := HBX.out.read2
    obtain ⟨t0, t1, t2⟩ := HT.out.read2
    obtain ⟨t3, t4⟩ := HT.out.free2
    go_wp2
    go_step3
    go_wp2_with fail
    simp only [Exit.jump]
    refine ret2_cell (k := w.heap.size + 1) (x := .slice R n q) (y := .int .i64 keep) (v := .tuple #[.agg #[.slice R n q, .int .i64 keep], .int .i64 (-1)]) ?hb4 (fun r0 r1 => by simp [results, Tryz.results8, go_sem, r0, r1]) rfl ?hx4
    case hb4 => exact HT.out.set2 _ _
    case hx4 => exact ⟨R, q, rfl, (HA.out.ext HXR.out).boxed2 HT.out _ _, HXR.out.store2 (by omega) _ _⟩
  · intro _ _ h
    exact h.elim
end Go.Proofs.YtbfbpddfcakieaaGreat
namespace Go.Proofs.YtbfbpddfcakieaaGreat
open Go.RowKit

theorem may_most {h : Hp} {m m' : Int} (hm : m ≤ m') (hM : mayH h m = true) : mayH h m' = true := by
  unfold mayH smallH at hM ⊢
  simp only [Bool.and_eq_true, decide_eq_true_eq] at hM ⊢
  exact ⟨⟨by omega, hM.1.2⟩, hM.2⟩
/-- A tree that is asked to give a key that it has. -/
theorem del_facts {c : List HC} {keep root key most : Int} (hm : mayT ⟨c, keep⟩ root most = true) (hg : getT c root key ≠ none) (hf : fitsH ⟨c, keep⟩ (highT c root) true = true) :
    rightH ⟨c, keep⟩ = true ∧ (∀ k (hk : k < c.length), c[k].ref ≤ 1000000) ∧ 0 ≤ root ∧ root < c.length ∧ (bel c 20 root).is = true ∧ (bel c 20 root).high ≤ (c.countP freeC : Nat) ∧ ∃ z ∈ listB c 20 root, z.1 = key := by
  unfold mayT at hm
  rw [Bool.and_eq_true] at hm
  obtain ⟨hM, hrr⟩ := hm
  obtain ⟨m1, m2, m3⟩ := may_iff hM
  have hin : ∃ z ∈ listT c root, z.1 = key := by
    unfold getT at hg
    cases h : (listT c root).find? (fun x => decide (x.1 = key)) with
    | none => rw [h] at hg; exact absurd rfl hg
    | some z => exact ⟨z, List.mem_of_find?_eq_some h, by simpa using List.find?_some h⟩
  have h0 : 0 ≤ root := by
    rcases Int.lt_or_le root 0 with h | h
    · obtain ⟨z, hz, _⟩ := hin
      unfold listT at hz
      rw [if_pos h] at hz
      cases hz
    · exact h
  obtain ⟨-, h1, hb⟩ := (rightR_iff hrr).resolve_left (by omega)
  have hT : highT c root = (bel c 20 root).high := by unfold highT; rw [if_neg (by omega)]
  have hL : listT c root = listB c 20 root := by unfold listT; rw [if_neg (by omega)]
  rw [hL] at hin
  refine ⟨m3, fun k hk => (m2 k hk).2, h0, h1, hb, ?_, hin⟩
  unfold fitsH freeH at hf
  rw [decide_eq_true_eq, hT] at hf
  simpa using hf
theorem loose_zero {c : List HC} {keep p : Int} (h : usedC c p = true) : looseE ⟨c, keep⟩ p = 0 := by unfold looseE usedH; rw [if_pos h]
/-- P10.2. -/
theorem pruneDel_any (R : Option Addr) (c : List HC) (n q : Nat) (keep root key most : Int) (w : World) (hmost : most ≤ 60) (hm : mayT ⟨c, keep⟩ root most = true) (hA : HcSl w R n q c) :
    Calls Tryz.prog 6 #[.agg #[.slice R n q, .int .i64 keep], .int .i64 root, .int .i64 key] w fun e w' => ∃ S d, e = .returned (.tuple #[.agg #[.slice S n d, .int .i64 keep], .int .i64 (delR ⟨c, keep⟩ root key).2.1, .int .i64 (delR ⟨c, keep⟩ root key).2.2]) ∧ HcSl w' S n d (delR ⟨c, keep⟩ root key).1 ∧ Ext w w' := by
  have hm' := hm
  unfold mayT at hm'
  rw [Bool.and_eq_true] at hm'
  obtain ⟨hM, hrr⟩ := hm'
  obtain ⟨m1, m2, m3⟩ := may_iff hM
  have hal := allR_of m3
  have hn2 := (rightH_iff m3).1.1.2
  have hn2' : c.length ≤ 2000 := hn2
  unfold delR
  by_cases hg : getT c root key = none
  · rw [if_pos hg]
    exact pdel_walk_none R c n q keep root key w hal hn2' hrr hg hA
  rw [if_neg hg]
  by_cases hf : fitsH ⟨c, keep⟩ (highT c root) true = false
  · rw [if_pos hf]
    exact pdel_walk_full R c n q keep root key w (may_most hmost hM) hal hn2' hrr hg hf hA
  rw [if_neg hf]
  have hf' : fitsH ⟨c, keep⟩ (highT c root) true = true := by simpa using hf
  obtain ⟨-, hs, h0, h1, hb, hfr, hin⟩ := del_facts hm hg hf'
  obtain ⟨d1, d2, d3, d4, d5, d6⟩ := del_loose m3 hs h0 h1 hb hfr hin
  unfold delG
  by_cases hl : (delS 20 c root key).2.length = 0
  · rw [if_pos hl]
    simp only
    refine pdel_walk_go R c n q keep root key w (may_most hmost hM) hal hn2' hrr hg hf' (delS 20 c root key).1 (delS 20 c root key).1 _ (-1) (-1) (fun w' hx => ?_) (fun w' S d hS => pruneLow_none S _ n d keep w' (allR_of d1) (by rw [d2]; exact hn2') hS) (fun w' S d hS => ?_) hA
    · have h := pruneWithout_any c root key 0 R n q w' m3 hs h0 h1 hb hin hfr (hA.ext hx)
      rw [if_pos hl] at h
      exact h
    · have h := heapLoose_is S _ n d keep root w' d1 (fun j hj => by have := d3 j hj; omega) hS
      rw [loose_zero d4, d2] at h
      exact h
  · rw [if_neg hl]
    obtain ⟨y, hy⟩ : ∃ y, (delS 20 c root key).2 = [y] := by
      match h : (delS 20 c root key).2, hl, d5 with
      | [y], _, _ => exact ⟨y, rfl⟩
    have hyg : ((delS 20 c root key).2.getD 0 (0, 0)) = y := by rw [hy]; rfl
    obtain ⟨y0, y1, y2, y3, y4, y5, y6, y7⟩ := d6 y hy
    rw [hyg]
    simp only
    refine pdel_walk_go R c n q keep root key w (may_most hmost hM) hal hn2' hrr hg hf' (delS 20 c root key).1 (lowS 20 (delS 20 c root key).1 y.2).1 _ y.2 (lowS 20 (delS 20 c root key).1 y.2).2 (fun w' hx => ?_) (fun w' S d hS => ?_) (fun w' S d hS => ?_) hA
    · have h := pruneWithout_any c root key 0 R n q w' m3 hs h0 h1 hb hin hfr (hA.ext hx)
      rw [if_neg hl, hyg] at h
      exact h
    · obtain ⟨k, hk⟩ := Int.eq_ofNat_of_zero_le y0
      rw [hk] at y1 y2 y3 ⊢
      have hbh := bel_high (delS 20 c root key).1 20 (k : Int)
      exact pruneLow_right 20 _ k S n d keep w' ⟨(bel (delS 20 c root key).1 20 (k : Int)).high.toNat, d1, fun j hj => by have := d3 j hj; omega, by omega, by rw [d2]; omega, y2, by rw [Int.toNat_of_nonneg hbh.1], by omega, rfl, rfl⟩ hS
    · have h := heapLoose_is S _ n d keep root w' y4 (fun j hj => by have := y6 j hj; omega) hS
      rw [loose_zero y7, y5] at h
      exact h
/-- P10.1, of right trees, and of no tree. -/
theorem pruneLow_any (R : Option Addr) (c : List HC) (n q : Nat) (keep root most : Int) (w : World) (hm : mayT ⟨c, keep⟩ root most = true) (hA : HcSl w R n q c) :
    Calls Tryz.prog 8 #[.agg #[.slice R n q, .int .i64 keep], .int .i64 root] w fun e w' => ∃ S d, e = .returned (.tuple #[.agg #[.slice S n d, .int .i64 keep], .int .i64 (lowS 20 c root).2]) ∧ HcSl w' S n d (lowS 20 c root).1 ∧ Ext w w' := by
  unfold mayT at hm
  rw [Bool.and_eq_true] at hm
  obtain ⟨hM, hrr⟩ := hm
  obtain ⟨m1, m2, m3⟩ := may_iff hM
  have hal := allR_of m3
  have hn2 : c.length ≤ 2000 := (rightH_iff m3).1.1.2
  rcases rightR_iff hrr with h | ⟨h0, h1, h2⟩
  · have h' : root = -1 := by
      unfold rightR at hrr
      rw [show usedH ⟨c, keep⟩ root = false from usedC_neg h, Bool.false_and, Bool.or_false, decide_eq_true_eq] at hrr
      exact hrr
    subst h'
    rw [lowS, if_pos (by omega)]
    exact pruneLow_none R c n q keep w hal hn2 hA
  · obtain ⟨k, rfl⟩ := Int.eq_ofNat_of_zero_le h0
    have hbh := bel_high c 20 (k : Int)
    exact pruneLow_right 20 c k R n q keep w ⟨(bel c 20 (k : Int)).high.toNat, m3, fun j hj => by have := (m2 j hj).2; omega, by omega, by have h1' : (k : Int) < c.length := h1; omega, h2, by rw [Int.toNat_of_nonneg hbh.1], by omega, rfl, rfl⟩ hA
end Go.Proofs.YtbfbpddfcakieaaGreat
namespace Go.Proofs.YtbfbpddfcakieaaGreat
open Go.RowKit

/-- P10.3: cells, root, how many are gone, error. -/
def cutS (keep lo hi : Int) : Nat → List HC → Int → List HC × Int × Nat × Int
  | 0, c, p => (c, p, 0, 0)
  | m + 1, c, p => match scanT c p lo hi with
    | [] => (c, p, 0, 0)
    | x :: _ => if (delR ⟨c, keep⟩ p x.1).2.2 = 0 then ((cutS keep lo hi m (delR ⟨c, keep⟩ p x.1).1 (delR ⟨c, keep⟩ p x.1).2.1).1, (cutS keep lo hi m (delR ⟨c, keep⟩ p x.1).1 (delR ⟨c, keep⟩ p x.1).2.1).2.1, (cutS keep lo hi m (delR ⟨c, keep⟩ p x.1).1 (delR ⟨c, keep⟩ p x.1).2.1).2.2.1 + 1, (cutS keep lo hi m (delR ⟨c, keep⟩ p x.1).1 (delR ⟨c, keep⟩ p x.1).2.1).2.2.2) else (c, p, 0, (delR ⟨c, keep⟩ p x.1).2.2)
/-- A row without a key. -/
def outK (L : List It) (key : Int) : List It := L.filter (fun z => decide (z.1 ≠ key))
theorem del_when {c : List HC} {keep root key most : Int} (hmost : most ≤ 60) (hf : fineB ⟨c, keep⟩ root most = true) (hin : ∃ z ∈ listT c root, z.1 = key) :
    ((delR ⟨c, keep⟩ root key).2.2 = 0 ∧ DelD c keep root key most (delR ⟨c, keep⟩ root key).1 (delR ⟨c, keep⟩ root key).2.1 ∧ highT c root ≤ (c.countP freeC : Nat)) ∨ ((delR ⟨c, keep⟩ root key).2.2 = 3 ∧ (delR ⟨c, keep⟩ root key).1 = c ∧ (delR ⟨c, keep⟩ root key).2.1 = root ∧ ¬ highT c root ≤ (c.countP freeC : Nat)) := by
  have hg : getT c root key ≠ none := by
    obtain ⟨z, hz, hzk⟩ := hin
    unfold getT
    intro h
    rw [Option.map_eq_none_iff, List.find?_eq_none] at h
    exact h z hz (decide_eq_true hzk)
  have hft : fitsH ⟨c, keep⟩ (highT c root) true = decide (highT c root ≤ (c.countP freeC : Nat)) := by
    unfold fitsH freeH
    simp
  unfold delR
  rw [if_neg hg]
  simp only
  rw [hft]
  by_cases h : highT c root ≤ (c.countP freeC : Nat)
  · rw [decide_eq_true h, if_neg (by simp)]
    exact .inl ⟨rfl, fine_del hmost hf hin h, h⟩
  · rw [decide_eq_false h, if_pos rfl]
    exact .inr ⟨rfl, rfl, rfl, h⟩
theorem del_none {c : List HC} {keep root key : Int} (hin : ¬ ∃ z ∈ listT c root, z.1 = key) : delR ⟨c, keep⟩ root key = (c, root, 4) := by
  unfold delR
  rw [if_pos]
  unfold getT
  rw [Option.map_eq_none_iff, List.find?_eq_none]
  intro z hz h
  exact hin ⟨z, hz, of_decide_eq_true h⟩
/-- A right tree's items are none just if it is no tree. -/
theorem list_none {c : List HC} {keep root : Int} (hr : rightH ⟨c, keep⟩ = true) (hb : rightR ⟨c, keep⟩ root = true) : (root = -1 ↔ listT c root = []) := by
  constructor
  · intro h
    unfold listT
    rw [if_pos (by omega)]
  · intro h
    rcases rightR_iff hb with h0 | ⟨h0, h1, h2⟩
    · unfold rightR at hb
      rw [show usedH ⟨c, keep⟩ root = false from usedC_neg h0, Bool.false_and, Bool.or_false, decide_eq_true_eq] at hb
      exact hb
    · unfold listT at h
      rw [if_neg (by omega)] at h
      obtain ⟨y, r, e, _⟩ := (listB_spans c (allR_of hr) 20 root h0 h1 h2).head
      rw [h] at e
      cases e
structure CutD (c : List HC) (keep root lo hi most : Int) (m : Nat) (g : List HC) (p : Int) (n : Nat) (e : Int) : Prop where
  fine : fineB ⟨g, keep⟩ p most = true
  many : n ≤ m ∧ n ≤ (scanT c root lo hi).length
  err : e = 0 ∨ e = 3
  all : e = 0 → n = min m (scanT c root lo hi).length
  list : listT g p = ((scanT c root lo hi).take n).foldl (fun L x => outK L x.1) (listT c root)
theorem out_scan {L : List It} (ha : Asc L) {P : It → Bool} {x : It} {r : List It} (h : L.filter P = x :: r) : (outK L x.1).filter P = r := by
  unfold outK
  rw [List.filter_filter]
  have e : L.filter (fun a => P a && decide (a.1 ≠ x.1)) = (L.filter P).filter (fun a => decide (a.1 ≠ x.1)) := by
    rw [List.filter_filter]
    congr 1
    funext a
    rw [Bool.and_comm]
  rw [e, h, List.filter_cons, if_neg (by simp), List.filter_eq_self]
  intro a haR
  have hp := ha.filter P
  rw [h] at hp
  have := (List.pairwise_cons.1 hp).1 a haR
  exact decide_eq_true (by omega)
theorem cut_fine {keep lo hi most : Int} (hmost : most ≤ 60) : ∀ (m : Nat) (c : List HC) (root : Int), fineB ⟨c, keep⟩ root most = true → CutD c keep root lo hi most m (cutS keep lo hi m c root).1 (cutS keep lo hi m c root).2.1 (cutS keep lo hi m c root).2.2.1 (cutS keep lo hi m c root).2.2.2
  | 0, c, root, hf => ⟨hf, ⟨Nat.le_refl _, Nat.zero_le _⟩, .inl rfl, fun _ => by simp [cutS], by simp [cutS]⟩
  | m + 1, c, root, hf => by
    rw [cutS]
    obtain ⟨hm, hrr, _⟩ := fine_may hf
    have hasc := listT_rise (may_iff hm).2.2 hrr
    cases hsc : scanT c root lo hi with
    | nil => exact ⟨hf, ⟨Nat.zero_le _, Nat.zero_le _⟩, .inl rfl, fun _ => by rw [hsc]; simp, by simp⟩
    | cons x r =>
      simp only
      have hx : x ∈ listT c root := by
        have : x ∈ scanT c root lo hi := by rw [hsc]; exact List.mem_cons_self
        unfold scanT at this
        exact (List.mem_filter.1 this).1
      rcases del_when hmost hf ⟨x, hx, rfl⟩ with ⟨e0, D, _⟩ | ⟨e3, e1, e2, _⟩
      · rw [if_pos e0]
        have ih := cut_fine hmost m _ _ D.fine (lo := lo) (hi := hi)
        have hl : listT (delR ⟨c, keep⟩ root x.1).1 (delR ⟨c, keep⟩ root x.1).2.1 = outK (listT c root) x.1 := D.list
        have hs2 : scanT (delR ⟨c, keep⟩ root x.1).1 (delR ⟨c, keep⟩ root x.1).2.1 lo hi = r := by
          unfold scanT at hsc ⊢
          rw [hl]
          exact out_scan hasc hsc
        obtain ⟨i1, i2, i3, i4, i5⟩ := ih
        rw [hs2] at i2 i4 i5
        generalize cutS keep lo hi m (delR ⟨c, keep⟩ root x.1).1 (delR ⟨c, keep⟩ root x.1).2.1 = S at *
        obtain ⟨S1, S2, S3, S4⟩ := S
        simp only at i1 i2 i3 i4 i5 ⊢
        refine ⟨i1, ⟨by omega, by rw [hsc, List.length_cons]; omega⟩, i3, fun h => by rw [hsc, List.length_cons, i4 h]; omega, ?_⟩
        rw [i5, hsc, hl, List.take_succ_cons, List.foldl_cons]
      · rw [if_neg (by rw [e3]; decide)]
        exact ⟨hf, ⟨Nat.zero_le _, Nat.zero_le _⟩, .inr e3, fun h => by rw [e3] at h; exact absurd h (by decide), by simp⟩
end Go.Proofs.YtbfbpddfcakieaaGreat
