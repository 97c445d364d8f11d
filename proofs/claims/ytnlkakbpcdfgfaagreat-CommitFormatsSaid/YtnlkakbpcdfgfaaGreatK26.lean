/- Package commit's own, of new states: first, planned and its closure, settled. Do of package commit, of a new state. What the first two commits of a disk of 135 blocks write: the plain facts of layer 15's example. The example of layer 15, over what the calls of package commit answer on new states. The walk of New of package state. -/
import Derived.Test.YtnlkakbpcdfgfaaGreatK25
import Derived.Deep.RegionHeld3
import Derived.Test.YtnlkakbpcdfgfaaGreatK14
import Derived.Test.YtnlkakbpcdfgfaaGreatK19
import Derived.Test.YtnlkakbpcdfgfaaGreatK18
namespace Go.Proofs.YtnlkakbpcdfgfaaGreat
set_option maxRecDepth 20000
open Go.RowKit
attribute [local go_sem ↓] Go.wp_at_zero Go.wp_at_succ
attribute [local go_sem] run_store_func

theorem bts4 {w W : World} {c0 c1 c2 c3 : Array Value} {t0 t1 t2 t3 : TypeId} (h : (((w.alloc (.cells c0 t0)).alloc (.cells c1 t1)).alloc (.cells c2 t2)).alloc (.cells c3 t3) = W) : Ext w W ∧ W.heap.size = w.heap.size + 4 ∧ Bx W w.heap.size c0 ∧ Bx W (w.heap.size + 1) c1 ∧ Bx W (w.heap.size + 1 + 1) c2 ∧ Bx W (w.heap.size + 1 + 1 + 1) c3 := by
  subst h
  have b0 := Bx.new w c0 t0
  have b1 := Bx.new (w.alloc (.cells c0 t0)) c1 t1
  have b2 := Bx.new ((w.alloc (.cells c0 t0)).alloc (.cells c1 t1)) c2 t2
  have b3 := Bx.new (((w.alloc (.cells c0 t0)).alloc (.cells c1 t1)).alloc (.cells c2 t2)) c3 t3
  simp only [World.size_alloc] at b1 b2 b3
  have y := fun (X : World) o => (Ext.refl X).alloc o
  exact ⟨(((y w _).alloc _).alloc _).alloc _, by simp, ((b0.ext (y _ _)).ext (y _ _)).ext (y _ _), (b1.ext (y _ _)).ext (y _ _), b2.ext (y _ _), b3⟩
theorem cmFirst_one (g : Nat) (e : Int) (w : World) (h : w.cell? ⟨g, 0, none⟩ = some (.int .i64 e)) :
    Calls Tryz.prog 17 #[.slice (some ⟨g, 0, none⟩) 1 1] w fun r w' => r = .returned (.int .i64 e) ∧ w = w' := by
  by_cases he : e = 0
  · subst he
    go_enter Tryz.func17, Tryz.ntmps17
    go_wp2
    go_loop [7] (fun v => ∃ k : Nat, k ≤ 1 ∧ v = .int .i64 k) (fun v => 1 - (intOf v).toNat)
    case atStart => exact ⟨0, by omega, rfl⟩
    case round =>
      obtain ⟨k, hk, rfl⟩ := hrel
      rcases Nat.lt_or_ge k 1 with hlt | hge
      · obtain rfl : k = 0 := by omega
        go_wp2
        go_round
        case rel => exact ⟨1, by omega, rfl⟩
        case measure => simp [intOf]
      · obtain rfl : k = 1 := by omega
        go_wp2
        go_ret
        exact ⟨rfl, rfl⟩
  · have d0 : (e != 0) = true := by simpa using he
    go_enter Tryz.func17, Tryz.ntmps17
    go_wp2
    go_loop [7] (fun v => v = .int .i64 0) (fun _ => 0)
    case atStart => rfl
    case round =>
      obtain rfl := hrel
      go_wp2
      go_ret
      exact ⟨rfl, rfl⟩
theorem nosb2 (x : Int) : NoSB #[.int .i64 x, .nilFunc] := fun i v hi => by
  rcases i with _ | _ | i <;> simp at hi <;> subst hi <;> exact ⟨fun _ e => (by cases e), fun _ e => (by cases e)⟩
set_option maxRecDepth 100000 in
set_option maxHeartbeats 1600000 in
/-- What does a commit's steps: disk's Do, of the disk and the plan that lie in its boxes. -/
theorem cmPlanned1_new (A A' P : Option Addr) (b : List ByteArray) (PW : List Wr) (pn c c' cp kd kl : Nat) (stop : Int) (w : World) (hb : b.length ≤ 4000) (hpl : pn ≤ 300000) (hpn : PW.length = pn)
    (hd0 : w.cell? ⟨kd, 0, none⟩ = some (.slice A b.length c)) (hd1 : w.cell? ⟨kd, 1, none⟩ = some (.slice A' 0 c')) (hl : w.cell? ⟨kl, 0, none⟩ = some (.slice P pn cp))
    (hA : Sl w A b.length c (b.map sv)) (hA' : Sl w A' 0 c' []) (hP : Sl w P pn cp (wvs PW)) :
    Calls Tryz.prog 41 #[.int .i64 stop, .pointer (some ⟨kd, 0, none⟩), .pointer (some ⟨kl, 0, none⟩)] w fun e w' => ∃ D, e = .returned (.tuple #[D, .int .i64 (doS b [] (PW.take (planLen pn stop))).2]) ∧ IsDisk w' D (doS b [] (PW.take (planLen pn stop))).1.1 (doS b [] (PW.take (planLen pn stop))).1.2 ∧ Ext w w' := by
  obtain ⟨W, hW⟩ : ∃ W, w.alloc (.cells #[.slice none 0 0, .slice none 0 0] 26) = W := ⟨_, rfl⟩
  obtain ⟨hxw, hz, hb0⟩ := bts1 hW
  subst hpn
  have RD := Lib.hid (callsIn_wide.1 (doD_in A A' P b [] PW c c' cp stop W (by omega) (by simp) (by omega) (hA.ext hxw) (hA'.ext hxw) (hP.ext hxw)))
  have p0 := (hxw.cell (p := ⟨kd, 0, none⟩) (World.block_lt_of_cell? _ _ hd0)).trans hd0
  have p1 := (hxw.cell (p := ⟨kd, 1, none⟩) (World.block_lt_of_cell? _ _ hd1)).trans hd1
  have q0 := (hxw.cell (p := ⟨kl, 0, none⟩) (World.block_lt_of_cell? _ _ hl)).trans hl
  generalize doS b [] (PW.take (planLen PW.length stop)) = rr at *
  obtain ⟨⟨rb, rl⟩, rc⟩ := rr
  simp only [List.length_nil] at RD ⊢
  have HB := Lib.hid hb0.bx
  have HX := Lib.hid hxw
  have HW := Lib.hid hW
  generalize PW.length = pn at *
  rw [← hW] at p0 p1 q0
  clear hxw hb0 hz hd0 hd1 hl hA hA' hP hb hpl hW
  go_enter Tryz.func41, Tryz.ntmps41
  go_wp2_with (go_at_call 42; refine stop_here ?_)
  refine stop_on ?_
  rw [HW.out]
  refine RD.out.mono ?_
  rintro e w2 ⟨v, rfl, ⟨D1, d1, D2, d2, rfl, hd1, hd2⟩, hx2⟩
  have X2 := Lib.hid (HX.out.trans hx2)
  have B2 := Lib.hid (HB.out.ext hx2)
  have HD1 := Lib.hid hd1
  have HD2 := Lib.hid hd2
  clear hd1 hd2 hx2 p0 p1 q0
  obtain ⟨y0, y1, z2⟩ := B2.out.read2
  obtain ⟨g0, g1⟩ := B2.out.free2
  go_wp2_with fail
  refine ret2_cell (k := w.heap.size) (B2.out.set2 _ _) (v := .tuple #[.agg #[.slice D1 rb.length d1, .slice D2 rl.length d2], .int .i64 rc]) (fun r0 r1 => by simp [results, Tryz.results41, go_sem, r0, r1]) rfl ⟨_, rfl, ⟨D1, d1, D2, d2, rfl, HD1.out.store2 (flat_svs _) B2.out _ _, HD2.out.store2 (flat_wvs _) B2.out _ _⟩, X2.out.store2 (Nat.le_refl _) _ _⟩
set_option maxRecDepth 100000 in
set_option maxHeartbeats 3200000 in
/-- A new state's next commit: how many steps it has, and what does them. -/
theorem cmPlanned_new (A A' R : Option Addr) (b : List ByteArray) (PW : List Wr) (pn n q c c' next keep gen : Nat) (w : World) (hb : b.length ≤ 4000) (hn : cellsP b.length = n) (h1 : 1 ≤ n) (hk : keep ≤ n) (hx1 : 1 ≤ next) (hx : next ≤ 2147483647) (hg : gen < 2147483647) (hPW : planW b [] n keep next gen = PW) (hpl : PW.length = pn)
    (hA : Sl w A b.length c (b.map sv)) (hA' : Sl w A' 0 c' []) (hR : HcSl w R n q (List.replicate n HC.none)) :
    Calls Tryz.prog 26 #[.agg #[.slice A b.length c, .slice A' 0 c'], .agg #[.slice R n q, .int .i64 keep, .slice none 0 0, .slice none 0 0, .int .i64 next, .int .i64 gen]] w fun e w' => ∃ kd kl P cp, e = .returned (.tuple #[.agg #[.int .i64 pn, .func (.func 41) #[] #[.pointer (some ⟨kd, 0, none⟩), .pointer (some ⟨kl, 0, none⟩)]], .int .i64 0]) ∧ w'.cell? ⟨kd, 0, none⟩ = some (.slice A b.length c) ∧ w'.cell? ⟨kd, 1, none⟩ = some (.slice A' 0 c') ∧ w'.cell? ⟨kl, 0, none⟩ = some (.slice P pn cp) ∧ Sl w' P pn cp (wvs PW) ∧ Ext w w' := by
  have RP := Lib.hid (fun w' (hy : Ext w w') => planPlan_new A A' R none none b n q c c' keep next gen 0 0 w' hb hn h1 hk hx1 hx hg (hA.ext hy) (hA'.ext hy) (hR.ext hy) (Sl.nil _) (Sl.nil _))
  rw [hPW] at RP
  obtain ⟨W1, hW1⟩ : ∃ W, ((w.alloc (.cells #[.slice A b.length c, .slice A' 0 c'] 26)).alloc (.cells #[.slice R n q, .int .i64 keep, .slice none 0 0, .slice none 0 0, .int .i64 next, .int .i64 gen] 33)).alloc (.cells #[.int .i64 0, .nilFunc] 64) = W := ⟨_, rfl⟩
  obtain ⟨hxw, hz1, hb1, hb2, hb3⟩ := bts3 hW1
  have HB1 := Lib.hid hb1.bx
  have HB3 := Lib.hid hb3.bx
  have HX := Lib.hid hxw
  have p0 := hb1.bx.at 0 _ rfl
  have p1 := hb1.bx.at 1 _ rfl
  obtain ⟨s0, s1, s2, s3, s4, s5⟩ := st_at6 hb2.bx
  have HPL := Lib.hid ((wvs_length PW).trans (by rw [hpl]))
  have HW1 := Lib.hid hW1
  clear hpl
  clear hW1 hz1 hb1 hb2 hb3 hxw hR hA hA' hPW hn hx1 hx hb h1 hk
  go_enter Tryz.func26, Tryz.ntmps26
  go_wp2_with (go_at_call 40; refine stop_here ?_)
  refine stop_on ?_
  rw [HW1.out]
  refine (RP.out _ HX.out).mono ?_
  rintro e w2 ⟨P, m, cp, rfl, ho, hx2⟩
  obtain rfl : m = pn := by have := ho.1; rw [HPL.out] at this; omega
  have X2 := Lib.hid hx2
  have P2 := Lib.hid (own_sl ho)
  obtain ⟨w3, hw3⟩ : ∃ W, w2.alloc (.cells #[.slice P m cp] 24) = W := ⟨_, rfl⟩
  obtain ⟨hx3, hz3, hb4⟩ := bts1 hw3
  have HB4 := Lib.hid hb4.bx
  have X3 := Lib.hid (hx2.trans hx3)
  have P3 := Lib.hid (P2.out.ext hx3)
  have HF := Lib.hid (cmFirst_one w3.heap.size 0 (w3.alloc (.cells #[.int .i64 0] 34)) ((Bx.new w3 #[.int .i64 0] 34).at 0 _ rfl))
  rw [hz3] at HF
  have HW3 := Lib.hid hw3
  clear ho hx2 p0 p1 s0 s1 s2 s3 s4 s5 hw3 hx3 hz3 hb4
  have hyb := Bx.new w2 #[.slice none 0 0] 24
  have y0 := hyb.at 0 _ rfl
  have y1 := hyb.free 0
  have y2 := hyb.lt
  clear hyb
  go_wp2_with (go_at_call 17; refine stop_here ?_)
  refine stop_on ?_
  rw [HW3.out]
  refine HF.out.mono ?_
  rintro e w4 ⟨rfl, rfl⟩
  obtain ⟨w4, hw4⟩ : ∃ W, w3.alloc (.cells #[.int .i64 0] 34) = W := ⟨_, rfl⟩
  rw [hw4]
  have E4 := Lib.hid (show Ext w3 w4 from by rw [← hw4]; exact (Ext.refl _).alloc _)
  have X4 := Lib.hid (X3.out.trans E4.out)
  have P4 := Lib.hid (P3.out.ext E4.out)
  have B3 := Lib.hid (HB3.out.ext X4.out)
  have B1 := Lib.hid (HB1.out.ext X4.out)
  have B4 := Lib.hid (HB4.out.ext E4.out)
  clear hw4 y0 y1 y2
  have l0 := B4.out.at 0 _ rfl
  obtain ⟨y0, y1, z2⟩ := B3.out.read2
  obtain ⟨g0, g1⟩ := B3.out.free2
  go_wp2_with fail
  refine ret2_cell (k := w.heap.size + 1 + 1) (B3.out.set2 _ _) (v := .tuple #[.agg #[.int .i64 m, .func (.func 41) #[] #[.pointer (some ⟨w.heap.size, 0, none⟩), .pointer (some ⟨w2.heap.size, 0, none⟩)]], .int .i64 0]) (fun r0 r1 => by simp [results, Tryz.results26, go_sem, r0, r1]) rfl ?_
  have hne : w2.heap.size ≠ w.heap.size + 1 + 1 := by have := HB3.out.lt; have := X2.out.size; omega
  have P5 := P4.out.grown (grown_set w4 (w.heap.size + 1 + 1) 0 (.int .i64 m)) (str_off P4.out wvs_str B3.out (nosb2 _))
  have P6 := P5.grown (grown_set _ (w.heap.size + 1 + 1) 1 (.func (.func 41) #[] #[.pointer (some ⟨w.heap.size, 0, none⟩), .pointer (some ⟨w2.heap.size, 0, none⟩)])) (str_off P5 wvs_str (B3.out.set 0 _) (nosb2 _))
  have C1 := bx_other2 B1.out (show w.heap.size + 1 + 1 ≠ w.heap.size by omega) (.int .i64 m) (.func (.func 41) #[] #[.pointer (some ⟨w.heap.size, 0, none⟩), .pointer (some ⟨w2.heap.size, 0, none⟩)])
  have C4 := bx_other2 B4.out (show w.heap.size + 1 + 1 ≠ w2.heap.size by omega) (.int .i64 m) (.func (.func 41) #[] #[.pointer (some ⟨w.heap.size, 0, none⟩), .pointer (some ⟨w2.heap.size, 0, none⟩)])
  exact ⟨_, _, P, cp, rfl, C1.at 0 _ rfl, C1.at 1 _ rfl, C4.at 0 _ rfl, P6, (HX.out.trans X4.out).store2 (by omega) _ _⟩
set_option maxRecDepth 100000 in
set_option maxHeartbeats 1600000 in
/-- A new state behind its commit. -/
theorem cmSettled_new (R : Option Addr) (n q next gen gg : Nat) (keep : Int) (w : World) (hn : n ≤ 2000) (hgn : gen < 2147483647) (hgg : gen + 1 = gg) (hR : HcSl w R n q (List.replicate n HC.none)) :
    Calls Tryz.prog 27 #[.agg #[.slice R n q, .int .i64 keep, .slice none 0 0, .slice none 0 0, .int .i64 next, .int .i64 gen]] w fun e w' => ∃ S d, e = .returned (.agg #[.slice S n d, .int .i64 keep, .slice none 0 0, .slice none 0 0, .int .i64 next, .int .i64 gg]) ∧ HcSl w' S n d (List.replicate n HC.none) ∧ Ext w w' := by
  obtain ⟨W, hW⟩ : ∃ W, (w.alloc (.cells #[.slice R n q, .int .i64 keep, .slice none 0 0, .slice none 0 0, .int .i64 next, .int .i64 gen] 33)).alloc (.cells #[.slice none 0 0, .int .i64 0, .slice none 0 0, .slice none 0 0, .int .i64 0, .int .i64 0] 33) = W := ⟨_, rfl⟩
  obtain ⟨hx, _, b0, b1⟩ := bts2 hW
  have HX := Lib.hid hx
  have HW := Lib.hid hW
  have HB0 := Lib.hid b0.bx
  have HB1 := Lib.hid b1.bx
  have HIT := Lib.hid (show ∀ y ∈ List.replicate n HC.none, y.it = [] from by
    intro y hy; obtain ⟨_, rfl⟩ := List.mem_replicate.1 hy; rfl)
  have RS := Lib.hid (fun w' (h : HcSl w' R n q (List.replicate n HC.none)) => heapSettle_all R (List.replicate n HC.none) n q keep w' (by omega) h)
  rw [settle_new] at RS
  have HR := Lib.hid (hR.ext hx)
  have v1 : IntKind.i64.wrap ((gen : Int) + 1) = (gg : Int) := by rw [IntKind.wrap_i64]; omega
  obtain ⟨s0, s1, s2, s3, s4, s5⟩ := st_at6 b0.bx
  clear hx b0 b1 hR hgg hW
  generalize List.replicate n HC.none = l at *
  go_enter Tryz.func27, Tryz.ntmps27
  go_wp2_with (go_at_call 43; refine stop_here ?_)
  refine stop_on ?_
  rw [HW.out]
  refine (RS.out _ HR.out).mono ?_
  rintro e w6 ⟨S, d, rfl, hs, hx6⟩
  have X6 := Lib.hid (HX.out.trans hx6)
  have B6 := Lib.hid (HB0.out.ext hx6)
  have C6 := Lib.hid (HB1.out.ext hx6)
  clear s0 s1 s2 s3 s4 s5
  have A1 : Hid (Bx (w6.setCell ⟨w.heap.size, 0, none⟩ (.slice S n d)) w.heap.size #[.slice S n d, .int .i64 keep, .slice none 0 0, .slice none 0 0, .int .i64 next, .int .i64 gen]) := Lib.hid (B6.out.set 0 _)
  have A2 : Hid (Bx ((w6.setCell ⟨w.heap.size, 0, none⟩ (.slice S n d)).setCell ⟨w.heap.size, 1, none⟩ (.int .i64 keep)) w.heap.size #[.slice S n d, .int .i64 keep, .slice none 0 0, .slice none 0 0, .int .i64 next, .int .i64 gen]) := Lib.hid (A1.out.set 1 _)
  have A3 : Hid (Bx (((w6.setCell ⟨w.heap.size, 0, none⟩ (.slice S n d)).setCell ⟨w.heap.size, 1, none⟩ (.int .i64 keep)).setCell ⟨w.heap.size, 5, none⟩ (.int .i64 gg)) w.heap.size #[.slice S n d, .int .i64 keep, .slice none 0 0, .slice none 0 0, .int .i64 next, .int .i64 gg]) := Lib.hid (A2.out.set 5 _)
  have HS1 := Lib.hid (hcs_store1 HIT.out hs B6.out (nosb6 _ _ _ _ _ _ _ _ _ _ _ _) 0 (.slice S n d))
  have HS2 := Lib.hid (hcs_store1 HIT.out HS1.out A1.out (nosb6 _ _ _ _ _ _ _ _ _ _ _ _) 1 (.int .i64 keep))
  have HS3 := Lib.hid (hcs_store1 HIT.out HS2.out A2.out (nosb6 _ _ _ _ _ _ _ _ _ _ _ _) 5 (.int .i64 gg))
  have C3 := Lib.hid (((C6.out.set_other (p := ⟨w.heap.size, 0, none⟩) (by show w.heap.size ≠ w.heap.size + 1; omega) (.slice S n d)).set_other (p := ⟨w.heap.size, 1, none⟩) (by show w.heap.size ≠ w.heap.size + 1; omega) (.int .i64 keep)).set_other (p := ⟨w.heap.size, 5, none⟩) (by show w.heap.size ≠ w.heap.size + 1; omega) (.int .i64 gg))
  have X3 := Lib.hid (((X6.out.set (p := ⟨w.heap.size, 0, none⟩) (Nat.le_refl _) (.slice S n d)).set (p := ⟨w.heap.size, 1, none⟩) (Nat.le_refl _) (.int .i64 keep)).set (p := ⟨w.heap.size, 5, none⟩) (Nat.le_refl _) (.int .i64 gg))
  obtain ⟨s0, s1, s2, s3, s4, s5⟩ := st_at6 B6.out
  obtain ⟨f0, f1, f2, f3, f4, f5⟩ := st_free6 B6.out
  have z3 := B6.out.lt
  obtain ⟨r0, r1, r2, r3, r4, r5⟩ := st_at6 A2.out
  obtain ⟨e0, e1, e2, e3, e4, e5⟩ := st_free6 A2.out
  have z4 := A2.out.lt
  obtain ⟨t0, t1, t2, t3, t4, t5⟩ := st_at6 A3.out
  obtain ⟨q0, q1, q2, q3, q4, q5⟩ := st_at6 C3.out
  obtain ⟨g0, g1, g2, g3, g4, g5⟩ := st_free6 C3.out
  have z5 := C3.out.lt
  clear hs hx6
  go_wp2_with fail
  refine ret6_cell (k := w.heap.size + 1) (v := .agg #[.slice S n d, .int .i64 keep, .slice none 0 0, .slice none 0 0, .int .i64 next, .int .i64 gg]) (st_set6 C3.out _ _ _ _ _ _) (fun r0 r1 r2 r3 r4 r5 => by simp [results, Tryz.results27, go_sem, r0, r1, r2, r3, r4, r5]) rfl ⟨S, d, rfl, hcs_boxed6 HIT.out HS3.out C3.out _ _ _ _ _ _, ext_store6 X3.out (Nat.le_succ _) _ _ _ _ _ _⟩
end Go.Proofs.YtnlkakbpcdfgfaaGreat
namespace Go.Proofs.YtnlkakbpcdfgfaaGreat
set_option maxRecDepth 20000
open Go.RowKit
attribute [local go_sem ↓] Go.wp_at_zero Go.wp_at_succ
attribute [local go_sem] run_store_func

set_option maxRecDepth 100000 in
set_option maxHeartbeats 3200000 in
theorem cmDo_new (A A' R : Option Addr) (b : List ByteArray) (PW : List Wr) (n q c c' next keep gen gg : Nat) (stop : Int) (w : World) (hb : b.length ≤ 4000) (hn : cellsP b.length = n) (h1 : 1 ≤ n) (hk : keep ≤ n) (hx1 : 1 ≤ next) (hx : next ≤ 2147483647) (hg : gen < 2147483647) (hgg : gen + 1 = gg) (hPW : planW b [] n keep next gen = PW) (hpl : PW.length ≤ 300000)
    (hA : Sl w A b.length c (b.map sv)) (hA' : Sl w A' 0 c' []) (hR : HcSl w R n q (List.replicate n HC.none)) :
    Calls Tryz.prog 12 #[.agg #[.slice A b.length c, .slice A' 0 c'], .agg #[.slice R n q, .int .i64 keep, .slice none 0 0, .slice none 0 0, .int .i64 next, .int .i64 gen], .int .i64 stop] w fun e w' => ∃ D S d, e = .returned (.tuple #[D, .agg #[.slice S n d, .int .i64 keep, .slice none 0 0, .slice none 0 0, .int .i64 next, .int .i64 (if (doS b [] (PW.take (planLen PW.length stop))).2 < PW.length then (gen : Int) else (gg : Int))], .int .i64 (if (doS b [] (PW.take (planLen PW.length stop))).2 < PW.length then 8 else 0)]) ∧ IsDisk w' D (doS b [] (PW.take (planLen PW.length stop))).1.1 (doS b [] (PW.take (planLen PW.length stop))).1.2 ∧ HcSl w' S n d (List.replicate n HC.none) ∧ Ext w w' := by
  have h2 : n ≤ 2000 := by have := (cells_facts b.length).1; omega
  have HIT := Lib.hid (show ∀ y ∈ List.replicate n HC.none, y.it = [] from by
    intro y hy; obtain ⟨_, rfl⟩ := List.mem_replicate.1 hy; rfl)
  have RP := Lib.hid (fun w' (hy : Ext w w') => cmPlanned_new A A' R b PW PW.length n q c c' next keep gen w' hb hn h1 hk hx1 hx hg hPW rfl (hA.ext hy) (hA'.ext hy) (hR.ext hy))
  have RD := Lib.hid (fun P cp kd kl w' (hy : Ext w w') h0 h1 h2 h3 => cmPlanned1_new A A' P b PW PW.length c c' cp kd kl stop w' hb hpl rfl h0 h1 h2 (hA.ext hy) (hA'.ext hy) h3)
  have RS := Lib.hid (fun w' h => cmSettled_new R n q next gen gg keep w' h2 hg hgg h)
  have HRW := Lib.hid (fun w' (hy : Ext w w') => hR.ext hy)
  generalize List.replicate n HC.none = l at *
  generalize doS b [] (PW.take (planLen PW.length stop)) = rr at *
  obtain ⟨⟨rb, rl⟩, rc⟩ := rr
  simp only at RD ⊢
  obtain ⟨W1, hW1⟩ : ∃ W, (((w.alloc (.cells #[.slice A b.length c, .slice A' 0 c'] 26)).alloc (.cells #[.slice R n q, .int .i64 keep, .slice none 0 0, .slice none 0 0, .int .i64 next, .int .i64 gen] 33)).alloc (.cells #[.slice none 0 0, .slice none 0 0] 26)).alloc (.cells #[.slice none 0 0, .int .i64 0, .slice none 0 0, .slice none 0 0, .int .i64 0, .int .i64 0] 33) = W := ⟨_, rfl⟩
  obtain ⟨hxw, hz1, hb1, hb2, hb3, hb4⟩ := bts4 hW1
  have HB1 := Lib.hid hb1
  have HB2 := Lib.hid hb2
  have HB3 := Lib.hid hb3
  have HB4 := Lib.hid hb4
  have HX := Lib.hid hxw
  have p0 := hb1.at 0 _ rfl
  have p1 := hb1.at 1 _ rfl
  obtain ⟨s0, s1, s2, s3, s4, s5⟩ := st_at6 hb2
  generalize PW.length = pn at *
  obtain ⟨GE, hGE⟩ : ∃ x : Int, (if rc < pn then (gen : Int) else (gg : Int)) = x := ⟨_, rfl⟩
  obtain ⟨EE, hEE⟩ : ∃ x : Int, (if rc < pn then (8 : Int) else 0) = x := ⟨_, rfl⟩
  rw [hGE, hEE]
  have HGE := Lib.hid hGE
  have HEE := Lib.hid hEE
  have HW1 := Lib.hid hW1
  clear hGE hEE hW1 hz1 hb1 hb2 hb3 hb4 hxw hR hA hA' hPW hn hx1 hx hb h1 hk hpl hg hgg
  go_enter Tryz.func12, Tryz.ntmps12
  go_wp2_with (go_at_call 26; refine stop_here ?_)
  refine stop_on ?_
  rw [HW1.out]
  refine (RP.out _ HX.out).mono ?_
  rintro e w2 ⟨kd, kl, P, cp, rfl, hk0, hk1, hk2, hP, hx2⟩
  obtain ⟨w3, hw3⟩ : ∃ W, w2.alloc (.cells #[.int .i64 pn, .func (.func 41) #[] #[.pointer (some ⟨kd, 0, none⟩), .pointer (some ⟨kl, 0, none⟩)]] 64) = W := ⟨_, rfl⟩
  obtain ⟨hx3, hz3, hb4⟩ := bts1 hw3
  have X3 := Lib.hid (hx2.trans hx3)
  have P3 := Lib.hid (hP.ext hx3)
  have H4 := Lib.hid hb4.bx
  have K0 := Lib.hid ((hx3.cell (p := ⟨kd, 0, none⟩) (World.block_lt_of_cell? _ _ hk0)).trans hk0)
  have K1 := Lib.hid ((hx3.cell (p := ⟨kd, 1, none⟩) (World.block_lt_of_cell? _ _ hk1)).trans hk1)
  have K2 := Lib.hid ((hx3.cell (p := ⟨kl, 0, none⟩) (World.block_lt_of_cell? _ _ hk2)).trans hk2)
  have HW3 := Lib.hid hw3
  clear hx2 hx3 hz3 hb4 hP hk0 hk1 hk2 hw3 p0 p1 s0 s1 s2 s3 s4 s5
  have hyb := Bx.new w2 #[.int .i64 0, .nilFunc] 64
  obtain ⟨y0, y1, y2⟩ := hyb.read2
  obtain ⟨g0, g1⟩ := hyb.free2
  have q1 := H4.out.at 1 _ rfl
  rw [← HW3.out] at q1
  clear hyb
  go_wp2_with (go_at_call 41; refine stop_here ?_)
  refine stop_on ?_
  rw [HW3.out]
  clear y0 y1 y2 g0 g1 q1
  refine (RD.out P cp kd kl w3 (HX.out.trans X3.out) K0.out K1.out K2.out P3.out).mono ?_
  rintro e w5 ⟨v, rfl, ⟨D1, d1, D2, d2, rfl, hd1, hd2⟩, hx5⟩
  have X5 := Lib.hid (X3.out.trans hx5)
  have H5 := Lib.hid (H4.out.ext hx5)
  have HD1 := Lib.hid hd1
  have HD2 := Lib.hid hd2
  clear hd1 hd2 hx5
  obtain ⟨W4, hW4⟩ : ∃ W, w5.alloc (.cells #[.slice D1 rb.length d1, .slice D2 rl.length d2] 26) = W := ⟨_, rfl⟩
  have E4 := Lib.hid (show Ext W1 W4 from by rw [← hW4]; exact X5.out.alloc _)
  have DK := Lib.hid (show DoK w W4 w.heap.size w5.heap.size _ _ _ _ _ _ D1 D2 d1 d2 rb rl none none 0 0 0 0 R n q l from
    ⟨HB2.out.ext E4.out, by rw [← hW4]; exact Bx.new _ _ _, HB3.out.ext E4.out, HB4.out.ext E4.out, by rw [← hW4]; exact HD1.out.ext ((Ext.refl _).alloc _), by rw [← hW4]; exact HD2.out.ext ((Ext.refl _).alloc _), HRW.out _ (HX.out.trans E4.out), HX.out.trans E4.out, by have := HB4.out.lt; have := X5.out.size; omega, rfl⟩)
  have t0 := (H5.out.ext (show Ext w5 W4 from by rw [← hW4]; exact (Ext.refl _).alloc _)).at 0 _ rfl
  by_cases hrc : rc < pn
  · obtain rfl : GE = (gen : Int) := by rw [← HGE.out, if_pos hrc]
    obtain rfl : EE = 8 := by rw [← HEE.out, if_pos hrc]
    clear HGE HEE
    have d7 : decide ((rc : Int) < (pn : Int)) = true := decide_eq_true (by omega)
    go_wp2_with fail
    try rw [hW4]
    clear hW4
    try clear t0
    have DK2 := Lib.hid (DK.out.ext (Ext.refl W4).drew)
    have M0 := Lib.hid (DoK.set HIT.out DK.out)
    have M2 := Lib.hid (M0.out.ext (Ext.refl _).drew)
    obtain ⟨s0, s1, s2, s3, s4, s5, b0, b1⟩ := DoK.held DK.out
    obtain ⟨y0, y1, z2⟩ := DK.out.r2.read2
    obtain ⟨g0, g1⟩ := DK.out.r2.free2
    obtain ⟨f0, f1, f2, f3, f4, f5⟩ := st_free6 DK.out.r3
    obtain ⟨q0, q1, q2, q3, q4, q5⟩ := st_at6 DK.out.r3
    have z3 := DK.out.r3.lt
    go_region_held3 (fun w' => w'.cell? ⟨w.heap.size + 1, 0, none⟩ = some (.slice R n q) ∧ w'.cell? ⟨w.heap.size + 1, 1, none⟩ = some (.int .i64 keep) ∧ w'.cell? ⟨w.heap.size + 1, 2, none⟩ = some (.slice none 0 0) ∧ w'.cell? ⟨w.heap.size + 1, 3, none⟩ = some (.slice none 0 0) ∧ w'.cell? ⟨w.heap.size + 1, 4, none⟩ = some (.int .i64 next) ∧ w'.cell? ⟨w.heap.size + 1, 5, none⟩ = some (.int .i64 gen) ∧ w'.cell? ⟨w5.heap.size, 0, none⟩ = some (.slice D1 rb.length d1) ∧ w'.cell? ⟨w5.heap.size, 1, none⟩ = some (.slice D2 rl.length d2))
      (first | (with_reducible exact DoK.held6d M0.out _ _ _ _ _ _) | (with_reducible exact DoK.held DK2.out) | (with_reducible exact DoK.held M2.out) | (with_reducible exact DoK.held K5.out) | (with_reducible exact DoK.held M5.out) | (with_reducible exact DoK.held6 K5.out _ _ _ _ _ _) | (with_reducible exact DoK.held6 M5.out _ _ _ _ _ _))
      (first | (fail "no call"))
    all_goals
      go_wp2_with fail
      obtain ⟨F1, F2, F3, F4, F5⟩ := DoK.fin HIT.out M0.out M0.out.hc (.slice R n q) (.int .i64 keep) (.slice none 0 0) (.slice none 0 0) (.int .i64 next) (.int .i64 gen)
      refine ret26_cell (F1.ext (Ext.refl _).drew) (F2.ext (Ext.refl _).drew) (v := .tuple #[.agg #[.slice D1 rb.length d1, .slice D2 rl.length d2], .agg #[.slice R n q, .int .i64 keep, .slice none 0 0, .slice none 0 0, .int .i64 next, .int .i64 gen], .int .i64 8]) (fun r0 r1 r2 r3 r4 r5 r6 r7 => by simp [results, Tryz.results12, go_sem, r0, r1, r2, r3, r4, r5, r6, r7]) rfl ⟨_, R, q, rfl, F3.ext (Ext.refl _).drew, F4.ext (Ext.refl _).drew, F5.drew⟩
  · obtain rfl : GE = (gg : Int) := by rw [← HGE.out, if_neg hrc]
    obtain rfl : EE = 0 := by rw [← HEE.out, if_neg hrc]
    clear HGE HEE
    have d7 : decide ((rc : Int) < (pn : Int)) = false := decide_eq_false (by omega)
    go_wp2_with fail
    try rw [hW4]
    clear hW4
    try clear t0
    have DK2 := Lib.hid (DK.out.ext (Ext.refl W4).drew)
    have M0 := Lib.hid (DoK.set HIT.out DK.out)
    have M2 := Lib.hid (M0.out.ext (Ext.refl _).drew)
    obtain ⟨s0, s1, s2, s3, s4, s5, b0, b1⟩ := DoK.held DK.out
    obtain ⟨y0, y1, z2⟩ := DK.out.r2.read2
    obtain ⟨g0, g1⟩ := DK.out.r2.free2
    obtain ⟨f0, f1, f2, f3, f4, f5⟩ := st_free6 DK.out.r3
    obtain ⟨q0, q1, q2, q3, q4, q5⟩ := st_at6 DK.out.r3
    have z3 := DK.out.r3.lt
    go_region_held3 (fun w' => w'.cell? ⟨w.heap.size + 1, 0, none⟩ = some (.slice R n q) ∧ w'.cell? ⟨w.heap.size + 1, 1, none⟩ = some (.int .i64 keep) ∧ w'.cell? ⟨w.heap.size + 1, 2, none⟩ = some (.slice none 0 0) ∧ w'.cell? ⟨w.heap.size + 1, 3, none⟩ = some (.slice none 0 0) ∧ w'.cell? ⟨w.heap.size + 1, 4, none⟩ = some (.int .i64 next) ∧ w'.cell? ⟨w.heap.size + 1, 5, none⟩ = some (.int .i64 gen) ∧ w'.cell? ⟨w5.heap.size, 0, none⟩ = some (.slice D1 rb.length d1) ∧ w'.cell? ⟨w5.heap.size, 1, none⟩ = some (.slice D2 rl.length d2))
      (first | (with_reducible exact DoK.held6 M5.out _ _ _ _ _ _) | (with_reducible exact DoK.held6 K5.out _ _ _ _ _ _) | (with_reducible exact DoK.held M5.out) | (with_reducible exact DoK.held K5.out) | (with_reducible exact DoK.held M2.out) | (with_reducible exact DoK.held DK2.out))
      (first
        | ((go_at_call 27
            with_reducible refine (RS.out _ ?_).mono ?_
            (first | exact M2.out.hc | exact DK2.out.hc)
            rintro e w6 ⟨S, d, rfl, hs, hx⟩
            (first | have K5 := Lib.hid (M2.out.ext hx) | have K5 := Lib.hid (DK2.out.ext hx))
            have M5 := Lib.hid (DoK.set HIT.out K5.out)
            have S5 := Lib.hid hs
            clear hs hx s0 s1 s2 s3 s4 s5 b0 b1 y0 y1 z2 g0 g1 f0 f1 f2 f3 f4 f5 q0 q1 q2 q3 q4 q5 z3
            obtain ⟨s0, s1, s2, s3, s4, s5, b0, b1⟩ := DoK.held K5.out
            obtain ⟨y0, y1, z2⟩ := K5.out.r2.read2
            obtain ⟨g0, g1⟩ := K5.out.r2.free2
            obtain ⟨f0, f1, f2, f3, f4, f5⟩ := st_free6 K5.out.r3
            obtain ⟨q0, q1, q2, q3, q4, q5⟩ := st_at6 K5.out.r3
            have z3 := K5.out.r3.lt)))
    all_goals
      go_wp2_with fail
      obtain ⟨F1, F2, F3, F4, F5⟩ := DoK.fin HIT.out M5.out (hcs_boxed22 HIT.out S5.out K5.out.r2 (.slice D1 rb.length d1) (.slice D2 rl.length d2)) (.slice S n d) (.int .i64 keep) (.slice none 0 0) (.slice none 0 0) (.int .i64 next) (.int .i64 gg)
      refine ret26_cell F1 F2 (v := .tuple #[.agg #[.slice D1 rb.length d1, .slice D2 rl.length d2], .agg #[.slice S n d, .int .i64 keep, .slice none 0 0, .slice none 0 0, .int .i64 next, .int .i64 gg], .int .i64 0]) (fun r0 r1 r2 r3 r4 r5 r6 r7 => by simp [results, Tryz.results12, go_sem, r0, r1, r2, r3, r4, r5, r6, r7]) rfl ⟨_, S, d, rfl, F3, F4, F5⟩
end Go.Proofs.YtnlkakbpcdfgfaaGreat
namespace Go.Proofs.YtnlkakbpcdfgfaaGreat
set_option maxRecDepth 20000
open Go.RowKit

theorem takes_at {n at_ : Nat} {s : ByteArray} (h : at_ < n) (hs : s.size = 40) : takesS n (((at_ : Nat) : Int), s) = true := by
  unfold takesS hasS
  simp [hs, h]
theorem isFl_no {at_ : Nat} {s : ByteArray} : isFl (((at_ : Nat) : Int), s) = false := by
  unfold isFl
  have : ((((at_ : Nat) : Int) == -1) : Bool) = false := beq_eq_false_iff_ne.2 (by omega)
  simp only [this, Bool.false_and]
theorem step_put {b : List ByteArray} {l : List Wr} {at_ : Nat} {s : ByteArray} (h : at_ < b.length) (hs : s.size = 40) : step1 b l (((at_ : Nat) : Int), s) = some (b, l ++ [(((at_ : Nat) : Int), s)]) := by
  unfold step1
  rw [isFl_no, takes_at h hs]
  rfl
theorem step_flush (b : List ByteArray) (l : List Wr) : step1 b l (-1, (⟨#[]⟩ : ByteArray)) = some (writeL b l, []) := by
  unfold step1; rw [if_pos (by decide +kernel)]
/-- The blocks behind such a commit. -/
def done45 (K : Nat) (b : List ByteArray) (base g : Nat) : List ByteArray := writeL (writeL b [((base : Nat), bk0 K)]) [(((g % 2 : Nat) : Int), sup45 K g)]
theorem done_len (K : Nat) (b : List ByteArray) (base g : Nat) : (done45 K b base g).length = b.length := by
  unfold done45; rw [writeL_length, writeL_length]
theorem do_plan {K : Nat} (hK : K = 0 ∨ K = 2) {b : List ByteArray} {base g : Nat} (hb : b.length = 135) (h : base < 135) (h1 : 1 ≤ g) (hg : g ≤ 2147483647) : doS b [] (plan45 K base g) = ((done45 K b base g, []), 4) := by
  unfold plan45
  have h2 : g % 2 < (writeL b [((base : Nat), bk0 K)]).length := by rw [writeL_length, hb]; omega
  rw [doS, step_put (by rw [hb]; exact h) (bk0_size hK)]
  simp only [List.nil_append]
  rw [doS, step_flush]
  simp only
  rw [doS, step_put h2 (sup45_size K h1 hg)]
  simp only [List.nil_append]
  rw [doS, step_flush]
  rfl
theorem do_one {K : Nat} (hK : K = 0 ∨ K = 2) {b : List ByteArray} {base g : Nat} (hb : b.length = 135) (h : base < 135) : doS b [] ((plan45 K base g).take 1) = ((b, ([((base : Int), bk0 K)] : List Wr)), 1) := by
  unfold plan45
  simp only [List.take_succ_cons, List.take_zero]
  rw [doS, step_put (by rw [hb]; exact h) (bk0_size hK)]
  rfl
theorem write1_at {b : List ByteArray} {at_ k : Nat} {s : ByteArray} (h : at_ < b.length) (hk : k ≠ at_) : (writeL b [(((at_ : Nat) : Int), s)])[k]? = b[k]? := by
  unfold writeL
  simp only [List.foldl_cons, List.foldl_nil]
  unfold write1 hasS
  simp only
  rw [if_pos (by simp; omega), Int.toNat_natCast, List.getElem?_set_ne (Ne.symm hk)]
/-- What Format answers of 135 blocks, two cells kept. -/
theorem fmt135 : fmtS 135 2 = ⟨done45 2 (newB 135) 46 1, [], 45, 2, 1, 1, 0⟩ := by
  have hb : newB 135 = List.replicate 135 zb := by unfold newB; rw [if_pos (by omega)]; rfl
  have hl : (newB 135).length = 135 := by rw [hb, List.length_replicate]
  have hz : ∀ k, k < 135 → (newB 135)[k]? = some zb := fun k hk => by rw [hb, List.getElem?_replicate, if_pos hk]
  have hc : cellsP (135 : Int).toNat = 45 := cells135
  have hok : fmtOk 135 2 := by unfold fmtOk; rw [hc]; unfold newOk; omega
  have hp : fmtP 135 2 = plan45 2 46 1 := by
    unfold fmtP
    rw [hc]
    exact plan_is (.inr rfl) hl (gen := 0) rfl (hz 46 (by omega)) (hz 47 (by omega)) (hz 48 (by omega))
  have hr : fmtR 135 2 = ((done45 2 (newB 135) 46 1, []), 4) := by
    unfold fmtR
    rw [hp]
    exact do_plan (.inr rfl) hl (by omega) (by omega) (by omega)
  have hpl : (plan45 2 46 1).length = 4 := rfl
  unfold fmtS
  rw [if_pos hok, hr, hp, hpl, hc]
  rfl
/-- The second commit's plan. -/
theorem plan135 : planW (done45 2 (newB 135) 46 1) [] 45 2 1 1 = plan45 2 2 2 := by
  have hb : newB 135 = List.replicate 135 zb := by unfold newB; rw [if_pos (by omega)]; rfl
  have hl : (newB 135).length = 135 := by rw [hb, List.length_replicate]
  have hz : ∀ k, k < 135 → (newB 135)[k]? = some zb := fun k hk => by rw [hb, List.getElem?_replicate, if_pos hk]
  have hd : ∀ k, 1 < k → k < 46 → (done45 2 (newB 135) 46 1)[k]? = some zb := fun k h1 h2 => by
    unfold done45
    rw [write1_at (by rw [writeL_length, hl]; omega) (by omega), write1_at (by rw [hl]; omega) (by omega)]
    exact hz k (by omega)
  exact plan_is (.inr rfl) (by rw [done_len, hl]) (gen := 1) rfl (hd 2 (by omega) (by omega)) (hd 3 (by omega) (by omega)) (hd 4 (by omega) (by omega))
end Go.Proofs.YtnlkakbpcdfgfaaGreat
namespace Go.Proofs.YtnlkakbpcdfgfaaGreat
set_option maxRecDepth 20000
open Go.RowKit

/-- What the calls of package commit answer, on a disk on which no write waits and of a state that uses no cell. -/
structure CmC : Prop where
  fmt : ∀ (blocks keep : Int) (w : World), blocks ≤ 200 → Calls Tryz.prog 5 #[.int .i64 blocks, .int .i64 keep] w (FmtAns (fmtS blocks keep) w)
  many : ∀ (A A' R : Option Addr) (b : List ByteArray) (PW : List Wr) (n q c c' next keep gen : Nat) (w : World), b.length ≤ 4000 → cellsP b.length = n → 1 ≤ n → keep ≤ n → 1 ≤ next → next ≤ 2147483647 → gen < 2147483647 → planW b [] n keep next gen = PW →
    Sl w A b.length c (b.map sv) → Sl w A' 0 c' [] → HcSl w R n q (List.replicate n HC.none) →
    Calls Tryz.prog 11 #[.agg #[.slice A b.length c, .slice A' 0 c'], .agg #[.slice R n q, .int .i64 keep, .slice none 0 0, .slice none 0 0, .int .i64 next, .int .i64 gen]] w fun e w' => e = .returned (.tuple #[.int .i64 PW.length, .int .i64 0]) ∧ Ext w w'
  does : ∀ (A A' R : Option Addr) (b : List ByteArray) (PW : List Wr) (n q c c' next keep gen gg : Nat) (stop : Int) (w : World), b.length ≤ 4000 → cellsP b.length = n → 1 ≤ n → keep ≤ n → 1 ≤ next → next ≤ 2147483647 → gen < 2147483647 → gen + 1 = gg → planW b [] n keep next gen = PW → PW.length ≤ 300000 →
    Sl w A b.length c (b.map sv) → Sl w A' 0 c' [] → HcSl w R n q (List.replicate n HC.none) →
    Calls Tryz.prog 12 #[.agg #[.slice A b.length c, .slice A' 0 c'], .agg #[.slice R n q, .int .i64 keep, .slice none 0 0, .slice none 0 0, .int .i64 next, .int .i64 gen], .int .i64 stop] w fun e w' => ∃ D S d, e = .returned (.tuple #[D, .agg #[.slice S n d, .int .i64 keep, .slice none 0 0, .slice none 0 0, .int .i64 next, .int .i64 (if (doS b [] (PW.take (planLen PW.length stop))).2 < PW.length then (gen : Int) else (gg : Int))], .int .i64 (if (doS b [] (PW.take (planLen PW.length stop))).2 < PW.length then 8 else 0)]) ∧ IsDisk w' D (doS b [] (PW.take (planLen PW.length stop))).1.1 (doS b [] (PW.take (planLen PW.length stop))).1.2 ∧ HcSl w' S n d (List.replicate n HC.none) ∧ Ext w w'
  follows : ∀ (R S : Option Addr) (n q d : Nat) (keep next gen keep' next' gen' : Int) (w : World), n ≤ 2000 → HcSl w R n q (List.replicate n HC.none) → HcSl w S n d (List.replicate n HC.none) →
    Calls Tryz.prog 13 #[.agg #[.slice R n q, .int .i64 keep, .slice none 0 0, .slice none 0 0, .int .i64 next, .int .i64 gen], .agg #[.slice S n d, .int .i64 keep', .slice none 0 0, .slice none 0 0, .int .i64 next', .int .i64 gen']] w fun e w' => e = .returned (.bool true) ∧ Ext w w'
/-- Two boxes, a disk's and a state's, and what is read of them from there on. -/
theorem disk_state {w W : World} {p0 p1 x0 x1 x2 x3 x4 x5 : Value} {t0 t1 : TypeId} (h : (w.alloc (.cells #[p0, p1] t0)).alloc (.cells #[x0, x1, x2, x3, x4, x5] t1) = W) : Ext w W ∧ ∀ w', Ext W w' →
    w'.cell? ⟨w.heap.size, 0, none⟩ = some p0 ∧ w'.cell? ⟨w.heap.size, 1, none⟩ = some p1 ∧ w'.cell? ⟨w.heap.size + 1, 0, none⟩ = some x0 ∧ w'.cell? ⟨w.heap.size + 1, 1, none⟩ = some x1 ∧ w'.cell? ⟨w.heap.size + 1, 2, none⟩ = some x2 ∧ w'.cell? ⟨w.heap.size + 1, 3, none⟩ = some x3 ∧ w'.cell? ⟨w.heap.size + 1, 4, none⟩ = some x4 ∧ w'.cell? ⟨w.heap.size + 1, 5, none⟩ = some x5 := by
  obtain ⟨hx, _, b0, b1⟩ := bts2 h
  exact ⟨hx, fun w' hy => ⟨(b0.below hy).bx.at 0 _ rfl, (b0.below hy).bx.at 1 _ rfl, (b1.below hy).bx.at 0 _ rfl, (b1.below hy).bx.at 1 _ rfl, (b1.below hy).bx.at 2 _ rfl, (b1.below hy).bx.at 3 _ rfl, (b1.below hy).bx.at 4 _ rfl, (b1.below hy).bx.at 5 _ rfl⟩⟩
set_option maxRecDepth 100000 in
set_option maxHeartbeats 6400000 in
theorem cshown_any (G : CmC) (w : World) : Calls Tryz.prog 4 #[] w fun e w' => e = .returned (.bool true) ∧ Ext w w' := by
  have GF := Lib.hid (G.fmt 135 2 w (by omega))
  rw [fmt135] at GF
  have hb : (newB 135).length = 135 := by decide +kernel
  have hl : (done45 2 (newB 135) 46 1).length = 135 := by rw [done_len, hb]
  have hp := plan135
  have hd1 : doS (done45 2 (newB 135) 46 1) [] ((plan45 2 2 2).take (planLen (plan45 2 2 2).length 1)) = ((done45 2 (newB 135) 46 1, [((2 : Int), bk0 2)]), 1) := do_one (.inr rfl) (base := 2) (g := 2) hl (by omega)
  have hd2 : doS (done45 2 (newB 135) 46 1) [] ((plan45 2 2 2).take (planLen (plan45 2 2 2).length (-1))) = ((done45 2 (done45 2 (newB 135) 46 1) 2 2, []), 4) := do_plan (.inr rfl) (base := 2) (g := 2) hl (by omega) (by omega) (by omega)
  have h4 : (plan45 2 2 2).length = 4 := rfl
  generalize done45 2 (done45 2 (newB 135) 46 1) 2 2 = B2 at *
  generalize done45 2 (newB 135) 46 1 = B at *
  have hc : cellsP B.length = 45 := by rw [hl]; exact cells135
  have GM := Lib.hid (fun A A' R q c c' w' h1 h2 h3 => G.many A A' R B (plan45 2 2 2) 45 q c c' 1 2 1 w' (by omega) hc (by omega) (by omega) (by omega) (by omega) (by omega) hp h1 h2 h3)
  have GD := Lib.hid (fun A A' R q c c' w' h1 h2 h3 => G.does A A' R B (plan45 2 2 2) 45 q c c' 1 2 1 2 1 w' (by omega) hc (by omega) (by omega) (by omega) (by omega) (by omega) rfl hp (by omega) h1 h2 h3)
  have GE := Lib.hid (fun A A' R q c c' w' h1 h2 h3 => G.does A A' R B (plan45 2 2 2) 45 q c c' 1 2 1 2 (-1) w' (by omega) hc (by omega) (by omega) (by omega) (by omega) (by omega) rfl hp (by omega) h1 h2 h3)
  rw [hd1] at GD
  rw [hd2] at GE
  rw [h4] at GM GD GE
  simp only [show ((1 : Nat) < 4) = True from by simp, show ((4 : Nat) < 4) = False from by simp, if_true, if_false] at GD GE
  have GW := Lib.hid (fun R S q d w' h1 h2 => G.follows R S 45 q d 2 1 1 2 1 2 w' (by omega) h1 h2)
  have HL := Lib.hid hl
  clear hb hl hp hd1 hd2 h4 hc
  go_enter Tryz.func4, Tryz.ntmps4
  go_wp2_with (go_at_call 5; refine stop_here ?_)
  refine stop_on ?_
  refine GF.out.mono ?_
  unfold FmtAns
  rintro e w1 ⟨D, S, d, rfl, ⟨A, c, A', c', rfl, hA, hA'⟩, hS, hx1⟩
  simp only [List.length_nil] at hA' ⊢
  have X1 := Lib.hid hx1
  obtain ⟨w2, hw2⟩ : ∃ W, (w1.alloc (.cells #[.slice A B.length c, .slice A' 0 c'] 26)).alloc (.cells #[.slice S 45 d, .int .i64 2, .slice none 0 0, .slice none 0 0, .int .i64 1, .int .i64 1] 33) = W := ⟨_, rfl⟩
  obtain ⟨hx2, hr2⟩ := disk_state hw2
  have HR2 := Lib.hid hr2
  have A2 := Lib.hid (hA.ext hx2)
  have A2' := Lib.hid (hA'.ext hx2)
  have S2 := Lib.hid (hS.ext hx2)
  have X2 := Lib.hid (hx1.trans hx2)
  obtain ⟨p0, p1, s0, s1, s2, s3, s4, s5⟩ := hr2 _ (Ext.refl _)
  clear hA hA' hS hx1 hx2 hr2
  go_wp2_with (go_at_call 11; refine stop_here ?_)
  refine stop_on ?_
  refine (GM.out A A' S d c c' w2 A2.out A2'.out S2.out).mono ?_
  rintro e w3 ⟨rfl, hx3⟩
  have X3 := Lib.hid hx3
  clear p0 p1 s0 s1 s2 s3 s4 s5
  obtain ⟨p0, p1, s0, s1, s2, s3, s4, s5⟩ := HR2.out _ hx3
  clear hx3
  go_wp2_with (go_at_call 12; refine stop_here ?_)
  refine stop_on ?_
  refine (GD.out A A' S d c c' w3 (A2.out.ext X3.out) (A2'.out.ext X3.out) (S2.out.ext X3.out)).mono ?_
  rintro e w4 ⟨Dv, S4, d4, rfl, ⟨D1, d1, D2, d2, rfl, hda, hdb⟩, hs4, hx4⟩
  simp only [List.length_cons, List.length_nil]
  have X4 := Lib.hid (X3.out.trans hx4)
  obtain ⟨w5, hw5⟩ : ∃ W, (w4.alloc (.cells #[.slice D1 B.length d1, .slice D2 1 d2] 26)).alloc (.cells #[.slice S4 45 d4, .int .i64 2, .slice none 0 0, .slice none 0 0, .int .i64 1, .int .i64 1] 33) = W := ⟨_, rfl⟩
  obtain ⟨hx5, hr5⟩ := disk_state hw5
  have HR5 := Lib.hid hr5
  have X5 := Lib.hid (X4.out.trans hx5)
  clear p0 p1 s0 s1 s2 s3 s4 s5 hda hdb hs4 hx4
  obtain ⟨p0, p1, s0, s1, s2, s3, s4, s5⟩ := HR2.out _ X5.out
  clear hx5 hr5
  go_wp2_with (go_at_call 12; refine stop_here ?_)
  refine stop_on ?_
  refine (GE.out A A' S d c c' w5 (A2.out.ext X5.out) (A2'.out.ext X5.out) (S2.out.ext X5.out)).mono ?_
  rintro e w6 ⟨Ev, S6, d6, rfl, ⟨E1, e1, E2, e2, rfl, hda, hdb⟩, hs6, hx6⟩
  simp only [List.length_nil]
  have Y6 := Lib.hid hx6
  have X6 := Lib.hid (X5.out.trans hx6)
  obtain ⟨w7, hw7⟩ : ∃ W, (w6.alloc (.cells #[.slice E1 B2.length e1, .slice E2 0 e2] 26)).alloc (.cells #[.slice S6 45 d6, .int .i64 2, .slice none 0 0, .slice none 0 0, .int .i64 1, .int .i64 2] 33) = W := ⟨_, rfl⟩
  obtain ⟨hx7, hr7⟩ := disk_state hw7
  have X7 := Lib.hid (X6.out.trans hx7)
  have S7 := Lib.hid (hs6.ext hx7)
  clear p0 p1 s0 s1 s2 s3 s4 s5
  obtain ⟨p0, p1, s0, s1, s2, s3, s4, s5⟩ := HR2.out _ X7.out
  obtain ⟨y0, y1, z0, z1, z2, z3, z4, z5⟩ := HR5.out _ (Y6.out.trans hx7)
  obtain ⟨u0, u1, v0, v1, v2, v3, v4, v5⟩ := hr7 _ (Ext.refl _)
  have hl := HL.out
  clear hda hdb hs6 hx6 hx7 hr7
  go_wp2_with (go_at_call 13; refine stop_here ?_)
  refine stop_on ?_
  refine (GW.out S S6 d d6 w7 (S2.out.ext X7.out) S7.out).mono ?_
  rintro e w8 ⟨rfl, hx8⟩
  have X8 := Lib.hid (X7.out.trans hx8)
  clear hx8 p0 p1 s0 s1 s2 s3 s4 s5 y0 y1 z0 z1 z2 z3 z4 z5 u0 u1 v0 v1 v2 v3 v4 v5
  go_wp2_with fail
  go_ret
  exact ⟨rfl, X2.out.trans X8.out⟩
/-- So package commit is as the law asks it. -/
theorem cmOk_of (G : CmC) : CmOk := { shown := cshown_any G, fmt := G.fmt }
end Go.Proofs.YtnlkakbpcdfgfaaGreat
namespace Go.Proofs.YtnlkakbpcdfgfaaGreat
set_option maxRecDepth 20000
open Go.RowKit

set_option maxRecDepth 100000 in
set_option maxHeartbeats 3200000 in
theorem stateNew_any (n keep : Int) (w : World) :
    Calls Tryz.prog 15 #[.int .i64 n, .int .i64 keep] w fun e w' => ∃ S d, e = .returned (.tuple #[.agg #[.slice S (newH n keep).c.length d, .int .i64 (newH n keep).keep, .slice none 0 0, .slice none 0 0, .int .i64 (1 - newHE n keep), .int .i64 0], .int .i64 (newHE n keep)]) ∧ HcSl w' S (newH n keep).c.length d (newH n keep).c ∧ Ext w w' := by
  have hb := Bx.new w #[.slice none 0 0, .int .i64 0, .slice none 0 0, .slice none 0 0, .int .i64 0, .int .i64 0] 33
  have HB := Lib.hid hb
  have HX := Lib.hid ((Ext.refl w).alloc (.cells #[.slice none 0 0, .int .i64 0, .slice none 0 0, .slice none 0 0, .int .i64 0, .int .i64 0] 33))
  clear hb
  have RN := Lib.hid (fun w' => heapNew_any n keep w')
  by_cases hok : newOk n keep
  · have he : newHE n keep = 0 := by unfold newHE; rw [if_pos hok]
    rw [he] at RN ⊢
    have HIT := Lib.hid (show ∀ y ∈ (newH n keep).c, y.it = [] from by
      unfold newH; rw [if_pos hok]
      intro y hy
      obtain ⟨_, rfl⟩ := List.mem_replicate.1 hy
      rfl)
    clear he hok
    generalize newH n keep = h at *
    obtain ⟨l, kp⟩ := h
    simp only at RN HIT ⊢
    generalize hm : l.length = m at *
    go_enter Tryz.func15, Tryz.ntmps15
    go_wp2_with (go_at_call 30; refine (RN.out _).mono ?_; rintro e w2 ⟨S, d, rfl, hs, hx⟩; have HS := Lib.hid hs; have X2 := Lib.hid (HX.out.trans hx); have B2 := Lib.hid (HB.out.ext hx); have z2 := B2.out.lt; obtain ⟨f0, f1, f2, f3, f4, f5⟩ := st_free6 B2.out; obtain ⟨q0, q1, q2, q3, q4, q5⟩ := st_at6 B2.out; clear hs hx)
    refine ret6_cell (k := w.heap.size) (v := .tuple #[.agg #[.slice S m d, .int .i64 kp, .slice none 0 0, .slice none 0 0, .int .i64 1, .int .i64 0], .int .i64 0]) ((st_set6 B2.out _ _ _ _ _ _).ext ((Ext.refl _).alloc _)) (fun r0 r1 r2 r3 r4 r5 => by simp [results, Tryz.results15, go_sem, r0, r1, r2, r3, r4, r5]) rfl ⟨S, d, rfl, (hcs_boxed6 HIT.out HS.out B2.out _ _ _ _ _ _).ext ((Ext.refl _).alloc _), (ext_store6 X2.out (Nat.le_refl _) _ _ _ _ _ _).alloc _⟩
  · have he : newHE n keep = 1 := by unfold newHE; rw [if_neg hok]
    have hh : newH n keep = ⟨[], 0⟩ := by unfold newH; rw [if_neg hok]
    rw [he, hh] at RN ⊢
    clear he hh hok
    simp only [List.length_nil] at RN ⊢
    go_enter Tryz.func15, Tryz.ntmps15
    go_wp2_with (go_at_call 30; refine (RN.out _).mono ?_; rintro e w2 ⟨S, d, rfl, hs, hx⟩; have HS := Lib.hid hs; have X2 := Lib.hid (HX.out.trans hx); have B2 := Lib.hid (HB.out.ext hx); have z2 := B2.out.lt; obtain ⟨f0, f1, f2, f3, f4, f5⟩ := st_free6 B2.out; obtain ⟨q0, q1, q2, q3, q4, q5⟩ := st_at6 B2.out; clear hs hx)
    refine ret6_cell (k := w.heap.size) (v := .tuple #[.agg #[.slice none 0 0, .int .i64 0, .slice none 0 0, .slice none 0 0, .int .i64 0, .int .i64 0], .int .i64 1]) ((st_set6 B2.out _ _ _ _ _ _).ext ((Ext.refl _).alloc _)) (fun r0 r1 r2 r3 r4 r5 => by simp [results, Tryz.results15, go_sem, r0, r1, r2, r3, r4, r5]) rfl ⟨none, 0, rfl, ⟨rfl, [], Sl.nil _, HcAt.nil _⟩, (ext_store6 X2.out (Nat.le_refl _) _ _ _ _ _ _).alloc _⟩
end Go.Proofs.YtnlkakbpcdfgfaaGreat
