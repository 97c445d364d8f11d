/- The walk of state of package book's reader, and of Parse, of any bytes. -/
import Derived.Test.YtjbfopnkeclfgaaGreatK30
namespace Go.Proofs.YtjbfopnkeclfgaaGreat
set_option maxRecDepth 20000
open Go.RowKit
attribute [local go_sem ↓] Go.wp_at_zero Go.wp_at_succ

set_option maxRecDepth 100000 in
set_option maxHeartbeats 3200000 in
theorem rdState_any (v : World) (R : Nat) (A : Option Addr) (l : List UInt8) (m c : Nat) (gen : Int) (w : World) (hm : m = l.length) (hA : Sl v A m c (l.map bv)) (h : Rd v R A m c 0 w) :
    Calls Tryz.prog 71 #[.pointer (some ⟨R, 0, none⟩), .int .i64 gen] w fun e w' => ((∃ rs keep vs ts next S q V cv L cl, bookT l gen = some (rs, keep, vs, ts, next) ∧ e = .returned (.tuple #[.agg #[.slice S rs.length q, .int .i64 keep, .slice V vs.length cv, .slice L ts.length cl, .int .i64 next, .int .i64 gen], .int .i64 0]) ∧ (∃ B, v.heap.size ≤ B ∧ w'.ownsRow B 61 4 (.slice S rs.length q) rs.length (hcV rs)) ∧ (∃ B, v.heap.size ≤ B ∧ w'.ownsRow B 103 2 (.slice V vs.length cv) vs.length (ivs vs)) ∧ Sl w' L ts.length cl ((ts.map tkB2).map cxv)) ∨ (bookT l gen = none ∧ e = .returned (.tuple #[.agg stZ, .int .i64 2]))) ∧ Ext v w' := by
  have hmf : ∀ (fn : Fn) (first cap : Array Value) (w : World), (Instr.makeFunc fn first cap).run Tryz.prog w = .ok (.func fn first cap) w := fun _ _ _ _ => rfl
  have hlen := hA.len
  unfold maxLen at hlen
  have hlt := h.box.lt
  have HN := Lib.hid (fun b wide w' (h : Rd v R A m c b w') (h1 : 0 ≤ b) (h2 : b ≤ m) => rdNumber_any v R A l m c b wide w' hm hA h h1 h2)
  have HV := Lib.hid (fun b w' (h : Rd v R A m c b w') (h1 : 0 ≤ b) (h2 : b ≤ m) => rdVols_any v R A l m c b w' hm hA h h1 h2)
  have HC := Lib.hid (fun b w' (h : Rd v R A m c b w') (h1 : 0 ≤ b) (h2 : b ≤ m) => rdCells_any v R A l m c b w' hm hA h h1 h2)
  have HT := Lib.hid (fun b w' (h : Rd v R A m c b w') (h1 : 0 ≤ b) (h2 : b ≤ m) => rdTasks_any v R A l m c b w' hm hA h h1 h2)
  have HM := Lib.hid (fun p b w => rdMust_any p b w)
  have HML := Lib.hid hm
  have hx0 := ((Ext.refl w).alloc (.cells #[.slice none 0 0, .int .i64 0, .slice none 0 0, .slice none 0 0, .int .i64 0, .int .i64 gen] 34)).alloc (.cells #[.int .i64 0] 35)
  have hk0 := (Bx.new w #[.slice none 0 0, .int .i64 0, .slice none 0 0, .slice none 0 0, .int .i64 0, .int .i64 gen] 34).ext ((Ext.refl _).alloc (.cells #[.int .i64 0] 35))
  have he0 := Bx.new (w.alloc (.cells #[.slice none 0 0, .int .i64 0, .slice none 0 0, .slice none 0 0, .int .i64 0, .int .i64 gen] 34)) #[.int .i64 0] 35
  rw [World.size_alloc] at he0
  have HS0 := Lib.hid (show Rs v R A m c w.heap.size 0 #[.slice none 0 0, .int .i64 0, .slice none 0 0, .slice none 0 0, .int .i64 0, .int .i64 gen] _ from ⟨h.on hx0, hk0, he0⟩)
  obtain ⟨res, hres⟩ : ∃ r, bookT l gen = r := ⟨_, rfl⟩
  have HP := Lib.hid hres
  rw [hres]
  clear h hA hx0 hk0 he0 hres hm
  go_enter_defers Tryz.func71, Tryz.ntmps71
  go_wp2_with (go_at_call 111; refine stop_here ?_)
  refine stop_on ?_
  refine (HN.out 0 4 _ HS0.out.rd (by omega) (by omega)).mono ?_
  rintro e w1 ⟨(⟨nx, hq, rfl, hr⟩ | ⟨hq, rfl, hr⟩), hx⟩
  rotate_left 1
  · have HE := Lib.hid (show res = none from by rw [← HP.out]; unfold bookT; simp only [hq])
    have HS := Lib.hid (HS0.out.door hlt hx)
    clear hx hq
    go_wp2
    obtain ⟨hk, he, hn⟩ := HS.out
    exact bkDoor (by omega) hk he rfl rfl ⟨.inr ⟨HE.out, rfl⟩, hn⟩
  have HQ1 := Lib.hid hq
  have HS1 := Lib.hid (HS0.out.call hlt (show Rd v R A m c 4 w1 from hr) hx)
  have HSP1 := Lib.hid (show Rs v R A m c w.heap.size 4 #[.slice none 0 0, .int .i64 0, .slice none 0 0, .slice none 0 0, .int .i64 nx, .int .i64 gen] (w1.setCell ⟨w.heap.size, 4, none⟩ (.int .i64 nx)) from HS1.out.put hlt 4 _)
  have q4 := HS1.out.k.at 4 (.int .i64 0) rfl
  have f4 := HS1.out.k.free 4
  have hm4 : (4 : Int) ≤ m := by rw [HML.out]; exact (takeS_at hq).2.1
  clear hr hx hq
  go_wp2_with (go_at_call 112; refine stop_here ?_)
  refine stop_on ?_
  generalize hW1 : w1.setCell ⟨w.heap.size, 4, none⟩ (.int .i64 nx) = W1 at *
  clear q4 f4 hW1
  refine (HV.out 4 _ HSP1.out.rd (by omega) hm4).mono ?_
  rintro e w2 ⟨(⟨vs, b1, V, cv, hq, rfl, ho, hr⟩ | ⟨hq, rfl⟩), hx⟩
  rotate_left 1
  · have HE := Lib.hid (show res = none from by rw [← HP.out]; unfold bookT; simp only [HQ1.out, hq])
    have HS := Lib.hid (HSP1.out.door hlt hx)
    clear hx hq
    go_wp2
    obtain ⟨hk, he, hn⟩ := HS.out
    exact bkDoor (by omega) hk he rfl rfl ⟨.inr ⟨HE.out, rfl⟩, hn⟩
  have HQ2 := Lib.hid hq
  have HS2 := Lib.hid (HSP1.out.call hlt hr hx)
  have HSP2 := Lib.hid (show Rs v R A m c w.heap.size b1 #[.slice none 0 0, .int .i64 0, .slice V vs.length cv, .slice none 0 0, .int .i64 nx, .int .i64 gen] (w2.setCell ⟨w.heap.size, 2, none⟩ (.slice V vs.length cv)) from HS2.out.put hlt 2 _)
  have hB1 : w.heap.size + 1 < W1.heap.size := HSP1.out.e.lt
  have HO2 := Lib.hid (((Rx.refl w.heap.size w2).set 2 (.slice V vs.length cv)).own ho (by omega))
  have q4 := HS2.out.k.at 2 (.slice none 0 0) rfl
  have f4 := HS2.out.k.free 2
  obtain ⟨_, hb1a, hb1b, hv256⟩ := volsP_ok hq
  rw [← HML.out] at hb1b
  clear hr hx hq ho
  go_wp2_with (go_at_call 114; refine stop_here ?_)
  refine stop_on ?_
  generalize hW2 : w2.setCell ⟨w.heap.size, 2, none⟩ (.slice V vs.length cv) = W2 at *
  clear q4 f4 hW2
  refine (HT.out b1 _ HSP2.out.rd hb1a hb1b).mono ?_
  rintro e w3 ⟨(⟨ts, b2, L, cl, hq, rfl, ho, hr⟩ | ⟨hq, rfl⟩), hx⟩
  rotate_left 1
  · have HE := Lib.hid (show res = none from by rw [← HP.out]; unfold bookT; simp only [HQ1.out, HQ2.out, hq])
    have HS := Lib.hid (HSP2.out.door hlt hx)
    clear hx hq
    go_wp2
    obtain ⟨hk, he, hn⟩ := HS.out
    exact bkDoor (by omega) hk he rfl rfl ⟨.inr ⟨HE.out, rfl⟩, hn⟩
  have HQ3 := Lib.hid hq
  have HS3 := Lib.hid (HSP2.out.call hlt hr hx)
  have HSP3 := Lib.hid (show Rs v R A m c w.heap.size b2 #[.slice none 0 0, .int .i64 0, .slice V vs.length cv, .slice L ts.length cl, .int .i64 nx, .int .i64 gen] (w3.setCell ⟨w.heap.size, 3, none⟩ (.slice L ts.length cl)) from HS3.out.put hlt 3 _)
  have HO3 := Lib.hid (((Rx.refl w.heap.size w3).set 3 (.slice L ts.length cl)).own (hx.own HO2.out (by omega)) (by omega))
  have HL3 := Lib.hid (rd_row HS3.out.k (numBox6 _ _ _ _ _ _ _ _ _ _ _ _) ((Rx.refl w.heap.size w3).set 3 (.slice L ts.length cl)) ho (cxv_apart _))
  have q4 := HS3.out.k.at 3 (.slice none 0 0) rfl
  have f4 := HS3.out.k.free 3
  obtain ⟨hb2a, hb2b, hts⟩ := tasksP_ok hq
  rw [← HML.out] at hb2b
  have HTS := Lib.hid hts
  clear hr hx hq ho hts
  go_wp2_with (go_at_call 111; refine stop_here ?_)
  refine stop_on ?_
  generalize hW3 : w3.setCell ⟨w.heap.size, 3, none⟩ (.slice L ts.length cl) = W3 at *
  clear q4 f4 hW3
  refine (HN.out b2 2 _ HSP3.out.rd hb2a hb2b).mono ?_
  rintro e w4 ⟨(⟨kp, hq, rfl, hr⟩ | ⟨hq, rfl, hr⟩), hx⟩
  rotate_left 1
  · have HE := Lib.hid (show res = none from by rw [← HP.out]; unfold bookT; simp only [HQ1.out, HQ2.out, HQ3.out, hq])
    have HS := Lib.hid (HSP3.out.door hlt hx)
    clear hx hq
    go_wp2
    obtain ⟨hk, he, hn⟩ := HS.out
    exact bkDoor (by omega) hk he rfl rfl ⟨.inr ⟨HE.out, rfl⟩, hn⟩
  have HQ4 := Lib.hid hq
  have HS4 := Lib.hid (HSP3.out.call hlt hr hx)
  have HSP4 := Lib.hid (show Rs v R A m c w.heap.size (b2 + 2) #[.slice none 0 0, .int .i64 kp, .slice V vs.length cv, .slice L ts.length cl, .int .i64 nx, .int .i64 gen] (w4.setCell ⟨w.heap.size, 1, none⟩ (.int .i64 kp)) from HS4.out.put hlt 1 _)
  have HO4 := Lib.hid (((Rx.refl w.heap.size w4).set 1 (.int .i64 kp)).own (hx.own HO3.out (by omega)) (by omega))
  have HL4 := Lib.hid (rd_row HS4.out.k (numBox6 _ _ _ _ _ _ _ _ _ _ _ _) ((Rx.refl w.heap.size w4).set 1 (.int .i64 kp)) (rd_row HSP3.out.rd.box (numBox2 _ _ _ _) hx HL3.out (cxv_apart _)) (cxv_apart _))
  have q4 := HS4.out.k.at 1 (.int .i64 0) rfl
  have f4 := HS4.out.k.free 1
  have hb3 : b2 + 2 ≤ m := by rw [HML.out]; exact (takeS_at hq).2.1
  clear hr hx hq
  go_wp2_with (go_at_call 115; refine stop_here ?_)
  refine stop_on ?_
  generalize hW4 : w4.setCell ⟨w.heap.size, 1, none⟩ (.int .i64 kp) = W4 at *
  clear q4 f4 hW4
  refine (HC.out (b2 + 2) _ HSP4.out.rd (by omega) hb3).mono ?_
  rintro e w5 ⟨(⟨rs, b3, C, cq, hq, rfl, ho, hr⟩ | ⟨hq, rfl⟩), hx⟩
  rotate_left 1
  · have HE := Lib.hid (show res = none from by rw [← HP.out]; unfold bookT; simp only [HQ1.out, HQ2.out, HQ3.out, HQ4.out, hq])
    have HS := Lib.hid (HSP4.out.door hlt hx)
    clear hx hq
    go_wp2
    obtain ⟨hk, he, hn⟩ := HS.out
    exact bkDoor (by omega) hk he rfl rfl ⟨.inr ⟨HE.out, rfl⟩, hn⟩
  have HQ5 := Lib.hid hq
  have HS5 := Lib.hid (HSP4.out.call hlt hr hx)
  have HSP5 := Lib.hid (show Rs v R A m c w.heap.size b3 #[.slice C rs.length cq, .int .i64 kp, .slice V vs.length cv, .slice L ts.length cl, .int .i64 nx, .int .i64 gen] (w5.setCell ⟨w.heap.size, 0, none⟩ (.slice C rs.length cq)) from HS5.out.put hlt 0 _)
  have hB4 : w.heap.size + 1 < W4.heap.size := HSP4.out.e.lt
  have HO5 := Lib.hid (((Rx.refl w.heap.size w5).set 0 (.slice C rs.length cq)).own (hx.own HO4.out (by omega)) (by omega))
  have HC5 := Lib.hid (((Rx.refl w.heap.size w5).set 0 (.slice C rs.length cq)).own ho (by omega))
  have HL5 := Lib.hid (rd_row HS5.out.k (numBox6 _ _ _ _ _ _ _ _ _ _ _ _) ((Rx.refl w.heap.size w5).set 0 (.slice C rs.length cq)) (rd_row HSP4.out.rd.box (numBox2 _ _ _ _) hx HL4.out (cxv_apart _)) (cxv_apart _))
  have q4 := HS5.out.k.at 0 (.slice none 0 0) rfl
  have f4 := HS5.out.k.free 0
  obtain ⟨hrs1, hrs2, hb3a, hb3b⟩ := cellsR_ok hq
  rw [← HML.out] at hb3b
  have HRS := Lib.hid hrs2
  clear hr hx hq ho hrs2
  go_wp2_with fail
  generalize hW5 : w5.setCell ⟨w.heap.size, 0, none⟩ (.slice C rs.length cq) = W5 at *
  clear q4 f4 hW5
  have HTO := Lib.hid (fun w' (hy : Ext W5 w') => bkTold_any (rs.map hcOf) kp vs ts nx gen C V L rs.length cq vs.length cv ts.length cl w' (by omega) HRS.out rfl (by omega) rfl HTS.out (⟨by simp, hcV rs, (own_sl HC5.out).ext hy, (hcV_at W5 rs).ext hy⟩) ((own_sl HO5.out).ext hy) (HL5.out.ext hy))
  have HK := Lib.hid (fun w' (hy : Ext W5 w') => (show (w'.cell? ⟨R, 0, none⟩ = some (.slice A m c) ∧ w'.cell? ⟨R, 1, none⟩ = some (.int .i64 b3)) ∧ w'.cell? ⟨w.heap.size, 0, none⟩ = some (.slice C rs.length cq) ∧ w'.cell? ⟨w.heap.size, 1, none⟩ = some (.int .i64 kp) ∧ w'.cell? ⟨w.heap.size, 2, none⟩ = some (.slice V vs.length cv) ∧ w'.cell? ⟨w.heap.size, 3, none⟩ = some (.slice L ts.length cl) ∧ w'.cell? ⟨w.heap.size, 4, none⟩ = some (.int .i64 nx) ∧ w'.cell? ⟨w.heap.size, 5, none⟩ = some (.int .i64 gen) from ⟨⟨(HSP5.out.rd.box.ext hy).read2.1, (HSP5.out.rd.box.ext hy).read2.2.1⟩, st_at6 (HSP5.out.k.ext hy)⟩))
  generalize HTV : toldP (rs.map hcOf) kp vs ts nx gen = told at HTO
  by_cases hat : b3 = m
  rotate_left 1
  · have d1 : (b3 == (m : Int)) = false := by simpa using hat
    have HE := Lib.hid (show res = none from by rw [← HP.out]; unfold bookT; simp only [HQ1.out, HQ2.out, HQ3.out, HQ4.out, HQ5.out]; rw [if_neg]; simp only [Bool.and_eq_true, decide_eq_true_eq]; rw [← HML.out]; exact fun h => hat h.1)
    clear hat HTV HTO
    refine wp_region_held_drew (S := (fun w' => (w'.cell? ⟨R, 0, none⟩ = some (.slice A m c) ∧ w'.cell? ⟨R, 1, none⟩ = some (.int .i64 b3)) ∧ w'.cell? ⟨w.heap.size, 0, none⟩ = some (.slice C rs.length cq) ∧ w'.cell? ⟨w.heap.size, 1, none⟩ = some (.int .i64 kp) ∧ w'.cell? ⟨w.heap.size, 2, none⟩ = some (.slice V vs.length cv) ∧ w'.cell? ⟨w.heap.size, 3, none⟩ = some (.slice L ts.length cl) ∧ w'.cell? ⟨w.heap.size, 4, none⟩ = some (.int .i64 nx) ∧ w'.cell? ⟨w.heap.size, 5, none⟩ = some (.int .i64 gen))) (by kernel_rfl) (HK.out _ (Ext.refl W5).drew) (fun hHeld => ?_)
    refine take_yes (i := 0) (v := ?_) (some 30) rfl rfl (by kernel_rfl) (by kernel_rfl) (by kernel_rfl) (fun _ _ _ h => bkDoor_put (by decide) (by decide) h) (by rfl) (by assumption) ?_ ?_
    rotate_left 1
    · intro w hSw; (try dsimp only at hSw); go_simp; try (with_reducible rfl)
    (try simp only [Act.put, List.setIfInBounds_toArray, List.set_cons_zero, List.set_cons_succ])
    refine take_yes (i := 1) (v := ?_) (some 31) rfl rfl (by kernel_rfl) (by kernel_rfl) (by kernel_rfl) (fun _ _ _ h => bkDoor_put (by decide) (by decide) h) (by rfl) (by assumption) ?_ ?_
    rotate_left 1
    · intro w hSw; (try dsimp only at hSw); go_simp; try (with_reducible rfl)
    (try simp only [Act.put, List.setIfInBounds_toArray, List.set_cons_zero, List.set_cons_succ])
    refine take_yes (i := 2) (v := ?_) (some 32) rfl rfl (by kernel_rfl) (by kernel_rfl) (by kernel_rfl) (fun _ _ _ h => bkDoor_put (by decide) (by decide) h) (by rfl) (by assumption) ?_ ?_
    rotate_left 1
    · intro w hSw; (try dsimp only at hSw); go_simp; try (with_reducible rfl)
    (try simp only [Act.put, List.setIfInBounds_toArray, List.set_cons_zero, List.set_cons_succ])
    refine take_yes (i := 3) (v := ?_) (some 33) rfl rfl (by kernel_rfl) (by kernel_rfl) (by kernel_rfl) (fun _ _ _ h => bkDoor_put (by decide) (by decide) h) (by rfl) (by assumption) ?_ ?_
    rotate_left 1
    · intro w hSw; (try dsimp only at hSw); go_simp; try (with_reducible rfl)
    (try simp only [Act.put, List.setIfInBounds_toArray, List.set_cons_zero, List.set_cons_succ])
    refine take_yes (i := 4) (v := ?_) (some 34) rfl rfl (by kernel_rfl) (by kernel_rfl) (by kernel_rfl) (fun _ _ _ h => bkDoor_put (by decide) (by decide) h) (by rfl) (by assumption) ?_ ?_
    rotate_left 1
    · intro w hSw; (try dsimp only at hSw); go_simp; try (with_reducible rfl)
    (try simp only [Act.put, List.setIfInBounds_toArray, List.set_cons_zero, List.set_cons_succ])
    refine take_yes (i := 5) (v := ?_) (some 35) rfl rfl (by kernel_rfl) (by kernel_rfl) (by kernel_rfl) (fun _ _ _ h => bkDoor_put (by decide) (by decide) h) (by rfl) (by assumption) ?_ ?_
    rotate_left 1
    · intro w hSw; (try dsimp only at hSw); go_simp; try (with_reducible rfl)
    (try simp only [Act.put, List.setIfInBounds_toArray, List.set_cons_zero, List.set_cons_succ])
    refine take_yes (i := 6) (v := ?_) (some 36) rfl rfl (by kernel_rfl) (by kernel_rfl) (by kernel_rfl) (fun _ _ _ h => bkDoor_put (by decide) (by decide) h) (by rfl) (by assumption) ?_ ?_
    rotate_left 1
    · intro w hSw; (try dsimp only at hSw); go_simp; try (with_reducible rfl)
    (try simp only [Act.put, List.setIfInBounds_toArray, List.set_cons_zero, List.set_cons_succ])
    refine take_yes (i := 7) (v := ?_) (some 37) rfl rfl (by kernel_rfl) (by kernel_rfl) (by kernel_rfl) (fun _ _ _ h => bkDoor_put (by decide) (by decide) h) (by rfl) (by assumption) ?_ ?_
    rotate_left 1
    · intro w hSw; (try dsimp only at hSw); go_simp; try (with_reducible rfl)
    (try simp only [Act.put, List.setIfInBounds_toArray, List.set_cons_zero, List.set_cons_succ])
    refine take_yes (i := 8) (v := ?_) (some 38) rfl rfl (by kernel_rfl) (by kernel_rfl) (by kernel_rfl) (fun _ _ _ h => bkDoor_put (by decide) (by decide) h) (by rfl) (by assumption) ?_ ?_
    rotate_left 1
    · intro w hSw; (try dsimp only at hSw); go_simp; try (with_reducible rfl)
    (try simp only [Act.put, List.setIfInBounds_toArray, List.set_cons_zero, List.set_cons_succ])
    refine take_yes (i := 9) (v := ?_) (some 39) rfl rfl (by kernel_rfl) (by kernel_rfl) (by kernel_rfl) (fun _ _ _ h => bkDoor_put (by decide) (by decide) h) (by rfl) (by assumption) ?_ ?_
    rotate_left 1
    · intro w hSw; (try dsimp only at hSw); go_simp; try (with_reducible rfl)
    (try simp only [Act.put, List.setIfInBounds_toArray, List.set_cons_zero, List.set_cons_succ])
    refine take_yes (i := 10) (v := ?_) (some 40) rfl rfl (by kernel_rfl) (by kernel_rfl) (by kernel_rfl) (fun _ _ _ h => bkDoor_put (by decide) (by decide) h) (by rfl) (by assumption) ?_ ?_
    rotate_left 1
    · intro w hSw; (try dsimp only at hSw); go_simp; try (with_reducible rfl)
    (try simp only [Act.put, List.setIfInBounds_toArray, List.set_cons_zero, List.set_cons_succ])
    refine take_yes (i := 11) (v := ?_) (some 41) rfl rfl (by kernel_rfl) (by kernel_rfl) (by kernel_rfl) (fun _ _ _ h => bkDoor_put (by decide) (by decide) h) (by rfl) (by assumption) ?_ ?_
    rotate_left 1
    · intro w hSw; (try dsimp only at hSw); go_simp; try (with_reducible rfl)
    (try simp only [Act.put, List.setIfInBounds_toArray, List.set_cons_zero, List.set_cons_succ])
    refine take_no (i := 12) (some 42) rfl rfl (by kernel_rfl) (by kernel_rfl) (by kernel_rfl) (fun _ _ _ h => bkDoor_put (by decide) (by decide) h) (by rfl) (by assumption) ?_
    (try simp only [Act.put, List.setIfInBounds_toArray, List.set_cons_zero, List.set_cons_succ])
    refine take_no (i := 13) (some 43) rfl rfl (by kernel_rfl) (by kernel_rfl) (by kernel_rfl) (fun _ _ _ h => bkDoor_put (by decide) (by decide) h) (by rfl) (by assumption) ?_
    (try simp only [Act.put, List.setIfInBounds_toArray, List.set_cons_zero, List.set_cons_succ])
    refine take_yes (i := 14) (v := ?_) (some 44) rfl rfl (by kernel_rfl) (by kernel_rfl) (by kernel_rfl) (fun _ _ _ h => bkDoor_put (by decide) (by decide) h) (by rfl) (by assumption) ?_ ?_
    rotate_left 1
    · intro w hSw; (try dsimp only at hSw); go_simp; try (with_reducible rfl)
    (try simp only [Act.put, List.setIfInBounds_toArray, List.set_cons_zero, List.set_cons_succ])
    refine take_run (i := 15) rfl (by kernel_rfl) (by rfl) (fun K hK => ?_)
    simp only [List.getElem_toArray, List.getElem_cons_succ, List.getElem_cons_zero]
    go_simp
    go_at_call 117
    refine (HM.out _ false _).mono ?_
    rintro e w' ⟨rfl, rfl⟩
    obtain ⟨hk, he, hn⟩ := HSP5.out.door hlt (Rx.of_ext (Ext.refl W5).drew)
    exact bkDoor (by omega) hk he rfl rfl ⟨.inr ⟨HE.out, rfl⟩, hn⟩
  subst hat
  have d1 : ((m : Int) == (m : Int)) = true := by simp
  cases told
  · have HE := Lib.hid (show res = none from by rw [← HP.out]; unfold bookT; simp only [HQ1.out, HQ2.out, HQ3.out, HQ4.out, HQ5.out]; rw [HTV, if_neg]; simp)
    clear HTV
    refine wp_region_held_drew (S := (fun w' => (w'.cell? ⟨R, 0, none⟩ = some (.slice A m c) ∧ w'.cell? ⟨R, 1, none⟩ = some (.int .i64 m)) ∧ w'.cell? ⟨w.heap.size, 0, none⟩ = some (.slice C rs.length cq) ∧ w'.cell? ⟨w.heap.size, 1, none⟩ = some (.int .i64 kp) ∧ w'.cell? ⟨w.heap.size, 2, none⟩ = some (.slice V vs.length cv) ∧ w'.cell? ⟨w.heap.size, 3, none⟩ = some (.slice L ts.length cl) ∧ w'.cell? ⟨w.heap.size, 4, none⟩ = some (.int .i64 nx) ∧ w'.cell? ⟨w.heap.size, 5, none⟩ = some (.int .i64 gen))) (by kernel_rfl) (HK.out _ (Ext.refl W5).drew) (fun hHeld => ?_)
    refine take_yes (i := 0) (v := ?_) (some 30) rfl rfl (by kernel_rfl) (by kernel_rfl) (by kernel_rfl) (fun _ _ _ h => bkDoor_put (by decide) (by decide) h) (by rfl) (by assumption) ?_ ?_
    rotate_left 1
    · intro w hSw; (try dsimp only at hSw); go_simp; try (with_reducible rfl)
    (try simp only [Act.put, List.setIfInBounds_toArray, List.set_cons_zero, List.set_cons_succ])
    refine take_yes (i := 1) (v := ?_) (some 31) rfl rfl (by kernel_rfl) (by kernel_rfl) (by kernel_rfl) (fun _ _ _ h => bkDoor_put (by decide) (by decide) h) (by rfl) (by assumption) ?_ ?_
    rotate_left 1
    · intro w hSw; (try dsimp only at hSw); go_simp; try (with_reducible rfl)
    (try simp only [Act.put, List.setIfInBounds_toArray, List.set_cons_zero, List.set_cons_succ])
    refine take_yes (i := 2) (v := ?_) (some 32) rfl rfl (by kernel_rfl) (by kernel_rfl) (by kernel_rfl) (fun _ _ _ h => bkDoor_put (by decide) (by decide) h) (by rfl) (by assumption) ?_ ?_
    rotate_left 1
    · intro w hSw; (try dsimp only at hSw); go_simp; try (with_reducible rfl)
    (try simp only [Act.put, List.setIfInBounds_toArray, List.set_cons_zero, List.set_cons_succ])
    refine take_yes (i := 3) (v := ?_) (some 33) rfl rfl (by kernel_rfl) (by kernel_rfl) (by kernel_rfl) (fun _ _ _ h => bkDoor_put (by decide) (by decide) h) (by rfl) (by assumption) ?_ ?_
    rotate_left 1
    · intro w hSw; (try dsimp only at hSw); go_simp; try (with_reducible rfl)
    (try simp only [Act.put, List.setIfInBounds_toArray, List.set_cons_zero, List.set_cons_succ])
    refine take_yes (i := 4) (v := ?_) (some 34) rfl rfl (by kernel_rfl) (by kernel_rfl) (by kernel_rfl) (fun _ _ _ h => bkDoor_put (by decide) (by decide) h) (by rfl) (by assumption) ?_ ?_
    rotate_left 1
    · intro w hSw; (try dsimp only at hSw); go_simp; try (with_reducible rfl)
    (try simp only [Act.put, List.setIfInBounds_toArray, List.set_cons_zero, List.set_cons_succ])
    refine take_yes (i := 5) (v := ?_) (some 35) rfl rfl (by kernel_rfl) (by kernel_rfl) (by kernel_rfl) (fun _ _ _ h => bkDoor_put (by decide) (by decide) h) (by rfl) (by assumption) ?_ ?_
    rotate_left 1
    · intro w hSw; (try dsimp only at hSw); go_simp; try (with_reducible rfl)
    (try simp only [Act.put, List.setIfInBounds_toArray, List.set_cons_zero, List.set_cons_succ])
    refine take_yes (i := 6) (v := ?_) (some 36) rfl rfl (by kernel_rfl) (by kernel_rfl) (by kernel_rfl) (fun _ _ _ h => bkDoor_put (by decide) (by decide) h) (by rfl) (by assumption) ?_ ?_
    rotate_left 1
    · intro w hSw; (try dsimp only at hSw); go_simp; try (with_reducible rfl)
    (try simp only [Act.put, List.setIfInBounds_toArray, List.set_cons_zero, List.set_cons_succ])
    refine take_yes (i := 7) (v := ?_) (some 37) rfl rfl (by kernel_rfl) (by kernel_rfl) (by kernel_rfl) (fun _ _ _ h => bkDoor_put (by decide) (by decide) h) (by rfl) (by assumption) ?_ ?_
    rotate_left 1
    · intro w hSw; (try dsimp only at hSw); go_simp; try (with_reducible rfl)
    (try simp only [Act.put, List.setIfInBounds_toArray, List.set_cons_zero, List.set_cons_succ])
    refine take_yes (i := 8) (v := ?_) (some 38) rfl rfl (by kernel_rfl) (by kernel_rfl) (by kernel_rfl) (fun _ _ _ h => bkDoor_put (by decide) (by decide) h) (by rfl) (by assumption) ?_ ?_
    rotate_left 1
    · intro w hSw; (try dsimp only at hSw); go_simp; try (with_reducible rfl)
    (try simp only [Act.put, List.setIfInBounds_toArray, List.set_cons_zero, List.set_cons_succ])
    refine take_yes (i := 9) (v := ?_) (some 39) rfl rfl (by kernel_rfl) (by kernel_rfl) (by kernel_rfl) (fun _ _ _ h => bkDoor_put (by decide) (by decide) h) (by rfl) (by assumption) ?_ ?_
    rotate_left 1
    · intro w hSw; (try dsimp only at hSw); go_simp; try (with_reducible rfl)
    (try simp only [Act.put, List.setIfInBounds_toArray, List.set_cons_zero, List.set_cons_succ])
    refine take_yes (i := 10) (v := ?_) (some 40) rfl rfl (by kernel_rfl) (by kernel_rfl) (by kernel_rfl) (fun _ _ _ h => bkDoor_put (by decide) (by decide) h) (by rfl) (by assumption) ?_ ?_
    rotate_left 1
    · intro w hSw; (try dsimp only at hSw); go_simp; try (with_reducible rfl)
    (try simp only [Act.put, List.setIfInBounds_toArray, List.set_cons_zero, List.set_cons_succ])
    refine take_yes (i := 11) (v := ?_) (some 41) rfl rfl (by kernel_rfl) (by kernel_rfl) (by kernel_rfl) (fun _ _ _ h => bkDoor_put (by decide) (by decide) h) (by rfl) (by assumption) ?_ ?_
    rotate_left 1
    · intro w hSw; (try dsimp only at hSw); go_simp; try (with_reducible rfl)
    (try simp only [Act.put, List.setIfInBounds_toArray, List.set_cons_zero, List.set_cons_succ])
    refine take_yes (i := 12) (v := ?_) (some 42) rfl rfl (by kernel_rfl) (by kernel_rfl) (by kernel_rfl) (fun _ _ _ h => bkDoor_put (by decide) (by decide) h) (by rfl) (by assumption) ?_ ?_
    rotate_left 1
    · intro w hSw; (try dsimp only at hSw); go_simp; try (with_reducible rfl)
    (try simp only [Act.put, List.setIfInBounds_toArray, List.set_cons_zero, List.set_cons_succ])
    refine take_run (i := 13) rfl (by kernel_rfl) (by rfl) (fun K hK => ?_)
    simp only [List.getElem_toArray, List.getElem_cons_succ, List.getElem_cons_zero]
    go_simp
    go_at_call 118
    refine (HTO.out _ (Ext.refl W5).drew).mono ?_
    rintro e w6 ⟨rfl, hx⟩
    have X6 := Lib.hid ((Ext.refl W5).drew.trans hx)
    clear hx
    refine hK.out _ _ (HK.out _ X6.out) (fun hHeld => ?_)
    clear hK K
    (try simp only [Act.put, List.setIfInBounds_toArray, List.set_cons_zero, List.set_cons_succ])
    refine take_yes (i := 14) (v := ?_) (some 44) rfl rfl (by kernel_rfl) (by kernel_rfl) (by kernel_rfl) (fun _ _ _ h => bkDoor_put (by decide) (by decide) h) (by rfl) (by assumption) ?_ ?_
    rotate_left 1
    · intro w hSw; (try dsimp only at hSw); go_simp; try (with_reducible rfl)
    (try simp only [Act.put, List.setIfInBounds_toArray, List.set_cons_zero, List.set_cons_succ])
    refine take_run (i := 15) rfl (by kernel_rfl) (by rfl) (fun K hK => ?_)
    simp only [List.getElem_toArray, List.getElem_cons_succ, List.getElem_cons_zero]
    go_simp
    go_at_call 117
    refine (HM.out _ false _).mono ?_
    rintro e w' ⟨rfl, rfl⟩
    obtain ⟨hk, he, hn⟩ := HSP5.out.door hlt (Rx.of_ext X6.out)
    exact bkDoor (by omega) hk he rfl rfl ⟨.inr ⟨HE.out, rfl⟩, hn⟩
  · have HE := Lib.hid (show res = some (rs, (kp : Int), vs, ts, (nx : Int)) from by rw [← HP.out]; unfold bookT; simp only [HQ1.out, HQ2.out, HQ3.out, HQ4.out, HQ5.out]; rw [HTV, if_pos]; rw [← HML.out]; simp)
    clear HTV
    refine wp_region_held_drew (S := (fun w' => (w'.cell? ⟨R, 0, none⟩ = some (.slice A m c) ∧ w'.cell? ⟨R, 1, none⟩ = some (.int .i64 m)) ∧ w'.cell? ⟨w.heap.size, 0, none⟩ = some (.slice C rs.length cq) ∧ w'.cell? ⟨w.heap.size, 1, none⟩ = some (.int .i64 kp) ∧ w'.cell? ⟨w.heap.size, 2, none⟩ = some (.slice V vs.length cv) ∧ w'.cell? ⟨w.heap.size, 3, none⟩ = some (.slice L ts.length cl) ∧ w'.cell? ⟨w.heap.size, 4, none⟩ = some (.int .i64 nx) ∧ w'.cell? ⟨w.heap.size, 5, none⟩ = some (.int .i64 gen))) (by kernel_rfl) (HK.out _ (Ext.refl W5).drew) (fun hHeld => ?_)
    refine take_yes (i := 0) (v := ?_) (some 30) rfl rfl (by kernel_rfl) (by kernel_rfl) (by kernel_rfl) (fun _ _ _ h => bkDoor_put (by decide) (by decide) h) (by rfl) (by assumption) ?_ ?_
    rotate_left 1
    · intro w hSw; (try dsimp only at hSw); go_simp; try (with_reducible rfl)
    (try simp only [Act.put, List.setIfInBounds_toArray, List.set_cons_zero, List.set_cons_succ])
    refine take_yes (i := 1) (v := ?_) (some 31) rfl rfl (by kernel_rfl) (by kernel_rfl) (by kernel_rfl) (fun _ _ _ h => bkDoor_put (by decide) (by decide) h) (by rfl) (by assumption) ?_ ?_
    rotate_left 1
    · intro w hSw; (try dsimp only at hSw); go_simp; try (with_reducible rfl)
    (try simp only [Act.put, List.setIfInBounds_toArray, List.set_cons_zero, List.set_cons_succ])
    refine take_yes (i := 2) (v := ?_) (some 32) rfl rfl (by kernel_rfl) (by kernel_rfl) (by kernel_rfl) (fun _ _ _ h => bkDoor_put (by decide) (by decide) h) (by rfl) (by assumption) ?_ ?_
    rotate_left 1
    · intro w hSw; (try dsimp only at hSw); go_simp; try (with_reducible rfl)
    (try simp only [Act.put, List.setIfInBounds_toArray, List.set_cons_zero, List.set_cons_succ])
    refine take_yes (i := 3) (v := ?_) (some 33) rfl rfl (by kernel_rfl) (by kernel_rfl) (by kernel_rfl) (fun _ _ _ h => bkDoor_put (by decide) (by decide) h) (by rfl) (by assumption) ?_ ?_
    rotate_left 1
    · intro w hSw; (try dsimp only at hSw); go_simp; try (with_reducible rfl)
    (try simp only [Act.put, List.setIfInBounds_toArray, List.set_cons_zero, List.set_cons_succ])
    refine take_yes (i := 4) (v := ?_) (some 34) rfl rfl (by kernel_rfl) (by kernel_rfl) (by kernel_rfl) (fun _ _ _ h => bkDoor_put (by decide) (by decide) h) (by rfl) (by assumption) ?_ ?_
    rotate_left 1
    · intro w hSw; (try dsimp only at hSw); go_simp; try (with_reducible rfl)
    (try simp only [Act.put, List.setIfInBounds_toArray, List.set_cons_zero, List.set_cons_succ])
    refine take_yes (i := 5) (v := ?_) (some 35) rfl rfl (by kernel_rfl) (by kernel_rfl) (by kernel_rfl) (fun _ _ _ h => bkDoor_put (by decide) (by decide) h) (by rfl) (by assumption) ?_ ?_
    rotate_left 1
    · intro w hSw; (try dsimp only at hSw); go_simp; try (with_reducible rfl)
    (try simp only [Act.put, List.setIfInBounds_toArray, List.set_cons_zero, List.set_cons_succ])
    refine take_yes (i := 6) (v := ?_) (some 36) rfl rfl (by kernel_rfl) (by kernel_rfl) (by kernel_rfl) (fun _ _ _ h => bkDoor_put (by decide) (by decide) h) (by rfl) (by assumption) ?_ ?_
    rotate_left 1
    · intro w hSw; (try dsimp only at hSw); go_simp; try (with_reducible rfl)
    (try simp only [Act.put, List.setIfInBounds_toArray, List.set_cons_zero, List.set_cons_succ])
    refine take_yes (i := 7) (v := ?_) (some 37) rfl rfl (by kernel_rfl) (by kernel_rfl) (by kernel_rfl) (fun _ _ _ h => bkDoor_put (by decide) (by decide) h) (by rfl) (by assumption) ?_ ?_
    rotate_left 1
    · intro w hSw; (try dsimp only at hSw); go_simp; try (with_reducible rfl)
    (try simp only [Act.put, List.setIfInBounds_toArray, List.set_cons_zero, List.set_cons_succ])
    refine take_yes (i := 8) (v := ?_) (some 38) rfl rfl (by kernel_rfl) (by kernel_rfl) (by kernel_rfl) (fun _ _ _ h => bkDoor_put (by decide) (by decide) h) (by rfl) (by assumption) ?_ ?_
    rotate_left 1
    · intro w hSw; (try dsimp only at hSw); go_simp; try (with_reducible rfl)
    (try simp only [Act.put, List.setIfInBounds_toArray, List.set_cons_zero, List.set_cons_succ])
    refine take_yes (i := 9) (v := ?_) (some 39) rfl rfl (by kernel_rfl) (by kernel_rfl) (by kernel_rfl) (fun _ _ _ h => bkDoor_put (by decide) (by decide) h) (by rfl) (by assumption) ?_ ?_
    rotate_left 1
    · intro w hSw; (try dsimp only at hSw); go_simp; try (with_reducible rfl)
    (try simp only [Act.put, List.setIfInBounds_toArray, List.set_cons_zero, List.set_cons_succ])
    refine take_yes (i := 10) (v := ?_) (some 40) rfl rfl (by kernel_rfl) (by kernel_rfl) (by kernel_rfl) (fun _ _ _ h => bkDoor_put (by decide) (by decide) h) (by rfl) (by assumption) ?_ ?_
    rotate_left 1
    · intro w hSw; (try dsimp only at hSw); go_simp; try (with_reducible rfl)
    (try simp only [Act.put, List.setIfInBounds_toArray, List.set_cons_zero, List.set_cons_succ])
    refine take_yes (i := 11) (v := ?_) (some 41) rfl rfl (by kernel_rfl) (by kernel_rfl) (by kernel_rfl) (fun _ _ _ h => bkDoor_put (by decide) (by decide) h) (by rfl) (by assumption) ?_ ?_
    rotate_left 1
    · intro w hSw; (try dsimp only at hSw); go_simp; try (with_reducible rfl)
    (try simp only [Act.put, List.setIfInBounds_toArray, List.set_cons_zero, List.set_cons_succ])
    refine take_yes (i := 12) (v := ?_) (some 42) rfl rfl (by kernel_rfl) (by kernel_rfl) (by kernel_rfl) (fun _ _ _ h => bkDoor_put (by decide) (by decide) h) (by rfl) (by assumption) ?_ ?_
    rotate_left 1
    · intro w hSw; (try dsimp only at hSw); go_simp; try (with_reducible rfl)
    (try simp only [Act.put, List.setIfInBounds_toArray, List.set_cons_zero, List.set_cons_succ])
    refine take_run (i := 13) rfl (by kernel_rfl) (by rfl) (fun K hK => ?_)
    simp only [List.getElem_toArray, List.getElem_cons_succ, List.getElem_cons_zero]
    go_simp
    go_at_call 118
    refine (HTO.out _ (Ext.refl W5).drew).mono ?_
    rintro e w6 ⟨rfl, hx⟩
    have X6 := Lib.hid ((Ext.refl W5).drew.trans hx)
    clear hx
    refine hK.out _ _ (HK.out _ X6.out) (fun hHeld => ?_)
    clear hK K
    (try simp only [Act.put, List.setIfInBounds_toArray, List.set_cons_zero, List.set_cons_succ])
    refine take_yes (i := 14) (v := ?_) (some 44) rfl rfl (by kernel_rfl) (by kernel_rfl) (by kernel_rfl) (fun _ _ _ h => bkDoor_put (by decide) (by decide) h) (by rfl) (by assumption) ?_ ?_
    rotate_left 1
    · intro w hSw; (try dsimp only at hSw); go_simp; try (with_reducible rfl)
    (try simp only [Act.put, List.setIfInBounds_toArray, List.set_cons_zero, List.set_cons_succ])
    refine take_run (i := 15) rfl (by kernel_rfl) (by rfl) (fun K hK => ?_)
    simp only [List.getElem_toArray, List.getElem_cons_succ, List.getElem_cons_zero]
    go_simp
    go_at_call 117
    refine (HM.out _ true _).mono ?_
    rintro e w' ⟨rfl, rfl⟩
    
    refine hK.out _ _ (HK.out _ X6.out) (fun hHeld => ?_)
    clear hK K
    (try simp only [Act.put, List.setIfInBounds_toArray, List.set_cons_zero, List.set_cons_succ])
    refine wpAnyH_done (by kernel_rfl) ?_ _
    have HK6 := Lib.hid (HSP5.out.k.ext X6.out)
    have HE6 := Lib.hid (HSP5.out.e.ext X6.out)
    obtain ⟨c0, c1, c2, c3, c4, c5⟩ := st_at6 HK6.out
    obtain ⟨f0, f1, f2, f3, f4, f5⟩ := st_free6 HK6.out
    have g0 := HE6.out.at 0 (.int .i64 0) rfl
    have g1 := HE6.out.free 0
    go_wp2
    have hk6 := (st_set6 HK6.out (.slice C rs.length cq) (.int .i64 kp) (.slice V vs.length cv) (.slice L ts.length cl) (.int .i64 nx) (.int .i64 gen)).set_other (p := ⟨w.heap.size + 1, 0, none⟩) (by simp) (.int .i64 0)
    have hy := ((((((Rx.refl w.heap.size w6).set 0 (.slice C rs.length cq)).set 1 (.int .i64 kp)).set 2 (.slice V vs.length cv)).set 3 (.slice L ts.length cl)).set 4 (.int .i64 nx)).set 5 (.int .i64 gen)
    have he6 := (hy.bx HE6.out (by simp)).set 0 (.int .i64 0)
    have hz := (Rx.refl (w.heap.size + 1) _).set (w' := ((((((w6.setCell ⟨w.heap.size, 0, none⟩ (.slice C rs.length cq)).setCell ⟨w.heap.size, 1, none⟩ (.int .i64 kp)).setCell ⟨w.heap.size, 2, none⟩ (.slice V vs.length cv)).setCell ⟨w.heap.size, 3, none⟩ (.slice L ts.length cl)).setCell ⟨w.heap.size, 4, none⟩ (.int .i64 nx)).setCell ⟨w.heap.size, 5, none⟩ (.int .i64 gen))) 0 (.int .i64 0)
    obtain ⟨d0, d1', d2, d3, d4, d5⟩ := st_at6 hk6
    have d6 := he6.at 0 (.int .i64 0) rfl
    have hv := HSP5.out.rd.new
    have hs5 := HSP5.out.e.lt
    have hs6 := X6.out.size
    refine bkDoor_ret (K := w.heap.size) (E := w.heap.size + 1) hk6 he6 rfl rfl (by simp [results, Tryz.results71, go_sem, d0, d1', d2, d3, d4, d5, d6]) ⟨.inl ⟨rs, kp, vs, ts, nx, C, cq, V, cv, L, cl, HE.out, rfl, ⟨W4.heap.size, by omega, ?_⟩, ⟨W1.heap.size, by omega, ?_⟩, ?_⟩, ?_⟩
    · exact hz.own (hy.own (own_ext HC5.out X6.out) (by omega)) (by omega)
    · exact hz.own (hy.own (own_ext HO5.out X6.out) (by omega)) (by omega)
    · exact rd_row (hy.bx HE6.out (by simp)) (numBox1 _) hz (rd_row HK6.out (numBox6 _ _ _ _ _ _ _ _ _ _ _ _) hy (HL5.out.ext X6.out) (cxv_apart _)) (cxv_apart _)
    · exact hz.over (hy.over (HSP5.out.rd.ext.trans X6.out) (by omega)) (by omega)
end Go.Proofs.YtjbfopnkeclfgaaGreat
