/- The walk of DiskPlans. -/
import Derived.Test.YtikdicnpmobidaaLaw
import Derived.Test.YtikdicnpmobidaaDiskM
namespace Go.Proofs.Ytikdicnpmobidaa
open Go.RowKit
attribute [local go_sem ↓] Go.wp_at_zero Go.wp_at_succ

theorem doD_to (A A' P : Option Addr) (b : List ByteArray) (l p : List Wr) (c c' cp n : Nat) (stop : Int) (fb : List ByteArray) (fl : List Wr) (w : World) (hb : b.length ≤ 1000000) (hl : l.length ≤ 400000) (hp : p.length ≤ 400000) (hd : doS b l (p.take (planLen p.length stop)) = ((fb, fl), n))
    (hA : Sl w A b.length c (b.map sv)) (hA' : Sl w A' l.length c' (wvs l)) (hP : Sl w P p.length cp (wvs p)) :
    Calls Try.prog 22 #[.agg #[.slice A b.length c, .slice A' l.length c'], .slice P p.length cp, .int .i64 stop] w fun e w' => ∃ v, e = .returned (.tuple #[v, .int .i64 (n : Int)]) ∧ IsDisk w' v fb fl ∧ Ext w w' := by
  have h := doD_any A A' P b l p c c' cp stop w hb hl hp hA hA' hP
  rw [hd] at h
  exact h
theorem same1R_any (F F' G G' : Option Addr) (fb : List ByteArray) (fl : List Wr) (kf kf' kg kg' : Nat) (w : World) (h : fb.length ≤ 1000000) (h' : fl.length ≤ 1000000) (hF : Sl w F fb.length kf (fb.map sv)) (hF' : Sl w F' fl.length kf' (wvs fl)) (hG : Sl w G fb.length kg (fb.map sv)) (hG' : Sl w G' fl.length kg' (wvs fl)) :
    Calls Try.prog 14 #[.agg #[.slice F fb.length kf, .slice F' fl.length kf'], .agg #[.slice G fb.length kg, .slice G' fl.length kg']] w fun e w' => e = .returned (.bool true) ∧ Ext w w' := by
  have h := sameR_any F F' G G' fb fb fl fl kf kf' kg kg' w (by unfold maxLen; omega) (by unfold maxLen; omega) (by unfold maxLen; omega) (by unfold maxLen; omega) hF.cells hG.cells hF'.cells hG'.cells
  rw [same1] at h
  exact h

theorem doD_at (A A' P : Option Addr) (b : List ByteArray) (l p : List Wr) (c c' cp n np : Nat) (stop : Int) (fb : List ByteArray) (fl : List Wr) (w : World) (hb : b.length ≤ 1000000) (hl : l.length ≤ 400000) (hp : p.length ≤ 400000) (hnp : np = p.length) (hd : doS b l (p.take (planLen p.length stop)) = ((fb, fl), n))
    (hA : Sl w A b.length c (b.map sv)) (hA' : Sl w A' l.length c' (wvs l)) (hP : Sl w P np cp (wvs p)) :
    Calls Try.prog 22 #[.agg #[.slice A b.length c, .slice A' l.length c'], .slice P np cp, .int .i64 stop] w fun e w' => ∃ v, e = .returned (.tuple #[v, .int .i64 (n : Int)]) ∧ IsDisk w' v fb fl ∧ Ext w w' := by
  subst hnp; exact doD_to A A' P b l p c c' cp n stop fb fl w hb hl hp hd hA hA' hP
theorem wvs_drop (l : List Wr) : ∀ m, wvs (l.drop m) = (wvs l).drop (m * 2) := by
  induction l with
  | nil => intro m; simp [wvs]
  | cons x l ih =>
    intro m
    cases m with
    | zero => simp
    | succ m => rw [List.drop_succ_cons, ih, show (m + 1) * 2 = m * 2 + 1 + 1 by omega]; simp [wvs]
theorem Sl.wdrop {w : World} {P : Option Addr} {c : Nat} {p : List Wr} (h : Sl w P p.length c (wvs p)) {m : Nat} (hm : m ≤ p.length) : Sl w (Option.map (fun x => x.add (m * 2)) P) (p.length - m) (c - m) (wvs (p.drop m)) := by
  obtain ⟨h1, h2, h3, h4⟩ := h
  refine ⟨fun e => ?_, by omega, by omega, fun hne => ?_⟩
  · have := h1 (by simpa using e); omega
  · have hne' : wvs p ≠ [] := by intro e; apply hne; rw [wvs_drop, e]; simp
    obtain ⟨b, off, rfl, hlt, hc⟩ := h4 hne'
    refine ⟨b, off + m * 2, by rw [Option.map_some, Addr.add_lit], hlt, fun j u hu => ?_⟩
    rw [wvs_drop, List.getElem?_drop] at hu
    have := hc _ _ hu
    rwa [← Nat.add_assoc] at this
theorem Sl.wend {w : World} {P : Option Addr} {c m : Nat} {p : List Wr} (h : Sl w P p.length c (wvs p)) (hm : m ≤ p.length) (hc : c = m) : Sl w P (p.length - m) (c - m) (wvs (p.drop m)) := by
  have h2 := h.2.1
  have : p.length = m := by omega
  refine ⟨fun _ => by omega, by omega, by have := h.2.2.1; omega, ?_⟩
  rw [List.drop_of_length_le (by omega)]
  exact Cells.nil _ _
theorem Bx.sl {w : World} {k : Nat} {cs : Array Value} (h : Bx w k cs) (n : Nat) (hn : n ≤ maxLen) : Sl w (some ⟨k, 0, none⟩) n n cs.toList :=
  ⟨fun h => by (cases h), Nat.le_refl _, hn, fun _ => ⟨k, 0, rfl, h.lt, fun j u hu => by rw [Nat.zero_add]; exact h.at j u (by simpa using hu)⟩⟩
theorem Bx.store2 {w : World} {k : Nat} {a b : Value} (h : Bx w k #[a, b]) (x y : Value) : Bx ((w.setCell ⟨k, 0, none⟩ x).setCell ⟨k, 1, none⟩ y) k #[x, y] := Box2.store h x y
set_option maxRecDepth 100000 in
set_option maxHeartbeats 8000000 in
theorem plans_any (A A' P : Option Addr) (b : List ByteArray) (l p : List Wr) (c c' cp : Nat) (stop : Int) (w : World)
    (hA : Sl w A b.length c (b.map sv)) (hA' : Sl w A' l.length c' (wvs l)) (hP : Sl w P p.length cp (wvs p)) :
    Calls Try.prog 7 #[.agg #[.slice A b.length c, .slice A' l.length c'], .slice P p.length cp, .int .i64 stop] w fun e w' => e = .returned (.bool true) ∧ Ext w w' := by
  have A_1 := Lib.hid (hA)
  have B_2 := Lib.hid (hA')
  have P_3 := Lib.hid (hP)
  have X_4 := Lib.hid (Ext.refl w)
  clear hA hA' hP
  go_enter Try.func7, Try.ntmps7
  go_wp2_with (go_at_call 9; refine stop_here ?_)
  refine stop_on ?_
  generalize hW : (World.alloc w _) = W5
  obtain ⟨hx, hb0⟩ := allocs1 hW
  clear hW
  have A_6 := Lib.hid (A_1.out.ext hx)
  have B_6 := Lib.hid (B_2.out.ext hx)
  have P_6 := Lib.hid (P_3.out.ext hx)
  have X_6 := Lib.hid (X_4.out.ext hx)
  clear A_1 B_2 P_3 X_4
  have d_7 := Lib.hid hb0
  clear hx hb0
  refine (shown_any _).mono ?_
  rintro e w8 ⟨rfl, hx⟩
  have A_9 := Lib.hid (A_6.out.ext hx)
  have B_9 := Lib.hid (B_6.out.ext hx)
  have P_9 := Lib.hid (P_6.out.ext hx)
  have X_9 := Lib.hid (X_6.out.ext hx)
  have d_9 := Lib.hid (d_7.out.ext hx)
  clear A_6 B_6 P_6 X_6 d_7
  clear hx
  have qd0 : w8.cell? ⟨w.heap.size, 0, none⟩ = some (.slice A b.length c) := d_9.out.at 0 _ rfl
  have qd1 : w8.cell? ⟨w.heap.size, 1, none⟩ = some (.slice A' l.length c') := d_9.out.at 1 _ rfl
  have zd := d_9.out.lt
  have hza := A_9.out.len
  have hzb := B_9.out.len
  have hzp := P_9.out.len
  cases hs : smallS b l 60
  · have Hs := Lib.hid hs
    clear hs
    go_wp2_with (go_at_call 10; refine stop_here ?_)
    refine stop_on ?_
    clear qd0 qd1 zd
    have hc := small_any A A' b l c c' 60 _ hza hzb A_9.out.cells B_9.out.cells
    rw [Hs.out] at hc
    refine hc.mono ?_
    clear hc
    rintro e w10 ⟨rfl, hx⟩
    have A_11 := Lib.hid (A_9.out.ext hx)
    have B_11 := Lib.hid (B_9.out.ext hx)
    have P_11 := Lib.hid (P_9.out.ext hx)
    have X_11 := Lib.hid (X_9.out.ext hx)
    have d_11 := Lib.hid (d_9.out.ext hx)
    clear A_9 B_9 P_9 X_9 d_9
    clear hx
    have qd0 : w10.cell? ⟨w.heap.size, 0, none⟩ = some (.slice A b.length c) := d_11.out.at 0 _ rfl
    have qd1 : w10.cell? ⟨w.heap.size, 1, none⟩ = some (.slice A' l.length c') := d_11.out.at 1 _ rfl
    have zd := d_11.out.lt
    go_wp2
    go_ret
    exact ⟨rfl, X_11.out⟩
  have ⟨lb, ll⟩ := small_len' hs
  have Hs := Lib.hid hs
  clear hs
  go_wp2_with (go_at_call 10; refine stop_here ?_)
  refine stop_on ?_
  clear qd0 qd1 zd
  have hc := small_any A A' b l c c' 60 _ hza hzb A_9.out.cells B_9.out.cells
  rw [Hs.out] at hc
  refine hc.mono ?_
  clear hc
  rintro e w12 ⟨rfl, hx⟩
  have A_13 := Lib.hid (A_9.out.ext hx)
  have B_13 := Lib.hid (B_9.out.ext hx)
  have P_13 := Lib.hid (P_9.out.ext hx)
  have X_13 := Lib.hid (X_9.out.ext hx)
  have d_13 := Lib.hid (d_9.out.ext hx)
  clear A_9 B_9 P_9 X_9 d_9
  clear hx
  have qd0 : w12.cell? ⟨w.heap.size, 0, none⟩ = some (.slice A b.length c) := d_13.out.at 0 _ rfl
  have qd1 : w12.cell? ⟨w.heap.size, 1, none⟩ = some (.slice A' l.length c') := d_13.out.at 1 _ rfl
  have zd := d_13.out.lt
  cases hr : rightS b l
  · have Hr := Lib.hid hr
    clear hr
    go_wp2_with (go_at_call 13; refine stop_here ?_)
    refine stop_on ?_
    clear qd0 qd1 zd
    have hc := rightR_any A A' b l c c' _ hza hzb A_13.out.cells B_13.out.cells
    rw [Hr.out] at hc
    refine hc.mono ?_
    clear hc
    rintro e w14 ⟨rfl, hx⟩
    have A_15 := Lib.hid (A_13.out.ext hx)
    have B_15 := Lib.hid (B_13.out.ext hx)
    have P_15 := Lib.hid (P_13.out.ext hx)
    have X_15 := Lib.hid (X_13.out.ext hx)
    have d_15 := Lib.hid (d_13.out.ext hx)
    clear A_13 B_13 P_13 X_13 d_13
    clear hx
    have qd0 : w14.cell? ⟨w.heap.size, 0, none⟩ = some (.slice A b.length c) := d_15.out.at 0 _ rfl
    have qd1 : w14.cell? ⟨w.heap.size, 1, none⟩ = some (.slice A' l.length c') := d_15.out.at 1 _ rfl
    have zd := d_15.out.lt
    go_wp2
    go_ret
    exact ⟨rfl, X_15.out⟩
  have ⟨lb1, hin⟩ := right_facts hr
  have hsr := doS_right p b l hr
  have hdl := doS_lengths b l p
  have hdn := doS_count b l p
  have hdl2 := doS_lengths b l (p.take (planLen p.length stop))
  have hdt := doS_take p b l (planLen p.length stop)
  have hon := doS_on p b l (planLen p.length stop) (planLen_le _ _)
  have hfl := writeL_length (doS b l p).1.2 (doS b l p).1.1
  obtain ⟨⟨⟨sa, la⟩, n⟩, hd⟩ : ∃ s, doS b l p = s := ⟨_, rfl⟩
  obtain ⟨⟨⟨sb, lb'⟩, m⟩, hd2⟩ : ∃ s, doS b l (p.take (planLen p.length stop)) = s := ⟨_, rfl⟩
  rw [hd, hd2] at hon
  rw [hd] at hsr hdl hdn hdt hfl
  rw [hd2] at hdl2 hdt
  dsimp only at hsr hdl hdn hdl2 hdt hon hfl
  have Hr := Lib.hid hr
  have HIN := Lib.hid hin
  have Hsr := Lib.hid hsr
  have Hd := Lib.hid hd
  have Hd2 := Lib.hid hd2
  have Hon := Lib.hid hon
  have Hdt := Lib.hid hdt
  have Hdl := Lib.hid hdl
  have Hdl2 := Lib.hid hdl2
  have Hfl := Lib.hid hfl
  clear hr hin hsr hd hd2 hon hdt hdl hdl2 hfl
  go_wp2_with (go_at_call 13; refine stop_here ?_)
  refine stop_on ?_
  clear qd0 qd1 zd
  have hc := rightR_any A A' b l c c' _ hza hzb A_13.out.cells B_13.out.cells
  rw [Hr.out] at hc
  refine hc.mono ?_
  clear hc
  rintro e w16 ⟨rfl, hx⟩
  have A_17 := Lib.hid (A_13.out.ext hx)
  have B_17 := Lib.hid (B_13.out.ext hx)
  have P_17 := Lib.hid (P_13.out.ext hx)
  have X_17 := Lib.hid (X_13.out.ext hx)
  have d_17 := Lib.hid (d_13.out.ext hx)
  clear A_13 B_13 P_13 X_13 d_13
  clear hx
  have qd0 : w16.cell? ⟨w.heap.size, 0, none⟩ = some (.slice A b.length c) := d_17.out.at 0 _ rfl
  have qd1 : w16.cell? ⟨w.heap.size, 1, none⟩ = some (.slice A' l.length c') := d_17.out.at 1 _ rfl
  have zd := d_17.out.lt
  cases hp : shortS p 60
  · have Hp := Lib.hid hp
    clear hp
    go_wp2_with (go_at_call 19; refine stop_here ?_)
    refine stop_on ?_
    clear qd0 qd1 zd
    have hc := short_any P p cp 60 _ hzp P_17.out.cells
    rw [Hp.out] at hc
    refine hc.mono ?_
    clear hc
    rintro e w_ ⟨rfl, rfl⟩
    have qd0 : w16.cell? ⟨w.heap.size, 0, none⟩ = some (.slice A b.length c) := d_17.out.at 0 _ rfl
    have qd1 : w16.cell? ⟨w.heap.size, 1, none⟩ = some (.slice A' l.length c') := d_17.out.at 1 _ rfl
    have zd := d_17.out.lt
    go_wp2
    go_ret
    exact ⟨rfl, X_17.out⟩
  have hpl := short_len hp
  have Hp := Lib.hid hp
  clear hp
  go_wp2_with (go_at_call 19; refine stop_here ?_)
  refine stop_on ?_
  clear qd0 qd1 zd
  have hc := short_any P p cp 60 _ hzp P_17.out.cells
  rw [Hp.out] at hc
  refine hc.mono ?_
  clear hc
  rintro e w_ ⟨rfl, rfl⟩
  have qd0 : w16.cell? ⟨w.heap.size, 0, none⟩ = some (.slice A b.length c) := d_17.out.at 0 _ rfl
  have qd1 : w16.cell? ⟨w.heap.size, 1, none⟩ = some (.slice A' l.length c') := d_17.out.at 1 _ rfl
  have zd := d_17.out.lt
  have l1 : sa.length ≤ 1000000 := by have := Hdl.out; omega
  have l2 : la.length ≤ 400000 := by have := Hdl.out; omega
  have l3 : sb.length ≤ 1000000 := by have := Hdl2.out; omega
  have l4 : lb'.length ≤ 400000 := by have := Hdl2.out; have := List.length_take_le' (planLen p.length stop) p; omega
  go_wp2_with (go_at_call 22; refine stop_here ?_)
  refine stop_on ?_
  clear qd0 qd1 zd
  refine (doD_to A A' P b l p c c' cp n (-1) sa la _ (by omega) (by omega) (by omega) (by rw [show planLen p.length (-1) = p.length from by unfold planLen; simp, List.take_length]; exact Hd.out) A_17.out B_17.out P_17.out).mono ?_
  rintro e w18 ⟨v, rfl, ⟨M, km, N, kn, rfl, h1, h2⟩, hx⟩
  have A_19 := Lib.hid (A_17.out.ext hx)
  have B_19 := Lib.hid (B_17.out.ext hx)
  have P_19 := Lib.hid (P_17.out.ext hx)
  have X_19 := Lib.hid (X_17.out.ext hx)
  have d_19 := Lib.hid (d_17.out.ext hx)
  clear A_17 B_17 P_17 X_17 d_17
  have M_20 := Lib.hid h1
  have N_21 := Lib.hid h2
  clear hx h1 h2
  have qd0 : w18.cell? ⟨w.heap.size, 0, none⟩ = some (.slice A b.length c) := d_19.out.at 0 _ rfl
  have qd1 : w18.cell? ⟨w.heap.size, 1, none⟩ = some (.slice A' l.length c') := d_19.out.at 1 _ rfl
  have zd := d_19.out.lt
  go_wp2_with (go_at_call 22; refine stop_here ?_)
  refine stop_on ?_
  clear qd0 qd1 zd
  generalize hW : (World.alloc w18 _) = W22
  obtain ⟨hx, hb0⟩ := allocs1 hW
  clear hW
  have A_23 := Lib.hid (A_19.out.ext hx)
  have B_23 := Lib.hid (B_19.out.ext hx)
  have P_23 := Lib.hid (P_19.out.ext hx)
  have X_23 := Lib.hid (X_19.out.ext hx)
  have d_23 := Lib.hid (d_19.out.ext hx)
  have M_23 := Lib.hid (M_20.out.ext hx)
  have N_23 := Lib.hid (N_21.out.ext hx)
  clear A_19 B_19 P_19 X_19 d_19 M_20 N_21
  have a_24 := Lib.hid hb0
  clear hx hb0
  refine (doD_to A A' P b l p c c' cp m stop sb lb' _ (by omega) (by omega) (by omega) Hd2.out A_23.out B_23.out P_23.out).mono ?_
  rintro e w25 ⟨v, rfl, ⟨I, ki, J, kj, rfl, h1, h2⟩, hx⟩
  have A_26 := Lib.hid (A_23.out.ext hx)
  have B_26 := Lib.hid (B_23.out.ext hx)
  have P_26 := Lib.hid (P_23.out.ext hx)
  have X_26 := Lib.hid (X_23.out.ext hx)
  have d_26 := Lib.hid (d_23.out.ext hx)
  have M_26 := Lib.hid (M_23.out.ext hx)
  have N_26 := Lib.hid (N_23.out.ext hx)
  have a_26 := Lib.hid (a_24.out.ext hx)
  clear A_23 B_23 P_23 X_23 d_23 M_23 N_23 a_24
  have I_27 := Lib.hid h1
  have J_28 := Lib.hid h2
  clear hx h1 h2
  have qd0 : w25.cell? ⟨w.heap.size, 0, none⟩ = some (.slice A b.length c) := d_26.out.at 0 _ rfl
  have qd1 : w25.cell? ⟨w.heap.size, 1, none⟩ = some (.slice A' l.length c') := d_26.out.at 1 _ rfl
  have zd := d_26.out.lt
  have qa0 : w25.cell? ⟨w18.heap.size, 0, none⟩ = some (.slice M sa.length km) := a_26.out.at 0 _ rfl
  have qa1 : w25.cell? ⟨w18.heap.size, 1, none⟩ = some (.slice N la.length kn) := a_26.out.at 1 _ rfl
  have za := a_26.out.lt
  have hmn : m ≤ n ∧ (stop < 0 → m = n) ∧ (0 ≤ stop → (m : Int) = min stop n) := by have := Hdt.out; unfold planLen at this; split at this <;> omega
  obtain ⟨hmn, hm1, hm2⟩ := hmn
  have Hm1 := Lib.hid hm1
  have Hm2 := Lib.hid hm2
  clear hm1 hm2
  have s1 : Try.prog.cellsOf 43 = 2 := by kernel_rfl
  obtain ⟨fz, hfz⟩ : ∃ fz, fz = writeL sa la := ⟨_, rfl⟩
  have hzl : fz.length = sa.length := by rw [hfz]; exact Hfl.out
  have Hz := Lib.hid (show doS sa la [(-1, ByteArray.mk #[])] = ((fz, []), 1) from by rw [hfz]; exact doS_flush sa la)
  have Hfz := Lib.hid hfz.symm
  obtain ⟨kk, hkk⟩ : ∃ kk, kk = n - m := ⟨_, rfl⟩
  have e2 : ((kk : Int) == (n : Int) - (m : Int)) = true := by simp; omega
  have Hon2 := Lib.hid (show doS sb lb' (p.drop m) = ((sa, la), kk) from by rw [hkk]; exact Hon.out)
  clear hkk hfz
  have hzl' : fz.length ≤ 1000000 := by omega
  clear hzl
  by_cases hst : stop < 0
  · have e1 : ((m : Int) != (n : Int)) = false := by have := Hm1.out hst; simp; omega
    go_wp2_with fail
    clear qd0 qd1 zd qa0 qa1 za
    generalize hW : (World.alloc w25 _) = W29
    obtain ⟨hx, hb0⟩ := allocs1 hW
    clear hW
    have A_30 := Lib.hid (A_26.out.ext hx)
    have B_30 := Lib.hid (B_26.out.ext hx)
    have P_30 := Lib.hid (P_26.out.ext hx)
    have X_30 := Lib.hid (X_26.out.ext hx)
    have d_30 := Lib.hid (d_26.out.ext hx)
    have M_30 := Lib.hid (M_26.out.ext hx)
    have N_30 := Lib.hid (N_26.out.ext hx)
    have a_30 := Lib.hid (a_26.out.ext hx)
    have I_30 := Lib.hid (I_27.out.ext hx)
    have J_30 := Lib.hid (J_28.out.ext hx)
    clear A_26 B_26 P_26 X_26 d_26 M_26 N_26 a_26 I_27 J_28
    have b_31 := Lib.hid hb0
    clear hx hb0
    have qb0 : W29.cell? ⟨w25.heap.size, 0, none⟩ = some (.slice I sb.length ki) := b_31.out.at 0 _ rfl
    have qb1 : W29.cell? ⟨w25.heap.size, 1, none⟩ = some (.slice J lb'.length kj) := b_31.out.at 1 _ rfl
    have zb := b_31.out.lt
    have hpc := P_30.out.2.1
    have hpm := P_30.out.2.2.1
    unfold maxLen at hpm
    have hmp : m ≤ p.length := by omega
    have HKb := Lib.hid (fun w' (hx : Ext W29 w') => (show w'.cell? ⟨w25.heap.size, 0, none⟩ = some (.slice I sb.length ki) ∧ w'.cell? ⟨w25.heap.size, 1, none⟩ = some (.slice J lb'.length kj) from ⟨(b_31.out.ext hx).at 0 _ rfl, (b_31.out.ext hx).at 1 _ rfl⟩))
    have HG := Lib.hid (fun (hcm : cp ≠ m) (np cq : Nat) (hnp : np = p.length - m) (hcq : cq = cp - m) w' (hx : Ext W29 w') => doD_at I J (Option.map (fun x => x.add (m * 2)) P) sb lb' (p.drop m) ki kj cq kk np (-1) sa la w' l3 (by omega) (by simp; omega) (by simp [hnp]) (by rw [show planLen (p.drop m).length (-1) = (p.drop m).length from by unfold planLen; simp, List.take_length]; exact Hon2.out) (I_30.out.ext hx) (J_30.out.ext hx) (by subst hnp hcq; exact (P_30.out.ext hx).wdrop hmp))
    have HE := Lib.hid (fun (hcm : cp = m) (np cq : Nat) (hnp : np = p.length - m) (hcq : cq = cp - m) w' (hx : Ext W29 w') => doD_at I J P sb lb' (p.drop m) ki kj cq kk np (-1) sa la w' l3 (by omega) (by simp; omega) (by simp [hnp]) (by rw [show planLen (p.drop m).length (-1) = (p.drop m).length from by unfold planLen; simp, List.take_length]; exact Hon2.out) (I_30.out.ext hx) (J_30.out.ext hx) (by subst hnp hcq; exact (P_30.out.ext hx).wend hmp hcm))
    go_cut [12, 13] from 81 to 88 (fun c k wx => ∃ X R kr T kt, c = .pointer (some ⟨X, 0, none⟩) ∧ k = .int .i64 (kk : Int) ∧ Bx wx X #[.slice R sa.length kr, .slice T la.length kt] ∧ Sl wx R sa.length kr (sa.map sv) ∧ Sl wx T la.length kt (wvs la) ∧ Ext W29 wx)
    case first =>
      rcases Decidable.em (cp = m) with hcm | hcm
      · have HF := Lib.hid (HE.out hcm)
        clear HG HE
        subst hcm
        go_region_held3 (fun w' => w'.cell? ⟨w25.heap.size, 0, none⟩ = some (.slice I sb.length ki) ∧ w'.cell? ⟨w25.heap.size, 1, none⟩ = some (.slice J lb'.length kj))
          (first | exact HKb.out _ E1.out | exact HKb.out _ (E1.out.alloc _) | exact HKb.out _ (E1.out.store2 (Nat.le_refl _) _ _) | exact HKb.out _ (Ext.refl W29).drew | exact HKb.out _ ((Ext.refl W29).alloc _).drew | exact HKb.out _ (Ext.refl W29))
          ((go_at_call 22
            refine (HF.out _ _ ?_ ?_ _ ?_).mono ?_
            (first | omega | (simp; omega))
            (first | omega | (simp; omega))
            (first | exact (Ext.refl _).drew | exact ((Ext.refl _).alloc _).drew)
            rintro e v1 ⟨v, rfl, ⟨R, kr, T, kt, rfl, h1, h2⟩, hx⟩
            have E1 := Lib.hid (show Ext W29 v1 from by first | exact (Ext.refl W29).drew.trans hx | exact ((Ext.refl W29).alloc _).drew.trans hx)
            have R1 := Lib.hid h1
            have T1 := Lib.hid h2
            (try (have B1 := Lib.hid (show Bx v1 W29.heap.size #[.slice none 0 0, .slice none 0 0] from (Bx.new W29 _ _).ext ((Ext.refl _).drew.trans hx)); have f0 := B1.out.free 0; have f1 := B1.out.free 1; have z1 := B1.out.lt; have c0 : v1.cell? ⟨W29.heap.size, 0, none⟩ = some (.slice none 0 0) := B1.out.at 0 _ rfl; have c1 : v1.cell? ⟨W29.heap.size, 1, none⟩ = some (.slice none 0 0) := B1.out.at 1 _ rfl))
            clear hx h1 h2))
        all_goals
          go_wp2_with fail
          go_meet
          first
            | exact ⟨_, R, kr, T, kt, rfl, rfl, Bx.new _ _ _, R1.out.ext ((Ext.refl _).alloc _), T1.out.ext ((Ext.refl _).alloc _), E1.out.alloc _⟩
            | exact ⟨_, R, kr, T, kt, rfl, rfl, B1.out.store2 _ _, R1.out.store2 (flat_svs _) B1.out _ _, T1.out.store2 (flat_wvs _) B1.out _ _, E1.out.store2 (Nat.le_refl _) _ _⟩
      · have HF := Lib.hid (HG.out hcm)
        clear HG HE
        go_region_held3 (fun w' => w'.cell? ⟨w25.heap.size, 0, none⟩ = some (.slice I sb.length ki) ∧ w'.cell? ⟨w25.heap.size, 1, none⟩ = some (.slice J lb'.length kj))
          (first | exact HKb.out _ E1.out | exact HKb.out _ (E1.out.alloc _) | exact HKb.out _ (E1.out.store2 (Nat.le_refl _) _ _) | exact HKb.out _ (Ext.refl W29).drew | exact HKb.out _ ((Ext.refl W29).alloc _).drew | exact HKb.out _ (Ext.refl W29))
          ((go_at_call 22
            refine (HF.out _ _ ?_ ?_ _ ?_).mono ?_
            (first | omega | (simp; omega))
            (first | omega | (simp; omega))
            (first | exact (Ext.refl _).drew | exact ((Ext.refl _).alloc _).drew)
            rintro e v1 ⟨v, rfl, ⟨R, kr, T, kt, rfl, h1, h2⟩, hx⟩
            have E1 := Lib.hid (show Ext W29 v1 from by first | exact (Ext.refl W29).drew.trans hx | exact ((Ext.refl W29).alloc _).drew.trans hx)
            have R1 := Lib.hid h1
            have T1 := Lib.hid h2
            (try (have B1 := Lib.hid (show Bx v1 W29.heap.size #[.slice none 0 0, .slice none 0 0] from (Bx.new W29 _ _).ext ((Ext.refl _).drew.trans hx)); have f0 := B1.out.free 0; have f1 := B1.out.free 1; have z1 := B1.out.lt; have c0 : v1.cell? ⟨W29.heap.size, 0, none⟩ = some (.slice none 0 0) := B1.out.at 0 _ rfl; have c1 : v1.cell? ⟨W29.heap.size, 1, none⟩ = some (.slice none 0 0) := B1.out.at 1 _ rfl))
            clear hx h1 h2))
        all_goals
          go_wp2_with fail
          go_meet
          first
            | exact ⟨_, R, kr, T, kt, rfl, rfl, Bx.new _ _ _, R1.out.ext ((Ext.refl _).alloc _), T1.out.ext ((Ext.refl _).alloc _), E1.out.alloc _⟩
            | exact ⟨_, R, kr, T, kt, rfl, rfl, B1.out.store2 _ _, R1.out.store2 (flat_svs _) B1.out _ _, T1.out.store2 (flat_wvs _) B1.out _ _, E1.out.store2 (Nat.le_refl _) _ _⟩
    case rest =>
      obtain ⟨C, R, kr, T, kt, rfl, rfl, hB, hR, hT, hx⟩ := hcut
      clear qb0 qb1 zb
      have A_32 := Lib.hid (A_30.out.ext hx)
      have B_32 := Lib.hid (B_30.out.ext hx)
      have P_32 := Lib.hid (P_30.out.ext hx)
      have X_32 := Lib.hid (X_30.out.ext hx)
      have d_32 := Lib.hid (d_30.out.ext hx)
      have M_32 := Lib.hid (M_30.out.ext hx)
      have N_32 := Lib.hid (N_30.out.ext hx)
      have a_32 := Lib.hid (a_30.out.ext hx)
      have I_32 := Lib.hid (I_30.out.ext hx)
      have J_32 := Lib.hid (J_30.out.ext hx)
      have b_32 := Lib.hid (b_31.out.ext hx)
      clear A_30 B_30 P_30 X_30 d_30 M_30 N_30 a_30 I_30 J_30 b_31
      have c_33 := Lib.hid (hB)
      have R_34 := Lib.hid (hR)
      have T_35 := Lib.hid (hT)
      clear hx hB hR hT HG HE HKb
      have qd0 : wc.cell? ⟨w.heap.size, 0, none⟩ = some (.slice A b.length c) := d_32.out.at 0 _ rfl
      have qd1 : wc.cell? ⟨w.heap.size, 1, none⟩ = some (.slice A' l.length c') := d_32.out.at 1 _ rfl
      have zd := d_32.out.lt
      have qa0 : wc.cell? ⟨w18.heap.size, 0, none⟩ = some (.slice M sa.length km) := a_32.out.at 0 _ rfl
      have qa1 : wc.cell? ⟨w18.heap.size, 1, none⟩ = some (.slice N la.length kn) := a_32.out.at 1 _ rfl
      have za := a_32.out.lt
      have qb0 : wc.cell? ⟨w25.heap.size, 0, none⟩ = some (.slice I sb.length ki) := b_32.out.at 0 _ rfl
      have qb1 : wc.cell? ⟨w25.heap.size, 1, none⟩ = some (.slice J lb'.length kj) := b_32.out.at 1 _ rfl
      have zb := b_32.out.lt
      have qc0 : wc.cell? ⟨C, 0, none⟩ = some (.slice R sa.length kr) := c_33.out.at 0 _ rfl
      have qc1 : wc.cell? ⟨C, 1, none⟩ = some (.slice T la.length kt) := c_33.out.at 1 _ rfl
      have zc := c_33.out.lt
      go_wp2_with (go_at_call 22; refine stop_here ?_)
      refine stop_on ?_
      clear qd0 qd1 zd qa0 qa1 za qb0 qb1 zb qc0 qc1 zc
      generalize hW : (World.alloc wc _) = W36
      obtain ⟨hx, hb0⟩ := allocs1 hW
      clear hW
      have A_37 := Lib.hid (A_32.out.ext hx)
      have B_37 := Lib.hid (B_32.out.ext hx)
      have P_37 := Lib.hid (P_32.out.ext hx)
      have X_37 := Lib.hid (X_32.out.ext hx)
      have d_37 := Lib.hid (d_32.out.ext hx)
      have M_37 := Lib.hid (M_32.out.ext hx)
      have N_37 := Lib.hid (N_32.out.ext hx)
      have a_37 := Lib.hid (a_32.out.ext hx)
      have I_37 := Lib.hid (I_32.out.ext hx)
      have J_37 := Lib.hid (J_32.out.ext hx)
      have b_37 := Lib.hid (b_32.out.ext hx)
      have c_37 := Lib.hid (c_33.out.ext hx)
      have R_37 := Lib.hid (R_34.out.ext hx)
      have T_37 := Lib.hid (T_35.out.ext hx)
      clear A_32 B_32 P_32 X_32 d_32 M_32 N_32 a_32 I_32 J_32 b_32 c_33 R_34 T_35
      have lit_38 := Lib.hid hb0
      clear hx hb0
      refine (doD_at M N _ sa la [(-1, ByteArray.mk #[])] km kn 1 1 1 (-1) fz [] _ (by omega) (by omega) (by simp) rfl (by rw [show planLen [((-1 : Int), ByteArray.mk #[])].length (-1) = 1 from rfl]; exact Hz.out) M_37.out N_37.out (lit_38.out.sl 1 (by unfold maxLen; omega))).mono ?_
      rintro e w39 ⟨v, rfl, ⟨U, ku, V, kv, rfl, h1, h2⟩, hx⟩
      have A_40 := Lib.hid (A_37.out.ext hx)
      have B_40 := Lib.hid (B_37.out.ext hx)
      have P_40 := Lib.hid (P_37.out.ext hx)
      have X_40 := Lib.hid (X_37.out.ext hx)
      have d_40 := Lib.hid (d_37.out.ext hx)
      have M_40 := Lib.hid (M_37.out.ext hx)
      have N_40 := Lib.hid (N_37.out.ext hx)
      have a_40 := Lib.hid (a_37.out.ext hx)
      have I_40 := Lib.hid (I_37.out.ext hx)
      have J_40 := Lib.hid (J_37.out.ext hx)
      have b_40 := Lib.hid (b_37.out.ext hx)
      have c_40 := Lib.hid (c_37.out.ext hx)
      have R_40 := Lib.hid (R_37.out.ext hx)
      have T_40 := Lib.hid (T_37.out.ext hx)
      have lit_40 := Lib.hid (lit_38.out.ext hx)
      clear A_37 B_37 P_37 X_37 d_37 M_37 N_37 a_37 I_37 J_37 b_37 c_37 R_37 T_37 lit_38
      clear hx
      have qd0 : w39.cell? ⟨w.heap.size, 0, none⟩ = some (.slice A b.length c) := d_40.out.at 0 _ rfl
      have qd1 : w39.cell? ⟨w.heap.size, 1, none⟩ = some (.slice A' l.length c') := d_40.out.at 1 _ rfl
      have zd := d_40.out.lt
      have qa0 : w39.cell? ⟨w18.heap.size, 0, none⟩ = some (.slice M sa.length km) := a_40.out.at 0 _ rfl
      have qa1 : w39.cell? ⟨w18.heap.size, 1, none⟩ = some (.slice N la.length kn) := a_40.out.at 1 _ rfl
      have za := a_40.out.lt
      have qb0 : w39.cell? ⟨w25.heap.size, 0, none⟩ = some (.slice I sb.length ki) := b_40.out.at 0 _ rfl
      have qb1 : w39.cell? ⟨w25.heap.size, 1, none⟩ = some (.slice J lb'.length kj) := b_40.out.at 1 _ rfl
      have zb := b_40.out.lt
      have qc0 : w39.cell? ⟨C, 0, none⟩ = some (.slice R sa.length kr) := c_40.out.at 0 _ rfl
      have qc1 : w39.cell? ⟨C, 1, none⟩ = some (.slice T la.length kt) := c_40.out.at 1 _ rfl
      have zc := c_40.out.lt
      have qlit0 : w39.cell? ⟨wc.heap.size, 0, none⟩ = some (.int .i64 (-1)) := lit_40.out.at 0 _ rfl
      have qlit1 : w39.cell? ⟨wc.heap.size, 1, none⟩ = some (.string (ByteArray.mk #[])) := lit_40.out.at 1 _ rfl
      have zlit := lit_40.out.lt
      go_wp2_with (go_at_call 14; refine stop_here ?_)
      refine stop_on ?_
      clear qd0 qd1 zd qa0 qa1 za qb0 qb1 zb qc0 qc1 zc qlit0 qlit1 zlit
      generalize hW : (World.alloc w39 _) = W41
      obtain ⟨hx, hb0⟩ := allocs1 hW
      clear hW
      have A_42 := Lib.hid (A_40.out.ext hx)
      have B_42 := Lib.hid (B_40.out.ext hx)
      have P_42 := Lib.hid (P_40.out.ext hx)
      have X_42 := Lib.hid (X_40.out.ext hx)
      have d_42 := Lib.hid (d_40.out.ext hx)
      have M_42 := Lib.hid (M_40.out.ext hx)
      have N_42 := Lib.hid (N_40.out.ext hx)
      have a_42 := Lib.hid (a_40.out.ext hx)
      have I_42 := Lib.hid (I_40.out.ext hx)
      have J_42 := Lib.hid (J_40.out.ext hx)
      have b_42 := Lib.hid (b_40.out.ext hx)
      have c_42 := Lib.hid (c_40.out.ext hx)
      have R_42 := Lib.hid (R_40.out.ext hx)
      have T_42 := Lib.hid (T_40.out.ext hx)
      have lit_42 := Lib.hid (lit_40.out.ext hx)
      clear A_40 B_40 P_40 X_40 d_40 M_40 N_40 a_40 I_40 J_40 b_40 c_40 R_40 T_40 lit_40
      clear hx hb0
      refine (same1R_any M N R T sa la km kn kr kt _ (by omega) (by omega) M_42.out N_42.out R_42.out T_42.out).mono ?_
      rintro e w43 ⟨rfl, hx⟩
      have A_44 := Lib.hid (A_42.out.ext hx)
      have B_44 := Lib.hid (B_42.out.ext hx)
      have P_44 := Lib.hid (P_42.out.ext hx)
      have X_44 := Lib.hid (X_42.out.ext hx)
      have d_44 := Lib.hid (d_42.out.ext hx)
      have M_44 := Lib.hid (M_42.out.ext hx)
      have N_44 := Lib.hid (N_42.out.ext hx)
      have a_44 := Lib.hid (a_42.out.ext hx)
      have I_44 := Lib.hid (I_42.out.ext hx)
      have J_44 := Lib.hid (J_42.out.ext hx)
      have b_44 := Lib.hid (b_42.out.ext hx)
      have c_44 := Lib.hid (c_42.out.ext hx)
      have R_44 := Lib.hid (R_42.out.ext hx)
      have T_44 := Lib.hid (T_42.out.ext hx)
      have lit_44 := Lib.hid (lit_42.out.ext hx)
      clear A_42 B_42 P_42 X_42 d_42 M_42 N_42 a_42 I_42 J_42 b_42 c_42 R_42 T_42 lit_42
      clear hx
      have qd0 : w43.cell? ⟨w.heap.size, 0, none⟩ = some (.slice A b.length c) := d_44.out.at 0 _ rfl
      have qd1 : w43.cell? ⟨w.heap.size, 1, none⟩ = some (.slice A' l.length c') := d_44.out.at 1 _ rfl
      have zd := d_44.out.lt
      have qa0 : w43.cell? ⟨w18.heap.size, 0, none⟩ = some (.slice M sa.length km) := a_44.out.at 0 _ rfl
      have qa1 : w43.cell? ⟨w18.heap.size, 1, none⟩ = some (.slice N la.length kn) := a_44.out.at 1 _ rfl
      have za := a_44.out.lt
      have qb0 : w43.cell? ⟨w25.heap.size, 0, none⟩ = some (.slice I sb.length ki) := b_44.out.at 0 _ rfl
      have qb1 : w43.cell? ⟨w25.heap.size, 1, none⟩ = some (.slice J lb'.length kj) := b_44.out.at 1 _ rfl
      have zb := b_44.out.lt
      have qc0 : w43.cell? ⟨C, 0, none⟩ = some (.slice R sa.length kr) := c_44.out.at 0 _ rfl
      have qc1 : w43.cell? ⟨C, 1, none⟩ = some (.slice T la.length kt) := c_44.out.at 1 _ rfl
      have zc := c_44.out.lt
      have zlit := lit_44.out.lt
      go_wp2_with (go_at_call 13; refine stop_here ?_)
      refine stop_on ?_
      clear qd0 qd1 zd qa0 qa1 za qb0 qb1 zb qc0 qc1 zc zlit
      have hc := rightR_any M N sa la km kn _ (by unfold maxLen; omega) (by unfold maxLen; omega) M_44.out.cells N_44.out.cells
      rw [Hsr.out] at hc
      refine hc.mono ?_
      clear hc
      rintro e w45 ⟨rfl, hx⟩
      have A_46 := Lib.hid (A_44.out.ext hx)
      have B_46 := Lib.hid (B_44.out.ext hx)
      have P_46 := Lib.hid (P_44.out.ext hx)
      have X_46 := Lib.hid (X_44.out.ext hx)
      have d_46 := Lib.hid (d_44.out.ext hx)
      have M_46 := Lib.hid (M_44.out.ext hx)
      have N_46 := Lib.hid (N_44.out.ext hx)
      have a_46 := Lib.hid (a_44.out.ext hx)
      have I_46 := Lib.hid (I_44.out.ext hx)
      have J_46 := Lib.hid (J_44.out.ext hx)
      have b_46 := Lib.hid (b_44.out.ext hx)
      have c_46 := Lib.hid (c_44.out.ext hx)
      have R_46 := Lib.hid (R_44.out.ext hx)
      have T_46 := Lib.hid (T_44.out.ext hx)
      have lit_46 := Lib.hid (lit_44.out.ext hx)
      clear A_44 B_44 P_44 X_44 d_44 M_44 N_44 a_44 I_44 J_44 b_44 c_44 R_44 T_44 lit_44
      clear hx
      have qd0 : w45.cell? ⟨w.heap.size, 0, none⟩ = some (.slice A b.length c) := d_46.out.at 0 _ rfl
      have qd1 : w45.cell? ⟨w.heap.size, 1, none⟩ = some (.slice A' l.length c') := d_46.out.at 1 _ rfl
      have zd := d_46.out.lt
      have qa0 : w45.cell? ⟨w18.heap.size, 0, none⟩ = some (.slice M sa.length km) := a_46.out.at 0 _ rfl
      have qa1 : w45.cell? ⟨w18.heap.size, 1, none⟩ = some (.slice N la.length kn) := a_46.out.at 1 _ rfl
      have za := a_46.out.lt
      have qb0 : w45.cell? ⟨w25.heap.size, 0, none⟩ = some (.slice I sb.length ki) := b_46.out.at 0 _ rfl
      have qb1 : w45.cell? ⟨w25.heap.size, 1, none⟩ = some (.slice J lb'.length kj) := b_46.out.at 1 _ rfl
      have zb := b_46.out.lt
      have qc0 : w45.cell? ⟨C, 0, none⟩ = some (.slice R sa.length kr) := c_46.out.at 0 _ rfl
      have qc1 : w45.cell? ⟨C, 1, none⟩ = some (.slice T la.length kt) := c_46.out.at 1 _ rfl
      have zc := c_46.out.lt
      have zlit := lit_46.out.lt
      go_wp2_with (go_at_call 24; refine stop_here ?_)
      refine stop_on ?_
      clear qd0 qd1 zd qa0 qa1 za qb0 qb1 zb qc0 qc1 zc zlit
      refine (flushD_to M N sa la fz km kn _ (by omega) (by omega) Hfz.out M_46.out N_46.out).mono ?_
      rintro e w47 ⟨v, rfl, ⟨Y, ky, Z, kz, rfl, h1, h2⟩, hx⟩
      have A_48 := Lib.hid (A_46.out.ext hx)
      have B_48 := Lib.hid (B_46.out.ext hx)
      have P_48 := Lib.hid (P_46.out.ext hx)
      have X_48 := Lib.hid (X_46.out.ext hx)
      have d_48 := Lib.hid (d_46.out.ext hx)
      have M_48 := Lib.hid (M_46.out.ext hx)
      have N_48 := Lib.hid (N_46.out.ext hx)
      have a_48 := Lib.hid (a_46.out.ext hx)
      have I_48 := Lib.hid (I_46.out.ext hx)
      have J_48 := Lib.hid (J_46.out.ext hx)
      have b_48 := Lib.hid (b_46.out.ext hx)
      have c_48 := Lib.hid (c_46.out.ext hx)
      have R_48 := Lib.hid (R_46.out.ext hx)
      have T_48 := Lib.hid (T_46.out.ext hx)
      have lit_48 := Lib.hid (lit_46.out.ext hx)
      clear A_46 B_46 P_46 X_46 d_46 M_46 N_46 a_46 I_46 J_46 b_46 c_46 R_46 T_46 lit_46
      clear hx
      have qd0 : w47.cell? ⟨w.heap.size, 0, none⟩ = some (.slice A b.length c) := d_48.out.at 0 _ rfl
      have qd1 : w47.cell? ⟨w.heap.size, 1, none⟩ = some (.slice A' l.length c') := d_48.out.at 1 _ rfl
      have zd := d_48.out.lt
      have qa0 : w47.cell? ⟨w18.heap.size, 0, none⟩ = some (.slice M sa.length km) := a_48.out.at 0 _ rfl
      have qa1 : w47.cell? ⟨w18.heap.size, 1, none⟩ = some (.slice N la.length kn) := a_48.out.at 1 _ rfl
      have za := a_48.out.lt
      have qb0 : w47.cell? ⟨w25.heap.size, 0, none⟩ = some (.slice I sb.length ki) := b_48.out.at 0 _ rfl
      have qb1 : w47.cell? ⟨w25.heap.size, 1, none⟩ = some (.slice J lb'.length kj) := b_48.out.at 1 _ rfl
      have zb := b_48.out.lt
      have qc0 : w47.cell? ⟨C, 0, none⟩ = some (.slice R sa.length kr) := c_48.out.at 0 _ rfl
      have qc1 : w47.cell? ⟨C, 1, none⟩ = some (.slice T la.length kt) := c_48.out.at 1 _ rfl
      have zc := c_48.out.lt
      have zlit := lit_48.out.lt
      have hfd : ∀ (a a' : Option Addr) (n c n' c' : Nat) (w : World), (Instr.field 25 (.agg #[.slice a n c, .slice a' n' c']) 1).run Try.prog w = .ok (.slice a' n' c') w := fun _ _ _ _ _ _ _ => by kernel_rfl
      go_wp2
      go_ret
      exact ⟨rfl, X_48.out⟩
  have e1 : ((m : Int) != min stop n) = false := by simpa using Hm2.out (by omega)
  go_wp2_with fail
  clear qd0 qd1 zd qa0 qa1 za
  generalize hW : (World.alloc w25 _) = W49
  obtain ⟨hx, hb0⟩ := allocs1 hW
  clear hW
  have A_50 := Lib.hid (A_26.out.ext hx)
  have B_50 := Lib.hid (B_26.out.ext hx)
  have P_50 := Lib.hid (P_26.out.ext hx)
  have X_50 := Lib.hid (X_26.out.ext hx)
  have d_50 := Lib.hid (d_26.out.ext hx)
  have M_50 := Lib.hid (M_26.out.ext hx)
  have N_50 := Lib.hid (N_26.out.ext hx)
  have a_50 := Lib.hid (a_26.out.ext hx)
  have I_50 := Lib.hid (I_27.out.ext hx)
  have J_50 := Lib.hid (J_28.out.ext hx)
  clear A_26 B_26 P_26 X_26 d_26 M_26 N_26 a_26 I_27 J_28
  have b_51 := Lib.hid hb0
  clear hx hb0
  have qb0 : W49.cell? ⟨w25.heap.size, 0, none⟩ = some (.slice I sb.length ki) := b_51.out.at 0 _ rfl
  have qb1 : W49.cell? ⟨w25.heap.size, 1, none⟩ = some (.slice J lb'.length kj) := b_51.out.at 1 _ rfl
  have zb := b_51.out.lt
  have hpc := P_50.out.2.1
  have hpm := P_50.out.2.2.1
  unfold maxLen at hpm
  have hmp : m ≤ p.length := by omega
  have HKb := Lib.hid (fun w' (hx : Ext W49 w') => (show w'.cell? ⟨w25.heap.size, 0, none⟩ = some (.slice I sb.length ki) ∧ w'.cell? ⟨w25.heap.size, 1, none⟩ = some (.slice J lb'.length kj) from ⟨(b_51.out.ext hx).at 0 _ rfl, (b_51.out.ext hx).at 1 _ rfl⟩))
  have HG := Lib.hid (fun (hcm : cp ≠ m) (np cq : Nat) (hnp : np = p.length - m) (hcq : cq = cp - m) w' (hx : Ext W49 w') => doD_at I J (Option.map (fun x => x.add (m * 2)) P) sb lb' (p.drop m) ki kj cq kk np (-1) sa la w' l3 (by omega) (by simp; omega) (by simp [hnp]) (by rw [show planLen (p.drop m).length (-1) = (p.drop m).length from by unfold planLen; simp, List.take_length]; exact Hon2.out) (I_50.out.ext hx) (J_50.out.ext hx) (by subst hnp hcq; exact (P_50.out.ext hx).wdrop hmp))
  have HE := Lib.hid (fun (hcm : cp = m) (np cq : Nat) (hnp : np = p.length - m) (hcq : cq = cp - m) w' (hx : Ext W49 w') => doD_at I J P sb lb' (p.drop m) ki kj cq kk np (-1) sa la w' l3 (by omega) (by simp; omega) (by simp [hnp]) (by rw [show planLen (p.drop m).length (-1) = (p.drop m).length from by unfold planLen; simp, List.take_length]; exact Hon2.out) (I_50.out.ext hx) (J_50.out.ext hx) (by subst hnp hcq; exact (P_50.out.ext hx).wend hmp hcm))
  go_cut [12, 13] from 81 to 88 (fun c k wx => ∃ X R kr T kt, c = .pointer (some ⟨X, 0, none⟩) ∧ k = .int .i64 (kk : Int) ∧ Bx wx X #[.slice R sa.length kr, .slice T la.length kt] ∧ Sl wx R sa.length kr (sa.map sv) ∧ Sl wx T la.length kt (wvs la) ∧ Ext W49 wx)
  case first =>
    rcases Decidable.em (cp = m) with hcm | hcm
    · have HF := Lib.hid (HE.out hcm)
      clear HG HE
      subst hcm
      go_region_held3 (fun w' => w'.cell? ⟨w25.heap.size, 0, none⟩ = some (.slice I sb.length ki) ∧ w'.cell? ⟨w25.heap.size, 1, none⟩ = some (.slice J lb'.length kj))
        (first | exact HKb.out _ E1.out | exact HKb.out _ (E1.out.alloc _) | exact HKb.out _ (E1.out.store2 (Nat.le_refl _) _ _) | exact HKb.out _ (Ext.refl W49).drew | exact HKb.out _ ((Ext.refl W49).alloc _).drew | exact HKb.out _ (Ext.refl W49))
        ((go_at_call 22
          refine (HF.out _ _ ?_ ?_ _ ?_).mono ?_
          (first | omega | (simp; omega))
          (first | omega | (simp; omega))
          (first | exact (Ext.refl _).drew | exact ((Ext.refl _).alloc _).drew)
          rintro e v1 ⟨v, rfl, ⟨R, kr, T, kt, rfl, h1, h2⟩, hx⟩
          have E1 := Lib.hid (show Ext W49 v1 from by first | exact (Ext.refl W49).drew.trans hx | exact ((Ext.refl W49).alloc _).drew.trans hx)
          have R1 := Lib.hid h1
          have T1 := Lib.hid h2
          (try (have B1 := Lib.hid (show Bx v1 W49.heap.size #[.slice none 0 0, .slice none 0 0] from (Bx.new W49 _ _).ext ((Ext.refl _).drew.trans hx)); have f0 := B1.out.free 0; have f1 := B1.out.free 1; have z1 := B1.out.lt; have c0 : v1.cell? ⟨W49.heap.size, 0, none⟩ = some (.slice none 0 0) := B1.out.at 0 _ rfl; have c1 : v1.cell? ⟨W49.heap.size, 1, none⟩ = some (.slice none 0 0) := B1.out.at 1 _ rfl))
          clear hx h1 h2))
      all_goals
        go_wp2_with fail
        go_meet
        first
          | exact ⟨_, R, kr, T, kt, rfl, rfl, Bx.new _ _ _, R1.out.ext ((Ext.refl _).alloc _), T1.out.ext ((Ext.refl _).alloc _), E1.out.alloc _⟩
          | exact ⟨_, R, kr, T, kt, rfl, rfl, B1.out.store2 _ _, R1.out.store2 (flat_svs _) B1.out _ _, T1.out.store2 (flat_wvs _) B1.out _ _, E1.out.store2 (Nat.le_refl _) _ _⟩
    · have HF := Lib.hid (HG.out hcm)
      clear HG HE
      go_region_held3 (fun w' => w'.cell? ⟨w25.heap.size, 0, none⟩ = some (.slice I sb.length ki) ∧ w'.cell? ⟨w25.heap.size, 1, none⟩ = some (.slice J lb'.length kj))
        (first | exact HKb.out _ E1.out | exact HKb.out _ (E1.out.alloc _) | exact HKb.out _ (E1.out.store2 (Nat.le_refl _) _ _) | exact HKb.out _ (Ext.refl W49).drew | exact HKb.out _ ((Ext.refl W49).alloc _).drew | exact HKb.out _ (Ext.refl W49))
        ((go_at_call 22
          refine (HF.out _ _ ?_ ?_ _ ?_).mono ?_
          (first | omega | (simp; omega))
          (first | omega | (simp; omega))
          (first | exact (Ext.refl _).drew | exact ((Ext.refl _).alloc _).drew)
          rintro e v1 ⟨v, rfl, ⟨R, kr, T, kt, rfl, h1, h2⟩, hx⟩
          have E1 := Lib.hid (show Ext W49 v1 from by first | exact (Ext.refl W49).drew.trans hx | exact ((Ext.refl W49).alloc _).drew.trans hx)
          have R1 := Lib.hid h1
          have T1 := Lib.hid h2
          (try (have B1 := Lib.hid (show Bx v1 W49.heap.size #[.slice none 0 0, .slice none 0 0] from (Bx.new W49 _ _).ext ((Ext.refl _).drew.trans hx)); have f0 := B1.out.free 0; have f1 := B1.out.free 1; have z1 := B1.out.lt; have c0 : v1.cell? ⟨W49.heap.size, 0, none⟩ = some (.slice none 0 0) := B1.out.at 0 _ rfl; have c1 : v1.cell? ⟨W49.heap.size, 1, none⟩ = some (.slice none 0 0) := B1.out.at 1 _ rfl))
          clear hx h1 h2))
      all_goals
        go_wp2_with fail
        go_meet
        first
          | exact ⟨_, R, kr, T, kt, rfl, rfl, Bx.new _ _ _, R1.out.ext ((Ext.refl _).alloc _), T1.out.ext ((Ext.refl _).alloc _), E1.out.alloc _⟩
          | exact ⟨_, R, kr, T, kt, rfl, rfl, B1.out.store2 _ _, R1.out.store2 (flat_svs _) B1.out _ _, T1.out.store2 (flat_wvs _) B1.out _ _, E1.out.store2 (Nat.le_refl _) _ _⟩
  case rest =>
    obtain ⟨C, R, kr, T, kt, rfl, rfl, hB, hR, hT, hx⟩ := hcut
    clear qb0 qb1 zb
    have A_52 := Lib.hid (A_50.out.ext hx)
    have B_52 := Lib.hid (B_50.out.ext hx)
    have P_52 := Lib.hid (P_50.out.ext hx)
    have X_52 := Lib.hid (X_50.out.ext hx)
    have d_52 := Lib.hid (d_50.out.ext hx)
    have M_52 := Lib.hid (M_50.out.ext hx)
    have N_52 := Lib.hid (N_50.out.ext hx)
    have a_52 := Lib.hid (a_50.out.ext hx)
    have I_52 := Lib.hid (I_50.out.ext hx)
    have J_52 := Lib.hid (J_50.out.ext hx)
    have b_52 := Lib.hid (b_51.out.ext hx)
    clear A_50 B_50 P_50 X_50 d_50 M_50 N_50 a_50 I_50 J_50 b_51
    have c_53 := Lib.hid (hB)
    have R_54 := Lib.hid (hR)
    have T_55 := Lib.hid (hT)
    clear hx hB hR hT HG HE HKb
    have qd0 : wc.cell? ⟨w.heap.size, 0, none⟩ = some (.slice A b.length c) := d_52.out.at 0 _ rfl
    have qd1 : wc.cell? ⟨w.heap.size, 1, none⟩ = some (.slice A' l.length c') := d_52.out.at 1 _ rfl
    have zd := d_52.out.lt
    have qa0 : wc.cell? ⟨w18.heap.size, 0, none⟩ = some (.slice M sa.length km) := a_52.out.at 0 _ rfl
    have qa1 : wc.cell? ⟨w18.heap.size, 1, none⟩ = some (.slice N la.length kn) := a_52.out.at 1 _ rfl
    have za := a_52.out.lt
    have qb0 : wc.cell? ⟨w25.heap.size, 0, none⟩ = some (.slice I sb.length ki) := b_52.out.at 0 _ rfl
    have qb1 : wc.cell? ⟨w25.heap.size, 1, none⟩ = some (.slice J lb'.length kj) := b_52.out.at 1 _ rfl
    have zb := b_52.out.lt
    have qc0 : wc.cell? ⟨C, 0, none⟩ = some (.slice R sa.length kr) := c_53.out.at 0 _ rfl
    have qc1 : wc.cell? ⟨C, 1, none⟩ = some (.slice T la.length kt) := c_53.out.at 1 _ rfl
    have zc := c_53.out.lt
    go_wp2_with (go_at_call 22; refine stop_here ?_)
    refine stop_on ?_
    clear qd0 qd1 zd qa0 qa1 za qb0 qb1 zb qc0 qc1 zc
    generalize hW : (World.alloc wc _) = W56
    obtain ⟨hx, hb0⟩ := allocs1 hW
    clear hW
    have A_57 := Lib.hid (A_52.out.ext hx)
    have B_57 := Lib.hid (B_52.out.ext hx)
    have P_57 := Lib.hid (P_52.out.ext hx)
    have X_57 := Lib.hid (X_52.out.ext hx)
    have d_57 := Lib.hid (d_52.out.ext hx)
    have M_57 := Lib.hid (M_52.out.ext hx)
    have N_57 := Lib.hid (N_52.out.ext hx)
    have a_57 := Lib.hid (a_52.out.ext hx)
    have I_57 := Lib.hid (I_52.out.ext hx)
    have J_57 := Lib.hid (J_52.out.ext hx)
    have b_57 := Lib.hid (b_52.out.ext hx)
    have c_57 := Lib.hid (c_53.out.ext hx)
    have R_57 := Lib.hid (R_54.out.ext hx)
    have T_57 := Lib.hid (T_55.out.ext hx)
    clear A_52 B_52 P_52 X_52 d_52 M_52 N_52 a_52 I_52 J_52 b_52 c_53 R_54 T_55
    have lit_58 := Lib.hid hb0
    clear hx hb0
    refine (doD_at M N _ sa la [(-1, ByteArray.mk #[])] km kn 1 1 1 (-1) fz [] _ (by omega) (by omega) (by simp) rfl (by rw [show planLen [((-1 : Int), ByteArray.mk #[])].length (-1) = 1 from rfl]; exact Hz.out) M_57.out N_57.out (lit_58.out.sl 1 (by unfold maxLen; omega))).mono ?_
    rintro e w59 ⟨v, rfl, ⟨U, ku, V, kv, rfl, h1, h2⟩, hx⟩
    have A_60 := Lib.hid (A_57.out.ext hx)
    have B_60 := Lib.hid (B_57.out.ext hx)
    have P_60 := Lib.hid (P_57.out.ext hx)
    have X_60 := Lib.hid (X_57.out.ext hx)
    have d_60 := Lib.hid (d_57.out.ext hx)
    have M_60 := Lib.hid (M_57.out.ext hx)
    have N_60 := Lib.hid (N_57.out.ext hx)
    have a_60 := Lib.hid (a_57.out.ext hx)
    have I_60 := Lib.hid (I_57.out.ext hx)
    have J_60 := Lib.hid (J_57.out.ext hx)
    have b_60 := Lib.hid (b_57.out.ext hx)
    have c_60 := Lib.hid (c_57.out.ext hx)
    have R_60 := Lib.hid (R_57.out.ext hx)
    have T_60 := Lib.hid (T_57.out.ext hx)
    have lit_60 := Lib.hid (lit_58.out.ext hx)
    clear A_57 B_57 P_57 X_57 d_57 M_57 N_57 a_57 I_57 J_57 b_57 c_57 R_57 T_57 lit_58
    clear hx
    have qd0 : w59.cell? ⟨w.heap.size, 0, none⟩ = some (.slice A b.length c) := d_60.out.at 0 _ rfl
    have qd1 : w59.cell? ⟨w.heap.size, 1, none⟩ = some (.slice A' l.length c') := d_60.out.at 1 _ rfl
    have zd := d_60.out.lt
    have qa0 : w59.cell? ⟨w18.heap.size, 0, none⟩ = some (.slice M sa.length km) := a_60.out.at 0 _ rfl
    have qa1 : w59.cell? ⟨w18.heap.size, 1, none⟩ = some (.slice N la.length kn) := a_60.out.at 1 _ rfl
    have za := a_60.out.lt
    have qb0 : w59.cell? ⟨w25.heap.size, 0, none⟩ = some (.slice I sb.length ki) := b_60.out.at 0 _ rfl
    have qb1 : w59.cell? ⟨w25.heap.size, 1, none⟩ = some (.slice J lb'.length kj) := b_60.out.at 1 _ rfl
    have zb := b_60.out.lt
    have qc0 : w59.cell? ⟨C, 0, none⟩ = some (.slice R sa.length kr) := c_60.out.at 0 _ rfl
    have qc1 : w59.cell? ⟨C, 1, none⟩ = some (.slice T la.length kt) := c_60.out.at 1 _ rfl
    have zc := c_60.out.lt
    have qlit0 : w59.cell? ⟨wc.heap.size, 0, none⟩ = some (.int .i64 (-1)) := lit_60.out.at 0 _ rfl
    have qlit1 : w59.cell? ⟨wc.heap.size, 1, none⟩ = some (.string (ByteArray.mk #[])) := lit_60.out.at 1 _ rfl
    have zlit := lit_60.out.lt
    go_wp2_with (go_at_call 14; refine stop_here ?_)
    refine stop_on ?_
    clear qd0 qd1 zd qa0 qa1 za qb0 qb1 zb qc0 qc1 zc qlit0 qlit1 zlit
    generalize hW : (World.alloc w59 _) = W61
    obtain ⟨hx, hb0⟩ := allocs1 hW
    clear hW
    have A_62 := Lib.hid (A_60.out.ext hx)
    have B_62 := Lib.hid (B_60.out.ext hx)
    have P_62 := Lib.hid (P_60.out.ext hx)
    have X_62 := Lib.hid (X_60.out.ext hx)
    have d_62 := Lib.hid (d_60.out.ext hx)
    have M_62 := Lib.hid (M_60.out.ext hx)
    have N_62 := Lib.hid (N_60.out.ext hx)
    have a_62 := Lib.hid (a_60.out.ext hx)
    have I_62 := Lib.hid (I_60.out.ext hx)
    have J_62 := Lib.hid (J_60.out.ext hx)
    have b_62 := Lib.hid (b_60.out.ext hx)
    have c_62 := Lib.hid (c_60.out.ext hx)
    have R_62 := Lib.hid (R_60.out.ext hx)
    have T_62 := Lib.hid (T_60.out.ext hx)
    have lit_62 := Lib.hid (lit_60.out.ext hx)
    clear A_60 B_60 P_60 X_60 d_60 M_60 N_60 a_60 I_60 J_60 b_60 c_60 R_60 T_60 lit_60
    clear hx hb0
    refine (same1R_any M N R T sa la km kn kr kt _ (by omega) (by omega) M_62.out N_62.out R_62.out T_62.out).mono ?_
    rintro e w63 ⟨rfl, hx⟩
    have A_64 := Lib.hid (A_62.out.ext hx)
    have B_64 := Lib.hid (B_62.out.ext hx)
    have P_64 := Lib.hid (P_62.out.ext hx)
    have X_64 := Lib.hid (X_62.out.ext hx)
    have d_64 := Lib.hid (d_62.out.ext hx)
    have M_64 := Lib.hid (M_62.out.ext hx)
    have N_64 := Lib.hid (N_62.out.ext hx)
    have a_64 := Lib.hid (a_62.out.ext hx)
    have I_64 := Lib.hid (I_62.out.ext hx)
    have J_64 := Lib.hid (J_62.out.ext hx)
    have b_64 := Lib.hid (b_62.out.ext hx)
    have c_64 := Lib.hid (c_62.out.ext hx)
    have R_64 := Lib.hid (R_62.out.ext hx)
    have T_64 := Lib.hid (T_62.out.ext hx)
    have lit_64 := Lib.hid (lit_62.out.ext hx)
    clear A_62 B_62 P_62 X_62 d_62 M_62 N_62 a_62 I_62 J_62 b_62 c_62 R_62 T_62 lit_62
    clear hx
    have qd0 : w63.cell? ⟨w.heap.size, 0, none⟩ = some (.slice A b.length c) := d_64.out.at 0 _ rfl
    have qd1 : w63.cell? ⟨w.heap.size, 1, none⟩ = some (.slice A' l.length c') := d_64.out.at 1 _ rfl
    have zd := d_64.out.lt
    have qa0 : w63.cell? ⟨w18.heap.size, 0, none⟩ = some (.slice M sa.length km) := a_64.out.at 0 _ rfl
    have qa1 : w63.cell? ⟨w18.heap.size, 1, none⟩ = some (.slice N la.length kn) := a_64.out.at 1 _ rfl
    have za := a_64.out.lt
    have qb0 : w63.cell? ⟨w25.heap.size, 0, none⟩ = some (.slice I sb.length ki) := b_64.out.at 0 _ rfl
    have qb1 : w63.cell? ⟨w25.heap.size, 1, none⟩ = some (.slice J lb'.length kj) := b_64.out.at 1 _ rfl
    have zb := b_64.out.lt
    have qc0 : w63.cell? ⟨C, 0, none⟩ = some (.slice R sa.length kr) := c_64.out.at 0 _ rfl
    have qc1 : w63.cell? ⟨C, 1, none⟩ = some (.slice T la.length kt) := c_64.out.at 1 _ rfl
    have zc := c_64.out.lt
    have zlit := lit_64.out.lt
    go_wp2_with (go_at_call 13; refine stop_here ?_)
    refine stop_on ?_
    clear qd0 qd1 zd qa0 qa1 za qb0 qb1 zb qc0 qc1 zc zlit
    have hc := rightR_any M N sa la km kn _ (by unfold maxLen; omega) (by unfold maxLen; omega) M_64.out.cells N_64.out.cells
    rw [Hsr.out] at hc
    refine hc.mono ?_
    clear hc
    rintro e w65 ⟨rfl, hx⟩
    have A_66 := Lib.hid (A_64.out.ext hx)
    have B_66 := Lib.hid (B_64.out.ext hx)
    have P_66 := Lib.hid (P_64.out.ext hx)
    have X_66 := Lib.hid (X_64.out.ext hx)
    have d_66 := Lib.hid (d_64.out.ext hx)
    have M_66 := Lib.hid (M_64.out.ext hx)
    have N_66 := Lib.hid (N_64.out.ext hx)
    have a_66 := Lib.hid (a_64.out.ext hx)
    have I_66 := Lib.hid (I_64.out.ext hx)
    have J_66 := Lib.hid (J_64.out.ext hx)
    have b_66 := Lib.hid (b_64.out.ext hx)
    have c_66 := Lib.hid (c_64.out.ext hx)
    have R_66 := Lib.hid (R_64.out.ext hx)
    have T_66 := Lib.hid (T_64.out.ext hx)
    have lit_66 := Lib.hid (lit_64.out.ext hx)
    clear A_64 B_64 P_64 X_64 d_64 M_64 N_64 a_64 I_64 J_64 b_64 c_64 R_64 T_64 lit_64
    clear hx
    have qd0 : w65.cell? ⟨w.heap.size, 0, none⟩ = some (.slice A b.length c) := d_66.out.at 0 _ rfl
    have qd1 : w65.cell? ⟨w.heap.size, 1, none⟩ = some (.slice A' l.length c') := d_66.out.at 1 _ rfl
    have zd := d_66.out.lt
    have qa0 : w65.cell? ⟨w18.heap.size, 0, none⟩ = some (.slice M sa.length km) := a_66.out.at 0 _ rfl
    have qa1 : w65.cell? ⟨w18.heap.size, 1, none⟩ = some (.slice N la.length kn) := a_66.out.at 1 _ rfl
    have za := a_66.out.lt
    have qb0 : w65.cell? ⟨w25.heap.size, 0, none⟩ = some (.slice I sb.length ki) := b_66.out.at 0 _ rfl
    have qb1 : w65.cell? ⟨w25.heap.size, 1, none⟩ = some (.slice J lb'.length kj) := b_66.out.at 1 _ rfl
    have zb := b_66.out.lt
    have qc0 : w65.cell? ⟨C, 0, none⟩ = some (.slice R sa.length kr) := c_66.out.at 0 _ rfl
    have qc1 : w65.cell? ⟨C, 1, none⟩ = some (.slice T la.length kt) := c_66.out.at 1 _ rfl
    have zc := c_66.out.lt
    have zlit := lit_66.out.lt
    go_wp2_with (go_at_call 24; refine stop_here ?_)
    refine stop_on ?_
    clear qd0 qd1 zd qa0 qa1 za qb0 qb1 zb qc0 qc1 zc zlit
    refine (flushD_to M N sa la fz km kn _ (by omega) (by omega) Hfz.out M_66.out N_66.out).mono ?_
    rintro e w67 ⟨v, rfl, ⟨Y, ky, Z, kz, rfl, h1, h2⟩, hx⟩
    have A_68 := Lib.hid (A_66.out.ext hx)
    have B_68 := Lib.hid (B_66.out.ext hx)
    have P_68 := Lib.hid (P_66.out.ext hx)
    have X_68 := Lib.hid (X_66.out.ext hx)
    have d_68 := Lib.hid (d_66.out.ext hx)
    have M_68 := Lib.hid (M_66.out.ext hx)
    have N_68 := Lib.hid (N_66.out.ext hx)
    have a_68 := Lib.hid (a_66.out.ext hx)
    have I_68 := Lib.hid (I_66.out.ext hx)
    have J_68 := Lib.hid (J_66.out.ext hx)
    have b_68 := Lib.hid (b_66.out.ext hx)
    have c_68 := Lib.hid (c_66.out.ext hx)
    have R_68 := Lib.hid (R_66.out.ext hx)
    have T_68 := Lib.hid (T_66.out.ext hx)
    have lit_68 := Lib.hid (lit_66.out.ext hx)
    clear A_66 B_66 P_66 X_66 d_66 M_66 N_66 a_66 I_66 J_66 b_66 c_66 R_66 T_66 lit_66
    clear hx
    have qd0 : w67.cell? ⟨w.heap.size, 0, none⟩ = some (.slice A b.length c) := d_68.out.at 0 _ rfl
    have qd1 : w67.cell? ⟨w.heap.size, 1, none⟩ = some (.slice A' l.length c') := d_68.out.at 1 _ rfl
    have zd := d_68.out.lt
    have qa0 : w67.cell? ⟨w18.heap.size, 0, none⟩ = some (.slice M sa.length km) := a_68.out.at 0 _ rfl
    have qa1 : w67.cell? ⟨w18.heap.size, 1, none⟩ = some (.slice N la.length kn) := a_68.out.at 1 _ rfl
    have za := a_68.out.lt
    have qb0 : w67.cell? ⟨w25.heap.size, 0, none⟩ = some (.slice I sb.length ki) := b_68.out.at 0 _ rfl
    have qb1 : w67.cell? ⟨w25.heap.size, 1, none⟩ = some (.slice J lb'.length kj) := b_68.out.at 1 _ rfl
    have zb := b_68.out.lt
    have qc0 : w67.cell? ⟨C, 0, none⟩ = some (.slice R sa.length kr) := c_68.out.at 0 _ rfl
    have qc1 : w67.cell? ⟨C, 1, none⟩ = some (.slice T la.length kt) := c_68.out.at 1 _ rfl
    have zc := c_68.out.lt
    have zlit := lit_68.out.lt
    have hfd : ∀ (a a' : Option Addr) (n c n' c' : Nat) (w : World), (Instr.field 25 (.agg #[.slice a n c, .slice a' n' c']) 1).run Try.prog w = .ok (.slice a' n' c') w := fun _ _ _ _ _ _ _ => by kernel_rfl
    go_wp2
    go_ret
    exact ⟨rfl, X_68.out⟩
end Go.Proofs.Ytikdicnpmobidaa

