/- The walk of the reference's Do. New of the reference alone (for seats without strings.Repeat: no text of both may be joined). -/
import Derived.Test.YtjbfopnkeclfgaaGreatK07
import Derived.Test.YtjbfopnkeclfgaaGreatK08
import Derived.Test.YtjbfopnkeclfgaaGreatK02
namespace Go.Proofs.YtjbfopnkeclfgaaGreat
set_option maxRecDepth 20000
open Go.RowKit
attribute [local go_sem ↓] Go.wp_at_zero Go.wp_at_succ

theorem stepsS_all (p : List Wr) : ∀ b l s, l.all (takesS b.length) = true → stepsS b l p = some s → s.2.all (takesS s.1.length) = true := by
  induction p with
  | nil => intro b l s hl h; simp [stepsS] at h; subst h; exact hl
  | cons y p ih =>
    intro b l s hl h
    simp only [stepsS] at h
    cases hq : step1 b l y with
    | none => rw [hq] at h; cases h
    | some t =>
      rw [hq] at h
      exact ih t.1 t.2 s (step1_all hl hq) h
theorem doS_at (p : List Wr) (k : Nat) (hk : k < p.length) (b : List ByteArray) (l : List Wr) (s : List ByteArray × List Wr) (h : stepsS b l (p.take k) = some s) (h2 : step1 s.1 s.2 p[k] = none) : doS b l p = (s, k) := by
  have e : p = p.take k ++ p[k] :: p.drop (k + 1) := by
    rw [← List.drop_eq_getElem_cons hk, List.take_append_drop]
  have := doS_cut (p.take k) p[k] (p.drop (k + 1)) b l s h h2
  rw [← e] at this
  rw [this]
  simp
  omega
theorem stepsS_at (p : List Wr) (k : Nat) (hk : k < p.length) (b : List ByteArray) (l : List Wr) (s t : List ByteArray × List Wr) (h : stepsS b l (p.take k) = some s) (h2 : step1 s.1 s.2 p[k] = some t) : stepsS b l (p.take (k + 1)) = some t := by
  rw [List.take_succ_eq_append_getElem hk, stepsS_snoc, h]; exact h2

/-- The reference's plan under way. -/
def RDo (w : World) (b : List ByteArray) (l q : List Wr) (k : Nat) (W : World) : Prop :=
  ∃ s A1 k1 A2 k2, stepsS b l (q.take k) = some s ∧ Box2 W w.heap.size (.slice A1 s.1.length k1) (.slice A2 s.2.length k2) ∧ Box2 W (w.heap.size + 1) (.slice none 0 0) (.slice none 0 0) ∧
    Sl W A1 s.1.length k1 (s.1.map sv) ∧ Sl W A2 s.2.length k2 (wvs s.2) ∧ Ext w W ∧ w.heap.size + 1 + 1 ≤ W.heap.size

theorem RDo.ext {w : World} {b : List ByteArray} {l q : List Wr} {k : Nat} {W W' : World} (h : RDo w b l q k W) (hx : Ext W W') : RDo w b l q k W' := by
  obtain ⟨s, A1, k1, A2, k2, h1, h2, h3, h4, h5, h6, h7⟩ := h
  have hz := hx.size
  exact ⟨s, A1, k1, A2, k2, h1, h2.ext (by omega) hx, h3.ext (by omega) hx, h4.ext hx, h5.ext hx, h6.trans hx, by omega⟩

set_option maxRecDepth 100000 in
set_option maxHeartbeats 4000000 in
theorem doR_any (A A' P : Option Addr) (b : List ByteArray) (l p : List Wr) (c c' cp : Nat) (stop : Int) (w : World) (hb : b.length ≤ 1000000) (hb0 : 1 ≤ b.length) (hl : l.length ≤ 400000) (hp : p.length ≤ 400000) (hin : l.all (takesS b.length) = true)
    (hA : Sl w A b.length c (b.map sv)) (hA' : Sl w A' l.length c' (wvs l)) (hP : Sl w P p.length cp (wvs p)) :
    Calls Tryz.prog 64 #[.agg #[.slice A b.length c, .slice A' l.length c'], .slice P p.length cp, .int .i64 stop] w fun e w' => ∃ v, e = .returned (.tuple #[v, .int .i64 (doS b l (p.take (planLen p.length stop))).2]) ∧
      IsDisk w' v (doS b l (p.take (planLen p.length stop))).1.1 (doS b l (p.take (planLen p.length stop))).1.2 ∧ Ext w w' := by
  obtain ⟨q, hq⟩ : ∃ q, q = p.take (planLen p.length stop) := ⟨_, rfl⟩
  rw [← hq]
  have hql : q.length = planLen p.length stop := by rw [hq, List.length_take]; have := planLen_le p.length stop; omega
  have hqp : q.length ≤ p.length := by rw [hql]; exact planLen_le _ _
  have hqa : ∀ k (h : k < q.length) (h' : k < p.length), q[k] = p[k] := by
    intro k h h'
    subst hq
    exact List.getElem_take
  have HQA := Lib.hid hqa
  have HQL := Lib.hid (show (∀ k : Nat, k ≤ q.length → k < p.length → 0 ≤ stop → stop ≤ k → k = q.length) ∧ (∀ k : Nat, k ≤ q.length → k < p.length → (stop < 0 ∨ (k : Int) < stop) → k < q.length) from by
    rw [hql]
    unfold planLen
    constructor
    · intro k h1 h2 h3 h4
      split at h1 <;> rename_i hh
      · rw [if_pos hh]; omega
      · omega
    · intro k h1 h2 h3
      split <;> omega)
  have HIN := Lib.hid hin
  have HP := Lib.hid hP
  have hb1 := (Box2.new w (.slice A b.length c) (.slice A' l.length c') 25).ext (by simp) ((Ext.refl _).alloc (.cells #[.slice none 0 0, .slice none 0 0] 25))
  have hb2 := Box2.new (w.alloc (.cells #[.slice A b.length c, .slice A' l.length c'] 25)) (.slice none 0 0) (.slice none 0 0) 25
  rw [World.size_alloc] at hb2
  have hx0 := ((Ext.refl w).alloc (.cells #[.slice A b.length c, .slice A' l.length c'] 25)).alloc (.cells #[.slice none 0 0, .slice none 0 0] 25)
  have HR0 := Lib.hid (show RDo w b l q 0 ((w.alloc (.cells #[.slice A b.length c, .slice A' l.length c'] 25)).alloc (.cells #[.slice none 0 0, .slice none 0 0] 25)) from ⟨(b, l), A, c, A', c', rfl, hb1, hb2, hA.ext hx0, hA'.ext hx0, hx0, by simp⟩)
  clear hq hql hqa hin hP hb1 hb2 hx0 hA hA'
  go_enter Tryz.func64, Tryz.ntmps64
  go_wp2
  go_loopw [8] (fun i wr => ∃ k : Nat, k ≤ q.length ∧ i = .int .i64 k ∧ RDo w b l q k wr) (fun i _ => p.length - (intOf i).toNat)
  case atStart => exact ⟨0, Nat.zero_le _, rfl, HR0.out⟩
  case round =>
    obtain ⟨k, hk, rfl, s, A1, k1, A2, k2, hs, hb1, hb2, h1, h2, hx, hsz⟩ := hrel
    obtain ⟨e1, e2⟩ := stepsS_lengths _ b l s hs
    have hsl : s.2.length ≤ 800000 := by simp at e2; omega
    have hall := stepsS_all _ b l s HIN.out hs
    have HALL := Lib.hid hall
    have HE1 := Lib.hid e1
    have HS := Lib.hid hs
    have HB1 := Lib.hid hb1
    have HB2 := Lib.hid hb2
    have H1 := Lib.hid h1
    have H2 := Lib.hid h2
    have HX := Lib.hid hx
    obtain ⟨c0, c1, f0, f1⟩ := hb1.read
    obtain ⟨r0, r1, g0, g1⟩ := hb2.read
    have hsb : s.1.length ≤ 1000000 := by omega
    have hsb0 : 1 ≤ s.1.length := by omega
    clear hall e1 e2 hs hb1 hb2 h1 h2 hx
    -- what is left behind when the call ends here
    have fin : ∀ m : Nat, doS b l q = (s, m) → ∃ v, Ending.returned (.tuple #[.agg #[.slice A1 s.1.length k1, .slice A2 s.2.length k2], .int .i64 (m : Int)]) = .returned (.tuple #[v, .int .i64 ((doS b l q).2 : Nat)]) ∧
        IsDisk ((wr.setCell ⟨w.heap.size + 1, 0, none⟩ (.slice A1 s.1.length k1)).setCell ⟨w.heap.size + 1, 1, none⟩ (.slice A2 s.2.length k2)) v (doS b l q).1.1 (doS b l q).1.2 ∧ Ext w ((wr.setCell ⟨w.heap.size + 1, 0, none⟩ (.slice A1 s.1.length k1)).setCell ⟨w.heap.size + 1, 1, none⟩ (.slice A2 s.2.length k2)) := fun m h => by
      rw [h]
      exact ⟨_, rfl, ⟨_, _, _, _, rfl, H1.out.store2 (flat_svs _) HB2.out _ _, H2.out.store2 (flat_wvs _) HB2.out _ _⟩, HX.out.store2 (by omega) _ _⟩
    have FIN := Lib.hid fin
    have HBS := Lib.hid (HB2.out.store (.slice A1 s.1.length k1) (.slice A2 s.2.length k2))
    clear fin
    by_cases hlt : k < p.length
    · by_cases hst : 0 ≤ stop ∧ stop ≤ k
      · have HD := Lib.hid (show doS b l q = (s, k) by
          obtain rfl := HQL.out.1 k hk hlt hst.1 hst.2
          have := HS.out
          rw [List.take_length] at this
          exact doS_all q b l s this)
        obtain ⟨hs1, hs2⟩ := hst
        go_wp2
        clear r0 r1 g0 g1
        obtain ⟨r0, r1, _, _⟩ := HBS.out.read
        refine bodyPost_ret (v := .tuple #[.agg #[.slice A1 s.1.length k1, .slice A2 s.2.length k2], .int .i64 (k : Int)]) (by simp [results, Tryz.results64, go_sem, r0, r1]) rfl ?_
        exact FIN.out k HD.out
      · have hkq := HQL.out.2 k hk hlt (by omega)
        have hkk : q[k] = p[k] := HQA.out k hkq hlt
        have HKK := Lib.hid hkk
        obtain ⟨bp, offp, rfl, _, hcp⟩ := (HP.out.ext HX.out).cells.wr hlt
        obtain ⟨d0, d1⟩ := hcp k hlt
        have hki : (k : Int) < (p.length : Int) := by omega
        have HCUT := Lib.hid (doS_at q k hkq b l s HS.out)
        have HGO := Lib.hid (fun t => stepsS_at q k hkq b l s t HS.out)
        rw [hkk] at HCUT HGO
        clear hcp hkk HKK
        generalize hx : p[k] = x at *
        clear hx
        obtain ⟨xa, xs⟩ := x
        simp only at d0 d1
        have hdisj : stop < 0 ∨ (0 ≤ stop ∧ (k : Int) < stop) := by omega
        clear hst
        rcases Decidable.em (xa = -1 ∧ xs.toList.isEmpty = true) with hfl | hfl
        · have HT := Lib.hid (HGO.out _ (show step1 s.1 s.2 (xa, xs) = some (writeL s.1 s.2, []) by unfold step1 isFl; rw [hfl.1, hfl.2]; rfl))
          have HF := Lib.hid (flushR_any A1 A2 s.1 s.2 k1 k2 wr hsb hsb0 (by omega) HALL.out H1.out H2.out)
          obtain ⟨rfl, hem⟩ := hfl
          rcases hdisj with hd | ⟨hd1, hd2⟩
          all_goals
            go_wp2_with (go_at_call 7; refine stop_here ?_)
            refine stop_on ?_
            refine HF.out.mono ?_
            rintro e w3 ⟨v, rfl, ⟨A3, k3, A4, k4, rfl, h3, h4⟩, hx3⟩
            have hz3 := hx3.size
            have hb13 := HB1.out.ext (by omega) hx3
            have hb23 := HB2.out.ext (by omega) hx3
            have HRD := Lib.hid (show RDo w b l q (k + 1) ((w3.setCell ⟨w.heap.size, 0, none⟩ (.slice A3 (writeL s.1 s.2).length k3)).setCell ⟨w.heap.size, 1, none⟩ (.slice A4 0 k4)) from
              ⟨_, A3, k3, A4, k4, HT.out, hb13.store _ _, hb23.grown (by omega) (grown_store2 _ w.heap.size _ _) (by omega), h3.store2 (flat_svs _) hb13 _ _, h4.store2 (flat_wvs _) hb13 _ _, (HX.out.trans hx3).store2 (Nat.le_refl _) _ _, by simp [World.setCell]; omega⟩)
            clear c0 c1 f0 f1 r0 r1 g0 g1
            obtain ⟨c0, c1, f0, f1⟩ := hb13.read
            clear hb13 hb23 h3 h4 hx3
            generalize (writeL s.1 s.2).length = n3 at *
            go_wp2
            go_roundw
            case rel => exact ⟨k + 1, by omega, by go_num, HRD.out⟩
            case measure => simp [intOf]; omega
        · have hff : isFl (xa, xs) = false := by
            unfold isFl
            cases hxe : xs.toList.isEmpty
            · simp
            · simp
              exact fun e => hfl ⟨e, hxe⟩
          have HFF := Lib.hid hff
          have hbp := World.block_lt_of_cell? wr _ d0
          have HKS := Lib.hid (fun w' (hx : Ext wr w') => (show w'.cell? ⟨w.heap.size, 0, none⟩ = some (.slice A1 s.1.length k1) ∧ w'.cell? ⟨w.heap.size, 1, none⟩ = some (.slice A2 s.2.length k2) ∧ w'.cell? ⟨bp, offp + k * 2, none⟩ = some (.int .i64 xa) ∧ w'.cell? ⟨bp, offp + k * 2 + 1, none⟩ = some (.string xs) from
            ⟨(HB1.out.ext (by omega) hx).read.1, (HB1.out.ext (by omega) hx).read.2.1, (hx.cell (p := ⟨bp, offp + k * 2, none⟩) hbp).trans d0, (hx.cell (p := ⟨bp, offp + k * 2 + 1, none⟩) hbp).trans d1⟩))
          have htst : ((xa == -1) = false ∧ (xa == -1) = false) ∨ ((xa == -1) = true ∧ xs.toList.isEmpty = false) := by
            rcases Decidable.em (xa = -1) with e | e
            · right
              refine ⟨by simpa using e, ?_⟩
              cases hxe : xs.toList.isEmpty
              · rfl
              · exact absurd ⟨e, hxe⟩ hfl
            · left
              simpa using e
          clear hff hbp hfl
          have HF2 := Lib.hid (fun (W' : World) (hx : Ext wr W') => (show IsDisk ((W'.setCell ⟨w.heap.size + 1, 0, none⟩ (.slice A1 s.1.length k1)).setCell ⟨w.heap.size + 1, 1, none⟩ (.slice A2 s.2.length k2)) (.agg #[.slice A1 s.1.length k1, .slice A2 s.2.length k2]) s.1 s.2 ∧
              Ext w ((W'.setCell ⟨w.heap.size + 1, 0, none⟩ (.slice A1 s.1.length k1)).setCell ⟨w.heap.size + 1, 1, none⟩ (.slice A2 s.2.length k2)) ∧
              Box2 ((W'.setCell ⟨w.heap.size + 1, 0, none⟩ (.slice A1 s.1.length k1)).setCell ⟨w.heap.size + 1, 1, none⟩ (.slice A2 s.2.length k2)) (w.heap.size + 1) (.slice A1 s.1.length k1) (.slice A2 s.2.length k2) from by
            have hb := HB2.out.ext (by omega) hx
            exact ⟨⟨_, _, _, _, rfl, (H1.out.ext hx).store2 (flat_svs _) hb _ _, (H2.out.ext hx).store2 (flat_wvs _) hb _ _⟩, (HX.out.trans hx).store2 (by omega) _ _, hb.store _ _⟩))
          cases ht : takesS s.1.length (xa, xs)
          · have HD := Lib.hid (HCUT.out (by unfold step1; rw [HFF.out, ht]; rfl))
            have HPUT := Lib.hid (fun W h1 h2 => (show Calls Tryz.prog 107 #[.agg #[.slice A1 s.1.length k1, .slice A2 s.2.length k2], .int .i64 xa, .string xs] W fun e w' => ∃ v, e = .returned (.tuple #[v, .int .i64 1]) ∧ IsDisk w' v s.1 s.2 ∧ Ext W w' from by
              have := putR_any A1 A2 s.1 s.2 k1 k2 xa xs W hsb (by omega) h1 h2
              rw [show putE s.1 (xa, xs) = 1 by unfold putE; rw [ht]; rfl, show putW s.1 s.2 (xa, xs) = s.2 by unfold putW; rw [ht]; rfl] at this
              exact this))
            clear ht
            rcases hdisj with hd | ⟨hd1, hd2⟩
            all_goals
              rcases htst with ⟨hxa, hxa'⟩ | ⟨hxa, hem⟩
              all_goals
                go_wp2_with fail
                go_region_held3 (fun w' => w'.cell? ⟨w.heap.size, 0, none⟩ = some (.slice A1 s.1.length k1) ∧ w'.cell? ⟨w.heap.size, 1, none⟩ = some (.slice A2 s.2.length k2) ∧ w'.cell? ⟨bp, offp + k * 2, none⟩ = some (.int .i64 xa) ∧ w'.cell? ⟨bp, offp + k * 2 + 1, none⟩ = some (.string xs))
                  (first | exact HKS.out _ hE3.out | exact HKS.out _ (hE3.out.alloc _) | exact HKS.out _ (hE3.out.store2 hE6.out _ _) | exact HKS.out _ (Ext.refl wr).drew | exact HKS.out _ ((Ext.refl wr).alloc _).drew)
                  (first
                    | ((go_at_call 107
                        refine (HPUT.out _ ?_ ?_).mono ?_
                        (first | exact H1.out.ext (Ext.refl wr).drew | exact H1.out.ext ((Ext.refl wr).alloc _).drew)
                        (first | exact H2.out.ext (Ext.refl wr).drew | exact H2.out.ext ((Ext.refl wr).alloc _).drew)
                        rintro e w3 ⟨v, rfl, ⟨A3, k3, A4, k4, rfl, h3, h4⟩, hx3⟩
                        have hE3 := Lib.hid (show Ext wr w3 from by first | exact (Ext.refl wr).drew.trans hx3 | exact ((Ext.refl wr).alloc _).drew.trans hx3)
                        have hz3 := hE3.out.size
                        have hz4 : w.heap.size < w3.heap.size := by omega
                        have hz5 : w.heap.size + 1 < w3.heap.size := by omega
                        clear c0 c1 f0 f1 r0 r1 g0 g1 d0 d1
                        obtain ⟨c0, c1, f0, f1⟩ := (HB1.out.ext (by omega) hE3.out).read
                        obtain ⟨r0, r1, g0, g1⟩ := (HB2.out.ext (by omega) hE3.out).read
                        (first
                          | (have hNX := (show w3.heap[wr.heap.size]? = some (.cells #[.slice none 0 0, .slice none 0 0] 25 (0, 0)) from (hx3.block _ (by simp)).trans (heap_alloc_new wr _))
                             have hE6 := Lib.hid (show wr.heap.size ≤ wr.heap.size from Nat.le_refl _)
                             obtain ⟨n0, n1, m0, m1⟩ := box_read hNX
                             have HNX := Lib.hid hNX
                             clear hNX)
                          | skip)
                        have HX3 := Lib.hid hx3
                        clear hx3)))
                all_goals
                  go_wp2
                  clear r0 r1 g0 g1
                  first
                    | (have hz6 := hE6.out
                       obtain ⟨F1, F2, F3⟩ := HF2.out _ (hE3.out.store2 hE6.out (.slice A3 s.1.length k3) (.slice A4 s.2.length k4))
                       obtain ⟨r0, r1, _, _⟩ := F3.read
                       refine bodyPost_ret (v := .tuple #[.agg #[.slice A1 s.1.length k1, .slice A2 s.2.length k2], .int .i64 (k : Int)]) (by simp [results, Tryz.results64, go_sem, r0, r1]) rfl ?_
                       rw [HD.out]
                       exact ⟨_, rfl, F1, F2⟩)
                    | (obtain ⟨F1, F2, F3⟩ := HF2.out _ hE3.out
                       obtain ⟨r0, r1, _, _⟩ := F3.read
                       obtain ⟨q0, q1, _, _⟩ := (F3.ext (by simp [World.setCell]; omega) ((Ext.refl _).alloc (.cells #[.slice A3 s.1.length k3, .slice A4 s.2.length k4] 25))).read
                       refine bodyPost_ret (v := .tuple #[.agg #[.slice A1 s.1.length k1, .slice A2 s.2.length k2], .int .i64 (k : Int)]) (by simp [results, Tryz.results64, go_sem, q0, q1]) rfl ?_
                       rw [HD.out]
                       exact ⟨_, rfl, F1.ext ((Ext.refl _).alloc _), F2.alloc _⟩)
          · have HT := Lib.hid (HGO.out _ (show step1 s.1 s.2 (xa, xs) = some (s.1, s.2 ++ [(xa, xs)]) by unfold step1; rw [HFF.out, ht]; rfl))
            have HPUT := Lib.hid (fun W h1 h2 => (show Calls Tryz.prog 107 #[.agg #[.slice A1 s.1.length k1, .slice A2 s.2.length k2], .int .i64 xa, .string xs] W fun e w' => ∃ v, e = .returned (.tuple #[v, .int .i64 0]) ∧ IsDisk w' v s.1 (s.2 ++ [(xa, xs)]) ∧ Ext W w' from by
              have := putR_any A1 A2 s.1 s.2 k1 k2 xa xs W hsb (by omega) h1 h2
              rw [show putE s.1 (xa, xs) = 0 by unfold putE; rw [ht]; rfl, show putW s.1 s.2 (xa, xs) = s.2 ++ [(xa, xs)] by unfold putW; rw [ht]; rfl] at this
              exact this))
            obtain ⟨m, hm⟩ : ∃ m, m = s.2 ++ [(xa, xs)] := ⟨_, rfl⟩
            rw [← hm] at HT HPUT
            clear hm
            clear ht
            rcases hdisj with hd | ⟨hd1, hd2⟩
            all_goals
              rcases htst with ⟨hxa, hxa'⟩ | ⟨hxa, hem⟩
              all_goals
                go_wp2_with fail
                go_region_held3 (fun w' => w'.cell? ⟨w.heap.size, 0, none⟩ = some (.slice A1 s.1.length k1) ∧ w'.cell? ⟨w.heap.size, 1, none⟩ = some (.slice A2 s.2.length k2) ∧ w'.cell? ⟨bp, offp + k * 2, none⟩ = some (.int .i64 xa) ∧ w'.cell? ⟨bp, offp + k * 2 + 1, none⟩ = some (.string xs))
                  (first | exact HKS.out _ hE3.out | exact HKS.out _ (hE3.out.alloc _) | exact HKS.out _ (hE3.out.store2 hE6.out _ _) | exact HKS.out _ (Ext.refl wr).drew | exact HKS.out _ ((Ext.refl wr).alloc _).drew)
                  (first
                    | ((go_at_call 107
                        refine (HPUT.out _ ?_ ?_).mono ?_
                        (first | exact H1.out.ext (Ext.refl wr).drew | exact H1.out.ext ((Ext.refl wr).alloc _).drew)
                        (first | exact H2.out.ext (Ext.refl wr).drew | exact H2.out.ext ((Ext.refl wr).alloc _).drew)
                        rintro e w3 ⟨v, rfl, ⟨A3, k3, A4, k4, rfl, h3, h4⟩, hx3⟩
                        have hE3 := Lib.hid (show Ext wr w3 from by first | exact (Ext.refl wr).drew.trans hx3 | exact ((Ext.refl wr).alloc _).drew.trans hx3)
                        have hz3 := hE3.out.size
                        have hz4 : w.heap.size < w3.heap.size := by omega
                        have hz5 : w.heap.size + 1 < w3.heap.size := by omega
                        clear c0 c1 f0 f1 r0 r1 g0 g1 d0 d1
                        obtain ⟨c0, c1, f0, f1⟩ := (HB1.out.ext (by omega) hE3.out).read
                        obtain ⟨r0, r1, g0, g1⟩ := (HB2.out.ext (by omega) hE3.out).read
                        (first
                          | (have hNX := (show w3.heap[wr.heap.size]? = some (.cells #[.slice none 0 0, .slice none 0 0] 25 (0, 0)) from (hx3.block _ (by simp)).trans (heap_alloc_new wr _))
                             have hE6 := Lib.hid (show wr.heap.size ≤ wr.heap.size from Nat.le_refl _)
                             obtain ⟨n0, n1, m0, m1⟩ := box_read hNX
                             have HNX := Lib.hid hNX
                             clear hNX)
                          | skip)
                        have HX3 := Lib.hid hx3
                        have H3 := Lib.hid h3
                        have H4 := Lib.hid h4
                        clear hx3 h3 h4)))
                all_goals
                  first
                    | (have hz6 := hE6.out
                       have hb7 : Box2 w3 wr.heap.size (.slice none 0 0) (.slice none 0 0) := ⟨_, HNX.out⟩
                       have hxa := hE3.out.store2 hE6.out (.slice A3 s.1.length k3) (.slice A4 m.length k4)
                       have hb1 := HB1.out.ext (by omega) hxa
                       have hb2 := HB2.out.ext (by omega) hxa
                       have HRD := Lib.hid (show RDo w b l q (k + 1) ((((w3.setCell ⟨wr.heap.size, 0, none⟩ (.slice A3 s.1.length k3)).setCell ⟨wr.heap.size, 1, none⟩ (.slice A4 m.length k4)).setCell ⟨w.heap.size, 0, none⟩ (.slice A3 s.1.length k3)).setCell ⟨w.heap.size, 1, none⟩ (.slice A4 m.length k4)) from
                         ⟨_, A3, k3, A4, k4, HT.out, hb1.store _ _, hb2.grown (by simp [World.setCell]; omega) (grown_store2 _ w.heap.size _ _) (by omega), (H3.out.store2 (flat_svs _) hb7 _ _).store2 (flat_svs _) hb1 _ _, (H4.out.store2 (flat_wvs _) hb7 _ _).store2 (flat_wvs _) hb1 _ _, (HX.out.trans hxa).store2 (Nat.le_refl _) _ _, by simp [World.setCell]; omega⟩)
                       have hn7 := box_store HNX.out (.slice A3 s.1.length k3) (.slice A4 m.length k4)
                       clear n0 n1 m0 m1 c0 c1 f0 f1
                       obtain ⟨n0, n1, m0, m1⟩ := box_read hn7
                       obtain ⟨c0, c1, f0, f1⟩ := hb1.read
                       clear hb1 hb2 hb7 hxa hn7)
                    | (have hb1 := HB1.out.ext (by omega) hE3.out
                       have hb2 := HB2.out.ext (by omega) hE3.out
                       have HRD := Lib.hid (show RDo w b l q (k + 1) (((w3.setCell ⟨w.heap.size, 0, none⟩ (.slice A3 s.1.length k3)).setCell ⟨w.heap.size, 1, none⟩ (.slice A4 m.length k4)).alloc (.cells #[.slice A3 s.1.length k3, .slice A4 m.length k4] 25)) from
                         RDo.ext ⟨_, A3, k3, A4, k4, HT.out, hb1.store _ _, hb2.grown (by omega) (grown_store2 _ w.heap.size _ _) (by omega), H3.out.store2 (flat_svs _) hb1 _ _, H4.out.store2 (flat_wvs _) hb1 _ _, (HX.out.trans hE3.out).store2 (Nat.le_refl _) _ _, by simp [World.setCell]; omega⟩ ((Ext.refl _).alloc _))
                       clear hb1 hb2)
                  go_wp2
                  go_roundw
                  case rel => exact ⟨k + 1, by omega, by go_num, HRD.out⟩
                  case measure => simp [intOf]; omega
    · have HD := Lib.hid (show doS b l q = (s, p.length) by
        have hkl : k = p.length := by omega
        have hql : q.length = p.length := by omega
        have := HS.out
        rw [hkl, ← hql, List.take_length] at this
        rw [← hql]
        exact doS_all q b l s this)
      go_wp2
      clear r0 r1 g0 g1
      obtain ⟨r0, r1, _, _⟩ := HBS.out.read
      refine bodyPost_ret (v := .tuple #[.agg #[.slice A1 s.1.length k1, .slice A2 s.2.length k2], .int .i64 (p.length : Int)]) (by simp [results, Tryz.results64, go_sem, r0, r1]) rfl ?_
      exact FIN.out p.length HD.out
end Go.Proofs.YtjbfopnkeclfgaaGreat
namespace Go.Proofs.YtjbfopnkeclfgaaGreat
set_option maxRecDepth 20000
open Go.RowKit

/-- A block of bytes 0. -/
def zb : ByteArray := ByteArray.mk (List.replicate 40 (0 : UInt8)).toArray
/-- P2.1: new blocks. -/
def newB (n : Int) : List ByteArray := if 1 ≤ n ∧ n ≤ 4000 then List.replicate n.toNat zb else []
def newE (n : Int) : Int := if 1 ≤ n ∧ n ≤ 4000 then 0 else 1
theorem make_none (w : World) : (Instr.makeSlice 68 (.int .i64 40) (.int .i64 40)).run Tryz.prog w = .ok (.slice (some ⟨w.heap.size, 0, none⟩) 40 40) (w.alloc (.cells (Array.replicate 40 (.int .u8 0)) 5)) := by kernel_rfl
theorem conv_none (w : World) (g : Nat) (hc : ∀ j, j < 40 → w.cell? ⟨g, j, none⟩ = some (.int .u8 0)) : (convert 68 9 (.slice (some ⟨g, 0, none⟩) 40 40)).run Tryz.prog w = .ok (.string zb) w := by
  have h := run_convert_bytes_back (P := Tryz.prog) w 68 9 5 ⟨g, 0, none⟩ 40 (List.replicate 40 (0 : UInt8)) Tryz.underlying68 Tryz.underlying5 Tryz.underlying9 (fun j hj => by
    have hj' : j < 40 := by simpa using hj
    have e : (⟨g, 0, none⟩ : Addr).add j = ⟨g, j, none⟩ := by unfold Addr.add; split <;> simp_all
    rw [e, hc j hj']
    simp only [List.getElem_replicate]
    rfl)
  rw [List.length_replicate] at h
  exact h
theorem zeros_at (w : World) (j : Nat) (hj : j < 40) : (w.alloc (.cells (Array.replicate 40 (.int .u8 0)) 5)).cell? ⟨w.heap.size, j, none⟩ = some (.int .u8 0) := by
  have := heap_alloc_new w (.cells (Array.replicate 40 (.int .u8 0)) 5)
  unfold World.cell?; rw [this]; simp [hj]
theorem svs_snoc (k : Nat) : (List.replicate k zb).map sv ++ [Value.string zb] = (List.replicate (k + 1) zb).map sv := by
  rw [List.replicate_succ']; simp [sv]

set_option maxHeartbeats 4000000 in
set_option maxRecDepth 20000 in
theorem newR_any (n : Int) (w : World) :
    Calls Tryz.prog 9 #[.int .i64 n] w fun e w' => ∃ v, e = .returned (.tuple #[v, .int .i64 (newE n)]) ∧ IsDisk w' v (newB n) [] ∧ Ext w w' := by
  have hb0 := Box2.new w (.slice none 0 0) (.slice none 0 0) 25
  have hmk := make_none
  by_cases h1 : 1 ≤ n
  · by_cases h2 : n ≤ 4000
    · have HNB := Lib.hid (show newB n = List.replicate n.toNat zb by unfold newB; rw [if_pos ⟨h1, h2⟩])
      have HNE := Lib.hid (show newE n = 0 by unfold newE; rw [if_pos ⟨h1, h2⟩])
      obtain ⟨n, rfl⟩ := Int.eq_ofNat_of_zero_le (show 0 ≤ n by omega)
      rw [Int.toNat_natCast] at HNB
      have HX := Lib.hid ((((Ext.refl w).alloc (.cells #[.slice none 0 0, .slice none 0 0] 25)).alloc (.cells #[.slice none 0 0, .slice none 0 0] 25)).alloc (.cells (Array.replicate 40 (.int .u8 0)) 5))
      have b1 := Box2.new (w.alloc (.cells #[.slice none 0 0, .slice none 0 0] 25)) (.slice none 0 0) (.slice none 0 0) 25
      rw [World.size_alloc] at b1
      have x1 := (Ext.refl (w.alloc (.cells #[.slice none 0 0, .slice none 0 0] 25))).alloc (.cells #[.slice none 0 0, .slice none 0 0] 25)
      have x2 := (Ext.refl ((w.alloc (.cells #[.slice none 0 0, .slice none 0 0] 25)).alloc (.cells #[.slice none 0 0, .slice none 0 0] 25))).alloc (.cells (Array.replicate 40 (.int .u8 0)) 5)
      have HB0 := Lib.hid ((hb0.ext (by simp) x1).ext (by simp; omega) x2)
      have HB1 := Lib.hid (b1.ext (by simp) x2)
      have hcv := conv_none _ _ (zeros_at ((w.alloc (.cells #[.slice none 0 0, .slice none 0 0] 25)).alloc (.cells #[.slice none 0 0, .slice none 0 0] 25)))
      simp only [World.size_alloc] at hcv
      clear hb0 b1 x1 x2
      go_enter Tryz.func9, Tryz.ntmps9
      go_wp2
      clear hcv hmk
      generalize hw1 : ((w.alloc (.cells #[.slice none 0 0, .slice none 0 0] 25)).alloc (.cells #[.slice none 0 0, .slice none 0 0] 25)).alloc (.cells (Array.replicate 40 (.int .u8 0)) 5) = w1 at *
      have hs1 : w1.heap.size = w.heap.size + 1 + 1 + 1 := by rw [← hw1]; simp
      clear hw1
      go_loopw [6] (fun i wr => ∃ (k cap : Nat) (A : Option Addr), k ≤ n ∧ i = .int .i64 k ∧ wr.ownsRow (w.heap.size + 1 + 1 + 1) 9 1 (.slice A k cap) k ((List.replicate k zb).map sv) ∧ Box2 wr w.heap.size (.slice none 0 0) (.slice none 0 0) ∧ Box2 wr (w.heap.size + 1) (.slice A k cap) (.slice none 0 0) ∧ Ext w wr ∧ w.heap.size + 1 + 1 + 1 ≤ wr.heap.size) (fun i _ => n - (intOf i).toNat)
      case atStart => exact ⟨0, 0, none, Nat.zero_le _, rfl, World.ownsRow_nil _ _ _ _, HB0.out, HB1.out, HX.out, by omega⟩
      case round =>
        obtain ⟨k, cap, A, hk, rfl, ho, hb0, hb1, hx, hsz⟩ := hrel
        obtain ⟨c0, c1, f0, f1⟩ := hb1.read
        by_cases hlt : k < n
        · have HO := Lib.hid ho
          have HXr := Lib.hid hx
          have HB0 := Lib.hid hb0
          have HB1 := Lib.hid hb1
          clear ho hx hb0 hb1
          go_wp2_with (at_builtin; refine stop_here ?_)
          refine stop_on ?_
          refine wpList_app_sl _ rfl _ _ 22 rfl (w.heap.size + 1 + 1 + 1) 9 _ 1 16 Tryz.underlying22 infoS rfl (by omega) _ k _ rfl (HO.out.alloc _) (some ⟨wr.heap.size, 0, none⟩) 1 1 [.string zb] rfl rfl (sl_lit wr _ 1 [.string zb] (by unfold maxLen; omega)) (by intro u hu; simp at hu; subst hu; rfl) (by unfold maxLen; omega) (by omega) (by simp; omega) ?_
          intro A2 c2 w2 hown hg
          rw [svs_snoc] at hown
          obtain ⟨g, rfl, hgB⟩ := own_some hown (by omega)
          have hbl : ∀ q, (Value.slice A k cap).ownBlock = some q → w.heap.size + 1 + 1 + 1 ≤ q := fun q hq => (HO.out.lt q hq).1
          have keep : ∀ kk, kk < w.heap.size + 1 + 1 + 1 → w2.heap[kk]? = wr.heap[kk]? := fun kk hkk => by
            rw [hg.block kk (by simp; omega) (fun e => by have := hbl kk e.symm; omega)]
            exact Below.heap_alloc _ _ _ (by omega)
          have hb0' : Box2 w2 w.heap.size (.slice none 0 0) (.slice none 0 0) := by
            obtain ⟨t, h⟩ := HB0.out
            exact ⟨t, (keep _ (by omega)).trans h⟩
          have hb1' : Box2 w2 (w.heap.size + 1) (.slice A k cap) (.slice none 0 0) := by
            obtain ⟨t, h⟩ := HB1.out
            exact ⟨t, (keep _ (by omega)).trans h⟩
          have hx2 : Ext w w2 := Below.grown (HXr.out.alloc _) hg (by simp; omega) (fun q hq => by have := hbl q hq; omega)
          have hsz2 := hx2.size
          have hsz3 := hg.size
          simp only [World.size_alloc] at hsz3
          have HOS := Lib.hid (ownsRow_setCell_other hown (a := ⟨w.heap.size + 1, 0, none⟩) (by simp [Value.ownBlock]; omega) (.slice (some ⟨g, 0, none⟩) (k + 1) c2))
          have HXS := Lib.hid (hx2.set (p := ⟨w.heap.size + 1, 0, none⟩) (by simp) (.slice (some ⟨g, 0, none⟩) (k + 1) c2))
          have HB0S := Lib.hid (show Box2 (w2.setCell ⟨w.heap.size + 1, 0, none⟩ (.slice (some ⟨g, 0, none⟩) (k + 1) c2)) w.heap.size (.slice none 0 0) (.slice none 0 0) from by
            obtain ⟨t, h⟩ := hb0'
            exact ⟨t, by rw [Below.heap_setCell _ _ _ _ (by simp)]; exact h⟩)
          have HB1S := Lib.hid (show Box2 (w2.setCell ⟨w.heap.size + 1, 0, none⟩ (.slice (some ⟨g, 0, none⟩) (k + 1) c2)) (w.heap.size + 1) (.slice (some ⟨g, 0, none⟩) (k + 1) c2) (.slice none 0 0) from by
            obtain ⟨t, h⟩ := hb1'
            exact ⟨t, heap_setCell_same _ _ 0 _ t _ h⟩)
          clear c0 c1 f0 f1
          obtain ⟨c0, c1, f0, f1⟩ := hb1'.read
          clear hown hg hbl keep hb0' hb1' hx2
          go_wp2
          go_roundw
          case rel => exact ⟨k + 1, c2, some ⟨g, 0, none⟩, by omega, by go_num, HOS.out, HB0S.out, HB1S.out, HXS.out, by simp [World.setCell]; omega⟩
          case measure => simp [intOf]; omega
        · obtain rfl : k = n := by omega
          have h3 := (own_sl ho).store2 (flat_svs _) hb0 (.slice A k cap) (.slice none 0 0)
          have H3 := Lib.hid h3
          have HBS := Lib.hid (hb0.store (.slice A k cap) (.slice none 0 0))
          have HXE := Lib.hid (hx.store2 (k := w.heap.size) (Nat.le_refl _) (.slice A k cap) (.slice none 0 0))
          obtain ⟨r0, r1, g0, g1⟩ := hb0.read
          clear ho hx hb0 hb1 h3
          go_wp2
          clear r0 r1 g0 g1 c0 c1 f0 f1
          obtain ⟨r0, r1, _, _⟩ := HBS.out.read
          refine bodyPost_ret (v := .tuple #[.agg #[.slice A k cap, .slice none 0 0], .int .i64 0]) (by simp [results, Tryz.results9, go_sem, r0, r1]) rfl ?_
          rw [HNB.out, HNE.out]
          exact ⟨_, rfl, ⟨_, _, _, _, by rw [List.length_replicate]; rfl, by rw [List.length_replicate]; exact H3.out, Sl.nil _⟩, HXE.out⟩
    · have HNB := Lib.hid (show newB n = [] by unfold newB; rw [if_neg (by omega)])
      have HNE := Lib.hid (show newE n = 1 by unfold newE; rw [if_neg (by omega)])
      have HB0 := Lib.hid hb0
      have HX := Lib.hid ((Ext.refl w).alloc (.cells #[.slice none 0 0, .slice none 0 0] 25))
      clear hb0 hmk
      go_enter Tryz.func9, Tryz.ntmps9
      go_wp2
      obtain ⟨r0, r1, _, _⟩ := HB0.out.read
      refine bodyPost_ret (v := .tuple #[.agg #[.slice none 0 0, .slice none 0 0], .int .i64 1]) (by simp [results, Tryz.results9, go_sem, r0, r1]) rfl ?_
      rw [HNB.out, HNE.out]
      exact ⟨_, rfl, ⟨_, _, _, _, rfl, Sl.nil _, Sl.nil _⟩, HX.out⟩
  · have HNB := Lib.hid (show newB n = [] by unfold newB; rw [if_neg (by omega)])
    have HNE := Lib.hid (show newE n = 1 by unfold newE; rw [if_neg (by omega)])
    have HB0 := Lib.hid hb0
    have HX := Lib.hid ((Ext.refl w).alloc (.cells #[.slice none 0 0, .slice none 0 0] 25))
    clear hb0 hmk
    go_enter Tryz.func9, Tryz.ntmps9
    go_wp2
    obtain ⟨r0, r1, _, _⟩ := HB0.out.read
    refine bodyPost_ret (v := .tuple #[.agg #[.slice none 0 0, .slice none 0 0], .int .i64 1]) (by simp [results, Tryz.results9, go_sem, r0, r1]) rfl ?_
    rw [HNB.out, HNE.out]
    exact ⟨_, rfl, ⟨_, _, _, _, rfl, Sl.nil _, Sl.nil _⟩, HX.out⟩
end Go.Proofs.YtjbfopnkeclfgaaGreat
