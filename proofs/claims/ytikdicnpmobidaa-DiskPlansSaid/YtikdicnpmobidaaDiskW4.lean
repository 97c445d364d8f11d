/- Walks of both Same. -/
import Derived.Test.YtikdicnpmobidaaDiskW3
namespace Go.Proofs.Ytikdicnpmobidaa
open Go.RowKit

def sameD (b : List ByteArray) (l : List Wr) (b' : List ByteArray) (l' : List Wr) : Bool := sameB b b' && sameW l l'

/-- A disk as it lies in two boxes, one behind the other. -/
theorem two_boxes (w : World) (a b c d : Value) (t : TypeId) : ∀ wr, Ext ((w.alloc (.cells #[a, b] t)).alloc (.cells #[c, d] t)) wr →
    Ext w wr ∧ w.heap.size + 1 < wr.heap.size ∧ wr.cell? ⟨w.heap.size, 0, none⟩ = some a ∧ wr.cell? ⟨w.heap.size, 1, none⟩ = some b ∧ wr.cell? ⟨w.heap.size + 1, 0, none⟩ = some c ∧ wr.cell? ⟨w.heap.size + 1, 1, none⟩ = some d := by
  intro wr h
  have hs := h.size
  simp only [World.size_alloc] at hs
  have e1 := cell_new0 (w.alloc (.cells #[a, b] t)) c d t
  have e2 := cell_new1 (w.alloc (.cells #[a, b] t)) c d t
  rw [World.size_alloc] at e1 e2
  have f := (Ext.refl (w.alloc (.cells #[a, b] t))).alloc (.cells #[c, d] t)
  refine ⟨(((Ext.refl w).alloc _).alloc _).trans h, by omega, ?_, ?_, ?_, ?_⟩
  · rw [h.cell (p := ⟨w.heap.size, 0, none⟩) (by simp; omega), f.cell (p := ⟨w.heap.size, 0, none⟩) (by simp)]; exact cell_new0 _ _ _ _
  · rw [h.cell (p := ⟨w.heap.size, 1, none⟩) (by simp; omega), f.cell (p := ⟨w.heap.size, 1, none⟩) (by simp)]; exact cell_new1 _ _ _ _
  · rw [h.cell (p := ⟨w.heap.size + 1, 0, none⟩) (by simp)]; exact e1
  · rw [h.cell (p := ⟨w.heap.size + 1, 1, none⟩) (by simp)]; exact e2

set_option maxHeartbeats 2000000 in
theorem sameDisk_any (A A' B B' : Option Addr) (a b : List ByteArray) (l m : List Wr) (c c' d d' : Nat) (w : World) (ha : a.length ≤ maxLen) (hb : b.length ≤ maxLen) (hl : l.length ≤ maxLen) (hm : m.length ≤ maxLen)
    (hA : Cells w A (a.map sv)) (hB : Cells w B (b.map sv)) (hA' : Cells w A' (wvs l)) (hB' : Cells w B' (wvs m)) :
    Calls Try.prog 18 #[.agg #[.slice A a.length c, .slice A' l.length c'], .agg #[.slice B b.length d, .slice B' m.length d']] w fun e w' => e = .returned (.bool (sameD a l b m)) ∧ Ext w w' := by
  unfold sameD
  have HT := Lib.hid (two_boxes w (.slice A a.length c) (.slice A' l.length c') (.slice B b.length d) (.slice B' m.length d') 25)
  have HA := Lib.hid hA
  have HB := Lib.hid hB
  have HA' := Lib.hid hA'
  have HB' := Lib.hid hB'
  clear hA hB hA' hB'
  obtain ⟨X0, _, _⟩ := HT.out _ (Ext.refl _)
  have HE := Lib.hid (equalB_any A B a b c d _ ha hb (HA.out.ext X0) (HB.out.ext X0))
  clear X0
  cases hs : sameB a b
  · have HS := Lib.hid hs
    clear hs
    go_enter Try.func18, Try.ntmps18
    go_wp2_with (go_at_call 33; refine stop_here ?_)
    refine stop_on ?_
    refine HE.out.mono ?_
    rintro e w1 ⟨rfl, hX⟩
    rw [HS.out]
    obtain ⟨X, _, _⟩ := HT.out _ hX
    have HX := Lib.hid X
    clear hX X
    go_wp2
    go_ret
    exact ⟨rfl, HX.out⟩
  · have HS := Lib.hid hs
    clear hs
    go_enter Try.func18, Try.ntmps18
    go_wp2_with (go_at_call 33; refine stop_here ?_)
    refine stop_on ?_
    refine HE.out.mono ?_
    rintro e w1 ⟨rfl, hX⟩
    rw [HS.out]
    obtain ⟨X, hsz, h00, h01, h10, h11⟩ := HT.out _ hX
    have HX := Lib.hid X
    have HE2 := Lib.hid (equalW_any A' B' l m c' d' w1 hl hm (HA'.out.ext X) (HB'.out.ext X))
    clear hX X
    go_wp2_with (go_at_call 34; refine stop_here ?_)
    refine stop_on ?_
    refine HE2.out.mono ?_
    rintro e w2 ⟨rfl, hX2⟩
    have HX2 := Lib.hid hX2
    clear hX2
    go_wp2
    go_ret
    exact ⟨rfl, HX.out.trans HX2.out⟩

set_option maxHeartbeats 4000000 in
set_option maxRecDepth 100000 in
theorem sameR_any (A A' B B' : Option Addr) (a b : List ByteArray) (l m : List Wr) (c c' d d' : Nat) (w : World) (ha : a.length ≤ maxLen) (_hb : b.length ≤ maxLen) (_hl : l.length ≤ maxLen) (hm : m.length ≤ maxLen)
    (hA : Cells w A (a.map sv)) (hB : Cells w B (b.map sv)) (hA' : Cells w A' (wvs l)) (hB' : Cells w B' (wvs m)) :
    Calls Try.prog 14 #[.agg #[.slice A a.length c, .slice A' l.length c'], .agg #[.slice B b.length d, .slice B' m.length d']] w fun e w' => e = .returned (.bool (sameD a l b m)) ∧ Ext w w' := by
  unfold sameD sameB sameW
  unfold maxLen at ha hm
  have HT := Lib.hid (two_boxes w (.slice A a.length c) (.slice A' l.length c') (.slice B b.length d) (.slice B' m.length d') 25)
  have HA := Lib.hid hA
  have HB := Lib.hid hB
  have HA' := Lib.hid hA'
  have HB' := Lib.hid hB'
  clear hA hB hA' hB'
  obtain ⟨X0, _, _⟩ := HT.out _ (Ext.refl _)
  have HX0 := Lib.hid X0
  clear X0
  by_cases hla : a.length = b.length
  · by_cases hlm : l.length = m.length
    · have HL := Lib.hid hla
      have HM := Lib.hid hlm
      have hl1 : ((a.length : Int) != (b.length : Int)) = false := by simp [hla]
      have hm1 : ((l.length : Int) != (m.length : Int)) = false := by simp [hlm]
      have hl2 : a.length ≤ b.length := by omega
      have hl3 : b.length ≤ a.length := by omega
      have hm2 : l.length ≤ m.length := by omega
      have hm3 : m.length ≤ l.length := by omega
      clear hla hlm
      go_enter Try.func14, Try.ntmps14
      go_wp2
      go_loopw [5] (fun i wr => ∃ k : Nat, k ≤ a.length ∧ i = .int .i64 k ∧ a.take k = b.take k ∧ Ext ((w.alloc (.cells #[.slice A a.length c, .slice A' l.length c'] 25)).alloc (.cells #[.slice B b.length d, .slice B' m.length d'] 25)) wr) (fun i _ => a.length - (intOf i).toNat)
      case atStart => exact ⟨0, Nat.zero_le _, rfl, rfl, Ext.refl _⟩
      case round =>
        obtain ⟨k, hk, rfl, hal, hX⟩ := hrel
        obtain ⟨X, hsz, h00, h01, h10, h11⟩ := HT.out _ hX
        have HK := Lib.hid hal
        have HX := Lib.hid hX
        have HXw := Lib.hid X
        clear hal
        by_cases hlt : k < a.length
        · have hlt2 : k < b.length := by omega
          obtain ⟨ba, offa, rfl, _, hca⟩ := (HA.out.ext X).str hlt
          obtain ⟨bb, offb, rfl, _, hcb⟩ := (HB.out.ext X).str hlt2
          have hcka := hca k hlt
          have hckb := hcb k hlt2
          have hki : (k : Int) < (a.length : Int) := by omega
          have hki2 : (k : Int) < (b.length : Int) := by omega
          have HF := Lib.hid (ne_at (a := a) (b := b) k hlt hlt2)
          have HS := Lib.hid (eq_step (a := a) (b := b) k hlt hlt2 HK.out)
          clear hca hcb HK hX X
          generalize hq : a[k] = qa at *
          generalize hq2 : b[k] = qb at *
          clear hq hq2
          have HQ := bytes_same qa qb
          rcases Decidable.em (qa = qb) with he | he
          rotate_left
          · have HZ := Lib.hid he
            have hz : (qa.toList == qb.toList) = false := by rw [HQ, decide_eq_false he]
            have hz' : (qa.toList != qb.toList) = true := by simp only [bne, hz]; rfl
            clear HQ he
            go_wp2_with fail
            go_quiet (fail)
            go_wp2
            go_ret
            exact ⟨ret_bool (by rw [decide_eq_false (HF.out HZ.out)]; rfl), HXw.out.drewN _⟩
          · have HZ := Lib.hid he
            have hz : (qa.toList == qb.toList) = true := by rw [HQ, decide_eq_true he]
            have hz' : (qa.toList != qb.toList) = false := by simp only [bne, hz]; rfl
            clear HQ he
            go_wp2_with fail
            go_quiet (fail)
            go_wp2
            go_roundw
            case rel => exact ⟨k + 1, by omega, by go_num, HS.out HZ.out, HX.out.drewN _⟩
            case measure => simp [intOf]; omega
        · obtain rfl : k = a.length := by omega
          have HE := Lib.hid (eq_end HL.out HK.out)
          clear HK hX X
          go_wp2
          go_loopw [6] (fun i wr => ∃ k : Nat, k ≤ l.length ∧ i = .int .i64 k ∧ l.take k = m.take k ∧ Ext ((w.alloc (.cells #[.slice A a.length c, .slice A' l.length c'] 25)).alloc (.cells #[.slice B b.length d, .slice B' m.length d'] 25)) wr) (fun i _ => l.length - (intOf i).toNat)
          case atStart => exact ⟨0, Nat.zero_le _, rfl, rfl, HX.out⟩
          case round =>
            clear hsz h00 h01 h10 h11 HX HXw
            obtain ⟨k, hk, rfl, hal, hX⟩ := hrel
            obtain ⟨X, hsz, h00, h01, h10, h11⟩ := HT.out _ hX
            have HK := Lib.hid hal
            have HX := Lib.hid hX
            have HXw := Lib.hid X
            clear hal
            by_cases hlt : k < l.length
            · have hlt2 : k < m.length := by omega
              obtain ⟨ba, offa, rfl, _, hca⟩ := (HA'.out.ext X).wr hlt
              obtain ⟨bb, offb, rfl, _, hcb⟩ := (HB'.out.ext X).wr hlt2
              obtain ⟨hcka, hckas⟩ := hca k hlt
              obtain ⟨hckb, hckbs⟩ := hcb k hlt2
              have hki : (k : Int) < (l.length : Int) := by omega
              have hki2 : (k : Int) < (m.length : Int) := by omega
              have HF := Lib.hid (ne_at (a := l) (b := m) k hlt hlt2)
              have HS := Lib.hid (eq_step (a := l) (b := m) k hlt hlt2 HK.out)
              clear hca hcb HK hX X
              generalize hq : l[k] = qa at *
              generalize hq2 : m[k] = qb at *
              clear hq hq2
              obtain ⟨qaa, qas⟩ := qa
              obtain ⟨qba, qbs⟩ := qb
              simp only at hcka hckas hckb hckbs
              have HQ := eq_wr qaa qba qas qbs
              rcases Decidable.em ((qaa, qas) = (qba, qbs)) with he | he
              rotate_left
              · have HZ := Lib.hid he
                rw [decide_eq_false he] at HQ
                clear he
                go_wp2_with fail
                go_quiet (fail)
                go_wp2
                go_ret
                exact ⟨ret_bool (by rw [decide_eq_false (HF.out HZ.out), Bool.and_false]), HXw.out.drewN _⟩
              · have HZ := Lib.hid he
                rw [decide_eq_true he] at HQ
                clear he
                go_wp2_with fail
                go_quiet (fail)
                go_wp2
                go_roundw
                case rel => exact ⟨k + 1, by omega, by go_num, HS.out HZ.out, HX.out.drewN _⟩
                case measure => simp [intOf]; omega
            · obtain rfl : k = l.length := by omega
              have HE2 := Lib.hid (eq_end HM.out HK.out)
              clear HK hX X
              go_wp2
              go_ret
              exact ⟨ret_bool (by rw [decide_eq_true HE.out, decide_eq_true HE2.out]; rfl), HXw.out⟩
    · have HL := Lib.hid (show ¬ l = m from fun e => hlm (by rw [e]))
      have hl1 : ((a.length : Int) != (b.length : Int)) = false := by simp [hla]
      have hm1 : ((l.length : Int) != (m.length : Int)) = true := by simp; omega
      clear hla hlm
      go_enter Try.func14, Try.ntmps14
      go_wp2
      go_ret
      exact ⟨ret_bool (by rw [decide_eq_false HL.out, Bool.and_false]), HX0.out⟩
  · have HL := Lib.hid (show ¬ a = b from fun e => hla (by rw [e]))
    have hl1 : ((a.length : Int) != (b.length : Int)) = true := by simp; omega
    clear hla
    go_enter Try.func14, Try.ntmps14
    go_wp2
    go_ret
    exact ⟨ret_bool (by rw [decide_eq_false HL.out]; rfl), HX0.out⟩
end Go.Proofs.Ytikdicnpmobidaa
