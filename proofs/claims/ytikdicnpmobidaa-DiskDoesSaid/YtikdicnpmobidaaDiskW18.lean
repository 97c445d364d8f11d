/- The walk of the document's example. -/
import Derived.Test.YtikdicnpmobidaaDiskW16
import Derived.Test.YtikdicnpmobidaaDiskW13
import Derived.Test.YtikdicnpmobidaaDiskW9
import Derived.Test.YtikdicnpmobidaaDiskW4
import Derived.Lib.SlBytesConst
namespace Go.Proofs.Ytikdicnpmobidaa
open Go.RowKit
attribute [local go_sem ↓] Go.wp_at_zero Go.wp_at_succ

theorem doD_any (A A' P : Option Addr) (b : List ByteArray) (l p : List Wr) (c c' cp : Nat) (stop : Int) (w : World) (hb : b.length ≤ 1000000) (hl : l.length ≤ 400000) (hp : p.length ≤ 400000)
    (hA : Sl w A b.length c (b.map sv)) (hA' : Sl w A' l.length c' (wvs l)) (hP : Sl w P p.length cp (wvs p)) :
    Calls Try.prog 22 #[.agg #[.slice A b.length c, .slice A' l.length c'], .slice P p.length cp, .int .i64 stop] w fun e w' => ∃ v, e = .returned (.tuple #[v, .int .i64 (doS b l (p.take (planLen p.length stop))).2]) ∧
      IsDisk w' v (doS b l (p.take (planLen p.length stop))).1.1 (doS b l (p.take (planLen p.length stop))).1.2 ∧ Ext w w' :=
  callsIn_wide.1 (doD_in A A' P b l p c c' cp stop w hb hl hp hA hA' hP)

/-- The example's text. -/
def digs : List UInt8 := [48, 49, 50, 51, 52, 53, 54, 55, 56, 57, 48, 49, 50, 51, 52, 53, 54, 55, 56, 57, 48, 49, 50, 51, 52, 53, 54, 55, 56, 57, 48, 49, 50, 51, 52, 53, 54, 55, 56, 57]
def dig : ByteArray := ByteArray.mk digs.toArray
def digC : Array Value := #[.int .u8 48, .int .u8 49, .int .u8 50, .int .u8 51, .int .u8 52, .int .u8 53, .int .u8 54, .int .u8 55, .int .u8 56, .int .u8 57, .int .u8 48, .int .u8 49, .int .u8 50, .int .u8 51, .int .u8 52, .int .u8 53, .int .u8 54, .int .u8 55, .int .u8 56, .int .u8 57, .int .u8 48, .int .u8 49, .int .u8 50, .int .u8 51, .int .u8 52, .int .u8 53, .int .u8 54, .int .u8 55, .int .u8 56, .int .u8 57, .int .u8 48, .int .u8 49, .int .u8 50, .int .u8 51, .int .u8 52, .int .u8 53, .int .u8 54, .int .u8 55, .int .u8 56, .int .u8 57]
theorem digC_eq : digC = (digs.map bv).toArray := rfl

theorem conv_dig (w : World) (g : Nat) (hc : ∀ j (hj : j < 40), w.cell? ⟨g, j, none⟩ = some (bv (digs[j]'(by simpa [digs] using hj)))) : (convert 61 9 (.slice (some ⟨g, 0, none⟩) 40 40)).run Try.prog w = .ok (.string dig) w := by
  have h := run_convert_bytes_back (P := Try.prog) w 61 9 5 ⟨g, 0, none⟩ 40 digs Try.underlying61 Try.underlying5 Try.underlying9 (fun j hj => by
    have hj' : j < 40 := hj
    have e : (⟨g, 0, none⟩ : Addr).add j = ⟨g, j, none⟩ := by unfold Addr.add; split <;> simp_all
    rw [e, hc j hj']
    rfl)
  exact h
theorem digs_at (w : World) (fr : Nat × Nat) (j : Nat) (hj : j < 40) : (w.alloc (.cells digC 5 fr)).cell? ⟨w.heap.size, j, none⟩ = some (bv (digs[j]'(by simpa [digs] using hj))) := by
  have := heap_alloc_new w (.cells digC 5 fr)
  unfold World.cell?; rw [this]
  rw [digC_eq]
  simp [show j < digs.length from hj]

theorem new2 : newB 2 = [zb, zb] := rfl
theorem new2e : newE 2 = 0 := rfl
theorem put1 : putW [zb, zb] [] (1, dig) = [(1, dig)] := by decide +kernel
theorem put1e : putE [zb, zb] (1, dig) = 0 := by decide +kernel
theorem read1 : readS [zb, zb] [(1, dig)] 1 = dig := by decide +kernel
theorem read1e : readE [zb, zb] 1 = 0 := by decide +kernel
theorem crash1 : writeL [zb, zb] (kept [(1, dig)] []) = [zb, zb] := rfl
theorem flush1 : writeL [zb, zb] [(1, dig)] = [zb, dig] := by decide +kernel
theorem fl1 : isFl (1, dig) = false := rfl
theorem fl2 : isFl (-1, ByteArray.mk #[]) = true := by
  unfold isFl
  rw [ByteArray.toList_eq]
  rfl
theorem tk1 : takesS 2 (1, dig) = true := by decide +kernel
theorem do1 : doS [zb, zb] [] [(1, dig), (-1, ByteArray.mk #[])] = (([zb, dig], []), 2) := by
  have s1 : step1 [zb, zb] [] (1, dig) = some ([zb, zb], [(1, dig)]) := by
    unfold step1
    rw [fl1]
    simp only [Bool.false_eq_true, if_false]
    rw [show takesS [zb, zb].length (1, dig) = true from tk1]
    rfl
  have s2 : step1 [zb, zb] [(1, dig)] (-1, ByteArray.mk #[]) = some ([zb, dig], []) := by
    unfold step1
    rw [fl2]
    simp only [if_true]
    rw [flush1]
  simp only [doS, s1, s2]
theorem right1 : rightS [zb, zb] [(1, dig)] = true := by decide +kernel
theorem same1 (b : List ByteArray) (l : List Wr) : sameD b l b l = true := by simp [sameD, sameB, sameW]
theorem same2 : sameD [zb, zb] [(1, dig)] [zb, zb] [] = false := by simp [sameD, sameW]
theorem eqdig : (dig.toList == dig.toList) = true := by simp

set_option maxRecDepth 100000 in
set_option maxHeartbeats 8000000 in
theorem shown_any (w : World) : Calls Try.prog 9 #[] w fun e w' => e = .returned (.bool true) ∧ Ext w w' := by
  have hN := newD_any 2 w
  rw [new2, new2e] at hN
  have HN := Lib.hid hN
  clear hN
  go_enter Try.func9, Try.ntmps9
  go_wp2_with (go_at_call 11; refine stop_here ?_)
  refine stop_on ?_
  refine HN.out.mono ?_
  clear HN
  rintro e w1 ⟨v, rfl, ⟨A1, c1, A2, c2, rfl, h11, h12⟩, hx1⟩
  have X1 := Lib.hid hx1
  have D1 := Lib.hid h11
  have D2 := Lib.hid h12
  clear hx1 h11 h12
  have kcv := conv_dig _ _ (fun j hj => digs_at (w1.alloc (.cells #[.slice A1 2 c1, .slice A2 0 c2] 25)) (40, 41) j hj)
  rw [World.size_alloc] at kcv
  have kc : (convert 61 61 (.slice (some ⟨w1.heap.size + 1, 0, none⟩) 40 40)).run Try.prog ((w1.alloc (.cells #[.slice A1 2 c1, .slice A2 0 c2] 25)).alloc (.cells digC 5)) = .ok (.slice (some ⟨w1.heap.size + 1, 0, none⟩) 40 40) ((w1.alloc (.cells #[.slice A1 2 c1, .slice A2 0 c2] 25)).alloc (.cells digC 5 (40, 41))) := by
    have h := Lib.run_convert_bytes_const (P := Try.prog) (w1.alloc (.cells #[.slice A1 2 c1, .slice A2 0 c2] 25)) 61 5 digC 40 40 Try.underlying61 Try.underlying5
    rw [World.size_alloc] at h
    exact h
  unfold digC at kc kcv
  go_wp2_with (go_at_call 20; refine stop_here ?_)
  refine stop_on ?_
  clear kc kcv
  generalize hWa : (World.alloc (w1.alloc (.cells #[.slice A1 2 c1, .slice A2 0 c2] 25)) _) = Wa
  have ha : Ext w1 Wa := by rw [← hWa]; exact ((Ext.refl w1).alloc _).alloc _
  have hba : Box2 Wa w1.heap.size (.slice A1 2 c1) (.slice A2 0 c2) := by
    rw [← hWa]
    exact (Box2.new w1 _ _ _).ext (by simp) ((Ext.refl _).alloc _)
  have XA := Lib.hid (X1.out.trans ha)
  have BA := Lib.hid hba
  have hza : w1.heap.size < Wa.heap.size := by rw [← hWa]; simp; omega
  have DA1 := Lib.hid (D1.out.ext ha)
  have DA2 := Lib.hid (D2.out.ext ha)
  clear hWa ha hba
  have hP := putD_any A1 A2 [zb, zb] [] c1 c2 1 dig Wa (by decide) (by decide) DA1.out DA2.out
  rw [put1, put1e] at hP
  refine hP.mono ?_
  clear hP
  rintro e w2 ⟨v, rfl, ⟨A3, c3, A4, c4, rfl, h3, h4⟩, hx2⟩
  have hz2 := hx2.size
  have D3 := Lib.hid h3
  have D4 := Lib.hid h4
  have HX2 := Lib.hid hx2
  clear h3 h4 hx2
  go_wp2_with (go_at_call 16; refine stop_here ?_)
  refine stop_on ?_
  generalize hWb : (World.alloc w2 _) = Wb
  have hb : Ext w2 Wb := by rw [← hWb]; exact (Ext.refl w2).alloc _
  have B2 := Lib.hid (show Box2 Wb w2.heap.size (.slice A3 2 c3) (.slice A4 1 c4) from by rw [← hWb]; exact Box2.new w2 _ _ _)
  have hzb : w2.heap.size < Wb.heap.size := by rw [← hWb]; simp
  have HB := Lib.hid hb
  clear hWb hb
  have hR := readD_any A3 A4 [zb, zb] [(1, dig)] c3 c4 1 Wb (by decide) (by decide) (D3.out.ext HB.out).cells (D4.out.ext HB.out).cells
  rw [read1, read1e] at hR
  refine hR.mono ?_
  clear hR
  rintro e w3 ⟨rfl, hx3⟩
  have hz3 := hx3.size
  have B2w := (B2.out.ext hzb hx3).read
  obtain ⟨p0, p1, _, _⟩ := B2w
  have HX3 := Lib.hid hx3
  clear hx3
  go_wp2_with (go_at_call 26; refine stop_here ?_)
  refine stop_on ?_
  have hC := crashD_any A3 A4 none [zb, zb] [(1, dig)] [] c3 c4 0 w3 (by decide) (by decide) (by decide) (D3.out.ext (HB.out.trans HX3.out)) (D4.out.ext (HB.out.trans HX3.out)) (Sl.nil _)
  rw [crash1] at hC
  refine hC.mono ?_
  clear hC p0 p1
  rintro e w4 ⟨v, rfl, ⟨A5, c5, A6, c6, rfl, h5, h6⟩, hx4⟩
  have hz4 := hx4.size
  have D5 := Lib.hid h5
  have D6 := Lib.hid h6
  have HX4 := Lib.hid hx4
  have hx14 := HX2.out.trans (HB.out.trans (HX3.out.trans hx4))
  obtain ⟨p0, p1, _, _⟩ := (BA.out.ext hza hx14).read
  have HX14 := Lib.hid hx14
  have hlt : w1.heap.size < w4.heap.size := by omega
  clear h5 h6 hx4 hx14
  go_wp2_with (go_at_call 22; refine stop_here ?_)
  refine stop_on ?_
  clear p0 p1
  generalize hWc : (World.alloc (World.alloc w4 _) _) = Wc
  have hlit : Sl Wc (some ⟨w4.heap.size + 1, 0, none⟩) 2 2 (wvs [(1, dig), (-1, ByteArray.mk #[])]) := by
    rw [← hWc]
    have h := sl_lit (w4.alloc (.cells #[.slice A5 2 c5, .slice A6 0 c6] 25)) 43 2 (wvs [(1, dig), (-1, ByteArray.mk #[])]) (by unfold maxLen; omega)
    rw [World.size_alloc] at h
    exact h
  have hc : Ext w4 Wc := by rw [← hWc]; exact ((Ext.refl w4).alloc _).alloc _
  have hbc : Box2 Wc w4.heap.size (.slice A5 2 c5) (.slice A6 0 c6) := by
    rw [← hWc]
    exact (Box2.new w4 _ _ _).ext (by simp) ((Ext.refl _).alloc _)
  have hzc : w4.heap.size < Wc.heap.size := by rw [← hWc]; simp; omega
  have HC := Lib.hid hc
  clear hWc hc
  have BC := Lib.hid hbc
  clear hbc
  have hD := doD_any A1 A2 (some ⟨w4.heap.size + 1, 0, none⟩) [zb, zb] [] [(1, dig), (-1, ByteArray.mk #[])] c1 c2 2 (-1) Wc (by decide) (by decide) (by decide) (DA1.out.ext (HX14.out.trans HC.out)) (DA2.out.ext (HX14.out.trans HC.out)) hlit
  clear hlit
  rw [show List.take (planLen (List.length [(1, dig), (-1, ByteArray.mk #[])]) (-1)) [((1 : Int), dig), (-1, ByteArray.mk #[])] = [(1, dig), (-1, ByteArray.mk #[])] from rfl, do1] at hD
  refine hD.mono ?_
  clear hD
  rintro e w5 ⟨v, rfl, ⟨A7, c7, A8, c8, rfl, h7, h8⟩, hx5⟩
  have hz5 := hx5.size
  have D7 := Lib.hid h7
  have D8 := Lib.hid h8
  have HX5 := Lib.hid hx5
  clear h7 h8 hx5
  go_wp2_with fail
  generalize hWd : (World.alloc w5 _) = Wd
  have hd : Ext w5 Wd := by rw [← hWd]; exact (Ext.refl w5).alloc _
  have B5 : Box2 Wd w5.heap.size (.slice A7 2 c7) (.slice A8 0 c8) := by rw [← hWd]; exact Box2.new w5 _ _ _
  have hzd : w5.heap.size < Wd.heap.size := by rw [← hWd]; simp
  clear hWd
  have x5 : Ext Wc Wd := HX5.out.trans hd
  have x4 : Ext w4 Wd := HC.out.trans x5
  have x2 : Ext w2 Wd := HB.out.trans (HX3.out.trans (HX4.out.trans x4))
  have x1 : Ext Wa Wd := HX2.out.trans x2
  have XW := Lib.hid (XA.out.trans x1)
  have b1 := BA.out.ext hza x1
  have b2 := B2.out.ext hzb (HX3.out.trans (HX4.out.trans x4))
  have b4 := BC.out.ext hzc x5
  have HKS := Lib.hid (fun w' (hx : Ext Wd w') => (show w'.cell? ⟨w1.heap.size, 0, none⟩ = some (.slice A1 2 c1) ∧ w'.cell? ⟨w1.heap.size, 1, none⟩ = some (.slice A2 0 c2) ∧ w'.cell? ⟨w2.heap.size, 0, none⟩ = some (.slice A3 2 c3) ∧ w'.cell? ⟨w2.heap.size, 1, none⟩ = some (.slice A4 1 c4) ∧ w'.cell? ⟨w4.heap.size, 0, none⟩ = some (.slice A5 2 c5) ∧ w'.cell? ⟨w4.heap.size, 1, none⟩ = some (.slice A6 0 c6) ∧ w'.cell? ⟨w5.heap.size, 0, none⟩ = some (.slice A7 2 c7) ∧ w'.cell? ⟨w5.heap.size, 1, none⟩ = some (.slice A8 0 c8) from
    have r1 := (b1.ext (by omega) hx).read
    have r2 := (b2.ext (by omega) hx).read
    have r4 := (b4.ext (by omega) hx).read
    have r5 := (B5.ext (by omega) hx).read
    ⟨r1.1, r1.2.1, r2.1, r2.2.1, r4.1, r4.2.1, r5.1, r5.2.1⟩))
  obtain ⟨q0, q1, q2, q3, q4, q5, q6, q7⟩ := HKS.out Wd (Ext.refl _)
  have HS1 := Lib.hid (fun w' (hx : Ext Wd w') => by
    have h := sameDisk_any A5 A6 A1 A2 [zb, zb] [zb, zb] [] [] c5 c6 c1 c2 w' (by decide) (by decide) (by decide) (by decide) (D5.out.ext (x4.trans hx)).cells (DA1.out.ext (x1.trans hx)).cells (D6.out.ext (x4.trans hx)).cells (DA2.out.ext (x1.trans hx)).cells
    rw [same1] at h
    exact (show Calls Try.prog 18 #[.agg #[.slice A5 2 c5, .slice A6 0 c6], .agg #[.slice A1 2 c1, .slice A2 0 c2]] w' fun e w'' => e = .returned (.bool true) ∧ Ext w' w'' from h))
  have HS2 := Lib.hid (fun (B : Option Addr) (k : Nat) (B' : Option Addr) (k' : Nat) w' (hx : Ext Wd w') (hB : Sl w' B [zb, dig].length k ([zb, dig].map sv)) (hB' : Sl w' B' ([] : List Wr).length k' (wvs [])) => by
    have h := sameDisk_any A7 A8 B B' [zb, dig] [zb, dig] [] [] c7 c8 k k' w' (by decide) (by decide) (by decide) (by decide) (D7.out.ext (hd.trans hx)).cells hB.cells (D8.out.ext (hd.trans hx)).cells hB'.cells
    rw [same1] at h
    exact (show Calls Try.prog 18 #[.agg #[.slice A7 2 c7, .slice A8 0 c8], .agg #[.slice B 2 k, .slice B' 0 k']] w' fun e w'' => e = .returned (.bool true) ∧ Ext w' w'' from h))
  have HS3 := Lib.hid (fun w' (hx : Ext Wd w') => by
    have h := sameDisk_any A3 A4 A1 A2 [zb, zb] [zb, zb] [(1, dig)] [] c3 c4 c1 c2 w' (by decide) (by decide) (by decide) (by decide) (D3.out.ext (x2.trans hx)).cells (DA1.out.ext (x1.trans hx)).cells (D4.out.ext (x2.trans hx)).cells (DA2.out.ext (x1.trans hx)).cells
    rw [same2] at h
    exact (show Calls Try.prog 18 #[.agg #[.slice A3 2 c3, .slice A4 1 c4], .agg #[.slice A1 2 c1, .slice A2 0 c2]] w' fun e w'' => e = .returned (.bool false) ∧ Ext w' w'' from h))
  have HF := Lib.hid (fun w' (hx : Ext Wd w') => by
    have h := flushD_any A3 A4 [zb, zb] [(1, dig)] c3 c4 w' (by decide) (by decide) (D3.out.ext (x2.trans hx)) (D4.out.ext (x2.trans hx))
    rw [flush1] at h
    exact h)
  have HR := Lib.hid (fun w' (hx : Ext Wd w') => by
    have h := rightD_any A3 A4 [zb, zb] [(1, dig)] c3 c4 w' (by decide) (by decide) (D3.out.ext (x2.trans hx)).cells (D4.out.ext (x2.trans hx)).cells
    rw [right1] at h
    exact h)
  have EQ := eqdig
  clear hd B5 x5 x4 x2 x1 b1 b2 b4 D1 D2 D3 D4 D5 D6 D7 D8 DA1 DA2 X1 XA BA B2 BC HX2 HB HX3 HX4 HX14 HC HX5 hza hz2 hzb hz3 hz4 hlt hzc hz5 hzd
  go_region_held3 (fun w' => w'.cell? ⟨w1.heap.size, 0, none⟩ = some (.slice A1 2 c1) ∧ w'.cell? ⟨w1.heap.size, 1, none⟩ = some (.slice A2 0 c2) ∧ w'.cell? ⟨w2.heap.size, 0, none⟩ = some (.slice A3 2 c3) ∧ w'.cell? ⟨w2.heap.size, 1, none⟩ = some (.slice A4 1 c4) ∧ w'.cell? ⟨w4.heap.size, 0, none⟩ = some (.slice A5 2 c5) ∧ w'.cell? ⟨w4.heap.size, 1, none⟩ = some (.slice A6 0 c6) ∧ w'.cell? ⟨w5.heap.size, 0, none⟩ = some (.slice A7 2 c7) ∧ w'.cell? ⟨w5.heap.size, 1, none⟩ = some (.slice A8 0 c8))
    (first | exact HKS.out _ hE5.out | exact HKS.out _ hE4.out | exact HKS.out _ hE3.out | exact HKS.out _ hE2.out | exact HKS.out _ (hE2.out.alloc _) | exact HKS.out _ hE1.out | exact HKS.out _ (Ext.refl Wd).drew | exact HKS.out _ (Ext.refl Wd))
    (first
      | ((go_at_call 24
          refine (HF.out _ hE1.out).mono ?_
          rintro e w7 ⟨v, rfl, ⟨B, k, B', k', rfl, hB, hB'⟩, hx⟩
          have hE2 := Lib.hid (hE1.out.trans hx)
          have HB := Lib.hid hB
          have HB' := Lib.hid hB'
          clear hB hB' hx))
      | ((go_at_call 15
          refine (HR.out _ hE3.out).mono ?_
          rintro e w9 ⟨rfl, hx⟩
          have hE4 := Lib.hid (hE3.out.trans hx)
          clear hx))
      | ((go_at_call 18
          with_reducible refine (HS3.out _ hE4.out).mono ?_
          rintro e w10 ⟨rfl, hx⟩
          have hE5 := Lib.hid (hE4.out.trans hx)
          clear hx))
      | ((go_at_call 18
          with_reducible refine (HS2.out _ _ _ _ _ hE2.out HB.out HB'.out).mono ?_
          rintro e w8 ⟨rfl, hx⟩
          have hE3 := Lib.hid (hE2.out.trans hx)
          clear hx))
      | ((go_at_call 18
          with_reducible refine (HS1.out _ ?_).mono ?_
          (first | exact Ext.refl _ | exact (Ext.refl _).drew)
          rintro e w6 ⟨rfl, hx⟩
          have hE1 := Lib.hid (show Ext Wd w6 from by first | exact hx | exact (Ext.refl Wd).drew.trans hx)
          clear hx)))
  go_wp2
  go_ret
  exact ⟨rfl, XW.out.trans hE5.out⟩
end Go.Proofs.Ytikdicnpmobidaa
