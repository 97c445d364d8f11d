/- The walk of Sound of package audit. -/
import Derived.Test.YtjbfopnkeclfgaaGreatK32
import Derived.Deep.RegionHeld3
namespace Go.Proofs.YtjbfopnkeclfgaaGreat
set_option maxRecDepth 20000
open Go.RowKit

/-- P8.2: does everything add up? -/
def soundC (c : List HC) (rf : Nat → Int) (hf : Nat → Bool) (p : Nat) : Bool := ((c.getD p HC.none).ref == rf p) && (hf p == decide (0 < (c.getD p HC.none).ref))
def soundF (c : List HC) (rf : Nat → Int) (hf : Nat → Bool) (n : Nat) : Bool := (List.range n).all (soundC c rf hf)
theorem sound_no {c : List HC} {rf : Nat → Int} {hf : Nat → Bool} {n k : Nat} (hk : k < n) (h : soundC c rf hf k = false) : soundF c rf hf n = false := by
  unfold soundF
  rw [List.all_eq_false]
  exact ⟨k, List.mem_range.2 hk, by rw [h]; simp⟩
theorem sound_step {c : List HC} {rf : Nat → Int} {hf : Nat → Bool} {k : Nat} (h : soundF c rf hf k = true) (h2 : soundC c rf hf k = true) : soundF c rf hf (k + 1) = true := by
  unfold soundF at *
  rw [List.range_succ, List.all_append, h]
  simp [h2]
/-- What audit answers of a heap's cells, roots and tasks. -/
def auditF (c : List HC) (roots : List Int) (ts : List Tk) : Bool :=
  soundF c (refsF c roots ts c.length) (heldR c ts (roots.length + ts.length + wtS c (fun _ => false) c.length) (firstsP roots ts) (fun _ => false)) c.length
set_option maxRecDepth 100000 in
set_option maxHeartbeats 1600000 in
theorem auSound_any (R A B : Option Addr) (c : List HC) (roots : List Int) (ts : List Tk) (n q m d t e : Nat) (keep : Int) (w : World) (hn : n ≤ 2000) (hit : ∀ y ∈ c, y.it.length ≤ 1000) (hm : m = roots.length) (hm2 : m ≤ 1000) (ht : t = ts.length) (ht2 : t ≤ 1000) (hl : WhT ts) (hw : wtS c (fun _ => false) c.length ≤ 80000) (hR : HcSl w R n q c) (hA : Sl w A m d (roots.map iv)) (hB : Sl w B t e (ts.map cxv)) :
    Calls Tryz.prog 30 #[.agg #[.slice R n q, .int .i64 keep], .slice A m d, .slice B t e] w fun e w' => e = .returned (.bool (auditF c roots ts)) ∧ Ext w w' := by
  have HCN := Lib.hid hR.1
  have hb := Bx.new w #[.slice R n q, .int .i64 keep] 30
  have hx := (Ext.refl w).alloc (.cells #[.slice R n q, .int .i64 keep] 30)
  have HB0 := Lib.hid hb
  have HX0 := Lib.hid hx
  obtain ⟨p0, p1, z2⟩ := hb.read2
  have HR := Lib.hid hR
  have G1 := Lib.hid (fun w' (hx : Ext w w') => auRefs_any R A B c roots ts n q m d t e keep w' hn hit hm hm2 ht ht2 hl (hR.ext hx) (hA.ext hx) (hB.ext hx))
  have G2 := Lib.hid (fun w' (hx : Ext w w') => auHeld_any R A B c roots ts n q m d t e (roots.length + ts.length + wtS c (fun _ => false) c.length) keep w' hn hit hm hm2 ht ht2 hl (by rw [hm, ht]) (by omega) (hR.ext hx) (hA.ext hx) (hB.ext hx))
  have HAU : ∃ rf hf, refsF c roots ts n = rf ∧ heldR c ts (roots.length + ts.length + wtS c (fun _ => false) c.length) (firstsP roots ts) (fun _ => false) = hf ∧ auditF c roots ts = soundF c rf hf n := ⟨_, _, rfl, rfl, by unfold auditF; rw [← hR.1]⟩
  obtain ⟨rf, hf, e1, e2, e3⟩ := HAU
  rw [e1] at G1
  rw [e2] at G2
  have HAE := Lib.hid e3
  generalize auditF c roots ts = res at *
  have HK := Lib.hid (fun w' (hy : Ext (w.alloc (.cells #[.slice R n q, .int .i64 keep] 30)) w') => (show w'.cell? ⟨w.heap.size, 0, none⟩ = some (.slice R n q) ∧ w'.cell? ⟨w.heap.size, 1, none⟩ = some (.int .i64 keep) from ⟨(hb.ext hy).read2.1, (hb.ext hy).read2.2.1⟩))
  generalize hW : w.alloc _ = W0 at hb hx p0 p1 z2 HB0 HX0 HK
  clear hb hx hR hit hA hB hm ht hl hw e1 e2 e3
  go_enter Tryz.func30, Tryz.ntmps30
  go_wp2_with fail
  go_region_held3 (fun w' => w'.cell? ⟨w.heap.size, 0, none⟩ = some (.slice R n q) ∧ w'.cell? ⟨w.heap.size, 1, none⟩ = some (.int .i64 keep))
    (first | (with_reducible exact HK.out _ X2.out) | (with_reducible exact HK.out _ X1.out) | (with_reducible exact HK.out _ (Ext.refl W0).drew) | (with_reducible exact HK.out _ (Ext.refl W0)))
    (first
      | ((go_at_call 59
          with_reducible refine (G1.out _ ?_).mono ?_
          exact HX0.out.trans (Ext.refl W0).drew
          rintro e w1 ⟨g1, rfl, ho, hx⟩
          have X1 := Lib.hid ((Ext.refl W0).drew.trans hx)
          have O1 := Lib.hid ho
          clear ho hx))
      | ((go_at_call 60
          with_reducible refine (G2.out _ ?_).mono ?_
          exact HX0.out.trans X1.out
          rintro e w2 ⟨g2, rfl, ho, hx⟩
          have X2 := Lib.hid (X1.out.trans hx)
          have O2 := Lib.hid ho
          have O1 := Lib.hid (O1.out.ext hx)
          clear ho hx)))
  have HXX := Lib.hid (HX0.out.trans X2.out)
  obtain ⟨p0, p1, z2⟩ := (HB0.out.ext X2.out).read2
  clear X1 X2 HX0 HB0 HK G1 G2
  go_wp2_with fail
  generalize w2 = wq at *
  clear p0 p1 z2
  go_loopw [22] (fun i wr => ∃ k : Nat, k ≤ n ∧ i = .int .i64 k ∧ soundF c rf hf k = true ∧ Ext wq wr) (fun i _ => n - (intOf i).toNat)
  case atStart => exact ⟨0, Nat.zero_le _, rfl, rfl, Ext.refl _⟩
  case round =>
    obtain ⟨k, hk, rfl, hs, hx⟩ := hrel
    have HX := Lib.hid hx
    have HS := Lib.hid hs
    clear hx hs
    rcases Nat.lt_or_ge k n with hlt | hge
    · have hkc : k < c.length := by rw [← HCN.out]; exact hlt
      obtain ⟨b, off, rfl, hbl, Bi, di, r0, r1, r2, r3, _⟩ := (HR.out.ext (HXX.out.trans HX.out)).cell hkc
      have o1 := (O1.out.ext HX.out).cell hlt
      have o2 := (O2.out.ext HX.out).read hlt
      have z1 := (O1.out.ext HX.out).lt
      have z2 := (O2.out.ext HX.out).lt
      have hki : (k : Int) < (n : Int) := by omega
      have HSC := Lib.hid (show soundC c rf hf k = ((c[k].ref == rf k) && (hf k == decide (0 < c[k].ref))) from by
        unfold soundC
        rw [List.getD_eq_getElem?_getD, List.getElem?_eq_getElem hkc]; rfl)
      have HNO := Lib.hid (fun h => sound_no (c := c) (rf := rf) (hf := hf) hlt h)
      have HST := Lib.hid (fun h => sound_step HS.out h)
      generalize soundC c rf hf k = sc at *
      generalize c[k] = y at *
      obtain ⟨yr, yp, yl, yi⟩ := y
      simp only at r0 r1 r2 r3 HSC
      generalize rf k = x at *
      generalize hf k = z at *
      have Y1 := Lib.hid ((Ext.refl wr).alloc (.cells #[.int .i64 yr, .bool yp, .bool yl, .slice Bi yi.length di] 61))
      obtain ⟨mi, hmi⟩ : ∃ x, yi.length = x := ⟨_, rfl⟩
      rw [hmi] at r3 Y1
      clear hmi hbl
      rcases Decidable.em (yr = x) with he | he
      · subst he
        have d0 : (yr != yr) = false := by simp
        have d1 : (yr == yr) = true := by simp
        cases hz : (z == decide (0 < yr))
        · have d2 : (z != decide (0 < yr)) = true := by simp only [bne, hz]; rfl
          have d3 : (!(z == decide (0 < yr))) = true := by rw [hz]; rfl
          have HE := Lib.hid (HNO.out (by rw [HSC.out, d1, hz]; rfl))
          clear HSC HNO HST
          go_wp2_with fail
          go_quiet (fail)
          go_wp2
          go_ret
          exact ⟨ret_bool (by rw [HAE.out]; exact HE.out.symm), (HXX.out.trans HX.out).trans (Y1.out.drewN _)⟩
        · have d2 : (z != decide (0 < yr)) = false := by simp only [bne, hz]; rfl
          have d3 : (!(z == decide (0 < yr))) = false := by rw [hz]; rfl
          have HE := Lib.hid (HST.out (by rw [HSC.out, d1, hz]; rfl))
          clear HSC HNO HST
          go_wp2_with fail
          go_quiet (fail)
          go_wp2
          go_roundw
          case rel => exact ⟨k + 1, by omega, by go_num, HE.out, HX.out.trans (Y1.out.drewN _)⟩
          case measure => simp [intOf]; omega
      · have d0 : (yr != x) = true := by simpa using he
        have d1 : (yr == x) = false := by simpa using he
        have HE := Lib.hid (HNO.out (by rw [HSC.out, d1]; rfl))
        clear HSC HNO HST he
        go_wp2_with fail
        go_quiet (fail)
        go_wp2
        go_ret
        exact ⟨ret_bool (by rw [HAE.out]; exact HE.out.symm), (HXX.out.trans HX.out).trans (Y1.out.drewN _)⟩
    · obtain rfl : n = k := by omega
      clear hge
      go_wp2
      go_ret
      exact ⟨ret_bool (by rw [HAE.out]; exact HS.out.symm), HXX.out.trans HX.out⟩
end Go.Proofs.YtjbfopnkeclfgaaGreat
