/- The walk of HeapHeld: the node is laid, over others. -/
import Derived.Test.YtclpeeemnmhdcaaHeapS
import Derived.Deep.AppendLies
import Derived.Deep.RegionHeld3
import Derived.Deep.DeepCutAuto
import Derived.Deep.DrawnRows
import Derived.RegionTactic
namespace Go.Proofs.Ytclpeeemnmhdcaa
open Go.RowKit
attribute [local go_sem ↓] Go.wp_at_zero Go.wp_at_succ

attribute [local go_sem] beq_self_eq_true bne_self_eq_false
set_option maxRecDepth 100000 in
set_option maxHeartbeats 8000000 in
theorem held_over (R : Option Addr) (l : List HC) (n q : Nat) (keep : Int) (leaf : Bool) (A : Option Addr) (it : List It) (m c : Nat) (H : Option Addr) (held : List Int) (t d : Nat) (w : World) (hA : HcSl w R n q l) (hm : m = it.length) (hI : Sl w A m c (ivs it)) (ht : t = held.length) (hH : Sl w H t d (held.map iv)) (hlf : leaf = false) (hr : mayH ⟨l, keep⟩ 60 = true) (hm10 : m ≤ 10) (ht20 : t ≤ 20) (z : Nat) (hg : (ndR it && leadsC l leaf it) = true) (hz : z < l.length) (hf : firstF l = z) :
    Calls Try.prog 8 #[.agg #[.slice R n q, .int .i64 keep], .agg #[.bool leaf, .slice A m c], .slice H t d] w fun e w' => e = .returned (.bool true) ∧ Ext w w' := by
  subst hlf
  obtain ⟨hl60, hcs, hri⟩ := may_iff hr
  obtain ⟨bh, oh, rfl⟩ := hA.ad (by have := (rightH_iff hri).1; omega)
  have A_1 := Lib.hid (hA)
  have I_2 := Lib.hid (hI)
  have H_3 := Lib.hid (hH)
  have X_4 := Lib.hid (Ext.refl w)
  have HM := Lib.hid hm
  have HT := Lib.hid ht
  have hn := hA.1
  have HN := Lib.hid hn
  have hml := hI.len
  have htl := hH.len
  unfold maxLen at hml htl
  have Hr := Lib.hid hr
  have hb : n ≤ 60 := by omega
  have dm : decide ((10 : Int) < (m : Int)) = false := decide_eq_false (by omega)
  have em : decide (10 < m) = false := decide_eq_false (by omega)
  have dt : decide ((20 : Int) < (t : Int)) = false := decide_eq_false (by omega)
  have et : decide (20 < t) = false := decide_eq_false (by omega)
  obtain ⟨a1, a2, _⟩ := alloc_ok (held := held) hg hz hf
  obtain ⟨r1, r2, r3⟩ := alloc_right (held := held) hri (fun k hk => (hcs k hk).2) hg hz hf
  have hz3 : z < (allocL l false it held).length := by rw [r3]; exact hz
  have hcell := alloc_cell (held := held) hg hz hf hz3
  have hoth := fun j (hj : j < l.length) (hjz : j ≠ z) (hj3 : j < (allocL l false it held).length) => alloc_other (held := held) hg hz hf hj hjz hj3
  have hndr : 1 ≤ m ∧ m ≤ 4 := by rw [Bool.and_eq_true] at hg; have := ((ndR_iff it).1 hg.1).1; omega
  have hcnt : ∀ x, (toldL false it).count x ≤ 10 := fun x => by have h1 := List.count_le_length (a := x) (l := toldL false it); have h2 := told_len false it; omega
  obtain ⟨al, hal⟩ : ∃ al, (allocL l false it held) = al := ⟨_, rfl⟩
  simp only [hal] at r3 hz3 hcell hoth
  have HAL := Lib.hid (fun w' (hS : HcSl w' (some ⟨bh, oh, none⟩) n q l) (hI : Sl w' A m c (ivs it)) (hH : Sl w' H t d (held.map iv)) => (show Calls Try.prog 22 #[.agg #[.slice (some ⟨bh, oh, none⟩) n q, .int .i64 keep], .agg #[.bool false, .slice A m c], .slice H t d] w' fun e w2 => ∃ b3 o3 d3, e = .returned (.tuple #[.agg #[.slice (some ⟨b3, o3, none⟩) n d3, .int .i64 keep], .int .i64 z, .int .i64 0]) ∧ HcSl w2 (some ⟨b3, o3, none⟩) n d3 al ∧ Ext w' w2 from by
    have h := heapAlloc_any (some ⟨bh, oh, none⟩) l n q keep w' false A it m c H held t d hr hm10 ht20 hS hm hI ht hH
    rw [a1, a2, hal] at h
    refine h.mono ?_
    rintro e w2 ⟨S, d2, rfl, h1, hx⟩
    obtain ⟨b3, o3, rfl⟩ := h1.ad (by omega)
    exact ⟨b3, o3, d2, rfl, h1, hx⟩))
  have hzn : z < n := by omega
  have hzi : (z : Int) < (n : Int) := by omega
  have dz0 : decide ((z : Int) < 0) = false := decide_eq_false (by omega)
  have dz1 : decide ((n : Int) ≤ (z : Int)) = false := decide_eq_false (by omega)
  have dz2 : decide (n ≤ z) = false := decide_eq_false (by omega)
  have hn1 : 0 < n := by omega
  have hm1 : 0 < m := by omega
  have hmi : (0 : Int) < (m : Int) := by omega
  have dm1 : decide ((0 : Int) < (m : Int)) = true := decide_eq_true (by omega)
  have em1 : decide (0 < m) = true := decide_eq_true hm1
  have HCELL := Lib.hid hcell
  have HOTH := Lib.hid hoth
  have HR3 := Lib.hid r3
  have HCS := Lib.hid (fun k (hk : k < l.length) => (hcs k hk).2)
  have HRG := Lib.hid (fun k (hk : k < l.length) => (right_ref hri k hk).1)
  have HCNT := Lib.hid hcnt
  have HZ3 := Lib.hid hz3
  have HAL3 := Lib.hid (show al.length = n by omega)
  clear a1 a2 r1 r2 r3 hcell hoth hf hg hA hI hH hm ht hr hri hcs hl60 hn hcnt
  go_enter Try.func8, Try.ntmps8
  go_wp2_with (go_at_call 9; refine stop_here ?_)
  refine stop_on ?_
  generalize hW : (World.alloc (World.alloc w _) _) = W5
  obtain ⟨hx, hb0, hb1⟩ := allocs2 hW
  clear hW
  have A_6 := Lib.hid (A_1.out.ext hx)
  have I_6 := Lib.hid (I_2.out.ext hx)
  have H_6 := Lib.hid (H_3.out.ext hx)
  have X_6 := Lib.hid (X_4.out.ext hx)
  clear A_1 I_2 H_3 X_4
  have h_7 := Lib.hid hb0
  have n_8 := Lib.hid hb1
  clear hx hb0 hb1
  refine (shown_any _).mono ?_
  rintro e w9 ⟨rfl, hx⟩
  have A_10 := Lib.hid (A_6.out.ext hx)
  have I_10 := Lib.hid (I_6.out.ext hx)
  have H_10 := Lib.hid (H_6.out.ext hx)
  have X_10 := Lib.hid (X_6.out.ext hx)
  have h_10 := Lib.hid (h_7.out.ext hx)
  have n_10 := Lib.hid (n_8.out.ext hx)
  clear A_6 I_6 H_6 X_6 h_7 n_8
  clear hx
  have qh0 : w9.cell? ⟨w.heap.size, 0, none⟩ = some (.slice (some ⟨bh, oh, none⟩) n q) := h_10.out.at 0 _ rfl
  have qh1 : w9.cell? ⟨w.heap.size, 1, none⟩ = some (.int .i64 keep) := h_10.out.at 1 _ rfl
  have zh := h_10.out.lt
  have qn0 : w9.cell? ⟨w.heap.size + 1, 0, none⟩ = some (.bool false) := n_10.out.at 0 _ rfl
  have qn1 : w9.cell? ⟨w.heap.size + 1, 1, none⟩ = some (.slice A m c) := n_10.out.at 1 _ rfl
  have zn := n_10.out.lt
  go_wp2_with (go_at_call 21; refine stop_here ?_)
  refine stop_on ?_
  clear qh0 qh1 zh qn0 qn1 zn
  refine (ref05May_is (some ⟨bh, oh, none⟩) l n q keep 60 _ A_10.out Hr.out).mono ?_
  rintro e w11 ⟨rfl, hx⟩
  have A_12 := Lib.hid (A_10.out.ext hx)
  have I_12 := Lib.hid (I_10.out.ext hx)
  have H_12 := Lib.hid (H_10.out.ext hx)
  have X_12 := Lib.hid (X_10.out.ext hx)
  have h_12 := Lib.hid (h_10.out.ext hx)
  have n_12 := Lib.hid (n_10.out.ext hx)
  clear A_10 I_10 H_10 X_10 h_10 n_10
  clear hx
  have qh0 : w11.cell? ⟨w.heap.size, 0, none⟩ = some (.slice (some ⟨bh, oh, none⟩) n q) := h_12.out.at 0 _ rfl
  have qh1 : w11.cell? ⟨w.heap.size, 1, none⟩ = some (.int .i64 keep) := h_12.out.at 1 _ rfl
  have zh := h_12.out.lt
  have qn0 : w11.cell? ⟨w.heap.size + 1, 0, none⟩ = some (.bool false) := n_12.out.at 0 _ rfl
  have qn1 : w11.cell? ⟨w.heap.size + 1, 1, none⟩ = some (.slice A m c) := n_12.out.at 1 _ rfl
  have zn := n_12.out.lt
  go_wp2_with (go_at_call 22; refine stop_here ?_)
  refine stop_on ?_
  clear qh0 qh1 zh qn0 qn1 zn
  refine (HAL.out _ A_12.out I_12.out H_12.out).mono ?_
  rintro e w13 ⟨b3, o3, d3, rfl, h1, hx⟩
  have A_14 := Lib.hid (A_12.out.ext hx)
  have I_14 := Lib.hid (I_12.out.ext hx)
  have H_14 := Lib.hid (H_12.out.ext hx)
  have X_14 := Lib.hid (X_12.out.ext hx)
  have h_14 := Lib.hid (h_12.out.ext hx)
  have n_14 := Lib.hid (n_12.out.ext hx)
  clear A_12 I_12 H_12 X_12 h_12 n_12
  have P_15 := Lib.hid h1
  clear hx h1
  have qh0 : w13.cell? ⟨w.heap.size, 0, none⟩ = some (.slice (some ⟨bh, oh, none⟩) n q) := h_14.out.at 0 _ rfl
  have qh1 : w13.cell? ⟨w.heap.size, 1, none⟩ = some (.int .i64 keep) := h_14.out.at 1 _ rfl
  have zh := h_14.out.lt
  have qn0 : w13.cell? ⟨w.heap.size + 1, 0, none⟩ = some (.bool false) := n_14.out.at 0 _ rfl
  have qn1 : w13.cell? ⟨w.heap.size + 1, 1, none⟩ = some (.slice A m c) := n_14.out.at 1 _ rfl
  have zn := n_14.out.lt
  go_wp2_with fail
  clear qh0 qh1 zh qn0 qn1 zn
  generalize hW : (World.alloc w13 _) = W16
  obtain ⟨hx, hb0⟩ := allocs1 hW
  clear hW
  have A_17 := Lib.hid (A_14.out.ext hx)
  have I_17 := Lib.hid (I_14.out.ext hx)
  have H_17 := Lib.hid (H_14.out.ext hx)
  have X_17 := Lib.hid (X_14.out.ext hx)
  have h_17 := Lib.hid (h_14.out.ext hx)
  have n_17 := Lib.hid (n_14.out.ext hx)
  have P_17 := Lib.hid (P_15.out.ext hx)
  clear A_14 I_14 H_14 X_14 h_14 n_14 P_15
  have a_18 := Lib.hid hb0
  clear hx hb0
  go_loopw [11] (fun i wr => ∃ j : Nat, j ≤ n ∧ i = .int .i64 j ∧ Ext W16 wr) (fun i _ => n - (intOf i).toNat)
  case atStart => exact ⟨0, Nat.zero_le _, rfl, Ext.refl _⟩
  case round =>
    obtain ⟨j, hj, rfl, hx⟩ := hrel
    have HXR := Lib.hid hx
    have A_19 := Lib.hid (A_17.out.ext hx)
    have I_19 := Lib.hid (I_17.out.ext hx)
    have H_19 := Lib.hid (H_17.out.ext hx)
    have X_19 := Lib.hid (X_17.out.ext hx)
    have h_19 := Lib.hid (h_17.out.ext hx)
    have n_19 := Lib.hid (n_17.out.ext hx)
    have P_19 := Lib.hid (P_17.out.ext hx)
    have a_19 := Lib.hid (a_18.out.ext hx)
    clear A_17 I_17 H_17 X_17 h_17 n_17 P_17 a_18
    clear hx
    have qh0 : wr.cell? ⟨w.heap.size, 0, none⟩ = some (.slice (some ⟨bh, oh, none⟩) n q) := h_19.out.at 0 _ rfl
    have qh1 : wr.cell? ⟨w.heap.size, 1, none⟩ = some (.int .i64 keep) := h_19.out.at 1 _ rfl
    have zh := h_19.out.lt
    have qn0 : wr.cell? ⟨w.heap.size + 1, 0, none⟩ = some (.bool false) := n_19.out.at 0 _ rfl
    have qn1 : wr.cell? ⟨w.heap.size + 1, 1, none⟩ = some (.slice A m c) := n_19.out.at 1 _ rfl
    have zn := n_19.out.lt
    have qa0 : wr.cell? ⟨w13.heap.size, 0, none⟩ = some (.slice (some ⟨b3, o3, none⟩) n d3) := a_19.out.at 0 _ rfl
    have qa1 : wr.cell? ⟨w13.heap.size, 1, none⟩ = some (.int .i64 keep) := a_19.out.at 1 _ rfl
    have za := a_19.out.lt
    rcases Nat.lt_or_ge j n with hlt | hlt
    · have hjl : j < l.length := by rw [← HN.out]; exact hlt
      have hja : j < al.length := by rw [HAL3.out]; exact hlt
      have hjn : (j : Int) < (n : Int) := by omega
      have HIN := Lib.hid (ref05In_any H held t d (j : Int) wr HT.out H_19.out)
      obtain ⟨hbh, Ah, ch, x0, x1, x2, x4, hIh⟩ := (A_19.out).row (k := j) hjl
      obtain ⟨hba, Aa, ca, y0, y1, y2, y4, hIa⟩ := (P_19.out).row (k := j) hja
      obtain ⟨inb, hinb⟩ : ∃ b, inL held (j : Int) = b := ⟨_, rfl⟩
      rw [hinb] at HIN
      have ho9 := fun (h : j ≠ z) => HOTH.out j hjl h hja
      rw [hinb] at ho9
      have HO9 := Lib.hid ho9
      clear ho9 hinb
      have hrb := HCS.out j hjl
      have hrg := HRG.out j hjl
      have hcb := HCNT.out (j : Int)
      have HIH := Lib.hid hIh
      have HIA := Lib.hid hIa
      clear hIh hIa
      cases inb
      · have HTK := Lib.hid (fun k (hk : k < it.length) => (show ((it.take (k + 1)).map Prod.snd).count (j : Int) = ((it.take k).map Prod.snd).count (j : Int) + (if it[k].2 = (j : Int) then 1 else 0) from by rw [List.take_succ_eq_append_getElem hk, List.map_append, List.count_append]; simp [List.count_singleton]))
        go_wp2_with (go_at_call 33; refine HIN.out.mono ?_; rintro e w7 ⟨rfl, rfl⟩)
        go_loop [12, 14] (fun a b => ∃ k ct : Nat, k ≤ m ∧ ct ≤ k ∧ b = .int .i64 k ∧ a = .int .i64 ct ∧ ((it.take k).map Prod.snd).count (j : Int) = ct) (fun _ b => m - (intOf b).toNat)
        case atStart => exact ⟨0, 0, Nat.zero_le _, Nat.le_refl _, rfl, rfl, rfl⟩
        case round =>
          obtain ⟨k, ct, hk, hct, rfl, rfl, hcc⟩ := hrel
          have HCC := Lib.hid hcc
          clear hcc
          rcases Nat.lt_or_ge k m with hkm | hkm
          · have hki : k < it.length := by rw [← HM.out]; exact hkm
            have hkmi : (k : Int) < (m : Int) := by omega
            have dk : decide ((k : Int) < (m : Int)) = true := decide_eq_true hkmi
            have dk2 : decide (k < m) = true := decide_eq_true hkm
            obtain ⟨bi, oi, rfl, hbi, hci⟩ := (I_19.out).cells.it hki
            have hck := (hci k hki).2
            have HT9 := Lib.hid (HTK.out k hki)
            rw [HCC.out] at HT9
            clear hci
            generalize it[k].2 = vk at *
            by_cases hv : vk = (j : Int)
            · have HT8 := Lib.hid (show ((it.take (k + 1)).map Prod.snd).count (j : Int) = ct + 1 by rw [HT9.out, if_pos hv])
              have ev : (vk == (j : Int)) = true := by simpa using hv
              subst hv
              clear HT9
              go_wp2_with fail
              go_round
              case rel => exact ⟨k + 1, ct + 1, by omega, by omega, by go_num, by go_num, HT8.out⟩
              case measure => simp [intOf] <;> omega
            · have HT8 := Lib.hid (show ((it.take (k + 1)).map Prod.snd).count (j : Int) = ct by rw [HT9.out, if_neg hv]; rfl)
              have ev : (vk == (j : Int)) = false := by simpa using hv
              have ev2 : decide (vk = (j : Int)) = false := decide_eq_false hv
              clear HT9 hv
              go_wp2_with fail
              go_round
              case rel => exact ⟨k + 1, ct, by omega, by omega, by go_num, rfl, HT8.out⟩
              case measure => simp [intOf] <;> omega
          obtain rfl : m = k := by omega
          have dk : decide ((m : Int) < (m : Int)) = false := decide_eq_false (by omega)
          have HC0 := Lib.hid (show (toldL false it).count (j : Int) = ct by have h := HCC.out; rw [HM.out, List.take_length] at h; exact h)
          clear hkm hk HCC
          go_wp2_with fail
          by_cases hjz : j = z
          · subst hjz
            clear HO9
            clear qh0 qh1 zh qn0 qn1 zn qa0 qa1 za
            have qh0 : wr.cell? ⟨w.heap.size, 0, none⟩ = some (.slice (some ⟨bh, oh, none⟩) n q) := h_19.out.at 0 _ rfl
            have qh1 : wr.cell? ⟨w.heap.size, 1, none⟩ = some (.int .i64 keep) := h_19.out.at 1 _ rfl
            have zh := h_19.out.lt
            have qa0 : wr.cell? ⟨w13.heap.size, 0, none⟩ = some (.slice (some ⟨b3, o3, none⟩) n d3) := a_19.out.at 0 _ rfl
            have qa1 : wr.cell? ⟨w13.heap.size, 1, none⟩ = some (.int .i64 keep) := a_19.out.at 1 _ rfl
            have za := a_19.out.lt
            go_quiet (fail)
            go_wp2_with fail
            go_roundw
            case rel => exact ⟨j + 1, by omega, by go_num, HXR.out.drewN _⟩
            case measure => simp [intOf] <;> omega
          have e8 : ((j : Int) == (z : Int)) = false := beq_eq_false_iff_ne.2 (by omega)
          have e9 : ((j : Int) != (z : Int)) = true := bne_iff_ne.2 (by omega)
          have ho9 := HO9.out hjz
          rw [ho9] at y0 y1 y2 y4 HIA
          simp only [Bool.false_eq_true, if_false] at y0 y1 y2 y4 HIA
          clear ho9 HO9 hjz
          rw [HC0.out] at y0
          have hwr9 : IntKind.i64.wrap (l[j].ref + (ct : Int)) = l[j].ref + (ct : Int) := by rw [IntKind.wrap_i64]; omega
          have HSM := Lib.hid (show sameN l[j].leaf l[j].it l[j].leaf l[j].it = true from sameN_iff.2 ⟨rfl, rfl⟩)
          have HSC := Lib.hid (fun w' (hx : Ext wr w') => (show Calls Try.prog 31 #[.agg #[.bool l[j].leaf, .slice Aa l[j].it.length ca], .agg #[.bool l[j].leaf, .slice Ah l[j].it.length ch]] w' fun e w2 => e = .returned (.bool true) ∧ Ext w' w2 from by have h := ref04Same_any l[j].leaf l[j].leaf Aa Ah l[j].it l[j].it l[j].it.length l[j].it.length ca ch w' rfl rfl (HIA.out.ext hx) (HIH.out.ext hx); rw [HSM.out] at h; exact h))
          have HKR := Lib.hid (fun w' (hx : Ext wr w') => (show ((w'.cell? ⟨bh, oh + j * 4, none⟩ = some (.int .i64 l[j].ref) ∧ w'.cell? ⟨bh, oh + j * 4 + 1, none⟩ = some (.bool l[j].pin)) ∧ (w'.cell? ⟨bh, oh + j * 4 + 2, none⟩ = some (.bool l[j].leaf) ∧ w'.cell? ⟨bh, oh + j * 4 + 3, none⟩ = some (.slice Ah l[j].it.length ch))) ∧ ((w'.cell? ⟨b3, o3 + j * 4, none⟩ = some (.int .i64 (l[j].ref + (ct : Int))) ∧ w'.cell? ⟨b3, o3 + j * 4 + 1, none⟩ = some (.bool l[j].pin)) ∧ (w'.cell? ⟨b3, o3 + j * 4 + 2, none⟩ = some (.bool l[j].leaf) ∧ w'.cell? ⟨b3, o3 + j * 4 + 3, none⟩ = some (.slice Aa l[j].it.length ca))) from ⟨⟨⟨(hx.cell (p := ⟨bh, oh + j * 4, none⟩) hbh).trans x0, (hx.cell (p := ⟨bh, oh + j * 4 + 1, none⟩) hbh).trans x1⟩, (hx.cell (p := ⟨bh, oh + j * 4 + 2, none⟩) hbh).trans x2, (hx.cell (p := ⟨bh, oh + j * 4 + 3, none⟩) hbh).trans x4⟩, ⟨(hx.cell (p := ⟨b3, o3 + j * 4, none⟩) hba).trans y0, (hx.cell (p := ⟨b3, o3 + j * 4 + 1, none⟩) hba).trans y1⟩, (hx.cell (p := ⟨b3, o3 + j * 4 + 2, none⟩) hba).trans y2, (hx.cell (p := ⟨b3, o3 + j * 4 + 3, none⟩) hba).trans y4⟩))
          clear x0 x1 x2 x4 y0 y1 y2 y4 HIH HIA hrb hrg
          generalize l[j].it.length = mj at *
          generalize l[j].ref = rj at *
          generalize l[j].pin = pj at *
          generalize l[j].leaf = lj at *
          have E_20 := Lib.hid (Ext.refl wr)
          have HK21 := Lib.hid (fun w' (hx : Ext wr w') => (show w'.cell? ⟨w.heap.size, 0, none⟩ = some (.slice (some ⟨bh, oh, none⟩) n q) ∧ w'.cell? ⟨w.heap.size, 1, none⟩ = some (.int .i64 keep) ∧ w'.cell? ⟨w13.heap.size, 0, none⟩ = some (.slice (some ⟨b3, o3, none⟩) n d3) ∧ w'.cell? ⟨w13.heap.size, 1, none⟩ = some (.int .i64 keep) ∧ w'.cell? ⟨bh, oh + j * 4, none⟩ = some (.int .i64 rj) ∧ w'.cell? ⟨bh, oh + j * 4 + 1, none⟩ = some (.bool pj) ∧ w'.cell? ⟨bh, oh + j * 4 + 2, none⟩ = some (.bool lj) ∧ w'.cell? ⟨bh, oh + j * 4 + 3, none⟩ = some (.slice Ah mj ch) ∧ w'.cell? ⟨b3, o3 + j * 4, none⟩ = some (.int .i64 (rj + (ct : Int))) ∧ w'.cell? ⟨b3, o3 + j * 4 + 1, none⟩ = some (.bool pj) ∧ w'.cell? ⟨b3, o3 + j * 4 + 2, none⟩ = some (.bool lj) ∧ w'.cell? ⟨b3, o3 + j * 4 + 3, none⟩ = some (.slice Aa mj ca) from ⟨(h_19.out.ext hx).at 0 _ rfl, (h_19.out.ext hx).at 1 _ rfl, (a_19.out.ext hx).at 0 _ rfl, (a_19.out.ext hx).at 1 _ rfl, (HKR.out _ (E_20.out.ext hx)).1.1.1, (HKR.out _ (E_20.out.ext hx)).1.1.2, (HKR.out _ (E_20.out.ext hx)).1.2.1, (HKR.out _ (E_20.out.ext hx)).1.2.2, (HKR.out _ (E_20.out.ext hx)).2.1.1, (HKR.out _ (E_20.out.ext hx)).2.1.2, (HKR.out _ (E_20.out.ext hx)).2.2.1, (HKR.out _ (E_20.out.ext hx)).2.2.2⟩))
          have G21_0 := Lib.hid (fun w' (hx : Ext wr w') => HSC.out w' (E_20.out.ext hx))
          clear qh0 qh1 zh qn0 qn1 zn qa0 qa1 za
          have qh0 : wr.cell? ⟨w.heap.size, 0, none⟩ = some (.slice (some ⟨bh, oh, none⟩) n q) := h_19.out.at 0 _ rfl
          have qh1 : wr.cell? ⟨w.heap.size, 1, none⟩ = some (.int .i64 keep) := h_19.out.at 1 _ rfl
          have zh := h_19.out.lt
          have qa0 : wr.cell? ⟨w13.heap.size, 0, none⟩ = some (.slice (some ⟨b3, o3, none⟩) n d3) := a_19.out.at 0 _ rfl
          have qa1 : wr.cell? ⟨w13.heap.size, 1, none⟩ = some (.int .i64 keep) := a_19.out.at 1 _ rfl
          have za := a_19.out.lt
          go_region_held3 (fun w' => w'.cell? ⟨w.heap.size, 0, none⟩ = some (.slice (some ⟨bh, oh, none⟩) n q) ∧ w'.cell? ⟨w.heap.size, 1, none⟩ = some (.int .i64 keep) ∧ w'.cell? ⟨w13.heap.size, 0, none⟩ = some (.slice (some ⟨b3, o3, none⟩) n d3) ∧ w'.cell? ⟨w13.heap.size, 1, none⟩ = some (.int .i64 keep) ∧ w'.cell? ⟨bh, oh + j * 4, none⟩ = some (.int .i64 rj) ∧ w'.cell? ⟨bh, oh + j * 4 + 1, none⟩ = some (.bool pj) ∧ w'.cell? ⟨bh, oh + j * 4 + 2, none⟩ = some (.bool lj) ∧ w'.cell? ⟨bh, oh + j * 4 + 3, none⟩ = some (.slice Ah mj ch) ∧ w'.cell? ⟨b3, o3 + j * 4, none⟩ = some (.int .i64 (rj + (ct : Int))) ∧ w'.cell? ⟨b3, o3 + j * 4 + 1, none⟩ = some (.bool pj) ∧ w'.cell? ⟨b3, o3 + j * 4 + 2, none⟩ = some (.bool lj) ∧ w'.cell? ⟨b3, o3 + j * 4 + 3, none⟩ = some (.slice Aa mj ca))
            (first | exact HK21.out _ E21_0.out | exact HK21.out _ (Ext.refl wr).drew | exact HK21.out _ (Ext.refl wr))
            (first
              | ((go_at_call 31
                  with_reducible refine (G21_0.out _ ?_).mono ?_
                  (first | exact Ext.refl _ | exact (Ext.refl _).drew)
                  rintro e v21_0 ⟨rfl, hx⟩
                  have E21_0 := Lib.hid (show Ext wr v21_0 from by first | exact hx | exact (Ext.refl wr).drew.trans hx)
                  clear hx)))
          clear qh0 qh1 zh qa0 qa1 za
          go_wp2_with fail
          go_roundw
          case rel => exact ⟨j + 1, by omega, by go_num, HXR.out.trans E21_0.out⟩
          case measure => simp [intOf] <;> omega
      · go_wp2_with (go_at_call 33; refine HIN.out.mono ?_; rintro e w7 ⟨rfl, rfl⟩)
        go_loop [12, 14] (fun a b => a = .int .i64 0 ∧ b = .int .i64 0) (fun _ _ => 0)
        case atStart => exact ⟨rfl, rfl⟩
        case round =>
          obtain ⟨rfl, rfl⟩ := hrel
          go_wp2_with fail
          by_cases hjz : j = z
          · subst hjz
            clear HO9
            clear qh0 qh1 zh qn0 qn1 zn qa0 qa1 za
            have qh0 : wr.cell? ⟨w.heap.size, 0, none⟩ = some (.slice (some ⟨bh, oh, none⟩) n q) := h_19.out.at 0 _ rfl
            have qh1 : wr.cell? ⟨w.heap.size, 1, none⟩ = some (.int .i64 keep) := h_19.out.at 1 _ rfl
            have zh := h_19.out.lt
            have qa0 : wr.cell? ⟨w13.heap.size, 0, none⟩ = some (.slice (some ⟨b3, o3, none⟩) n d3) := a_19.out.at 0 _ rfl
            have qa1 : wr.cell? ⟨w13.heap.size, 1, none⟩ = some (.int .i64 keep) := a_19.out.at 1 _ rfl
            have za := a_19.out.lt
            go_quiet (fail)
            go_wp2_with fail
            go_roundw
            case rel => exact ⟨j + 1, by omega, by go_num, HXR.out.drewN _⟩
            case measure => simp [intOf] <;> omega
          have e8 : ((j : Int) == (z : Int)) = false := beq_eq_false_iff_ne.2 (by omega)
          have e9 : ((j : Int) != (z : Int)) = true := bne_iff_ne.2 (by omega)
          have ho9 := HO9.out hjz
          rw [ho9] at y0 y1 y2 y4 HIA
          simp only [if_true] at y0 y1 y2 y4 HIA
          clear ho9 HO9 hjz
          have y0 : wr.cell? ⟨b3, o3 + j * 4, none⟩ = some (.int .i64 l[j].ref) := by simpa using y0
          have hwr9 : IntKind.i64.wrap (l[j].ref) = l[j].ref := by rw [IntKind.wrap_i64]; omega
          have HSM := Lib.hid (show sameN l[j].leaf l[j].it l[j].leaf l[j].it = true from sameN_iff.2 ⟨rfl, rfl⟩)
          have HSC := Lib.hid (fun w' (hx : Ext wr w') => (show Calls Try.prog 31 #[.agg #[.bool l[j].leaf, .slice Aa l[j].it.length ca], .agg #[.bool l[j].leaf, .slice Ah l[j].it.length ch]] w' fun e w2 => e = .returned (.bool true) ∧ Ext w' w2 from by have h := ref04Same_any l[j].leaf l[j].leaf Aa Ah l[j].it l[j].it l[j].it.length l[j].it.length ca ch w' rfl rfl (HIA.out.ext hx) (HIH.out.ext hx); rw [HSM.out] at h; exact h))
          have HKR := Lib.hid (fun w' (hx : Ext wr w') => (show ((w'.cell? ⟨bh, oh + j * 4, none⟩ = some (.int .i64 l[j].ref) ∧ w'.cell? ⟨bh, oh + j * 4 + 1, none⟩ = some (.bool l[j].pin)) ∧ (w'.cell? ⟨bh, oh + j * 4 + 2, none⟩ = some (.bool l[j].leaf) ∧ w'.cell? ⟨bh, oh + j * 4 + 3, none⟩ = some (.slice Ah l[j].it.length ch))) ∧ ((w'.cell? ⟨b3, o3 + j * 4, none⟩ = some (.int .i64 (l[j].ref)) ∧ w'.cell? ⟨b3, o3 + j * 4 + 1, none⟩ = some (.bool l[j].pin)) ∧ (w'.cell? ⟨b3, o3 + j * 4 + 2, none⟩ = some (.bool l[j].leaf) ∧ w'.cell? ⟨b3, o3 + j * 4 + 3, none⟩ = some (.slice Aa l[j].it.length ca))) from ⟨⟨⟨(hx.cell (p := ⟨bh, oh + j * 4, none⟩) hbh).trans x0, (hx.cell (p := ⟨bh, oh + j * 4 + 1, none⟩) hbh).trans x1⟩, (hx.cell (p := ⟨bh, oh + j * 4 + 2, none⟩) hbh).trans x2, (hx.cell (p := ⟨bh, oh + j * 4 + 3, none⟩) hbh).trans x4⟩, ⟨(hx.cell (p := ⟨b3, o3 + j * 4, none⟩) hba).trans y0, (hx.cell (p := ⟨b3, o3 + j * 4 + 1, none⟩) hba).trans y1⟩, (hx.cell (p := ⟨b3, o3 + j * 4 + 2, none⟩) hba).trans y2, (hx.cell (p := ⟨b3, o3 + j * 4 + 3, none⟩) hba).trans y4⟩))
          clear x0 x1 x2 x4 y0 y1 y2 y4 HIH HIA hrb hrg
          generalize l[j].it.length = mj at *
          generalize l[j].ref = rj at *
          generalize l[j].pin = pj at *
          generalize l[j].leaf = lj at *
          have E_22 := Lib.hid (Ext.refl wr)
          have HK23 := Lib.hid (fun w' (hx : Ext wr w') => (show w'.cell? ⟨w.heap.size, 0, none⟩ = some (.slice (some ⟨bh, oh, none⟩) n q) ∧ w'.cell? ⟨w.heap.size, 1, none⟩ = some (.int .i64 keep) ∧ w'.cell? ⟨w13.heap.size, 0, none⟩ = some (.slice (some ⟨b3, o3, none⟩) n d3) ∧ w'.cell? ⟨w13.heap.size, 1, none⟩ = some (.int .i64 keep) ∧ w'.cell? ⟨bh, oh + j * 4, none⟩ = some (.int .i64 rj) ∧ w'.cell? ⟨bh, oh + j * 4 + 1, none⟩ = some (.bool pj) ∧ w'.cell? ⟨bh, oh + j * 4 + 2, none⟩ = some (.bool lj) ∧ w'.cell? ⟨bh, oh + j * 4 + 3, none⟩ = some (.slice Ah mj ch) ∧ w'.cell? ⟨b3, o3 + j * 4, none⟩ = some (.int .i64 (rj)) ∧ w'.cell? ⟨b3, o3 + j * 4 + 1, none⟩ = some (.bool pj) ∧ w'.cell? ⟨b3, o3 + j * 4 + 2, none⟩ = some (.bool lj) ∧ w'.cell? ⟨b3, o3 + j * 4 + 3, none⟩ = some (.slice Aa mj ca) from ⟨(h_19.out.ext hx).at 0 _ rfl, (h_19.out.ext hx).at 1 _ rfl, (a_19.out.ext hx).at 0 _ rfl, (a_19.out.ext hx).at 1 _ rfl, (HKR.out _ (E_22.out.ext hx)).1.1.1, (HKR.out _ (E_22.out.ext hx)).1.1.2, (HKR.out _ (E_22.out.ext hx)).1.2.1, (HKR.out _ (E_22.out.ext hx)).1.2.2, (HKR.out _ (E_22.out.ext hx)).2.1.1, (HKR.out _ (E_22.out.ext hx)).2.1.2, (HKR.out _ (E_22.out.ext hx)).2.2.1, (HKR.out _ (E_22.out.ext hx)).2.2.2⟩))
          have G23_0 := Lib.hid (fun w' (hx : Ext wr w') => HSC.out w' (E_22.out.ext hx))
          clear qh0 qh1 zh qn0 qn1 zn qa0 qa1 za
          have qh0 : wr.cell? ⟨w.heap.size, 0, none⟩ = some (.slice (some ⟨bh, oh, none⟩) n q) := h_19.out.at 0 _ rfl
          have qh1 : wr.cell? ⟨w.heap.size, 1, none⟩ = some (.int .i64 keep) := h_19.out.at 1 _ rfl
          have zh := h_19.out.lt
          have qa0 : wr.cell? ⟨w13.heap.size, 0, none⟩ = some (.slice (some ⟨b3, o3, none⟩) n d3) := a_19.out.at 0 _ rfl
          have qa1 : wr.cell? ⟨w13.heap.size, 1, none⟩ = some (.int .i64 keep) := a_19.out.at 1 _ rfl
          have za := a_19.out.lt
          go_region_held3 (fun w' => w'.cell? ⟨w.heap.size, 0, none⟩ = some (.slice (some ⟨bh, oh, none⟩) n q) ∧ w'.cell? ⟨w.heap.size, 1, none⟩ = some (.int .i64 keep) ∧ w'.cell? ⟨w13.heap.size, 0, none⟩ = some (.slice (some ⟨b3, o3, none⟩) n d3) ∧ w'.cell? ⟨w13.heap.size, 1, none⟩ = some (.int .i64 keep) ∧ w'.cell? ⟨bh, oh + j * 4, none⟩ = some (.int .i64 rj) ∧ w'.cell? ⟨bh, oh + j * 4 + 1, none⟩ = some (.bool pj) ∧ w'.cell? ⟨bh, oh + j * 4 + 2, none⟩ = some (.bool lj) ∧ w'.cell? ⟨bh, oh + j * 4 + 3, none⟩ = some (.slice Ah mj ch) ∧ w'.cell? ⟨b3, o3 + j * 4, none⟩ = some (.int .i64 (rj)) ∧ w'.cell? ⟨b3, o3 + j * 4 + 1, none⟩ = some (.bool pj) ∧ w'.cell? ⟨b3, o3 + j * 4 + 2, none⟩ = some (.bool lj) ∧ w'.cell? ⟨b3, o3 + j * 4 + 3, none⟩ = some (.slice Aa mj ca))
            (first | exact HK23.out _ E23_0.out | exact HK23.out _ (Ext.refl wr).drew | exact HK23.out _ (Ext.refl wr))
            (first
              | ((go_at_call 31
                  with_reducible refine (G23_0.out _ ?_).mono ?_
                  (first | exact Ext.refl _ | exact (Ext.refl _).drew)
                  rintro e v23_0 ⟨rfl, hx⟩
                  have E23_0 := Lib.hid (show Ext wr v23_0 from by first | exact hx | exact (Ext.refl wr).drew.trans hx)
                  clear hx)))
          clear qh0 qh1 zh qa0 qa1 za
          go_wp2_with fail
          go_roundw
          case rel => exact ⟨j + 1, by omega, by go_num, HXR.out.trans E23_0.out⟩
          case measure => simp [intOf] <;> omega
    obtain rfl : n = j := by omega
    have dj : decide ((n : Int) < (n : Int)) = false := decide_eq_false (by omega)
    obtain ⟨_, A9, c9, g0, g1, _, _, _⟩ := (P_19.out).row (k := z) HZ3.out
    rw [HCELL.out] at g0 g1
    simp only at g0 g1
    clear hlt hj
    go_wp2_with fail
    go_ret
    exact ⟨rfl, X_19.out⟩
end Go.Proofs.Ytclpeeemnmhdcaa
