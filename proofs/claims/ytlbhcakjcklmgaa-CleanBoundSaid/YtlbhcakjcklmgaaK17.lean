/- The walk of Held of the reference of layer 8, where there are no tasks. -/
import Derived.Test.YtlbhcakjcklmgaaK16
namespace Go.Proofs.Ytlbhcakjcklmgaa
open Go.RowKit
attribute [local go_sem ↓] Go.wp_at_zero Go.wp_at_succ

theorem infoB1 : (Try.prog.info? 4).map (fun i => (i.zero, i.size, i.bytes)) = some (some (.bool false), 1, 1) := by kernel_rfl
def bo (b : Bool) : Value := .bool b
def rowF (n : Nat) (f : Nat → Bool) : List Value := (List.range n).map (fun k => bo (f k))
theorem rowF_len (n : Nat) (f : Nat → Bool) : (rowF n f).length = n := by unfold rowF; simp
theorem rowF_at {n : Nat} {f : Nat → Bool} {k : Nat} (hk : k < n) : (rowF n f)[k]? = some (.bool (f k)) := by unfold rowF; simp [hk, bo]
theorem rowF_congr {n : Nat} {f g : Nat → Bool} (h : ∀ k, k < n → f k = g k) : rowF n f = rowF n g := by
  unfold rowF
  exact List.map_congr_left (fun k hk => by rw [h k (List.mem_range.1 hk)])
theorem rowF_set {n : Nat} {f : Nat → Bool} {k : Nat} (_hk : k < n) (b : Bool) : (rowF n f).set k (.bool b) = rowF n (fun j => if j = k then b else f j) := by
  apply List.ext_getElem (by simp [rowF_len])
  intro j h1 h2
  by_cases h : k = j
  · subst h; simp [rowF, bo]
  · simp [rowF, bo, List.getElem_set_ne h, Ne.symm h]
theorem rowF_one (n : Nat) (f : Nat → Bool) : ∀ u ∈ rowF n f, u.oneCell' = true := by
  intro u hu
  unfold rowF at hu
  obtain ⟨k, _, rfl⟩ := List.mem_map.1 hu
  rfl
/-- A row of the call's own that holds what f says. -/
def OwnB (w : World) (B g n c : Nat) (f : Nat → Bool) : Prop := B ≤ g ∧ w.ownsRow B 4 1 (.slice (some ⟨g, 0, none⟩) n c) n (rowF n f)
theorem OwnB.read {w : World} {B g n c : Nat} {f : Nat → Bool} (h : OwnB w B g n c f) {k : Nat} (hk : k < n) : w.cell? ⟨g, k, none⟩ = some (.bool (f k)) := (h.2.cellAt k (by omega)).trans (rowF_at hk)
theorem OwnB.free {w : World} {B g n c : Nat} {f : Nat → Bool} (h : OwnB w B g n c f) (k : Nat) : w.frozen? ⟨g, k, none⟩ = false := own_free h.2 k
theorem OwnB.ext {w w' : World} {B g n c : Nat} {f : Nat → Bool} (h : OwnB w B g n c f) (hx : Ext w w') : OwnB w' B g n c f := ⟨h.1, own_ext h.2 hx⟩
theorem OwnB.congr {w : World} {B g n c : Nat} {f f' : Nat → Bool} (h : OwnB w B g n c f) (he : ∀ k, k < n → f k = f' k) : OwnB w B g n c f' := ⟨h.1, by rw [← rowF_congr he]; exact h.2⟩
theorem OwnB.set {w : World} {B g n c : Nat} {f : Nat → Bool} (h : OwnB w B g n c f) {k : Nat} (hk : k < n) (b : Bool) : OwnB (w.setCell ⟨g, k, none⟩ (.bool b)) B g n c (fun j => if j = k then b else f j) := ⟨h.1, by rw [← rowF_set hk]; exact own_set h.2 (by omega) _⟩
theorem OwnB.other {w : World} {B g n c : Nat} {f : Nat → Bool} (h : OwnB w B g n c f) {p : Addr} (hp : g ≠ p.block) (v : Value) : OwnB (w.setCell p v) B g n c f := ⟨h.1, ownsRow_setCell_other h.2 (by simp [Value.ownBlock, hp]) v⟩
theorem OwnB.lt {w : World} {B g n c : Nat} {f : Nat → Bool} (h : OwnB w B g n c f) : g < w.heap.size := (h.2.lt g rfl).2
theorem OwnB.base {w : World} {B B' g n c : Nat} {f : Nat → Bool} (h : OwnB w B g n c f) (hB : B' ≤ B) : OwnB w B' g n c f :=
  ⟨Nat.le_trans hB h.1, h.2.1, h.2.2.imp id (fun ⟨a, b, c, h1, h2, h3⟩ => ⟨a, b, c, h1, Nat.le_trans hB h2, h3⟩)⟩
def tellB (l : List HC) (p k : Nat) : Bool := decide (0 < (tellC (l.getD p HC.none)).count (k : Int))
theorem held_next (l : List HC) (root : Int) (d k : Nat) : heldB l root (d + 1) k = (heldB l root d k || (List.range l.length).any (fun p => heldB l root d p && tellB l p k)) := rfl
theorem any_range_succ (f : Nat → Bool) (p : Nat) : (List.range (p + 1)).any f = ((List.range p).any f || f p) := by
  rw [List.range_succ, List.any_append]; simp
theorem rowF_made (n : Nat) : (madeCells (Value.bool false).cells (n * 1)).toList = rowF n (fun _ => false) := by
  have hz : (Value.bool false).cells = #[.bool false] := by simp [Value.cells]
  rw [hz, Nat.mul_one]
  apply List.ext_getElem (by simp [rowF_len, size_madeCells])
  intro j h1 h2
  unfold rowF
  simp [madeCells, bo, Nat.mod_one]
theorem OwnB.made (w : World) (B n : Nat) (hB : B ≤ w.heap.size) (hn : n ≤ 90000) : OwnB (w.alloc (.cells (madeCells (Value.bool false).cells (n * 1)) 4)) B w.heap.size n n (fun _ => false) :=
  ⟨hB, by rw [← rowF_made]; exact World.ownsRow_lit (base := B) (e := 4) (size := 1) w _ n hB (by unfold maxLen; omega) (by rw [size_madeCells])⟩
set_option maxRecDepth 100000 in
set_option maxHeartbeats 3200000 in
theorem ref08Held_one (l : List HC) (hit : ∀ c ∈ l, c.it.length ≤ 90000) (hn : 1 ≤ l.length ∧ l.length ≤ 90000) (R : Option Addr) (n q : Nat) (keep : Int) (A : Option Addr) (c : Nat) (root : Int) (w : World) (hA : HcSl w R n q l) (hR : Sl w A 1 c ([root].map iv)) :
    Calls Try.prog 23 #[.agg #[.slice R n q, .int .i64 keep], .slice A 1 c, .slice none 0 0] w fun e w' => ∃ S d, e = .returned (.slice S n d) ∧ Sl w' S n d (rowF n (heldB l root 25)) ∧ Ext w w' := by
  have hnl := hA.1
  have hx0 := (Ext.refl w).alloc (.cells #[.slice R n q, .int .i64 keep] 24)
  have HX := Lib.hid hx0
  have HB := Lib.hid (Bx.new w #[.slice R n q, .int .i64 keep] 24)
  have HA := Lib.hid (hA.ext hx0)
  have HR := Lib.hid (hR.ext hx0)
  have HNL := Lib.hid hnl
  have HIT := Lib.hid hit
  obtain ⟨p0, p1, p2⟩ := HB.out.read2
  have hn1 : 1 ≤ n := by omega
  have hnn : n ≤ 90000 := by omega
  obtain ⟨i0, hi, hz0, hz1, hz2⟩ := info_parts infoB1
  have HI := Lib.hid hi
  have HZ0 := Lib.hid hz0
  have HZ1 := Lib.hid hz1
  have HZ2 := Lib.hid hz2
  clear hx0 hA hR hnl hit hn hi hz0 hz1 hz2
  go_enter Try.func23, Try.ntmps23
  go_wp2_with (at_make; refine stop_here ?_)
  refine stop_on ?_
  refine wpList_make_cap _ rfl _ _ 58 rfl 4 i0 _ Try.underlying58 HI.out HZ0.out _ _ _ _ n n rfl rfl (by omega) (by omega) (by omega) (by rw [HZ2.out]; omega) (by unfold maxLen; omega) ?_
  rw [HZ1.out]
  generalize hW : World.alloc w _ = W at *
  have HWS := Lib.hid (show W.heap.size = w.heap.size + 1 by rw [← hW, World.size_alloc])
  clear p0 p1 p2 hW
  have HO0 := Lib.hid (OwnB.made W (w.heap.size + 1) n (by have := HWS.out; omega) hnn)
  have HX0 := Lib.hid ((Ext.refl W).alloc (.cells (madeCells (Value.bool false).cells (n * 1)) 4))
  have HB0 := Lib.hid (HB.out.ext HX0.out)
  obtain ⟨p0, p1, p2⟩ := HB0.out.read2
  generalize hW' : World.alloc W _ = W' at *
  clear hW'
  obtain ⟨g, hg⟩ : ∃ g, W.heap.size = g := ⟨_, rfl⟩
  rw [hg] at HO0 HWS ⊢
  have hgs : w.heap.size < g := by have := HWS.out; omega
  have HG := Lib.hid hg
  clear hg
  go_wp2_with fail
  clear p0 p1 p2
  go_loopw [8] (fun i wr => ∃ j : Nat, j ≤ n ∧ i = .int .i64 j ∧ OwnB wr (w.heap.size + 1) g n n (fun k => decide (k < j) && heldB l root 0 k) ∧ Ext W wr ∧ Bx wr w.heap.size #[.slice R n q, .int .i64 keep]) (fun i _ => n - (intOf i).toNat)
  case atStart => exact ⟨0, Nat.zero_le _, rfl, HO0.out.congr (fun k _ => by simp), HX0.out, HB0.out⟩
  case round =>
    obtain ⟨j, hj, rfl, ho, hx, hb⟩ := hrel
    have HO := Lib.hid ho
    have HXR := Lib.hid hx
    have HBR := Lib.hid hb
    obtain ⟨p0, p1, p2⟩ := hb.read2
    rcases Nat.lt_or_ge j n with hlt | hlt
    · have hji : (j : Int) < (n : Int) := by omega
      have r0 := ho.read hlt
      have f0 := ho.free j
      have hgl := ho.lt
      have HC1 := Lib.hid (ref08outside_one A c root (j : Int) wr (HR.out.ext HXR.out))
      have hO2 := outR_le root (j : Int)
      have HBO := Lib.hid (show decide (0 < outR root (j : Int)) = heldB l root 0 j by
        unfold outR heldB
        by_cases h : root = (j : Int)
        · rw [if_pos h]; simp [h]
        · rw [if_neg h]; simp [Ne.symm h])
      have HON := Lib.hid (fun b (hb : b = heldB l root 0 j) => (ho.set hlt b).congr (f' := fun k => decide (k < j + 1) && heldB l root 0 k) (fun k _ => by
        by_cases h : k = j
        · subst h; simp [hb]
        · rw [if_neg h]
          congr 1
          rw [decide_eq_decide]; omega))
      have HXN := Lib.hid (fun v => hx.set (p := ⟨g, j, none⟩) (by rw [HG.out]; exact Nat.le_refl _) v)
      have HBN := Lib.hid (fun v => hb.set_other (p := ⟨g, j, none⟩) (by simp; omega) v)
      clear ho hx hb
      generalize outR root (j : Int) = o at *
      obtain ⟨b0, hb0⟩ : ∃ b0, decide (0 < o) = b0 := ⟨_, rfl⟩
      rw [hb0] at HBO
      go_wp2_with (go_at_call 34; refine HC1.out.mono ?_; rintro e w1 ⟨rfl, rfl⟩)
      go_roundw
      case rel => exact ⟨j + 1, by omega, by go_num, HON.out _ HBO.out, HXN.out _, HBN.out _⟩
      case measure => simp [intOf]; omega
    · obtain rfl : n = j := by omega
      have d1 : decide ((n : Int) < (n : Int)) = false := decide_eq_false (by omega)
      have HO1 := Lib.hid (ho.congr (f' := heldB l root 0) (fun k hk => by simp [hk]))
      clear ho hx hb HO
      go_wp2
      go_loopw [7, 9] (fun v i wr => ∃ (d g cc : Nat), d ≤ 25 ∧ i = .int .i64 d ∧ v = .slice (some ⟨g, 0, none⟩) n cc ∧ w.heap.size < g ∧ OwnB wr (w.heap.size + 1) g n cc (heldB l root d) ∧ Ext W wr ∧ Bx wr w.heap.size #[.slice R n q, .int .i64 keep]) (fun _ i _ => 25 - (intOf i).toNat)
      case atStart => exact ⟨0, g, n, by omega, rfl, rfl, hgs, HO1.out, HXR.out, HBR.out⟩
      case round =>
        clear HO0 HX0 HB0 HO1 HXR HBR HG HWS hgs p0 p1 p2
        obtain ⟨d, g, cc, hd, rfl, rfl, hgs, ho, hx, hb⟩ := hrel
        obtain ⟨p0, p1, p2⟩ := hb.read2
        rcases Nat.lt_or_ge d 25 with hld | hld
        · have hdi : (d : Int) < 25 := by omega
          have hgl := ho.lt
          have HND := Lib.hid (fun k => held_next l root d k)
          generalize hf : heldB l root d = f at *
          have HO := Lib.hid ho
          have HXR := Lib.hid hx
          have HBR := Lib.hid hb
          clear ho hx hb hf
          go_wp2_with (at_builtin; refine stop_here ?_)
          refine stop_on ?_
          refine wpList_app_sl _ rfl _ _ 58 rfl _ 4 (.bool false) 1 1 Try.underlying58 infoB1 rfl (by omega) _ 0 [] rfl (own_empty _ _ 1) _ n cc (rowF n f) rfl (by rw [rowF_len, Nat.mul_one]) (own_sl (HO.out.ext ((Ext.refl _).alloc _)).2) (rowF_one n f) (by unfold maxLen; omega) (by omega) (by simp) ?_
          intro A5 c5 w5 hown hg
          rw [List.nil_append, Nat.zero_add] at hown
          rw [Nat.zero_add]
          obtain ⟨g2, rfl, hg2⟩ := own_some hown hn1
          have hgne : g ≠ g2 := by omega
          have hgne' : g2 ≠ g := by omega
          have hgW : W.heap.size ≤ g2 := by have := HXR.out.size; omega
          have hgs2 : w.heap.size < g2 := by omega
          have HX5 := Lib.hid (show Ext wr w5 from Below.grown ((Ext.refl _).alloc _) hg (by simp) (by intro q hq; cases hq; exact Nat.le_refl _))
          have HO2 := Lib.hid (show OwnB w5 (w.heap.size + 1) g2 n c5 f from OwnB.base ⟨hg2, hown⟩ (by omega))
          have HO1 := Lib.hid (HO.out.ext HX5.out)
          have HXW := Lib.hid (HXR.out.trans HX5.out)
          have HB5 := Lib.hid (HBR.out.ext HX5.out)
          clear hown hg hg2 hgl HO HXR HBR HX5 p0 p1 p2
          obtain ⟨p0, p1, p2⟩ := HB5.out.read2
          go_wp2_with fail
          clear p0 p1 p2
          go_loopw [11] (fun i wr => ∃ p : Nat, p ≤ n ∧ i = .int .i64 p ∧ OwnB wr (w.heap.size + 1) g2 n c5 (fun k => f k || (List.range p).any (fun a => f a && tellB l a k)) ∧ OwnB wr (w.heap.size + 1) g n cc f ∧ Ext W wr ∧ Bx wr w.heap.size #[.slice R n q, .int .i64 keep]) (fun i _ => n - (intOf i).toNat)
          case atStart => exact ⟨0, Nat.zero_le _, rfl, HO2.out.congr (fun k _ => by simp), HO1.out, HXW.out, HB5.out⟩
          case round =>
            clear HO2 HO1 HXW HB5
            obtain ⟨p, hp, rfl, ho2, ho1, hx, hb⟩ := hrel
            obtain ⟨p0, p1, p2⟩ := hb.read2
            rcases Nat.lt_or_ge p n with hlp | hlp
            · have hpi : (p : Int) < (n : Int) := by omega
              have hpl : p < l.length := by rw [← HNL.out]; exact hlp
              have hTB := fun k => (show tellB l p k = decide (0 < (tellC l[p]).count (k : Int)) by unfold tellB; rw [List.getD_eq_getElem?_getD, List.getElem?_eq_getElem hpl]; rfl)
              have HTB := Lib.hid hTB
              have HTE := Lib.hid (fun (k : Nat) w' (hx : Ext W w') => ref08Tells_nil l p hpl (HIT.out l[p] (List.getElem_mem hpl)) R n q keep (k : Int) w' (HA.out.ext hx))
              have HAR := Lib.hid (fun k => any_range_succ (fun a => f a && tellB l a k) p)
              obtain ⟨G, hG⟩ : ∃ G : Nat → Bool, (fun k => f k || (List.range p).any (fun a => f a && tellB l a k)) = G := ⟨_, rfl⟩
              have HG := Lib.hid (fun k => congrFun hG.symm k)
              rw [hG] at ho2
              have HO2 := Lib.hid ho2
              have HO1 := Lib.hid ho1
              have HXW := Lib.hid hx
              have HB5 := Lib.hid hb
              have hcl := fun k => tell_le (HIT.out l[p] (List.getElem_mem hpl)) k
              have HCL := Lib.hid hcl
              clear ho2 ho1 hx hb hTB hG hcl
              generalize l[p] = cp at *
              clear hpl
              go_wp2_with fail
              clear p0 p1 p2
              go_loopw [12] (fun i wr => ∃ u : Nat, u ≤ n ∧ (f p = false → u = 0) ∧ i = .int .i64 u ∧ OwnB wr (w.heap.size + 1) g2 n c5 (fun k => G k || (decide (k < u) && tellB l p k)) ∧ OwnB wr (w.heap.size + 1) g n cc f ∧ Ext W wr ∧ Bx wr w.heap.size #[.slice R n q, .int .i64 keep]) (fun i _ => n - (intOf i).toNat)
              case atStart => exact ⟨0, Nat.zero_le _, fun _ => rfl, rfl, HO2.out.congr (fun k _ => by simp), HO1.out, HXW.out, HB5.out⟩
              case round =>
                clear HO2 HO1 HXW HB5
                obtain ⟨u, hu, hu0, rfl, ho2, ho1, hx, hb⟩ := hrel
                obtain ⟨p0, p1, p2⟩ := hb.read2
                have rp := ho1.read hlp
                have HO2 := Lib.hid ho2
                have HO1 := Lib.hid ho1
                have HXW := Lib.hid hx
                have HB5 := Lib.hid hb
                have hgl := ho1.lt
                obtain ⟨fp, hfp⟩ : ∃ b, f p = b := ⟨_, rfl⟩
                have HFP := Lib.hid hfp
                rw [hfp] at rp hu0
                clear ho1 hfp
                cases fp
                · obtain rfl := hu0 rfl
                  have hn0 : (0 : Int) < (n : Int) := by omega
                  have HON := Lib.hid (ho2.congr (f' := fun k => f k || (List.range (p + 1)).any (fun a => f a && tellB l a k)) (fun k _ => by rw [HAR.out, HG.out, HFP.out]; simp))
                  clear ho2 hx hb hu0 HO2
                  go_wp2
                  go_roundw
                  case rel => exact ⟨p + 1, by omega, by go_num, HON.out, HO1.out, HXW.out, HB5.out⟩
                  case measure => simp [intOf]; omega
                · rcases Nat.lt_or_ge u n with hlu | hlu
                  · have hui : (u : Int) < (n : Int) := by omega
                    have HTU := Lib.hid (HTE.out u wr hx)
                    have hct := HCL.out (u : Int)
                    have HBU := Lib.hid (HTB.out u)
                    generalize (tellC cp).count (u : Int) = t at *
                    clear ho2 hx hb hu0
                    by_cases ht : 0 < t
                    · have d2 : decide ((0 : Int) < (t : Int)) = true := decide_eq_true (by omega)
                      have d3 : decide (0 < t) = true := decide_eq_true ht
                      rw [d3] at HBU
                      go_wp2_with (go_at_call 35; refine HTU.out.mono ?_; rintro e w2 ⟨rfl, hx2⟩; have HX2 := Lib.hid hx2; have HO22 := Lib.hid (HO2.out.ext hx2); have r0 := HO22.out.read hlu; have f0 := HO22.out.free u; have hl2 := HO22.out.lt; clear hx2 p0 p1 p2 rp)
                      have HON := Lib.hid ((HO22.out.set hlu true).congr (f' := fun k => G k || (decide (k < u + 1) && tellB l p k)) (fun k _ => by
                        by_cases h : k = u
                        · subst h; simp [HBU.out]
                        · rw [if_neg h]
                          congr 2
                          rw [decide_eq_decide]; omega))
                      go_roundw
                      case rel => exact ⟨u + 1, by omega, (fun h => absurd (HFP.out.symm.trans h) (by simp)), by go_num, HON.out, (HO1.out.ext HX2.out).other hgne _, (HXW.out.trans HX2.out).set (p := ⟨g2, u, none⟩) hgW _, (HB5.out.ext HX2.out).set_other (p := ⟨g2, u, none⟩) (by simp; omega) _⟩
                      case measure => simp [intOf]; omega
                    · have d2 : decide ((0 : Int) < (t : Int)) = false := decide_eq_false (by omega)
                      have d3 : decide (0 < t) = false := decide_eq_false ht
                      rw [d3] at HBU
                      have HON := Lib.hid (HO2.out.congr (f' := fun k => G k || (decide (k < u + 1) && tellB l p k)) (fun k _ => by
                        by_cases h : k = u
                        · subst h; simp [HBU.out]
                        · congr 2
                          rw [decide_eq_decide]; omega))
                      go_wp2_with (go_at_call 35; refine HTU.out.mono ?_; rintro e w2 ⟨rfl, hx2⟩; have HX2 := Lib.hid hx2; clear hx2 p0 p1 p2 rp)
                      go_roundw
                      case rel => exact ⟨u + 1, by omega, (fun h => absurd (HFP.out.symm.trans h) (by simp)), by go_num, HON.out.ext HX2.out, HO1.out.ext HX2.out, HXW.out.trans HX2.out, HB5.out.ext HX2.out⟩
                      case measure => simp [intOf]; omega
                  · obtain rfl : n = u := by omega
                    have d2 : decide ((n : Int) < (n : Int)) = false := decide_eq_false (by omega)
                    have HON := Lib.hid (ho2.congr (f' := fun k => f k || (List.range (p + 1)).any (fun a => f a && tellB l a k)) (fun k hk => by rw [HAR.out, HG.out, HFP.out]; simp [hk, Bool.or_assoc]))
                    clear ho2 hx hb hu0 HO2
                    go_wp2
                    go_roundw
                    case rel => exact ⟨p + 1, by omega, by go_num, HON.out, HO1.out, HXW.out, HB5.out⟩
                    case measure => simp [intOf]; omega
            · obtain rfl : n = p := by omega
              have d2 : decide ((n : Int) < (n : Int)) = false := decide_eq_false (by omega)
              have HON := Lib.hid (ho2.congr (f' := heldB l root (d + 1)) (fun k _ => by rw [HND.out, HNL.out]))
              have HXW := Lib.hid hx
              have HB5 := Lib.hid hb
              clear ho1 ho2 hx hb
              go_wp2
              go_roundw
              case rel => exact ⟨d + 1, g2, c5, by omega, by go_num, rfl, hgs2, HON.out, HXW.out, HB5.out⟩
              case measure => simp [intOf]; omega
        · obtain rfl : d = 25 := by omega
          have HO := Lib.hid (own_sl ho.2)
          have HXR := Lib.hid hx
          clear ho hx hb hld
          go_wp2
          go_ret
          exact ⟨_, cc, rfl, HO.out, HX.out.trans HXR.out⟩
end Go.Proofs.Ytlbhcakjcklmgaa
