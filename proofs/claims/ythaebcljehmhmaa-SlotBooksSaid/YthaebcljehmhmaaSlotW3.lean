/- Walk of Print of package slot. -/
import Derived.Test.YthaebcljehmhmaaSlotW2
import Derived.Lib.SlBytesConst
namespace Go.Proofs.Ythaebcljehmhmaa
open Go.RowKit

theorem Bx.grown {w w' : World} {k : Nat} {cs : Array Value} {row : Option Nat} (h : Bx w k cs) (hg : w.grownBy w' row) (hne : row ≠ some k) : Bx w' k cs := by
  have hk := h.lt
  obtain ⟨t, h⟩ := h
  obtain ⟨_, _, _, _, hh⟩ := hg
  exact ⟨t, (hh k hk (Ne.symm hne)).trans h⟩
/-- A row of bytes isn't a box of numbers. -/
theorem own_ne {w : World} {B n c : Nat} {A : Option Addr} {u : UInt8} {l : List UInt8} {k : Nat} {x : Int} {cs : Array Value} (h : w.ownsRow B 5 1 (.slice A n c) n ((u :: l).map bv)) (hb : Bx w k cs) (hx : cs[0]? = some (.int .i64 x)) :
    (Value.slice A n c).ownBlock ≠ some k := by
  intro e
  rcases h.2 with ⟨e1, h0⟩ | ⟨g, cap', cur, e1, hg, hh, hnc, hcm, _⟩
  · cases e1; cases e
  · cases e1
    cases e
    have h1 := h.cellAt 0 (by have := h.1; simp at this ⊢; omega)
    rw [hb.at 0 _ hx] at h1
    simp [bv] at h1
def supP (x : Sup) : Nat → List UInt8
  | 0 => [97, 115]
  | 1 => [97, 115] ++ putL x.g.toNat 4
  | 2 => [97, 115] ++ putL x.g.toNat 4 ++ putL x.z.toNat 4
  | _ => [97, 115] ++ putL x.g.toNat 4 ++ putL x.z.toNat 4 ++ putL x.s.toNat 4

/-- append of bytes onto a row of bytes that is full, whoever owns it: a new row. -/
theorem app_full (w : World) {ops : Array Oper} {rest : List Oper} {o : Oper} {a : Act} {Q : Exit → Act → World → Prop} (hgd : o.guard = none) (s x : Operand)
    (ho : o.op = .call { callee := .builtin .append, args := #[s, x], argTypes := #[24, 24] })
    (ad : Addr) (n c : Nat) (l : List UInt8) (hs : a.eval s = .slice (some ad) n c) (hc0 : Cells w (some ad) (l.map bv)) (hln : l.length = n)
    (A : Option Addr) (m cx : Nat) (k : List UInt8) (hx : a.eval x = .slice A m cx) (hl : k.length = m) (hk : Cells w A (k.map bv)) (hm : 0 < m) (hn : 0 < n)
    (hfull : c < n + m) (hsz : n + m ≤ 100000)
    (h : ∀ A' c' w', w'.ownsRow w.heap.size 5 1 (.slice A' (n + m) c') (n + m) ((l ++ k).map bv) → Ext w w' → wpList Try.prog ops Q rest (a.put o.dst (.slice A' (n + m) c')) w') : wpList Try.prog ops Q (o :: rest) a w := by
  obtain ⟨i0, hi, hz0, hz1, hz2⟩ := info_parts info5
  subst hl hln
  obtain ⟨ad', he, h0⟩ := hc0.some_ (by simpa using hn)
  cases he
  obtain ⟨ad2, rfl, h1⟩ := hk.some_ (by simpa using hm)
  refine wpList_plain hgd fun K hK => ?_
  have hr := run_append_grow (P := Try.prog) w 24 o.type 5 i0 (.int .u8 0) Try.underlying24 hi hz0 ad l.length c (l.map bv) (by simp [hz1]) h0 ad2 k.length cx (k.map bv) (by simp [hz1]) h1 hfull (by omega) (growslice_fits (by omega) (by rw [hz2]; omega))
  unfold Oper.wp execOp
  simp only [ho, resolve, invoke, builtin, Sem.run_bind, Sem.run_pure, Result.andThen_ok, List.map_toArray, List.map_cons, List.map_nil, hs, hx, hr]
  refine hK _ _ (h _ _ _ ?_ ?_)
  · have hge := grownCap_ge w (l.length + k.length) c 5
    have hcm : grownCap w (l.length + k.length) c 5 ≤ maxLen := grownCap_le_maxLen w _ c 5 (by unfold maxLen; omega)
    refine ⟨by simp, .inr ⟨w.heap.size, _, _, rfl, Nat.le_refl _, heap_alloc_new w.drew _, hge, hcm, ?_, ?_⟩⟩
    · have hzc : (Value.int .u8 0).cells.size = 1 := rfl
      simp only [Array.size_append, List.size_toArray, size_zeroCells, hzc, List.length_map]; omega
    · simp only [Array.toList_append, List.map_append]
      exact List.take_left' (by simp)
  · exact (Ext.refl w).drew.alloc _
theorem lit2 (w : World) : Cells (w.alloc (.cells #[.int .u8 97, .int .u8 115] 5 (2, 3))) (some ⟨w.heap.size, 0, none⟩) (([97, 115] : List UInt8).map bv) := fun _ => by
  refine ⟨_, 0, rfl, by simp, fun j u hu => ?_⟩
  rw [Nat.zero_add, cell_of_row _ _ j #[.int .u8 97, .int .u8 115] 5 (2, 3) (heap_alloc_new w _), ← hu]
  have hj := (List.getElem?_eq_some_iff.1 hu).1
  simp at hj
  rcases (by omega : j = 0 ∨ j = 1) with rfl | rfl <;> rfl
theorem own_mono {w : World} {B C n c : Nat} {A : Option Addr} {xs : List Value} (h : w.ownsRow C 5 1 (.slice A n c) n xs) (hB : B ≤ C) : w.ownsRow B 5 1 (.slice A n c) n xs := by
  refine ⟨h.1, ?_⟩
  rcases h.2 with e | ⟨g, cap, cur, e, hg, r⟩
  · exact .inl e
  · exact .inr ⟨g, cap, cur, e, Nat.le_trans hB hg, r⟩
/-- How the row stands ahead of the round k. -/
def supSt (B : Nat) (g z s : Int) (L : Addr) (k : Nat) (v : Value) (w : World) : Prop :=
  (k = 0 ∧ v = .slice (some L) 2 2 ∧ Cells w (some L) (([97, 115] : List UInt8).map bv)) ∨
  (1 ≤ k ∧ ∃ A c, v = .slice A (2 + 4 * k) c ∧ w.ownsRow B 5 1 (.slice A (2 + 4 * k) c) (2 + 4 * k) ((supP ⟨g, z, s⟩ k).map bv))
set_option maxRecDepth 100000 in
set_option maxHeartbeats 2000000 in
theorem slotPrint_any (g z s : Int) (w : World) :
    Calls Try.prog 9 #[.agg #[.int .i64 g, .int .i64 z, .int .i64 s]] w fun e w' => e = .returned (.tuple #[.string (supB ⟨g, z, s⟩), .int .i64 (supE ⟨g, z, s⟩)]) ∧ Ext w w' := by
  unfold supB supE
  cases hs : supR ⟨g, z, s⟩
  · have HS := Lib.hid hs
    go_enter Try.func9, Try.ntmps9
    go_wp2_with (go_at_call 17; refine (slotRight_any _ _ _ _).mono ?_; rintro e w1 ⟨rfl, hx⟩; simp only [HS.out]; have HX := Lib.hid (((Ext.refl w).alloc _).trans hx); clear hx)
    go_ret2
    exact ⟨rfl, HX.out⟩
  · obtain ⟨⟨g1, g2⟩, ⟨z1, z2⟩, s1, s2⟩ := (supR_iff _).1 hs
    simp only at g1 g2 z1 z2 s1 s2
    have HS := Lib.hid hs
    clear hs
    have kc := fun (w : World) (C : Array Value) (n c : Nat) => Lib.run_convert_bytes_const (P := Try.prog) w 24 5 C n c Try.underlying24 Try.underlying5
    go_enter Try.func9, Try.ntmps9
    go_wp2_with (first
      | (go_at_call 17; refine (slotRight_any _ _ _ _).mono ?_; rintro e w1 ⟨rfl, hx⟩; simp only [HS.out]; have HX := Lib.hid (((Ext.refl w).alloc _).trans hx); have hb0 := (Bx.new w #[.int .i64 g, .int .i64 z, .int .i64 s] 23).ext hx; obtain ⟨r0, r1, r2⟩ := hb0.read3; have r3 := hb0.lt; clear hx hb0)
      | (go_at_call 19; refine (slotNumbers_any _ _ _ _).mono ?_; rintro e w2 ⟨rfl, hx⟩; have HX1 := Lib.hid hx; clear hx))
    generalize hW : (World.alloc w2 _) = W
    obtain ⟨hx, hb⟩ := allocs1 hW
    have HX2 := Lib.hid (show Ext w W from HX.out.trans (((Ext.refl w1).alloc _).trans (HX1.out.trans hx)))
    have HB := Lib.hid hb
    have HL := Lib.hid (show Cells W (some ⟨w1.heap.size, 0, none⟩) (([97, 115] : List UInt8).map bv) from (lit2 w1).ext (HX1.out.trans hx))
    clear hx hb hW r0 r1 r2 r3 HX HX1
    go_loopw [4, 14] (fun v i wr => ∃ k : Nat, k ≤ 3 ∧ i = .int .i64 k ∧ supSt w.heap.size g z s ⟨w1.heap.size, 0, none⟩ k v wr ∧ Ext w wr ∧ Bx wr w2.heap.size #[.int .i64 g, .int .i64 z, .int .i64 s]) (fun _ i _ => 3 - (intOf i).toNat)
    case atStart => exact ⟨0, by omega, rfl, .inl ⟨rfl, rfl, HL.out⟩, HX2.out, HB.out⟩
    case round =>
      obtain ⟨k, hk, rfl, hst, hxr, hbr⟩ := hrel
      have HXR := Lib.hid hxr
      have HBR := Lib.hid hbr
      have HST := Lib.hid hst
      obtain ⟨r0, r1, r2⟩ := hbr.read3
      have r3 := hbr.lt
      clear hst hxr hbr
      have hk3 : k = 0 ∨ k = 1 ∨ k = 2 ∨ k = 3 := by omega
      rcases hk3 with rfl | rfl | rfl | rfl
      · have HP := Lib.hid (fun w' => numPut_n g w' (by omega) (by omega))
        obtain ⟨-, rfl, hl⟩ | ⟨h, _⟩ := HST.out
        rotate_left
        · omega
        have HC := Lib.hid hl
        clear hl HST
        go_wp2_with (first | (at_builtin; refine stop_here ?_) | (go_at_call 20; refine (HP.out _).mono ?_; rintro e w3 ⟨A', cap', rfl, hS, hx⟩; have HS3 := Lib.hid hS; have HX3 := Lib.hid hx; clear hS hx))
        refine stop_on ?_
        refine app_full _ rfl _ _ rfl ⟨w1.heap.size, 0, none⟩ 2 2 [97, 115] rfl (HC.out.ext HX3.out) rfl A' 4 cap' (putL g.toNat 4) rfl (putL_length 4 _) HS3.out.cells (by omega) (by omega) (by omega) (by omega) ?_
        intro A4 c4 w4 hown hx4
        have HX4 := Lib.hid (HXR.out.trans (HX3.out.trans hx4))
        have HB4 := Lib.hid (HBR.out.ext (HX3.out.trans hx4))
        have HO4 := Lib.hid (own_mono hown (show w.heap.size ≤ w3.heap.size by have := HXR.out.size; have := HX3.out.size; omega))
        clear hown hx4 HC HBR HXR HS3 HX3
        go_wp2
        go_roundw
        case rel => exact ⟨1, by omega, by go_num, .inr ⟨by omega, A4, c4, rfl, HO4.out⟩, HX4.out, HB4.out⟩
        case measure => simp [intOf]
      · have HP := Lib.hid (fun w' => numPut_n z w' (by omega) (by omega))
        obtain ⟨h, _⟩ | ⟨-, A, c, rfl, ho⟩ := HST.out
        · omega
        have HO := Lib.hid ho
        clear ho HST
        go_wp2_with (first | (at_builtin; refine stop_here ?_) | (go_at_call 20; refine (HP.out _).mono ?_; rintro e w3 ⟨A', cap', rfl, hS, hx⟩; have HS3 := Lib.hid hS; have HX3 := Lib.hid hx; clear hS hx))
        refine stop_on ?_
        refine app_bytes _ rfl _ _ rfl w.heap.size _ 6 (supP ⟨g, z, s⟩ 1) rfl (own_below HO.out HX3.out) A' 4 cap' (putL z.toNat 4) rfl (putL_length 4 _) HS3.out.1 HS3.out.cells (by omega) (by have := HXR.out.size; have := HX3.out.size; omega) ?_
        intro A4 c4 w4 hown hg4
        have HX4 := Lib.hid (show Ext w w4 from Below.grown (HXR.out.trans HX3.out) hg4 (by have := HXR.out.size; have := HX3.out.size; omega) (fun q hq => ((own_below HO.out HX3.out).lt q hq).1))
        have HB4 := Lib.hid ((HBR.out.ext HX3.out).grown hg4 (own_ne (u := 97) (own_below HO.out HX3.out) (HBR.out.ext HX3.out) rfl))
        have HO4 := Lib.hid hown
        clear hown hg4 HO HBR HXR HS3 HX3
        go_wp2
        go_roundw
        case rel => exact ⟨2, by omega, by go_num, .inr ⟨by omega, A4, c4, rfl, HO4.out⟩, HX4.out, HB4.out⟩
        case measure => simp [intOf]
      · have HP := Lib.hid (fun w' => numPut_n s w' (by omega) (by omega))
        obtain ⟨h, _⟩ | ⟨-, A, c, rfl, ho⟩ := HST.out
        · omega
        have HO := Lib.hid ho
        clear ho HST
        go_wp2_with (first | (at_builtin; refine stop_here ?_) | (go_at_call 20; refine (HP.out _).mono ?_; rintro e w3 ⟨A', cap', rfl, hS, hx⟩; have HS3 := Lib.hid hS; have HX3 := Lib.hid hx; clear hS hx))
        refine stop_on ?_
        refine app_bytes _ rfl _ _ rfl w.heap.size _ 10 (supP ⟨g, z, s⟩ 2) rfl (own_below HO.out HX3.out) A' 4 cap' (putL s.toNat 4) rfl (putL_length 4 _) HS3.out.1 HS3.out.cells (by omega) (by have := HXR.out.size; have := HX3.out.size; omega) ?_
        intro A4 c4 w4 hown hg4
        have HX4 := Lib.hid (show Ext w w4 from Below.grown (HXR.out.trans HX3.out) hg4 (by have := HXR.out.size; have := HX3.out.size; omega) (fun q hq => ((own_below HO.out HX3.out).lt q hq).1))
        have HB4 := Lib.hid ((HBR.out.ext HX3.out).grown hg4 (own_ne (u := 97) (own_below HO.out HX3.out) (HBR.out.ext HX3.out) rfl))
        have HO4 := Lib.hid hown
        clear hown hg4 HO HBR HXR HS3 HX3
        go_wp2
        go_roundw
        case rel => exact ⟨3, by omega, by go_num, .inr ⟨by omega, A4, c4, rfl, HO4.out⟩, HX4.out, HB4.out⟩
        case measure => simp [intOf]
      · obtain ⟨h, _⟩ | ⟨-, A, c, rfl, ho⟩ := HST.out
        · omega
        have HSL := Lib.hid (own_sl ho)
        clear ho HST
        have HV := Lib.hid (numSeal_n A (supL ⟨g, z, s⟩) 14 c wr (by rw [supL_length]) (by omega) HSL.out)
        go_wp2_with (go_at_call 21; refine HV.out.mono ?_; rintro e w3 ⟨rfl, hx⟩; have HX4 := Lib.hid (HXR.out.trans hx); clear hx)
        go_ret2
        exact ⟨rfl, HX4.out⟩
end Go.Proofs.Ythaebcljehmhmaa
