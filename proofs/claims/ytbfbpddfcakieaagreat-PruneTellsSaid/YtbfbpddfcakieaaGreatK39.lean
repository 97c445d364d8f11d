/- The walk of Lay of the reference of layer 9. How far Refs rise where rows are laid; the walk of anew of the reference of layer 9, of a leaf. -/
import Derived.Test.YtbfbpddfcakieaaGreatK37
import Derived.Test.YtbfbpddfcakieaaGreatK12
import Derived.Test.YtbfbpddfcakieaaGreatK38
import Derived.Test.YtbfbpddfcakieaaGreatK19
namespace Go.Proofs.YtbfbpddfcakieaaGreat
open Go.RowKit
attribute [local go_sem ↓] Go.wp_at_zero Go.wp_at_succ

theorem lay_snoc (leaf : Bool) (held : List Int) (r : List It) : ∀ (a : List (List It)) (c : List HC), layS leaf held (a ++ [r]) c = (allocL (layS leaf held a c).1 leaf r held, (layS leaf held a c).2 ++ [(firstK r, (allocP (layS leaf held a c).1 leaf r : Int))])
  | [], c => rfl
  | x :: a, c => by
    show layS leaf held (x :: (a ++ [r])) c = _
    rw [layS, lay_snoc leaf held r a]
    rfl
theorem lay_take {leaf : Bool} {held : List Int} {rows : List (List It)} {c : List HC} {j : Nat} (hj : j < rows.length) : layS leaf held (rows.take (j + 1)) c = (allocL (layS leaf held (rows.take j) c).1 leaf rows[j] held, (layS leaf held (rows.take j) c).2 ++ [(firstK rows[j], (allocP (layS leaf held (rows.take j) c).1 leaf rows[j] : Int))]) := by
  rw [List.take_succ_eq_append_getElem hj, lay_snoc]
theorem RowsSl.row' {w : World} {R : Option Addr} {m q : Nat} {rows : List (List It)} (h : RowsSl w R m q rows) {k : Nat} (hk : k < rows.length) :
    ∃ b off, R = some ⟨b, off, none⟩ ∧ b < w.heap.size ∧ ∃ A c, w.cell? ⟨b, off + k, none⟩ = some (.slice A rows[k].length c) ∧ Sl w A rows[k].length c (ivs rows[k]) := by
  obtain ⟨h1, cs, h2, h3⟩ := h
  obtain ⟨A, c, h4, h5⟩ := h3.2 k hk
  have hne : cs ≠ [] := by intro e; subst e; simp at h4
  obtain ⟨b, off, rfl, hb, hc⟩ := h2.cells hne
  exact ⟨b, off, rfl, hb, A, c, hc k _ h4, h5⟩
set_option maxRecDepth 100000 in
set_option maxHeartbeats 3200000 in
theorem ref09Lay_any (R : Option Addr) (l : List HC) (n q : Nat) (keep : Int) (leaf : Bool) (P : Option Addr) (rows : List (List It)) (m c : Nat) (H : Option Addr) (held : List Int) (t d : Nat) (w : World) (hb : n ≤ 90000) (hmb : m ≤ 90000)
    (hbd : ∀ j, j ≤ rows.length → ∀ k (hk : k < (layS leaf held (rows.take j) l).1.length), (layS leaf held (rows.take j) l).1[k].ref ≤ 8000000000000000000) (hne : ∀ j (hj : j < rows.length), 1 ≤ rows[j].length)
    (hA : HcSl w R n q l) (hP : RowsSl w P m c rows) (ht : t = held.length) (hH : Sl w H t d (held.map iv)) :
    Calls Tryz.prog 55 #[.agg #[.slice R n q, .int .i64 keep], .bool leaf, .slice P m c, .slice H t d] w fun e w' => ∃ S d O z, e = .returned (.tuple #[.agg #[.slice S n d, .int .i64 keep], .slice O m z]) ∧ HcSl w' S n d (layS leaf held rows l).1 ∧ Sl w' O m z (ivs (layS leaf held rows l).2) ∧ Ext w w' := by
  obtain ⟨W, hW⟩ : ∃ W, W = (w.alloc (.cells #[.slice R n q, .int .i64 keep] 24)).alloc (.cells #[.slice none 0 0, .int .i64 0] 24) := ⟨_, rfl⟩
  obtain ⟨hx, hb0, hb1⟩ := allocs2 hW.symm
  have hsz : W.heap.size = w.heap.size + 1 + 1 := by rw [hW]; simp
  have HSZ := Lib.hid hsz
  have HX := Lib.hid hx
  have HB0 := Lib.hid hb0
  have HB1 := Lib.hid hb1
  have HM := Lib.hid hP.1
  have HA := Lib.hid ((HcO.of hA).ext hx)
  have HRB := Lib.hid (show 0 < n → ∀ p, R = some p → p.block < W.heap.size from fun hl p hp => by
    obtain ⟨b, off, e, hb, _⟩ := hA.cell (k := 0) (by rw [← hA.1]; exact hl)
    rw [hp] at e; cases e
    have := hx.size
    simp only; omega)
  have HP := Lib.hid hP
  have HH := Lib.hid hH
  have HT := Lib.hid ht
  have HBD := Lib.hid hbd
  have HNE := Lib.hid hne
  clear hx hb0 hb1 hA hbd hsz hP hH ht hne
  subst hW
  go_enter Tryz.func55, Tryz.ntmps55
  go_wp2_with fail
  generalize hW : World.alloc (World.alloc w _) _ = W at *
  clear hW
  go_loopw [10, 11] (fun v i wr => ∃ (j : Nat) (S : Option Addr) (d : Nat) (O : Option Addr) (z : Nat), j ≤ m ∧ i = .int .i64 j ∧ v = .slice O j z ∧ wr.ownsRow W.heap.size 46 2 (.slice O j z) j (ivs (layS leaf held (rows.take j) l).2) ∧ Ext w wr ∧ Bx wr w.heap.size #[.slice S n d, .int .i64 keep] ∧ Bx wr (w.heap.size + 1) #[.slice none 0 0, .int .i64 0] ∧ HcO w w R wr S n d (layS leaf held (rows.take j) l).1 ∧ (O = none ∨ 1 ≤ j)) (fun _ i _ => m - (intOf i).toNat)
  case atStart => exact ⟨0, R, q, none, 0, Nat.zero_le _, rfl, rfl, ⟨rfl, .inl ⟨rfl, rfl⟩⟩, HX.out, HB0.out, HB1.out, HA.out, .inl rfl⟩
  case round =>
    obtain ⟨j, S, d1, O, z, hj, rfl, rfl, ho, hx, hb0, hb1, hs, hoj⟩ := hrel
    have HOJ := Lib.hid hoj
    have HO := Lib.hid ho
    have HXR := Lib.hid hx
    have HC0 := Lib.hid hb0
    have HC1 := Lib.hid hb1
    have HS := Lib.hid hs
    clear hoj
    obtain ⟨p0, p1, p2⟩ := hb0.read2
    obtain ⟨f0, f1⟩ := hb0.free2
    rcases Nat.lt_or_ge j m with hlt | hlt
    · have hjl : j < rows.length := by rw [← HM.out]; exact hlt
      have hji : (j : Int) < (m : Int) := by omega
      obtain ⟨b, off, rfl, hbl, A, c1, rw0, hI⟩ := HP.out.row' hjl
      have hxw := hx
      have r0 := (hxw.cell (p := ⟨b, off + j, none⟩) hbl).trans rw0
      obtain ⟨b2, off2, rfl, hbl2, k0w, -⟩ := it_at hI (HNE.out j hjl)
      rw [Nat.zero_mul, Nat.add_zero] at k0w
      have k0 := (hxw.cell (p := ⟨b2, off2, none⟩) hbl2).trans k0w
      have HI := Lib.hid hI
      have HRT := Lib.hid (lay_take (leaf := leaf) (held := held) (c := l) hjl)
      have hfk : firstK rows[j] = (rows[j][0]'(HNE.out j hjl)).1 := firstK_at (HNE.out j hjl)
      rw [← hfk] at k0
      have hnj := HNE.out j hjl
      have HBJ := Lib.hid (HBD.out j (by omega))
      have hws := hxw.size
      clear hb0 hb1 hs ho hI rw0 k0w hfk hx
      generalize rows[j] = row at *
      generalize (layS leaf held (rows.take j) l).1 = lj at *
      generalize (layS leaf held (rows.take j) l).2 = oj at *
      obtain ⟨lr, hlr⟩ : ∃ lr, row.length = lr := ⟨_, rfl⟩
      have HLR := Lib.hid hlr
      rw [hlr] at r0 hnj
      clear hlr
      generalize hfk : firstK row = fk at *
      have HAL := Lib.hid (fun w' (hx : Ext wr w') => ref05Alloc_own w S lj n d1 keep leaf (some ⟨b2, off2, none⟩) row lr c1 H held t d w' hb HBJ.out (HXR.out.trans hx) ((HS.out.again w').ext hx) HLR.out.symm (by rw [← HLR.out]; exact HI.out) HT.out (HH.out.ext (HXR.out.trans hx)))
      generalize (allocP lj leaf row : Nat) = ap at *
      generalize allocE lj leaf row = ae at *
      clear hfk hxw
      have hblr : b < wr.heap.size := by omega
      have ra := (((Ext.refl wr).alloc (.cells #[.slice none 0 0, .int .i64 0] 24)).cell (p := ⟨b, off + j, none⟩) hblr).trans r0
      go_wp2_with fail
      go_cut [12, 13, 14] from 22 to 33 (fun v u y wx => ∃ X S' d', v = .pointer (some ⟨X, 0, none⟩) ∧ u = .int .i64 (ap : Nat) ∧ y = .int .i64 ae ∧ Bx wx X #[.slice S' n d', .int .i64 keep] ∧ HcO w w R wx S' n d' (allocL lj leaf row held) ∧ Ext wr wx)
      case first =>
        go_region_law
          (first
            | ((go_simp
                go_at_call 64
                refine (HAL.out _ ?_).mono ?_
                (first | exact (Ext.refl _).drew | exact ((Ext.refl _).drew).alloc _ | exact ((Ext.refl _).alloc _).drew | exact Ext.refl _)
                rintro e w4 ⟨S4, d4, rfl, hs4, hx4⟩
                have E4 := Lib.hid (show Ext wr w4 from by first | exact (Ext.refl _).drew.trans hx4 | exact (((Ext.refl _).drew).alloc _).trans hx4 | exact (((Ext.refl _).alloc _).drew).trans hx4 | exact hx4)
                have N4 := Lib.hid (HS.out.join hs4 (Nat.le_trans HXR.out.size (by first | exact Nat.le_refl _ | (simp; done) | (simp; omega))))
                (try (have B4 := Lib.hid (show Bx w4 wr.heap.size #[.slice none 0 0, .int .i64 0] from (Bx.new wr.drew _ _).ext hx4); have f0 := B4.out.free 0; have f1 := B4.out.free 1; have z1 := B4.out.lt; have q0 : w4.cell? ⟨wr.heap.size, 0, none⟩ = some (.slice none 0 0) := B4.out.at 0 _ rfl; have q1 : w4.cell? ⟨wr.heap.size, 1, none⟩ = some (.int .i64 0) := B4.out.at 1 _ rfl))
                clear hs4 hx4)))
        all_goals
          go_wp2_with fail
          go_meet
          first
          | exact ⟨_, S4, d4, rfl, rfl, rfl, Bx.new _ _ _, N4.out.ext ((Ext.refl _).alloc _), E4.out.alloc _⟩
          | exact ⟨_, S4, d4, rfl, rfl, rfl, B4.out.set2 _ _, N4.out.boxed2 B4.out _ _, E4.out.store2 (Nat.le_refl _) _ _⟩
      case rest =>
        obtain ⟨X, S5, d5, rfl, rfl, rfl, hbx, hs5, hx5⟩ := hcut
        have HX5 := Lib.hid (HXR.out.trans hx5)
        have HS5 := Lib.hid hs5
        have HE0 := Lib.hid (HC0.out.ext hx5)
        have HE1 := Lib.hid (HC1.out.ext hx5)
        have HO5 := Lib.hid (own_ext HO.out hx5)
        have r5 := (hx5.cell (p := ⟨b, off + j, none⟩) (by simp; omega)).trans r0
        have k5 := (hx5.cell (p := ⟨b2, off2, none⟩) (by simp; omega)).trans k0
        have hl5 := hx5.size
        clear p0 p1 p2 f0 f1 r0 k0
        obtain ⟨x0, x1, x2⟩ := hbx.read2
        obtain ⟨p0, p1, p2⟩ := HE0.out.read2
        obtain ⟨f0, f1⟩ := HE0.out.free2
        have hbne : ¬ b = w.heap.size := by omega
        have hbne2 : ¬ b2 = w.heap.size := by omega
        have hbne3 : ¬ w.heap.size = b := by omega
        have hbne4 : ¬ w.heap.size = b2 := by omega
        clear hbx hs5 hx5
        go_wp2_with (at_builtin; refine stop_here ?_)
        refine stop_on ?_
        have HO6 := Lib.hid (own_ext (ownsRow_setCell_below (ownsRow_setCell_below HO5.out (a := ⟨w.heap.size, 0, none⟩) (by have := HSZ.out; simp; omega) (.slice S5 n d5)) (a := ⟨w.heap.size, 1, none⟩) (by have := HSZ.out; simp; omega) (.int .i64 keep)) ((Ext.refl _).alloc (.cells #[.int .i64 fk, .int .i64 (ap : Nat)] 46)))
        have HX6 := Lib.hid ((HX5.out.store2 (k := w.heap.size) (Nat.le_refl _) (.slice S5 n d5) (.int .i64 keep)).alloc (.cells #[.int .i64 fk, .int .i64 (ap : Nat)] 46))
        have HC6 := Lib.hid ((HE0.out.set2 (.slice S5 n d5) (.int .i64 keep)).ext ((Ext.refl _).alloc (.cells #[.int .i64 fk, .int .i64 (ap : Nat)] 46)))
        have HD6 := Lib.hid (((HE1.out.set_other (p := ⟨w.heap.size, 0, none⟩) (by simp) (.slice S5 n d5)).set_other (p := ⟨w.heap.size, 1, none⟩) (by simp) (.int .i64 keep)).ext ((Ext.refl _).alloc (.cells #[.int .i64 fk, .int .i64 (ap : Nat)] 46)))
        have HS6 := Lib.hid ((HS5.out.boxed2 HE0.out (.slice S5 n d5) (.int .i64 keep)).ext ((Ext.refl _).alloc (.cells #[.int .i64 fk, .int .i64 (ap : Nat)] 46)))
        have HWL := Lib.hid (show W.heap.size ≤ wc.heap.size by have := HSZ.out; have := HE1.out.lt; omega)
        refine app_itemsW _ rfl _ _ rfl W.heap.size _ j oj rfl HO6.out _ 1 1 [(fk, (ap : Int))] rfl rfl (sl_lit' (by simp) _ 1 _ (by unfold maxLen; omega)) (by omega) (by have := HWL.out; simp; omega) ?_
        intro A7 c7 w7 hown hg
        have HX7 := Lib.hid (Ext.app HX6.out HO6.out (by have := HSZ.out; omega) hg)
        have HC7 := Lib.hid (HC6.out.grown hg (own_old HO6.out (by have := HSZ.out; omega)))
        have HD7 := Lib.hid (HD6.out.grown hg (own_old HO6.out (by have := HSZ.out; omega)))
        have HS7 := Lib.hid (HS6.out.grown hg (fun hl p hp => HS6.out.apart HRB.out HO6.out HOJ.out hl p hp))
        have HO7 := Lib.hid hown
        clear hown hg x0 x1 x2 p0 p1 p2 f0 f1 r5 k5
        go_wp2_with fail
        go_roundw
        case rel => exact ⟨j + 1, S5, d5, A7, c7, by omega, by go_num, rfl, by rw [HRT.out]; exact HO7.out, HX7.out, HC7.out, HD7.out, by rw [HRT.out]; exact HS7.out, .inr (by omega)⟩
        case measure => simp [intOf]; omega
    · obtain rfl : m = j := by omega
      have hfl : rows.take m = rows := by rw [HM.out, List.take_length]
      rw [hfl] at HS HO
      have d4 : decide ((m : Int) < (m : Int)) = false := decide_eq_false (by omega)
      clear hb0 hb1 hs ho hx hlt hfl
      obtain ⟨t0, t1, t2⟩ := HC1.out.read2
      obtain ⟨y0, y1⟩ := HC1.out.free2
      go_wp2_with fail
      refine ret2_cell (k := w.heap.size + 1) (x := .slice S n d1) (y := .int .i64 keep) (v := .tuple #[.agg #[.slice S n d1, .int .i64 keep], .slice O m z]) ?hb4 (fun r0 r1 => by simp [results, Tryz.results55, go_sem, r0, r1]) rfl ?hx4
      case hb4 => exact HC1.out.set2 _ _
      case hx4 => exact ⟨S, d1, O, z, rfl, (HS.out.sl HXR.out).boxed2 HC1.out _ _, (own_sl HO.out).boxed2 HC1.out _ _, HXR.out.store2 (by omega) _ _⟩
end Go.Proofs.YtbfbpddfcakieaaGreat
namespace Go.Proofs.YtbfbpddfcakieaaGreat
open Go.RowKit
attribute [local go_sem ↓] Go.wp_at_zero Go.wp_at_succ

theorem moreS_ref (held : List Int) {B : Int} : ∀ (it : List It) (l : List HC) (_ : 0 ≤ B) (_ : ∀ y ∈ l, y.ref ≤ B), ∀ y ∈ it.foldl (moreS held) l, y.ref ≤ B + it.length := by
  intro it
  induction it generalizing B with
  | nil => intro l _ h y hy; have := h y hy; simp only [List.length_nil]; omega
  | cons x r ih =>
    intro l h0 h y hy
    have h2 : ∀ y ∈ moreS held l x, y.ref ≤ B + 1 := fun y hy => by
      unfold moreS at hy
      split at hy
      · have := h y hy; omega
      · rcases List.mem_or_eq_of_mem_set hy with h3 | h3
        · have := h y h3; omega
        · rw [h3]
          rw [List.getD_eq_getElem?_getD]
          cases hg : l[x.2.toNat]? with
          | none => show (0 : Int) + 1 ≤ B + 1; omega
          | some z =>
            have := h z (List.mem_of_getElem? hg)
            show z.ref + 1 ≤ B + 1
            omega
    have := ih (B := B + 1) (moreS held l x) (by omega) h2 y hy
    simp only [List.length_cons]
    omega
theorem alloc_ref {B : Int} {l : List HC} {leaf : Bool} {it : List It} {held : List Int} (h0 : 1 ≤ B) (h : ∀ y ∈ l, y.ref ≤ B) : ∀ y ∈ allocL l leaf it held, y.ref ≤ B + it.length := by
  intro y hy
  have hm : ∀ y ∈ moreL held l it, y.ref ≤ B + it.length := moreS_ref held it l (by omega) h
  unfold allocL at hy
  split at hy
  · rcases List.mem_or_eq_of_mem_set hy with h3 | h3
    · split at h3
      · have := h y h3; omega
      · exact hm y h3
    · rw [h3]; show (1 : Int) ≤ _; omega
  · have := h y hy; omega
theorem lay_ref (leaf : Bool) (held : List Int) : ∀ (rows : List (List It)) (l : List HC) (B : Int) (_ : 1 ≤ B) (_ : ∀ y ∈ l, y.ref ≤ B), ∀ y ∈ (layS leaf held rows l).1, y.ref ≤ B + rows.flatten.length
  | [], l, B, _, h => fun y hy => by have := h y hy; simp only [List.flatten_nil, List.length_nil]; omega
  | r :: rs, l, B, h0, h => fun y hy => by
    have := lay_ref leaf held rs (allocL l leaf r held) (B + r.length) (by omega) (alloc_ref h0 h) y hy
    simp only [List.flatten_cons, List.length_append]
    omega
theorem take_flat : ∀ (rows : List (List It)) (j : Nat), (rows.take j).flatten.length ≤ rows.flatten.length
  | [], j => by simp
  | r :: rs, 0 => by simp
  | r :: rs, j + 1 => by have := take_flat rs j; simp; simp at this; omega
/-- What Lay asks of the Refs. -/
theorem lay_bd {leaf : Bool} {held : List Int} {rows : List (List It)} {l : List HC} {B : Int} (h0 : 1 ≤ B) (hB : B + rows.flatten.length ≤ 8000000000000000000) (h : ∀ k (hk : k < l.length), l[k].ref ≤ B) :
    ∀ j, j ≤ rows.length → ∀ k (hk : k < (layS leaf held (rows.take j) l).1.length), (layS leaf held (rows.take j) l).1[k].ref ≤ 8000000000000000000 := fun j _ k hk => by
  have h1 := lay_ref leaf held (rows.take j) l B h0 (fun y hy => by obtain ⟨i, hi, rfl⟩ := List.getElem_of_mem hy; exact h i hi) _ (List.getElem_mem hk)
  have h2 := take_flat rows j
  omega
end Go.Proofs.YtbfbpddfcakieaaGreat
