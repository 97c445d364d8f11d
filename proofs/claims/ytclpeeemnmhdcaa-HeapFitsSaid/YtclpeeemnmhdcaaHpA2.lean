/- Walks of told, copied and waiting of package heap. -/
import Derived.Test.YtclpeeemnmhdcaaHpA1
namespace Go.Proofs.Ytclpeeemnmhdcaa
open Go.RowKit
attribute [local go_sem ↓] Go.wp_at_zero Go.wp_at_succ

theorem infoI0 : (Try.prog.info? 3).map (fun i => (i.zero, i.size, i.bytes)) = some (some (.int .i64 0), 1, 8) := by kernel_rfl
theorem made_zeros (n : Nat) : (madeCells (Value.int .i64 0).cells (n * 1)).toList = List.replicate n (iv 0) := by
  have hz : (Value.int .i64 0).cells = #[.int .i64 0] := by simp [Value.cells]
  rw [hz]
  apply List.ext_getElem?
  intro i
  simp only [madeCells, iv, Nat.mul_one, Array.toList_map, Array.toList_range, List.getElem?_map, List.getElem?_replicate]
  by_cases h : i < n
  · simp [h, Nat.mod_one]
  · simp [h]
/-- A node's places. -/
def toldL (leaf : Bool) (it : List It) : List Int := if leaf then [] else it.map Prod.snd
def toldK (it : List It) (k : Nat) : List Value := (it.take k).map (fun x => iv x.2) ++ List.replicate (it.length - k) (iv 0)
theorem toldK_len (it : List It) (k : Nat) : (toldK it k).length = it.length := by unfold toldK; simp; omega
theorem toldK_zero (it : List It) : toldK it 0 = List.replicate it.length (iv 0) := by unfold toldK; simp
theorem toldK_all (it : List It) : toldK it it.length = (toldL false it).map iv := by unfold toldK toldL; simp
theorem toldK_succ {it : List It} {k : Nat} (hk : k < it.length) : (toldK it k).set k (iv it[k].2) = toldK it (k + 1) := by
  unfold toldK
  have h : (List.map (fun x : It => iv x.2) (it.take k)).length = k := by rw [List.length_map, List.length_take]; omega
  rw [List.take_succ_eq_append_getElem hk, List.map_append, List.set_append, if_neg (by omega), h, Nat.sub_self, List.append_assoc]
  rw [show it.length - k = (it.length - (k + 1)) + 1 by omega, List.replicate_succ]
  rfl
set_option maxRecDepth 100000 in
set_option maxHeartbeats 1600000 in
theorem hpTold_any (leaf : Bool) (A : Option Addr) (it : List It) (m c : Nat) (w : World) (hm : m = it.length) (hb : m ≤ 90000) (hI : Sl w A m c (ivs it)) :
    Calls Try.prog 42 #[.agg #[.bool leaf, .slice A m c]] w fun e w' => ∃ S t d, e = .returned (.slice S t d) ∧ t = (toldL leaf it).length ∧ w'.ownsRow w.heap.size 3 1 (.slice S t d) t ((toldL leaf it).map iv) ∧ Ext w w' := by
  obtain ⟨W, hW⟩ : ∃ W, w.alloc (.cells #[.bool leaf, .slice A m c] 41) = W := ⟨_, rfl⟩
  obtain ⟨hx, hb0⟩ := allocs1 hW
  have hsz : W.heap.size = w.heap.size + 1 := by rw [← hW]; simp
  have HX := Lib.hid hx
  have HB0 := Lib.hid hb0
  have HI := Lib.hid hI
  have HSZ := Lib.hid hsz
  have HM := Lib.hid hm
  obtain ⟨p0, p1, p2⟩ := hb0.read2
  clear hx hb0 hI hsz hm
  cases leaf
  rotate_left
  · go_enter Try.func42, Try.ntmps42
    go_wp2_with fail
    go_ret
    exact ⟨none, 0, 0, rfl, rfl, ⟨rfl, .inl ⟨rfl, rfl⟩⟩, HX.out⟩
  obtain ⟨i0, hi, hz0, hz1, hz2⟩ := info_parts infoI0
  have HIN := Lib.hid hi
  have HZ0 := Lib.hid hz0
  have HZ1 := Lib.hid hz1
  have HZ2 := Lib.hid hz2
  clear hi hz0 hz1 hz2
  subst hW
  go_enter Try.func42, Try.ntmps42
  go_wp2_with (at_make; refine stop_here ?_)
  refine stop_on ?_
  generalize hW : World.alloc w _ = W at *
  refine wpList_make_cap _ rfl _ _ 42 rfl 3 i0 _ Try.underlying42 HIN.out HZ0.out _ _ _ _ m m rfl rfl (by omega) (by omega) (by omega) (by rw [HZ2.out]; omega) (by unfold maxLen; omega) ?_
  rw [HZ1.out, HSZ.out]
  have HO := Lib.hid (show (W.alloc (.cells (madeCells (Value.int .i64 0).cells (m * 1)) 3)).ownsRow w.heap.size 3 1 (.slice (some ⟨w.heap.size + 1, 0, none⟩) m m) m (toldK it 0) from by
    have h := heap_alloc_new W (.cells (madeCells (Value.int .i64 0).cells (m * 1)) 3)
    rw [HSZ.out] at h
    have hs := size_madeCells (Value.int .i64 0).cells (m * 1)
    refine ⟨by rw [toldK_len, ← HM.out]; omega, .inr ⟨w.heap.size + 1, m, _, rfl, by omega, h, Nat.le_refl _, by unfold maxLen; omega, hs, ?_⟩⟩
    rw [made_zeros, toldK_zero, ← HM.out]
    simp)
  have HX1 := Lib.hid (HX.out.alloc (.cells (madeCells (Value.int .i64 0).cells (m * 1)) 3))
  have HXW := Lib.hid ((Ext.refl W).alloc (.cells (madeCells (Value.int .i64 0).cells (m * 1)) 3))
  clear p0 p1 p2
  obtain ⟨p0, p1, p2⟩ := (HB0.out.ext HXW.out).read2
  generalize World.alloc W _ = W1 at *
  go_wp2_with fail
  go_loopw [15] (fun i wr => ∃ k : Nat, k ≤ m ∧ i = .int .i64 k ∧ wr.ownsRow w.heap.size 3 1 (.slice (some ⟨w.heap.size + 1, 0, none⟩) m m) m (toldK it k) ∧ Ext w wr) (fun i _ => m - (intOf i).toNat)
  case atStart => exact ⟨0, Nat.zero_le _, rfl, HO.out, HX1.out⟩
  case round =>
    obtain ⟨k, hk, rfl, ho, hx⟩ := hrel
    have HXR := Lib.hid hx
    rcases Nat.lt_or_ge k m with hlt | hlt
    · have hkl : k < it.length := by rw [← HM.out]; exact hlt
      obtain ⟨bi, oi, rfl, hbi, hc⟩ := (HI.out.ext hx).cells.it hkl
      obtain ⟨c0, c1⟩ := hc k hkl
      have hki : (k : Int) < (m : Int) := by omega
      have HS := Lib.hid (toldK_succ hkl)
      have f0 := own_free ho k
      have hg1 : w.heap.size + 1 < wr.heap.size := (ho.lt _ rfl).2
      obtain ⟨z, hz⟩ : ∃ z, wr.cell? ⟨w.heap.size + 1, k, none⟩ = some z := by
        have := ho.cellAt k (by omega)
        rw [this, List.getElem?_eq_getElem (by rw [toldK_len, ← HM.out]; exact hlt)]
        exact ⟨_, rfl⟩
      have HOK := Lib.hid ho
      clear hx ho hc
      generalize it[k] = x at *
      obtain ⟨K, V⟩ := x
      simp only at c0 c1 HS
      have HO2 := Lib.hid (own_ext (own_set HOK.out (j := k) (by omega) (.int .i64 V)) ((Ext.refl _).alloc (.cells #[.int .i64 K, .int .i64 V] 62)))
      have HX2 := Lib.hid ((HXR.out.set (p := ⟨w.heap.size + 1, k, none⟩) (by simp) (.int .i64 V)).alloc (.cells #[.int .i64 K, .int .i64 V] 62))
      go_wp2_with fail
      go_roundw
      case rel => exact ⟨k + 1, by omega, by go_num, by rw [← HS.out]; exact HO2.out, HX2.out⟩
      case measure => simp [intOf]; omega
    · obtain rfl : k = m := by omega
      have HE := Lib.hid (toldK_all it)
      have ht : k = (toldL false it).length := by unfold toldL; simp; exact HM.out
      have HT := Lib.hid ht
      rw [HM.out, HE.out, ← HM.out] at ho
      have HOK := Lib.hid ho
      clear hx ho hlt ht
      go_wp2_with fail
      go_ret
      exact ⟨_, _, _, rfl, HT.out, HOK.out, HXR.out⟩
theorem sl_lit' {w : World} {z : Nat} (hz : z = w.heap.size) (e n : Nat) (xs : List Value) (hn : n ≤ maxLen) : Sl (w.alloc (.cells xs.toArray e)) (some ⟨z, 0, none⟩) n n xs := by subst hz; exact sl_lit w e n xs hn
theorem iv_one (l : List Int) : ∀ u ∈ l.map iv, u.oneCell' = true := by
  intro u hu
  obtain ⟨_, _, rfl⟩ := List.mem_map.1 hu
  rfl
set_option maxHeartbeats 1000000 in
set_option maxRecDepth 20000 in
theorem hpCopiedI_any (A : Option Addr) (it : List It) (m c : Nat) (w : World) (hm : m = it.length) (hb : m ≤ 90000) (hI : Sl w A m c (ivs it)) :
    Calls Try.prog 47 #[.slice A m c] w fun e w' => ∃ S d, e = .returned (.slice S m d) ∧ w'.ownsRow w.heap.size 62 2 (.slice S m d) m (ivs it) ∧ Ext w w' := by
  have HM := Lib.hid hm
  have HN := Lib.hid hI.1
  have HA := Lib.hid hI.cells
  have hi9 := ivs_length it
  rw [← hm] at hi9
  have HL := Lib.hid hi9
  clear hI hm hi9
  obtain ⟨i0, hi, hz0, hz1, hz2⟩ := info_parts infoIt
  have HI := Lib.hid hi
  have HZ0 := Lib.hid hz0
  have HZ1 := Lib.hid hz1
  have HZ2 := Lib.hid hz2
  clear hi hz0 hz1 hz2
  go_enter Try.func47, Try.ntmps47
  go_wp2_with (at_make; refine stop_here ?_)
  refine stop_on ?_
  refine wpList_make_cap _ rfl _ _ 39 rfl 62 i0 _ Try.underlying39 HI.out HZ0.out _ _ _ _ m m rfl rfl (by omega) (by omega) (by omega) (by rw [HZ2.out]; omega) (by unfold maxLen; omega) ?_
  rw [HZ1.out]
  obtain ⟨cur, hcur⟩ : ∃ cur, cur = madeCells (Value.agg #[.int .i64 0, .int .i64 0]).cells (m * 2) := ⟨_, rfl⟩
  have hsz : cur.size = m * 2 := by rw [hcur]; exact size_madeCells _ _
  rw [← hcur]
  clear hcur
  have HS := Lib.hid hsz
  clear hsz
  have HO := Lib.hid (own_copied w m m 2 62 cur (ivs it) (by unfold maxLen; omega) (Nat.le_refl _) HS.out HL.out)
  have hrun := run_copy_head (P := Try.prog) (w.alloc (.cells cur 62)) 39 39 3 62 i0 Try.underlying39 HI.out w.heap.size m m c A cur 62 (heap_alloc_new w _) (ivs it) (by rw [HZ1.out]; exact HL.out) HN.out (HA.out.ext ((Ext.refl w).alloc _)) (by rw [HS.out, HL.out]; omega) (ivs_oneCell it) (fun h => by have := (HA.out).len_none h; rw [HL.out] at this; omega)
  obtain ⟨w1, hw1⟩ : ∃ w1, w1 = (w.alloc (.cells cur 62)).setRow w.heap.size (ivs it ++ cur.toList.drop (ivs it).length).toArray := ⟨_, rfl⟩
  rw [← hw1] at HO hrun
  clear hw1
  go_wp2
  go_ret
  exact ⟨_, _, rfl, HO.out.1, HO.out.2⟩
set_option maxHeartbeats 1000000 in
set_option maxRecDepth 20000 in
theorem hpCopiedC_cs (R : Option Addr) (l : List HC) (n q : Nat) (w : World) (cs : List Value) (hn : n = l.length) (hb : n ≤ 90000) (hsl : Sl w R n q cs) (hat : HcAt w cs l) :
    Calls Try.prog 64 #[.slice R n q] w fun e w' => ∃ g, e = .returned (.slice (some ⟨g, 0, none⟩) n n) ∧ w'.ownsRow w.heap.size 54 4 (.slice (some ⟨g, 0, none⟩) l.length n) l.length cs ∧ Ext w w' := by
  have HM := Lib.hid hn
  have HN := Lib.hid hsl.1
  have HA := Lib.hid hsl.cells
  have H1 := Lib.hid (hc_one hat)
  have hl9 := hat.1
  rw [← hn] at hl9
  have HL := Lib.hid hl9
  clear hsl hat hl9 hn
  obtain ⟨i0, hi, hz0, hz1, hz2⟩ := info_parts infoHc
  have HI := Lib.hid hi
  have HZ0 := Lib.hid hz0
  have HZ1 := Lib.hid hz1
  have HZ2 := Lib.hid hz2
  clear hi hz0 hz1 hz2
  go_enter Try.func64, Try.ntmps64
  go_wp2_with (at_make; refine stop_here ?_)
  refine stop_on ?_
  refine wpList_make_cap _ rfl _ _ 22 rfl 54 i0 _ Try.underlying22 HI.out HZ0.out _ _ _ _ n n rfl rfl (by omega) (by omega) (by omega) (by rw [HZ2.out]; omega) (by unfold maxLen; omega) ?_
  rw [HZ1.out]
  obtain ⟨cur, hcur⟩ : ∃ cur, cur = madeCells (Value.agg #[.int .i64 0, .bool false, .bool false, .slice none 0 0]).cells (n * 4) := ⟨_, rfl⟩
  have hsz : cur.size = n * 4 := by rw [hcur]; exact size_madeCells _ _
  rw [← hcur]
  clear hcur
  have HS := Lib.hid hsz
  clear hsz
  have HO := Lib.hid (own_copied w n n 4 54 cur cs (by unfold maxLen; omega) (Nat.le_refl _) HS.out HL.out)
  have hrun := run_copy_head (P := Try.prog) (w.alloc (.cells cur 54)) 22 22 3 54 i0 Try.underlying22 HI.out w.heap.size n n q R cur 54 (heap_alloc_new w _) cs (by rw [HZ1.out]; exact HL.out) HN.out (HA.out.ext ((Ext.refl w).alloc _)) (by rw [HS.out, HL.out]; omega) H1.out (fun h => by have := (HA.out).len_none h; rw [HL.out] at this; omega)
  obtain ⟨w1, hw1⟩ : ∃ w1, w1 = (w.alloc (.cells cur 54)).setRow w.heap.size (cs ++ cur.toList.drop cs.length).toArray := ⟨_, rfl⟩
  rw [← hw1] at HO hrun
  clear hw1
  go_wp2
  go_ret
  exact ⟨w.heap.size, rfl, by rw [← HM.out]; exact HO.out.1, HO.out.2⟩

/-- The places of cells with a Pin. -/
def waitK (l : List HC) (k : Nat) : List Int := ((List.range k).filter (fun j => (l.getD j HC.none).pin)).map Int.ofNat
theorem waitK_succ {l : List HC} {k : Nat} (hk : k < l.length) : waitK l (k + 1) = waitK l k ++ (if l[k].pin then [(k : Int)] else []) := by
  unfold waitK
  rw [List.range_succ, List.filter_append, List.map_append]
  congr 1
  rw [List.filter_cons, List.getD_eq_getElem?_getD, List.getElem?_eq_getElem hk, Option.getD_some]
  cases l[k].pin <;> rfl
theorem waitK_len (l : List HC) (k : Nat) : (waitK l k).length ≤ k := by
  unfold waitK
  rw [List.length_map]
  have := List.length_filter_le (fun j => (l.getD j HC.none).pin) (List.range k)
  simpa using this
set_option maxRecDepth 100000 in
set_option maxHeartbeats 1600000 in
theorem hpWaiting_any (R : Option Addr) (l : List HC) (n q : Nat) (w : World) (hb : n ≤ 90000) (hA : HcSl w R n q l) :
    Calls Try.prog 54 #[.slice R n q] w fun e w' => ∃ S t d, e = .returned (.slice S t d) ∧ t = (waitK l n).length ∧ Sl w' S t d ((waitK l n).map iv) ∧ Ext w w' := by
  have hn := hA.1
  have HN := Lib.hid hn
  have HA := Lib.hid hA
  clear hA hn
  go_enter Try.func54, Try.ntmps54
  go_wp2_with fail
  go_loopw [3, 8] (fun s i wr => ∃ k : Nat, k ≤ n ∧ i = .int .i64 k ∧ ∃ S t d, s = .slice S t d ∧ t = (waitK l k).length ∧ wr.ownsRow w.heap.size 3 1 (.slice S t d) t ((waitK l k).map iv) ∧ Ext w wr) (fun s i _ => n - (intOf i).toNat)
  case atStart => exact ⟨0, Nat.zero_le _, rfl, none, 0, 0, rfl, rfl, ⟨rfl, .inl ⟨rfl, rfl⟩⟩, Ext.refl _⟩
  case round =>
    obtain ⟨k, hk, rfl, S, t, d, rfl, ht, ho, hx⟩ := hrel
    have HXR := Lib.hid hx
    rcases Nat.lt_or_ge k n with hlt | hlt
    · have hkl : k < l.length := by rw [← HN.out]; exact hlt
      obtain ⟨b, off, rfl, hbl, A, c, r0, r1, r2, r3, hI⟩ := (HA.out.ext hx).cell hkl
      have hki : (k : Int) < (n : Int) := by omega
      have HS := Lib.hid (waitK_succ hkl)
      have hwl := waitK_len l k
      rw [← ht] at hwl
      have HT := Lib.hid ht
      have HO := Lib.hid ho
      clear hI hx ho ht
      generalize l[k].pin = pn at *
      generalize l[k].ref = rf at *
      generalize l[k].leaf = lf at *
      generalize l[k].it.length = m at *
      have HX1 := Lib.hid (HXR.out.alloc (.cells #[.int .i64 rf, .bool pn, .bool lf, .slice A m c] 54))
      have HO1 := Lib.hid (own_ext HO.out ((Ext.refl wr).alloc (.cells #[.int .i64 rf, .bool pn, .bool lf, .slice A m c] 54)))
      cases pn
      · go_wp2_with fail
        go_roundw
        case rel => exact ⟨k + 1, by omega, by go_num, S, t, d, rfl, by rw [HS.out, HT.out]; simp, by rw [HS.out]; simpa using HO1.out, HX1.out⟩
        case measure => simp [intOf]; omega
      · go_wp2_with (at_builtin; refine stop_here ?_)
        refine stop_on ?_
        refine wpList_app_sl _ rfl _ _ 42 rfl w.heap.size 3 (.int .i64 0) 1 8 Try.underlying42 infoI0 rfl (by omega) _ t _ rfl (own_ext HO1.out ((Ext.refl _).alloc _)) _ 1 1 [iv k] rfl (by simp) (sl_lit' (by simp) _ 1 _ (by unfold maxLen; omega)) (iv_one [(k : Int)]) (by unfold maxLen; omega) (by omega) (by have := HX1.out.size; simp at this ⊢; omega) ?_
        intro A2 c2 w2 ho2 hg2
        have HX2 := Lib.hid (Ext.app (HX1.out.alloc _) (own_ext HO1.out ((Ext.refl _).alloc _)) (Nat.le_refl _) hg2)
        have HO2 := Lib.hid ho2
        clear ho2 hg2
        go_wp2_with fail
        go_roundw
        case rel => exact ⟨k + 1, by omega, by go_num, A2, t + 1, c2, rfl, by rw [HS.out, HT.out]; simp, by rw [HS.out]; simpa using HO2.out, HX2.out⟩
        case measure => simp [intOf]; omega
    · obtain rfl : k = n := by omega
      have HT := Lib.hid ht
      have HO := Lib.hid ho
      clear hx ho hlt ht
      go_wp2_with fail
      go_ret
      exact ⟨_, _, _, rfl, HT.out, own_sl HO.out, HXR.out⟩
end Go.Proofs.Ytclpeeemnmhdcaa
