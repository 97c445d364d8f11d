/- The walk of the closure in nodes of package tree, where it yields and goes on. nodes of package tree as an iterator. items of package tree as an iterator: over nodes. High of package tree, by a range over nodes. Nodes of package tree, by a range over nodes. Get of package tree, by a range over items. Scan of package tree, by a range over items. Right of package tree. -/
import Derived.Test.YtjbfopnkeclfgaaGreatK38
import Derived.Test.YtjbfopnkeclfgaaGreatK36
import Derived.StillTailTactics
namespace Go.Proofs.YtjbfopnkeclfgaaGreat
set_option maxRecDepth 20000
open Go.RowKit Go.Shelf
attribute [local go_sem] Oper.semAt_some

theorem Ext.thru {w0 W W' : World} (h : Ext w0 W) (k : Below w0.heap.size W W') : Ext w0 W' := Below.trans h k
theorem dnRow_head {f : Nat → Int → Dn} {c : Nat} {x : It} {r : List It} : (f c x.2).ys <+: (dnRow f c (x :: r)).ys := by
  unfold dnRow
  split
  · exact List.prefix_append _ _
  · exact List.prefix_rfl
theorem dnRow_on {f : Nat → Int → Dn} {c : Nat} {x : It} {r : List It} (h : (f c x.2).ok = true) : dnRow f c (x :: r) = ⟨(f c x.2).ys ++ (dnRow f (f c x.2).left r).ys, (dnRow f (f c x.2).left r).left, (dnRow f (f c x.2).left r).ok⟩ := by
  conv => lhs; unfold dnRow
  rw [if_pos h]
theorem dnRow_off {f : Nat → Int → Dn} {c : Nat} {x : It} {r : List It} (h : (f c x.2).ok = false) : dnRow f c (x :: r) = f c x.2 := by
  conv => lhs; unfold dnRow
  rw [if_neg (by rw [h]; simp)]
theorem prefix_same {α : Type} {a b c : List α} (h : b <+: c) : a ++ b <+: a ++ c := by
  obtain ⟨r, rfl⟩ := h
  exact ⟨r, by rw [List.append_assoc]⟩
theorem from_i {it : List It} (h : NdR it) (key : Int) : ∃ i : Nat, i < it.length ∧ atI false it key = (i : Int) ∧ fromT it false key = it.drop i := by
  obtain ⟨hi, _⟩ := at_low h key
  refine ⟨_, hi, ?_, rfl⟩
  cases hb : atB it key
  · rw [atI_not hb, Int.toNat_natCast]
  · rw [atI_yes hb, Int.toNat_natCast]
set_option maxRecDepth 100000 in
set_option maxHeartbeats 800000 in
theorem dn_c (l : List HC) (R : Option Addr) (n q : Nat) (keep key : Int) (A : Nat → Option Addr) (C : Nat → Nat) (bh bf B r : Nat) (w0 : World) (S : Nat → Prop) (L : List Int) (J Jx : List Int → World → Prop) (D : DnC l R n q keep key A C bh bf B r w0 S L J Jx) (m c : Nat) (p : Int) (pre : List Int) (d : Nat) (W : World) (hd : 1 ≤ d) (hx : Ext w0 W) (hM : MemN W R n q keep key bh bf B r c) (hJ0 : J pre W) (hz : B + 3 ≤ W.heap.size) (hcm : c < m + 1) (hc2 : c ≤ 2000) (hp : pre ++ (dn l key (m + 1) c p).ys <+: L) (hu : usedC l p = true) (hc : c ≠ 0) (ih : DnOk l R n q keep key bh bf B r w0 L J Jx m) :
    CallsIn Fence.wide d Tryz.prog 145 #[.int .i64 p, .pointer (some ⟨bh, 0, none⟩), .pointer (some ⟨B + 1, 0, none⟩), .pointer (some ⟨B, 0, none⟩), .pointer (some ⟨bf, 0, none⟩), .pointer (some ⟨B + 1 + 1, 0, none⟩)] W
      (dnPost l key (m + 1) c p J Jx pre w0.heap.size W R n q keep bh bf B r) := by
  have HM := Lib.hid hM
  have HX := Lib.hid hx
  have HJ0 := Lib.hid hJ0
  have HZ := Lib.hid hz
  have HDC := Lib.hid D
  have HUS := Lib.hid (fun W1 (h1 : Ext W W1) => treeUsed_any R l n q keep p A C W1 D.hl D.hnl (D.hA.ext (hx.trans h1)))
  obtain ⟨p0, p1, p2⟩ := hM.h.bx.read2
  obtain ⟨k, hk, rfl, hrf⟩ := usedC_iff hu
  have hnd := (cell_ok (D.hl k hk) hrf).1
  have HNV := Lib.hid (show NV l A C (k : Int) = .agg #[.bool l[k].leaf, .slice (A k) l[k].it.length (C k)] from by unfold NV; rw [cellT_at hk, Int.toNat_natCast])
  rw [show usedV l A C (k : Int) = .agg #[.bool l[k].leaf, .slice (A k) l[k].it.length (C k)] from by unfold usedV; rw [hu]; exact HNV.out, hu] at HUS
  have IH := Lib.hid ih
  obtain ⟨c1, rfl⟩ : ∃ c1, c = c1 + 1 := ⟨c - 1, by omega⟩
  have HDL := Lib.hid (fun h => dn_leaf (key := key) (m := m) (c := c1 + 1) hk hrf (by omega) h)
  have HDO := Lib.hid (fun h => dn_other (key := key) (m := m) (c := c1 + 1) hk hrf (by omega) h)
  have HPK := Lib.hid (show pre ++ [(k : Int)] <+: L from by
    cases hlf : l[k].leaf
    · rw [HDO.out hlf] at hp; exact prefix_mid (b := [(k : Int)]) hp
    · rw [HDL.out hlf] at hp; exact hp)
  obtain ⟨_, _, hRe, _, _, hI⟩ := D.hA k hk
  clear hRe
  have HS := Lib.hid hI
  have HAT := Lib.hid (fun W1 (h1 : Ext w0 W1) => nodeAt_any l[k].leaf (A k) l[k].it l[k].it.length (C k) key W1 rfl ((ndR_iff _).2 hnd) (hI.ext h1))
  have HND := Lib.hid hnd
  have HCH := Lib.hid (fun hlf => (cell_ok (D.hl k hk) hrf).2 hlf)
  have HCM := Lib.hid hcm
  have HPP := Lib.hid hp
  generalize l[k] = x at *
  obtain ⟨xr, xp, lf, it⟩ := x
  simp only at *
  have HLT := Lib.hid (fun W1 (h1 : Ext W W1) => (show W1.cell? ⟨B + 1, 0, none⟩ = some (.int .i64 ((c1 : Int) + 1)) from by have := (hM.l.below h1).bx.at 0 _ rfl; rw [this]; simp))
  have HLF := Lib.hid (fun W1 (h1 : Ext W W1) => (hM.l.below h1).lt)
  have HYT := Lib.hid (fun W1 (h1 : Ext W W1) => (hM.y.below h1).bx.at 0 _ rfl)
  have HYF := Lib.hid (fun W1 (h1 : Ext W W1) => (hM.y.below h1).lt)
  have hne : (((c1 : Int) + 1) == 0) = false := by rw [beq_eq_false_iff_ne]; omega
  clear hM hx hJ0 hz hp hu hnd hrf hI hcm D ih hc
  refine callsIn_of_wp Tryz.func145 rfl trivial ?_ rfl
  simp only [Tryz.ntmps145, List.size_toArray, List.length_cons, List.length_nil, Nat.reduceAdd, Nat.reduceSub, Array.replicate_succ, Array.replicate_zero, List.push_toArray, List.append_toArray, List.nil_append, List.cons_append]
  gi_wp2_with (refine ⟨trivial, ?_⟩; gi_at_call 89; refine stop_here ?_)
  refine stop_on ?_
  refine (callsIn_wide.2 (HUS.out _ (Ext.refl _))).mono ?_
  rintro e w1 ⟨rfl, hx1⟩
  have HXA := Lib.hid (hx1.alloc (.cells #[.bool lf, .slice (A k) it.length (C k)] 59))
  have HX1 := Lib.hid hx1
  have HBN := Lib.hid (Bt.new w1 #[.bool lf, .slice (A k) it.length (C k)] 59)
  have c0 := HLT.out _ HXA.out
  have c1' := HLT.out _ hx1
  have c2 := HLF.out _ hx1
  have y0 := HYT.out _ HXA.out
  have y1 := HYT.out _ hx1
  have y2 := HYF.out _ hx1
  obtain ⟨fn, tmps, assign, body, hy, hR⟩ := HDC.out.hY pre (k : Int) _ (d - 1) (HDC.out.hJ _ _ _ HJ0.out (.ext HXA.out)) (Nat.le_trans HZ.out HXA.out.size) HPK.out
  rw [HNV.out] at hy
  clear hx1
  skip -- HERE
  gi_wp2
  refine hR.mono ?_
  rintro e W3 ⟨hk3, (⟨rfl, hJ3⟩ | ⟨rfl, hJx3⟩)⟩
  rotate_left
  · gi_wp2
    go_ret
    refine .inr ⟨rfl, pre ++ [(k : Int)], ?_, hJx3⟩
    cases lf
    · rw [HDO.out rfl]; exact ⟨_, by simp only [List.append_assoc, List.singleton_append]; rfl⟩
    · rw [HDL.out rfl]; exact List.prefix_rfl
  obtain ⟨s1, s2, s3, s4, s5⟩ := HDC.out.s
  have hM3 := (HM.out.ext HXA.out).keep hk3 s1 s2 s3 s4 s5
  have HB3 := Lib.hid (hk3.typ _ _ _ (by decide) HBN.out)
  have l3 : W3.cell? ⟨B + 1, 0, none⟩ = some (.int .i64 ((c1 : Int) + 1)) := by have := hM3.l.bx.at 0 _ rfl; rw [this]; simp
  have f3 := hM3.l.bx.free 0
  have z3 := hM3.l.lt
  obtain ⟨W4, hW4⟩ : ∃ W4, W3.setCell ⟨B + 1, 0, none⟩ (.int .i64 c1) = W4 := ⟨_, rfl⟩
  have hw1 : B + 3 ≤ w1.heap.size := Nat.le_trans HZ.out HX1.out.size
  have HM4 := Lib.hid (show MemN W4 R n q keep key bh bf B r c1 from by rw [← hW4]; exact hM3.less HDC.out.hbh HDC.out.hbf c1)
  have HB4 := Lib.hid (show Bt W4 w1.heap.size 59 #[.bool lf, .slice (A k) it.length (C k)] from by rw [← hW4]; exact HB3.out.other (by show B + 1 ≠ w1.heap.size; omega) _)
  have HJ4 := Lib.hid (show J (pre ++ [(k : Int)]) W4 from by rw [← hW4]; exact HDC.out.hJ _ _ _ hJ3 (.set _ _ _ (by omega) (by omega)))
  have HK4 := Lib.hid (show Kw w0.heap.size noS W W4 from by
    rw [← hW4]
    exact ((Kw.ext _ HXA.out HX.out.size).trans (hk3.sub (fun _ h => h.elim))).trans (Kw.set hM3.l (by decide) id (by have := HDC.out.h0B; omega) _ _))
  have HX4 := Lib.hid (show Ext w0 W4 from HX.out.thru HK4.out.old)
  have HZ4 := Lib.hid (show B + 3 ≤ W4.heap.size from Nat.le_trans HZ.out HK4.out.old.size)
  obtain ⟨n0, n1, n2⟩ := HB4.out.bx.read2
  clear hk3 hJ3 hM3 s1 s2 s3 s4 s5 hw1
  cases lf
  rotate_left
  · have HD := Lib.hid (HDL.out rfl)
    clear HDL HDO
    gi_wp2
    go_ret
    refine .inl ⟨by rw [HD.out]; rfl, by rw [HD.out]; exact HJ4.out, by rw [HD.out]; exact HM4.out, HK4.out⟩
  have hD := HDO.out rfl
  rw [Nat.add_sub_cancel] at hD
  obtain ⟨i, hi, hai, hfr⟩ := from_i HND.out key
  rw [hfr] at hD
  have HD := Lib.hid hD
  have HCI := Lib.hid (HCH.out rfl)
  rw [hai] at HAT
  have g4 := HM4.out.f.bx.at 0 _ rfl
  have g5 := HM4.out.f.lt
  have hcap : it.length ≤ C k := HS.out.2.1
  have hil : i ≤ it.length := by omega
  have hic : i ≤ C k := by omega
  have h4 : it.length ≤ 4 := HND.out.1.2
  obtain ⟨A2, hA2⟩ : ∃ A2, (if C k = i then A k else (A k).map fun p => p.add (i * 2)) = A2 := ⟨_, rfl⟩
  clear HDL HDO HCH hD hfr hai hi
  gi_wp2_with (refine ⟨trivial, ?_⟩; gi_at_call 146; refine stop_here ?_)
  refine stop_on ?_
  refine (callsIn_wide.2 (HAT.out _ HX4.out)).mono ?_
  rintro e w5 ⟨rfl, hx5⟩
  have HX5 := Lib.hid hx5
  obtain ⟨n0, n1, n2⟩ := (HB4.out.below hx5).bx.read2
  clear hx5
  gi_wp2
  obtain ⟨T, hT⟩ : ∃ T, dnRow (dn l key m) c1 (it.drop i) = T := ⟨_, rfl⟩
  have hrl : (it.drop i).length = it.length - i := by rw [List.length_drop]
  have hS5 := HS.out.post rfl i hil
  rw [hA2] at hS5
  rw [hT] at HD
  generalize hnr : it.length - i = nr at *
  have HNR := Lib.hid (show nr ≤ 4 by omega)
  have HDI := Lib.hid (fun x (h : x ∈ it.drop i) => HCI.out x (List.mem_of_mem_drop h))
  clear HNV HAT HXA HBN HUS HLT HLF HYT HYF h4 hcap hic hil hnr hA2 HCI HB3 hne n0 n1 n2 g4 g5 c2 y2 p0 p1 p2 HS
  generalize it.drop i = rest at *
  have HS5 := Lib.hid hS5
  have HRL := Lib.hid hrl
  have HT := Lib.hid hT
  clear hS5 hrl hT
  gi_loopw [48] (fun v wr => ∃ (j c' : Nat) (pre' : List Int), j ≤ nr ∧ v = .int .i64 j ∧ c' ≤ c1 ∧ J pre' wr ∧ MemN wr R n q keep key bh bf B r c' ∧ Kw w0.heap.size noS w5 wr ∧
    (pre' ++ (dnRow (dn l key m) c' (rest.drop j)).ys = pre ++ ((k : Int) :: T.ys) ∧ (dnRow (dn l key m) c' (rest.drop j)).left = T.left ∧ (dnRow (dn l key m) c' (rest.drop j)).ok = T.ok)) (fun v _ => nr - (intOf v).toNat)
  case atStart => exact ⟨0, c1, pre ++ [(k : Int)], Nat.zero_le _, rfl, Nat.le_refl _, HDC.out.hJ _ _ _ HJ4.out (.ext HX5.out), HM4.out.ext HX5.out, Kw.refl _ _ _, by rw [List.drop_zero, HT.out, List.append_assoc]; rfl, by rw [List.drop_zero, HT.out], by rw [List.drop_zero, HT.out]⟩
  case round =>
    obtain ⟨j, c', pre', hj, rfl, hc', hJj, hMj, hkj, hys, hlf, hok⟩ := hrel
    have HX5j := Lib.hid (show Ext w0 wr from (HX4.out.trans HX5.out).thru hkj.old)
    have HKJ := Lib.hid hkj
    have HJJ := Lib.hid hJj
    have HMJ := Lib.hid hMj
    have HYS := Lib.hid hys
    have HLF := Lib.hid hlf
    have HOK := Lib.hid hok
    have HC' := Lib.hid hc'
    have HZJ := Lib.hid (show B + 3 ≤ wr.heap.size from Nat.le_trans HZ4.out (Nat.le_trans HX5.out.size hkj.old.size))
    clear hkj hJj hMj hys hlf hok hc'
    rcases Nat.lt_or_ge j nr with hlt | hlt
    rotate_left
    · obtain rfl : nr = j := by omega
      have hE : rest.drop nr = [] := List.drop_of_length_le (by rw [HRL.out]; exact Nat.le_refl _)
      rw [hE] at HYS HLF HOK
      clear hE hlt hj
      gi_wp2
      go_ret
      have h1 : pre' = pre ++ ((k : Int) :: T.ys) := by rw [← HYS.out]; simp [dnRow]
      have h2 : c' = T.left := HLF.out
      have h3 : true = T.ok := HOK.out
      refine .inl ⟨by rw [HD.out]; show Ending.returned (.bool true) = .returned (.bool T.ok); rw [← h3], by rw [HD.out]; show J (pre ++ ((k : Int) :: T.ys)) wr; rw [← h1]; exact HJJ.out, by rw [HD.out]; show MemN wr R n q keep key bh bf B r T.left; rw [← h2]; exact HMJ.out, (HK4.out.trans (Kw.ext _ HX5.out HX4.out.size)).trans HKJ.out⟩
    have hjl : j < rest.length := by rw [HRL.out]; exact hlt
    obtain ⟨ba, oa, rfl, hba, u0, u1⟩ := it_at HS5.out hjl
    have i0 := (HX5j.out.cell (p := ⟨ba, oa + j * 2, none⟩) hba).trans u0
    have i1 := (HX5j.out.cell (p := ⟨ba, oa + j * 2 + 1, none⟩) hba).trans u1
    have hdj : rest.drop j = rest[j] :: rest.drop (j + 1) := List.drop_eq_getElem_cons hjl
    rw [hdj] at HYS HLF HOK
    have hpos := HDI.out rest[j] (List.getElem_mem hjl)
    obtain ⟨x, hxe⟩ : ∃ x, rest[j] = x := ⟨_, rfl⟩
    rw [hxe] at i0 i1 HYS HLF HOK hpos
    clear u0 u1 hdj hxe hjl
    obtain ⟨xa, xb⟩ := x
    simp only at i0 i1 hpos
    have hji : (j : Int) < (nr : Int) := by omega
    have hn4 := HNR.out
    have HXB := Lib.hid ((Ext.refl wr).alloc (.cells #[.int .i64 xa, .int .i64 xb] 146))
    have hMB := HMJ.out.ext HXB.out
    have m1 := hMB.d.bx.at 0 _ rfl
    have m2 := hMB.d.lt
    have m3 := HMJ.out.d.bx.at 0 _ rfl
    have m4 := HMJ.out.d.lt
    have HPX := Lib.hid (show pre' ++ (dn l key m c' xb).ys <+: pre ++ ((k : Int) :: T.ys) from by rw [← HYS.out]; exact prefix_same (dnRow_head (f := dn l key m) (x := (xa, xb))))
    have HPL := Lib.hid (show pre ++ ((k : Int) :: T.ys) <+: L from by have := HPP.out; rw [HD.out] at this; exact this)
    have IHC := Lib.hid (fun n' => (callsIn_wide (n := n')).2 (callsIn_wide.1 (IH.out c' xb pre' 1 _ (Nat.le_refl _) (by have := HCM.out; have := HC'.out; omega) (by have := HC'.out; omega) (HX5j.out.trans HXB.out) hMB (HDC.out.hJ _ _ _ HJJ.out (.ext HXB.out)) (Nat.le_trans HZJ.out HXB.out.size) (HPX.out.trans HPL.out))))
    clear hMB hpos
    gi_wp2_with (refine ⟨trivial, ?_⟩; gi_at_call 145; refine stop_here ?_)
    refine stop_on ?_
    refine (IHC.out _).mono ?_
    rintro e W6 (⟨rfl, hJ6, hM6, hk6⟩ | ⟨rfl, u, hu, hJx⟩)
    rotate_left
    · gi_wp2
      go_ret
      refine .inr ⟨rfl, u, ?_, hJx⟩
      rw [HD.out]
      exact hu.trans HPX.out
    have HK6 := Lib.hid hk6
    have HM6 := Lib.hid hM6
    have HJ6 := Lib.hid hJ6
    have HON := Lib.hid (fun h => dnRow_on (f := dn l key m) (c := c') (x := (xa, xb)) (r := rest.drop (j + 1)) h)
    have HOF := Lib.hid (fun h => dnRow_off (f := dn l key m) (c := c') (x := (xa, xb)) (r := rest.drop (j + 1)) h)
    have HCN := Lib.hid (dn_count l key m c' xb)
    clear hk6 hM6 hJ6
    obtain ⟨o, ho⟩ : ∃ o, (dn l key m c' xb).ok = o := ⟨_, rfl⟩
    rw [ho]
    cases o
    · have h1 := HOF.out ho
      rw [h1] at HYS HLF HOK
      clear h1 HON HOF
      have HO := Lib.hid ho
      clear ho
      gi_wp2
      go_ret
      refine .inl ⟨?_, ?_, ?_, ((HK4.out.trans (Kw.ext _ HX5.out HX4.out.size)).trans HKJ.out).trans ((Kw.ext _ HXB.out HX5j.out.size).trans HK6.out)⟩
      · rw [HD.out]
        show Ending.returned (.bool false) = .returned (.bool T.ok)
        rw [← HOK.out]
        exact congrArg (fun b => Ending.returned (.bool b)) HO.out.symm
      · rw [HD.out]
        show J (pre ++ ((k : Int) :: T.ys)) W6
        rw [← HYS.out]
        exact HJ6.out
      · rw [HD.out]
        show MemN W6 R n q keep key bh bf B r T.left
        rw [← HLF.out]
        exact HM6.out
    · have h1 := HON.out ho
      rw [h1] at HYS HLF HOK
      clear h1 HON HOF ho
      gi_wp2
      go_roundw
      case rel => exact ⟨j + 1, (dn l key m c' xb).left, pre' ++ (dn l key m c' xb).ys, by omega, by go_num, by have := HCN.out; have := HC'.out; omega, HJ6.out, HM6.out, HKJ.out.trans ((Kw.ext _ HXB.out HX5j.out.size).trans HK6.out), by rw [List.append_assoc]; exact HYS.out, HLF.out, HOK.out⟩
      case measure => simp [intOf]; omega
theorem dn_all (l : List HC) (R : Option Addr) (n q : Nat) (keep key : Int) (A : Nat → Option Addr) (C : Nat → Nat) (bh bf B r : Nat) (w0 : World) (S : Nat → Prop) (L : List Int) (J Jx : List Int → World → Prop) (D : DnC l R n q keep key A C bh bf B r w0 S L J Jx) : ∀ m, DnOk l R n q keep key bh bf B r w0 L J Jx m
  | 0 => fun c _ _ _ _ _ h _ _ _ _ _ _ => absurd h (Nat.not_lt_zero c)
  | m + 1 => fun c p pre d W hd hcm hc2 hx hM hJ0 hz hp => by
    cases hu : usedC l p
    · exact dn_a l R n q keep key A C bh bf B r w0 S L J Jx D m c p pre d W hd hx hM hJ0 hz hu
    · by_cases hc : c = 0
      · exact dn_b l R n q keep key A C bh bf B r w0 S L J Jx D m c p pre d W hd hx hM hJ0 hz hu hc
      · exact dn_c l R n q keep key A C bh bf B r w0 S L J Jx D m c p pre d W hd hx hM hJ0 hz hcm hc2 hp hu hc (dn_all l R n q keep key A C bh bf B r w0 S L J Jx D m)
end Go.Proofs.YtjbfopnkeclfgaaGreat
namespace Go.Proofs.YtjbfopnkeclfgaaGreat
set_option maxRecDepth 20000
open Go.RowKit Go.Shelf
attribute [local go_sem] Oper.semAt_some

theorem run_store_func (P : Program) (w : World) (a : Addr) (m : Mode) (f : Fn) (x y : Array Value) : (store a (.func f x y) m).run P w = stored P w a (.func f x y) m := run_store P w a _ m rfl
attribute [local go_sem] run_store_func
theorem nodes_in (d : Nat) (R : Option Addr) (m q : Nat) (keep root key : Int) (w : World) :
    CallsIn Fence.wide d Tryz.prog 127 #[.agg #[.slice R m q, .int .i64 keep], .int .i64 root, .int .i64 key] w fun e w' =>
      e = .returned (.func (.func 144) #[] #[.pointer (some ⟨w.heap.size, 0, none⟩), .pointer (some ⟨w.heap.size + 1 + 1, 0, none⟩), .pointer (some ⟨w.heap.size + 1, 0, none⟩)]) ∧
      w' = ((w.alloc (.cells #[.slice R m q, .int .i64 keep] 30)).alloc (.cells #[.int .i64 root] 3)).alloc (.cells #[.int .i64 key] 3) := by
  refine callsIn_of_wp Tryz.func127 rfl trivial ?_ rfl
  simp only [Tryz.ntmps127, List.size_toArray, List.length_cons, List.length_nil, Nat.reduceAdd, Nat.reduceSub, Array.replicate_succ, Array.replicate_zero, List.push_toArray, List.append_toArray, List.nil_append, List.cons_append]
  gi_wp2
  go_ret
  exact ⟨rfl, rfl⟩
/-- Three boxes, made one behind the other. -/
theorem bts3 {w W : World} {c0 c1 c2 : Array Value} {t0 t1 t2 : TypeId} (h : ((w.alloc (.cells c0 t0)).alloc (.cells c1 t1)).alloc (.cells c2 t2) = W) : Ext w W ∧ W.heap.size = w.heap.size + 3 ∧ Bt W w.heap.size t0 c0 ∧ Bt W (w.heap.size + 1) t1 c1 ∧ Bt W (w.heap.size + 1 + 1) t2 c2 := by
  subst h
  have b0 := Bt.new w c0 t0
  have b1 := Bt.new (w.alloc (.cells c0 t0)) c1 t1
  have b2 := Bt.new ((w.alloc (.cells c0 t0)).alloc (.cells c1 t1)) c2 t2
  simp only [World.size_alloc] at b1 b2
  have y := fun (X : World) o => (Ext.refl X).alloc o
  exact ⟨((y w _).alloc _).alloc _, by simp, (b0.below (y _ _)).below (y _ _), b1.below (y _ _), b2⟩
def encN (l : List HC) (A : Nat → Option Addr) (C : Nat → Nat) (p : Int) : Array Value := #[.int .i64 p, NV l A C p]
set_option maxRecDepth 100000 in
set_option maxHeartbeats 1600000 in
theorem nodes_seq (l : List HC) (hl : AllR l) (R : Option Addr) (n q : Nat) (keep root key : Int) (A : Nat → Option Addr) (C : Nat → Nat) (bh bf br : Nat) (w0 w : World) (hA : Lie w0 R l A C) (hnl : n = l.length) (hx0 : Ext w0 w)
    (hbh : Bt w bh 30 #[.slice R n q, .int .i64 keep]) (hbf : Bt w bf 3 #[.int .i64 key]) (hbr : Bt w br 3 #[.int .i64 root]) :
    SeqO Tryz.prog 144 #[.pointer (some ⟨bh, 0, none⟩), .pointer (some ⟨bf, 0, none⟩), .pointer (some ⟨br, 0, none⟩)] (encN l A C) w0.heap.size (fun k => k = bh ∨ k = bf ∨ k = br) 3 (nodesP l root key) w := by
  intro r J Jx W d hx hJ hJx hY h0
  refine (callsIn_wide (n := d)).2 (callsIn_wide.1 (?_ : CallsIn Fence.wide 3 _ _ _ _ _))
  obtain ⟨W2, hW2⟩ : ∃ W2, ((W.alloc (.cells #[.func (.yield r) #[] #[]] 92)).alloc (.cells #[.int .i64 2000] 3)).alloc (.cells #[.nilFunc] 124) = W2 := ⟨_, rfl⟩
  obtain ⟨hx2, hz2, t0, t1, t2⟩ := bts3 hW2
  have d0 := t2.bx.at 0 _ rfl
  have d1 := t2.bx.free 0
  have d2 := t2.lt
  obtain ⟨FV, hFV⟩ : ∃ FV, Value.func (.func 145) #[] #[.pointer (some ⟨bh, 0, none⟩), .pointer (some ⟨W.heap.size + 1, 0, none⟩), .pointer (some ⟨W.heap.size, 0, none⟩), .pointer (some ⟨bf, 0, none⟩), .pointer (some ⟨W.heap.size + 1 + 1, 0, none⟩)] = FV := ⟨_, rfl⟩
  have HX3 := Lib.hid (show Ext W (W2.setCell ⟨W.heap.size + 1 + 1, 0, none⟩ FV) from hx2.set (p := ⟨W.heap.size + 1 + 1, 0, none⟩) (by show W.heap.size ≤ W.heap.size + 1 + 1; omega) _)
  have HM := Lib.hid (show MemN (W2.setCell ⟨W.heap.size + 1 + 1, 0, none⟩ FV) R n q keep key bh bf W.heap.size r 2000 from by
    refine ⟨(hbh.below hx).below HX3.out, (hbf.below hx).below HX3.out, t0.other (by show W.heap.size + 1 + 1 ≠ W.heap.size; omega) _, t1.other (by show W.heap.size + 1 + 1 ≠ W.heap.size + 1; omega) _, ?_⟩
    rw [hFV]
    exact t2.set1 _)
  have c3 := ((hbr.below hx).below hx2).bx.at 0 _ rfl
  have c4 := ((hbr.below hx).below HX3.out).bx.at 0 _ rfl
  have c5 := ((hbr.below hx).below hx2).lt
  have D : DnC l R n q keep key A C bh bf W.heap.size r w0 (fun k => (k = bh ∨ k = bf ∨ k = br) ∨ (W.heap.size ≤ k ∧ k < W.heap.size + 3)) (nodesP l root key) J Jx :=
    ⟨hl, hA, hnl, (hx0.trans hx).size, (hbh.below hx).lt, (hbf.below hx).lt, ⟨.inl (.inl rfl), .inl (.inr (.inl rfl)), .inr ⟨Nat.le_refl _, by omega⟩, .inr ⟨by omega, by omega⟩, .inr ⟨by omega, by omega⟩⟩, hJ, hY⟩
  have IHC := Lib.hid (fun n' => (callsIn_wide (n := n')).2 (callsIn_wide.1 (dn_all l R n q keep key A C bh bf W.heap.size r w0 _ _ J Jx D 2001 2000 root [] 1 _ (Nat.le_refl _) (by omega) (Nat.le_refl _) ((hx0.trans hx).trans HX3.out) HM.out (hJ _ _ _ h0 (.ext HX3.out)) (by have := hz2; simp; omega) (List.prefix_rfl))))
  subst hFV
  clear hJ hJx hY h0 t0 t1 t2 hbh hbf hbr hx hx2 hz2 hA hnl HM D
  refine callsIn_of_wp Tryz.func144 rfl trivial ?_ rfl
  simp only [Tryz.ntmps144, List.size_toArray, List.length_cons, List.length_nil, Nat.reduceAdd, Nat.reduceSub, Array.replicate_succ, Array.replicate_zero, List.push_toArray, List.append_toArray, List.nil_append, List.cons_append]
  gi_wp2_with (refine ⟨trivial, ?_⟩; gi_at_call 145; refine stop_here ?_)
  refine stop_on ?_
  refine (IHC.out _).mono ?_
  rintro e W6 (⟨rfl, hJ6, hM6, hk6⟩ | ⟨rfl, u, hu, hJx⟩)
  · have HJ6 := Lib.hid hJ6
    clear hJ6 hM6 hk6
    gi_wp2
    go_end0
    exact ⟨⟨_, rfl⟩, .inl HJ6.out⟩
  · gi_wp2
    go_end0
    exact ⟨⟨_, rfl⟩, .inr ⟨u, hu, hJx⟩⟩
end Go.Proofs.YtjbfopnkeclfgaaGreat
namespace Go.Proofs.YtjbfopnkeclfgaaGreat
set_option maxRecDepth 20000
open Go.RowKit Go.Shelf
attribute [local go_sem] Oper.semAt_some
attribute [local go_sem] run_store_func

theorem take_prefix {α : Type} {P r : List α} {L : List α} (h : P ++ r <+: L) {j : Nat} (hj : j < r.length) : (P ++ r.take j) ++ [r[j]] <+: L := by
  refine List.IsPrefix.trans ?_ h
  rw [List.append_assoc, ← List.take_succ_eq_append_getElem hj]
  exact ⟨r.drop (j + 1), by rw [List.append_assoc, List.take_append_drop]⟩
end Go.Proofs.YtjbfopnkeclfgaaGreat
namespace Go.Proofs.YtjbfopnkeclfgaaGreat
set_option maxRecDepth 20000
open Go.RowKit Go.Shelf
attribute [local go_sem] Oper.semAt_some
attribute [local go_sem] run_store_func

/-- No leaf among them. -/
def noLeaf (l : List HC) (xs : List Int) : Prop := ∀ y ∈ xs, (cellT l y).leaf = false
theorem upTo_none {l : List HC} : ∀ {xs : List Int}, noLeaf l xs → upTo l xs = 0
  | [], _ => rfl
  | x :: xs, h => by
    unfold upTo
    rw [h x List.mem_cons_self, upTo_none (fun y hy => h y (List.mem_cons_of_mem _ hy))]
    rfl
theorem upTo_hit {l : List HC} : ∀ {xs : List Int} {p : Int}, noLeaf l xs → (cellT l p).leaf = true → upTo l (xs ++ [p]) = xs.length + 1
  | [], p, _, hp => by
    show upTo l [p] = 1
    unfold upTo
    rw [hp]; rfl
  | x :: xs, p, h, hp => by
    rw [List.cons_append]
    unfold upTo
    rw [h x List.mem_cons_self, upTo_hit (fun y hy => h y (List.mem_cons_of_mem _ hy)) hp]
    simp
theorem upTo_prefix {l : List HC} {L q : List Int} (h : q <+: L) {ini : List Int} {p : Int} (hq : q = ini ++ [p]) (hn : noLeaf l ini) (hp : (cellT l p).leaf = true) : upTo l L = q.length := by
  obtain ⟨r, rfl⟩ := h
  have h1 : upTo l q = q.length := by rw [hq, upTo_hit hn hp]; simp
  rw [upTo_app r (by rw [h1, hq]; simp), h1]
theorem kept_def {w W : World} {n₀ D : Nat} {o : Obj} (h : Below n₀ w W) (_ : n₀ ≤ w.heap.size) (hD : n₀ ≤ D) (hK : W.heap[D]? = some o) (o' : Obj) : Below n₀ w (W.putObj D o') :=
  h.trans ((Below.refl n₀ W).grown (grownBy_putObj' W D o') (by have := (Array.getElem?_eq_some_iff.1 hK).1; omega) (fun k e => by cases e; exact hD))
theorem Bt.putObj {W : World} {k D : Nat} {t : TypeId} {cs : Array Value} (h : Bt W k t cs) (hne : k ≠ D) (o : Obj) : Bt (W.putObj D o) k t cs := (World.putObj_heap_other hne).trans h
set_option maxRecDepth 100000 in
set_option maxHeartbeats 800000 in
theorem high_in (R : Option Addr) (l : List HC) (n q : Nat) (keep p : Int) (w : World) (hl : AllR l) (hA : HcSl w R n q l) :
    CallsIn Fence.wide 5 Tryz.prog 87 #[.agg #[.slice R n q, .int .i64 keep], .int .i64 p] w fun e w' => e = .returned (.int .i64 (hgtP l p)) ∧ Ext w w' := by
  obtain ⟨A, C, hLie⟩ := lie_ex hA
  have HN := Lib.hid hA.1
  have HLN := Lib.hid (show (nodesP l p (-9223372036854775808)).length ≤ 2000 from nodesP_len l p _)
  clear hA
  refine callsIn_of_wp_marks Tryz.func87 rfl trivial ?_ rfl
  simp only [Tryz.ntmps87, List.size_toArray, List.length_cons, List.length_nil, Nat.reduceAdd, Nat.reduceSub, Array.replicate_succ, Array.replicate_zero, List.push_toArray, List.append_toArray, List.nil_append, List.cons_append]
  gi_wp2_with (refine ⟨trivial, ?_⟩; gi_at_call 127; refine (nodes_in _ _ _ _ _ _ _ _).mono ?_; rintro e w' ⟨rfl, rfl⟩)
  obtain ⟨W1, hW1⟩ : ∃ W1, ((w.alloc (.cells #[.slice R n q, .int .i64 keep] 30)).alloc (.cells #[.int .i64 0] 3)).alloc (.cells #[.int .i64 0] 3) = W1 := ⟨_, rfl⟩
  obtain ⟨hx1, hz1, b0, b1, b2⟩ := bts3 hW1
  rw [hW1]
  obtain ⟨W0, hW0⟩ : ∃ W0, ((W1.alloc (.cells #[.slice R n q, .int .i64 keep] 30)).alloc (.cells #[.int .i64 p] 3)).alloc (.cells #[.int .i64 (-9223372036854775808)] 3) = W0 := ⟨_, rfl⟩
  obtain ⟨hx2, hz2, b3, b4, b5⟩ := bts3 hW0
  rw [hW0]
  rw [hz1] at b3 b4 b5 hz2
  replace b1 := b1.below hx2
  replace b2 := b2.below hx2
  have hX0 := hx1.trans hx2
  clear hW1 hW0 b0 hx1 hx2 hz1
  have HX0 := Lib.hid hX0
  have HZ := Lib.hid hz2
  refine range_own (m := 3) (gf := 144) (lb := #[.pointer (some ⟨w.heap.size + 1 + 1 + 1, 0, none⟩), .pointer (some ⟨w.heap.size + 1 + 1 + 1 + 1 + 1, 0, none⟩), .pointer (some ⟨w.heap.size + 1 + 1 + 1 + 1, 0, none⟩)]) rfl (enters_of Tryz.func144 (by kernel_rfl) rfl)
    (nodes_seq l hl R n q keep p (-9223372036854775808) A C (w.heap.size + 1 + 1 + 1) (w.heap.size + 1 + 1 + 1 + 1 + 1) (w.heap.size + 1 + 1 + 1 + 1) w W0 hLie HN.out hX0 b3 b5 b4) (Ext.refl _) hX0.size (fun k hk => by omega) (fun _ => rfl)
    (fun pre V => noLeaf l pre ∧ (Bt V (w.heap.size + 1) 3 #[.int .i64 0] ∧ (Bt V (w.heap.size + 1 + 1) 3 #[.int .i64 pre.length] ∧ Below w.heap.size w V)))
    (fun c u V => (c = .ret ∧ ∃ ini y, u = ini ++ [y] ∧ noLeaf l ini ∧ (cellT l y).leaf = true) ∧ (Bt V (w.heap.size + 1) 3 #[.int .i64 u.length] ∧ Below w.heap.size w V))
    (Stays.and (stays_pure _ _ _) (Stays.and (stays_bt (fun _ => _) (by omega)) (Stays.and (stays_bt (fun pre : List Int => #[Value.int .i64 pre.length]) (by omega)) (stays_below w hX0.size (Nat.le_refl _)))))
    (fun c => Stays.and (stays_pure _ _ (fun u => c = Code.ret ∧ ∃ ini y, u = ini ++ [y] ∧ noLeaf l ini ∧ (cellT l y).leaf = true)) (Stays.and (stays_bt (fun u : List Int => #[Value.int .i64 u.length]) (by omega)) (stays_below w hX0.size (Nat.le_refl _))))
    ⟨fun y hy => by simp at hy, b1, b2, hX0⟩
    (fun y a' V => ∃ Bx, W0.heap.size + (2 + 3) ≤ Bx ∧ Bt V Bx 59 #[.bool (cellT l y).leaf, .slice (A y.toNat) (cellT l y).it.length (C y.toNat)] ∧ a' = { tmps := #[.agg #[.slice R n q, .int .i64 keep], .int .i64 p, .pointer (some ⟨w.heap.size, 0, none⟩), undef, .pointer (some ⟨w.heap.size + 1, 0, none⟩), .pointer (some ⟨w.heap.size + 1 + 1, 0, none⟩), undef, .pointer (some ⟨Bx, 0, none⟩), .agg #[.slice R n q, .int .i64 keep], .int .i64 p, .func (.func 144) #[] #[.pointer (some ⟨w.heap.size + 1 + 1 + 1, 0, none⟩), .pointer (some ⟨w.heap.size + 1 + 1 + 1 + 1 + 1, 0, none⟩), .pointer (some ⟨w.heap.size + 1 + 1 + 1 + 1, 0, none⟩)], .int .i64 y, NV l A C y, undef, undef, undef, undef, undef], defers := [] })
    (fun p a' s X Y hs ho => ⟨hs.choose, hs.choose_spec.1, stays_bt (fun (_ : Unit) => _) (.inr hs.choose_spec.1) () X Y hs.choose_spec.2.1 ho, hs.choose_spec.2.2⟩)
    ?assign ?body ?done ?stop
  case assign =>
    rintro l2 pre y V K ⟨hn, h1, h2, hb⟩ hz hp hK
    have HV := Lib.hid (show Ext V (V.alloc (.cells #[.bool (cellT l y).leaf, .slice (A y.toNat) (cellT l y).it.length (C y.toNat)] 59)) from (Ext.refl V).alloc _)
    have HI := Lib.hid (And.intro hn (And.intro (h1.below HV.out) (And.intro (h2.below HV.out) (Below.trans hb (HV.out.mono hb.size)))))
    have HKV := Lib.hid hK
    have HS0 := Lib.hid hb.size
    clear hn h1 h2 hb hK
    simp only [encN, NV]
    gi_wp2
    exact HKV.out _ _ (Kw.ext _ HV.out HS0.out) HI.out ⟨V.heap.size, hz, Bt.new V _ _, rfl⟩
  case body =>
    rintro l2 pre y a' V ⟨hn, h1, h2, hb⟩ ⟨Bx, hBx, bX, rfl⟩ hz hp
    have hlen : pre.length + 1 ≤ 2000 := by have := hp.length_le; rw [List.length_append] at this; simp at this; have := HLN.out; omega
    have HLE := Lib.hid (show (pre ++ [y]).length = pre.length + 1 from by simp)
    have HNO := Lib.hid (fun h => (show noLeaf l (pre ++ [y]) from fun z hz => (List.mem_append.1 hz).elim (hn z) (fun e => by simp at e; subst e; exact h)))
    have HHI := Lib.hid (fun h : (cellT l y).leaf = true => (show ∃ ini z, pre ++ [y] = ini ++ [z] ∧ noLeaf l ini ∧ (cellT l z).leaf = true from ⟨pre, y, rfl, hn, h⟩))
    have c0 := h2.bx.at 0 _ rfl
    have c1 := h2.bx.free 0
    have c2 := h2.lt
    have HZ2 := HZ.out
    obtain ⟨V1, hV1⟩ : ∃ V1, V.setCell ⟨w.heap.size + 1 + 1, 0, none⟩ (.int .i64 ((pre.length : Int) + 1)) = V1 := ⟨_, rfl⟩
    have hk1 : Kw w.heap.size (fun k => (k = w.heap.size + 1 + 1 + 1 ∨ k = w.heap.size + 1 + 1 + 1 + 1 + 1 ∨ k = w.heap.size + 1 + 1 + 1 + 1) ∨ (W0.heap.size ≤ k ∧ k < W0.heap.size + (2 + 3))) V V1 := by
      rw [← hV1]; exact Kw.set h2 (by decide) (by omega) (by omega) _ _
    have g1 : Bt V1 (w.heap.size + 1) 3 #[.int .i64 0] := by rw [← hV1]; exact h1.other (by show w.heap.size + 1 + 1 ≠ w.heap.size + 1; omega) _
    have g2 : Bt V1 (w.heap.size + 1 + 1) 3 #[.int .i64 ((pre.length : Int) + 1)] := by rw [← hV1]; exact h2.set1 _
    have g3 : Bt V1 Bx 59 #[.bool (cellT l y).leaf, .slice (A y.toNat) (cellT l y).it.length (C y.toNat)] := by rw [← hV1]; exact bX.other (by show w.heap.size + 1 + 1 ≠ Bx; omega) _
    obtain ⟨n0, n1, n2⟩ := g3.bx.read2
    have d0 := g2.bx.at 0 _ rfl
    have d1 := g2.lt
    have e0 := g1.bx.at 0 _ rfl
    have e1 := g1.bx.free 0
    have e2 := g1.lt
    have HB1 := Lib.hid (show Below w.heap.size w V1 from Below.trans hb hk1.old)
    have HK1 := Lib.hid hk1
    have HG1 := Lib.hid g1
    have HG2 := Lib.hid (show Bt V1 (w.heap.size + 1 + 1) 3 #[.int .i64 (pre ++ [y]).length] from by rw [HLE.out]; exact g2)
    have HS := Lib.hid (show Bt (V1.setCell ⟨w.heap.size + 1, 0, none⟩ (.int .i64 ((pre.length : Int) + 1))) (w.heap.size + 1) 3 #[.int .i64 (pre ++ [y]).length] ∧ Below w.heap.size w (V1.setCell ⟨w.heap.size + 1, 0, none⟩ (.int .i64 ((pre.length : Int) + 1))) ∧
        Kw w.heap.size (fun k => (k = w.heap.size + 1 + 1 + 1 ∨ k = w.heap.size + 1 + 1 + 1 + 1 + 1 ∨ k = w.heap.size + 1 + 1 + 1 + 1) ∨ (W0.heap.size ≤ k ∧ k < W0.heap.size + (2 + 3))) V (V1.setCell ⟨w.heap.size + 1, 0, none⟩ (.int .i64 ((pre.length : Int) + 1))) from by
      refine ⟨by rw [HLE.out]; exact g1.set1 _, HB1.out.setCell (p := ⟨w.heap.size + 1, 0, none⟩) (by show w.heap.size ≤ w.heap.size + 1; omega) _, hk1.trans (Kw.set g1 (by decide) (by omega) (by omega) _ _)⟩)
    clear hn h1 h2 hb bX hk1 g1 g2 g3 HZ2 hp
    cases hlf : (cellT l y).leaf
    · have HN1 := Lib.hid (HNO.out hlf)
      rw [hlf] at n0
      clear hlf HNO HHI
      gi_wp2
      exact ⟨HK1.out, HN1.out, HG1.out, HG2.out, HB1.out⟩
    · have HN1 := Lib.hid (HHI.out hlf)
      rw [hlf] at n0
      clear hlf HNO HHI
      gi_wp2
      exact ⟨HS.out.2.2, ⟨rfl, HN1.out⟩, HS.out.1, HS.out.2.1⟩
  case done =>
    rintro D V rfl ⟨hn, h1, h2, hb⟩ hK
    have HH := Lib.hid (show hgtP l p = 0 from upTo_none hn)
    have HZ2 := HZ.out
    have e0 := h1.bx.at 0 _ rfl
    have e1 := h1.bx.free 0
    have e2 := h1.lt
    have HK := Lib.hid ((KeepsOthers.setCell V ⟨w.heap.size + 1, 0, none⟩ (.int .i64 0)).same W0.heap.size _ hK rfl)
    have HB := Lib.hid (show Below w.heap.size w (V.setCell ⟨w.heap.size + 1, 0, none⟩ (.int .i64 0)) from Below.setCell hb (p := ⟨w.heap.size + 1, 0, none⟩) (by show w.heap.size ≤ w.heap.size + 1; omega) _)
    have HG := Lib.hid (show Bt (V.setCell ⟨w.heap.size + 1, 0, none⟩ (.int .i64 0)) (w.heap.size + 1) 3 #[.int .i64 0] from h1.set1 _)
    clear hn h1 h2 hb hK HZ2 hz2
    gi_wp2
    have hzz := HZ.out
    refine ⟨by simp, .inl ⟨_, _, rfl, run_takeDeferred HK.out, ?_⟩⟩
    have c5 := (HG.out.putObj (D := W0.heap.size) (by omega) (.deferred none)).bx.at 0 _ rfl
    exact ⟨.int .i64 0, by simp [results, Tryz.results87, go_sem, c5], by rw [HH.out]; rfl, kept_def HB.out (Nat.le_refl _) (by omega) HK.out _⟩
  case stop =>
    rintro D c u V rfl hu ⟨⟨rfl, ini, y, he, hn, hy⟩, h1, hb⟩ hK
    have HH := Lib.hid (show hgtP l p = u.length from upTo_prefix hu he hn hy)
    have HG := Lib.hid h1
    have HB := Lib.hid (show Below w.heap.size w V from hb)
    have HK := Lib.hid hK
    clear hu he hn hy h1 hb hK hz2
    gi_wp2
    have hzz := HZ.out
    refine ⟨by simp, .inl ⟨_, _, rfl, run_takeDeferred HK.out, ?_⟩⟩
    have c5 := (HG.out.putObj (D := W0.heap.size) (by omega) (.deferred none)).bx.at 0 _ rfl
    exact ⟨.int .i64 u.length, by simp [results, Tryz.results87, go_sem, c5], by rw [HH.out], kept_def HB.out (Nat.le_refl _) (by omega) HK.out _⟩
end Go.Proofs.YtjbfopnkeclfgaaGreat
namespace Go.Proofs.YtjbfopnkeclfgaaGreat
set_option maxRecDepth 20000
open Go.RowKit Go.Shelf
attribute [local go_sem] Oper.semAt_some
attribute [local go_sem] run_store_func

theorem Kw.own {n₀ : Nat} {S : Nat → Prop} {W W' : World} {B e s n : Nat} {v : Value} {xs : List Value} (h : W.ownsRow B e s v n xs) (he : e ∉ TN) (hg : W.grownBy W' v.ownBlock) (hB : B ≤ W.heap.size) (hn : n₀ ≤ B) (hS : ∀ k, S k → k < B) : Kw n₀ S W W' := by
  have hr : ∀ k, v.ownBlock = some k → B ≤ k := fun k hk => (h.lt k hk).1
  refine ⟨(Below.refl n₀ W).grown hg (by omega) (fun k hk => Nat.le_trans hn (hr k hk)), fun k hk hl => hg.block k hl (fun e1 => by have := hr k e1.symm; have := hS k hk; omega), fun k cs t ht hb => ?_⟩
  unfold Bt at hb ⊢
  refine (hg.block k (Array.getElem?_eq_some_iff.1 hb).1 (fun e1 => ?_)).trans hb
  rcases h.2 with ⟨rfl, _⟩ | ⟨g, cap, cur, rfl, hB, hh, _⟩
  · cases e1
  · cases e1
    rw [hb] at hh
    cases hh
    exact he ht
theorem Bt.grown {W W' : World} {k : Nat} {t : TypeId} {cs : Array Value} {row : Option Nat} (h : Bt W k t cs) (hg : W.grownBy W' row) (hne : row ≠ some k) : Bt W' k t cs :=
  (hg.block k h.lt (fun e => hne e.symm)).trans h
end Go.Proofs.YtjbfopnkeclfgaaGreat
namespace Go.Proofs.YtjbfopnkeclfgaaGreat
set_option maxRecDepth 20000
open Go.RowKit Go.Shelf
attribute [local go_sem] Oper.semAt_some
attribute [local go_sem] run_store_func

end Go.Proofs.YtjbfopnkeclfgaaGreat
namespace Go.Proofs.YtjbfopnkeclfgaaGreat
set_option maxRecDepth 20000
open Go.RowKit Go.Shelf
attribute [local go_sem] Oper.semAt_some
attribute [local go_sem] run_store_func

end Go.Proofs.YtjbfopnkeclfgaaGreat
namespace Go.Proofs.YtjbfopnkeclfgaaGreat
set_option maxRecDepth 20000
open Go.RowKit
attribute [local go_sem] run_store_func

theorem treeHigh_hgt (R : Option Addr) (l : List HC) (n q : Nat) (keep p : Int) (w : World) (hl : AllR l) (hA : HcSl w R n q l) :
    Calls Tryz.prog 87 #[.agg #[.slice R n q, .int .i64 keep], .int .i64 p] w fun e w' => e = .returned (.int .i64 (hgtP l p)) ∧ Ext w w' := callsIn_wide.1 (high_in R l n q keep p w hl hA)
set_option maxRecDepth 100000 in
set_option maxHeartbeats 800000 in
theorem treeRight_any (R : Option Addr) (l : List HC) (n q : Nat) (keep p : Int) (w : World) (hl : AllR l) (hn : l.length ≤ 2000) (hA : HcSl w R n q l) :
    Calls Tryz.prog 56 #[.agg #[.slice R n q, .int .i64 keep], .int .i64 p] w fun e w' => e = .returned (.bool (rightR ⟨l, keep⟩ p)) ∧ Ext w w' := by
  rw [← rightPE_is hl hn keep p]
  have HN := Lib.hid hA.1
  obtain ⟨W1, hW1⟩ : ∃ W1, w.alloc (.cells #[.slice R n q, .int .i64 keep] 30) = W1 := ⟨_, rfl⟩
  obtain ⟨hx1, hb1⟩ := allocs1 hW1
  have HX1 := Lib.hid hx1
  have HB1 := Lib.hid hb1
  obtain ⟨p0, p1, p2⟩ := hb1.read2
  by_cases hp : p = -1
  · have t0 : (p == -1) = true := by rw [beq_iff_eq]; exact hp
    have HC := Lib.hid (show rightPE l p = true from by unfold rightPE; rw [decide_eq_true hp]; rfl)
    clear hp hx1 hb1 hA
    go_enter Tryz.func56, Tryz.ntmps56
    go_wp2
    go_ret
    exact ⟨ret_bool HC.out.symm, HX1.out⟩
  have t0 : (p == -1) = false := by rw [beq_eq_false_iff_ne]; exact hp
  have HHG := Lib.hid (treeHigh_hgt R l n q keep p W1 hl (hA.ext hx1))
  have HPD := Lib.hid (show rightPE l p = ((decide (1 ≤ hgtP l p) && decide (hgtP l p ≤ 20)) && chk l (hgtP l p) (firstK (cellT l p).it, p) 9223372036854775807) from by unfold rightPE; rw [decide_eq_false hp]; rfl)
  obtain ⟨A, C, hLie⟩ := lie_ex hA
  have HLI := Lib.hid hLie
  have HU := Lib.hid (fun h : hgtP l p ≠ 0 => hgtP_used h)
  have HL := Lib.hid hl
  clear hp hx1 hb1 hA hLie hl hn
  go_enter Tryz.func56, Tryz.ntmps56
  go_wp2_with (go_at_call 87; refine stop_here ?_)
  refine stop_on ?_
  refine HHG.out.mono ?_
  rintro e w2 ⟨rfl, hx2⟩
  have HX2 := Lib.hid (HX1.out.trans hx2)
  have HB2 := Lib.hid (HB1.out.ext hx2)
  obtain ⟨p0, p1, p2⟩ := (HB1.out.ext hx2).read2
  clear hx2 HHG
  generalize hgtP l p = g at *
  rcases Nat.lt_or_ge g 1 with h1 | h1
  · have d0 : decide ((g : Int) < 1) = true := decide_eq_true (by omega)
    have d1 : decide (g < 1) = true := decide_eq_true h1
    have HC := Lib.hid (show rightPE l p = false from by rw [HPD.out, decide_eq_false (show ¬ 1 ≤ g by omega)]; rfl)
    clear h1 HPD HU
    go_wp2
    go_ret
    exact ⟨ret_bool HC.out.symm, HX2.out⟩
  have d0 : decide ((g : Int) < 1) = false := decide_eq_false (by omega)
  have d1 : decide (g < 1) = false := decide_eq_false (by omega)
  rcases Nat.lt_or_ge 20 g with h2 | h2
  · have d2 : decide ((20 : Int) < (g : Int)) = true := decide_eq_true (by omega)
    have d3 : decide (20 < g) = true := decide_eq_true h2
    have HC := Lib.hid (show rightPE l p = false from by rw [HPD.out, decide_eq_false (show ¬ g ≤ 20 by omega)]; simp)
    clear h1 h2 HPD HU
    go_wp2
    go_ret
    exact ⟨ret_bool HC.out.symm, HX2.out⟩
  have d2 : decide ((20 : Int) < (g : Int)) = false := decide_eq_false (by omega)
  have d3 : decide (20 < g) = false := decide_eq_false (by omega)
  have hch : rightPE l p = chk l g (firstK (cellT l p).it, p) 9223372036854775807 := by rw [HPD.out, decide_eq_true h1, decide_eq_true h2]; rfl
  obtain ⟨k, hk, rfl, hrf⟩ := usedC_iff (HU.out (by omega))
  have hnd := (cell_ok (HL.out k hk) hrf).1
  rw [cellT_at hk] at hch
  obtain ⟨b, off, hRe, hbl, ⟨q0, q2, q3⟩, hI⟩ := HLI.out k hk
  obtain ⟨bb, of2, hAe, hbb, hc⟩ := hI.cells.it (k := 0) hnd.1.1
  have g0 := (hc 0 hnd.1.1).1
  rw [← firstK_at hnd.1.1, show of2 + 0 * 2 = of2 by omega] at g0
  have hlen := hnd.1.1
  have hkn : (k : Int) < (n : Int) := by have := HN.out; omega
  have h0n : (0 : Int) < (l[k].it.length : Int) := by omega
  rw [hAe] at q3
  subst hRe
  obtain ⟨W4, hW4⟩ : ∃ W4, w2.alloc (.cells #[.nilFunc] 144) = W4 := ⟨_, rfl⟩
  obtain ⟨hx4, hb4⟩ := allocs1 hW4
  have u0 := hb4.at 0 _ rfl
  have u1 := hb4.free 0
  have u2 := hb4.lt
  obtain ⟨FV, hFV⟩ : ∃ FV, Value.func (.func 88) #[] #[.pointer (some ⟨w.heap.size, 0, none⟩), .pointer (some ⟨w2.heap.size, 0, none⟩)] = FV := ⟨_, rfl⟩
  obtain ⟨W5, hW5⟩ : ∃ W5, W4.setCell ⟨w2.heap.size, 0, none⟩ FV = W5 := ⟨_, rfl⟩
  have hx5 : Ext w2 W5 := by rw [← hW5]; exact hx4.set (p := ⟨w2.heap.size, 0, none⟩) (Nat.le_refl _) _
  have hb5 : Bx W5 w2.heap.size #[FV] := by rw [← hW5]; exact hb4.set 0 FV
  have HX5 := Lib.hid (HX2.out.trans hx5)
  have v0 := hb5.at 0 _ rfl
  have v1 := hb5.lt
  obtain ⟨s0, s1, s2⟩ := (HB2.out.ext hx5).read2
  have r3 := (HX5.out.cell (p := ⟨b, off + k * 4 + 3, none⟩) hbl).trans q3
  have r0 := (HX5.out.cell (p := ⟨bb, of2, none⟩) hbb).trans g0
  have D : RtC l (some ⟨b, off, none⟩) n q keep A C w.heap.size w2.heap.size W5 := ⟨HL.out, HLI.out.ext HX5.out, HN.out, HB2.out.ext hx5, by rw [hFV]; exact hb5⟩
  have HR := Lib.hid (show ∀ W', Ext W5 W' → Calls Tryz.prog 88 #[.agg #[.int .i64 (firstK l[k].it), .int .i64 k], .int .i64 g, .int .i64 9223372036854775807, .pointer (some ⟨w.heap.size, 0, none⟩), .pointer (some ⟨w2.heap.size, 0, none⟩)] W' fun r W'' => r = .returned (.bool (chk l g (firstK l[k].it, (k : Int)) 9223372036854775807)) ∧ Ext W' W'' from by
    obtain ⟨g', rfl⟩ : ∃ g', g = g' + 1 := ⟨g - 1, by omega⟩
    exact fun W' h => rt_all l (some ⟨b, off, none⟩) n q keep A C w.heap.size w2.heap.size W5 D g' h2 (firstK l[k].it, (k : Int)) 9223372036854775807 W' h)
  rw [← hch] at HR
  clear hI hc hnd hlen hrf q0 q2 q3 g0 hch
  generalize firstK l[k].it = F at *
  generalize l[k] = x at *
  obtain ⟨xr, xp, lf, it⟩ := x
  simp only at h0n r3
  generalize it.length = li at *
  subst hFV
  clear hx4 hb4 hx5 hb5 D HPD HU hbb hbl h1 h2 hAe hk
  have h0m : 0 < li := by omega
  go_wp2
  go_still_tail 14, (by kernel_rfl)
  change wpList _ _ _ _ _ W5.drew
  go_wp2_with (go_at_call 88; refine stop_here ?_)
  refine stop_on ?_
  refine (HR.out _ (Ext.refl _).drew).mono ?_
  rintro e w7 ⟨rfl, hx7⟩
  have HX7 := Lib.hid (HX5.out.drew.trans hx7)
  clear hx7
  go_wp2
  go_ret
  exact ⟨rfl, HX7.out⟩
end Go.Proofs.YtjbfopnkeclfgaaGreat
