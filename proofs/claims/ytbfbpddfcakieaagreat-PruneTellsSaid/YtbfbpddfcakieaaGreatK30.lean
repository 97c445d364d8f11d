/- items of package tree as an iterator: over nodes. High of package tree, by a range over nodes. -/
import Derived.Test.YtbfbpddfcakieaaGreatK29
namespace Go.Proofs.YtbfbpddfcakieaaGreat
open Go.RowKit Go.Shelf
attribute [local go_sem] Oper.semAt_some
attribute [local go_sem] run_store_func

def encI (x : It) : Array Value := #[.agg #[.int .i64 x.1, .int .i64 x.2]]
theorem prefix_flatMap {α β : Type} (f : α → List β) {a b : List α} (h : a <+: b) : a.flatMap f <+: b.flatMap f := by
  obtain ⟨r, rfl⟩ := h
  exact ⟨r.flatMap f, by rw [List.flatMap_append]⟩
theorem prefix_mem {α : Type} {a b : List α} {x : α} (h : a ++ [x] <+: b) : x ∈ b := h.subset (by simp)
theorem from_leaf {it : List It} (key : Int) : ∃ i : Nat, i ≤ it.length ∧ atI true it key = (i : Int) ∧ fromT it true key = it.drop i := by
  refine ⟨atC it key, List.countP_le_length, atI_leaf, ?_⟩
  unfold fromT
  rw [atI_leaf, Int.toNat_natCast]
theorem take_prefix {α : Type} {P r : List α} {L : List α} (h : P ++ r <+: L) {j : Nat} (hj : j < r.length) : (P ++ r.take j) ++ [r[j]] <+: L := by
  refine List.IsPrefix.trans ?_ h
  rw [List.append_assoc, ← List.take_succ_eq_append_getElem hj]
  exact ⟨r.drop (j + 1), by rw [List.append_assoc, List.take_append_drop]⟩
set_option maxRecDepth 100000 in
set_option maxHeartbeats 1600000 in
theorem items_seq (l : List HC) (hl : AllR l) (R : Option Addr) (n q : Nat) (keep root key : Int) (A : Nat → Option Addr) (C : Nat → Nat) (bh bf br : Nat) (w0 w : World) (hA : Lie w0 R l A C) (hnl : n = l.length) (hx0 : Ext w0 w)
    (hbh : Bt w bh 24 #[.slice R n q, .int .i64 keep]) (hbf : Bt w bf 3 #[.int .i64 key]) (hbr : Bt w br 3 #[.int .i64 root]) :
    SeqO Tryz.prog 68 #[.pointer (some ⟨bh, 0, none⟩), .pointer (some ⟨br, 0, none⟩), .pointer (some ⟨bf, 0, none⟩)] encI w0.heap.size (fun k => k = bh ∨ k = bf ∨ k = br) 9 (itemsP l root key) w := by
  intro r J Jx W d hx hJ hJx hY h0
  refine (callsIn_wide (n := d)).2 (callsIn_wide.1 (?_ : CallsIn Fence.wide 5 _ _ _ _ _))
  have HH := Lib.hid (hbh.below hx)
  have HF := Lib.hid (hbf.below hx)
  have HR := Lib.hid (hbr.below hx)
  obtain ⟨p0, p1, p2⟩ := HH.out.bx.read2
  have q0 := HF.out.bx.at 0 _ rfl
  have q1 := HF.out.lt
  have r0 := HR.out.bx.at 0 _ rfl
  have r1 := HR.out.lt
  have HJ := Lib.hid hJ
  have HJX := Lib.hid hJx
  have HY := Lib.hid hY
  have HX := Lib.hid (hx0.trans hx)
  have HL := Lib.hid hl
  have HA := Lib.hid hA
  have HNL := Lib.hid hnl
  clear hbh hbf hbr hJ hJx hY hl hA hnl hx hx0
  refine callsIn_of_wp_marks Tryz.func68 rfl trivial ?_ rfl
  simp only [Tryz.ntmps68, List.size_toArray, List.length_cons, List.length_nil, Nat.reduceAdd, Nat.reduceSub, Array.replicate_succ, Array.replicate_zero, List.push_toArray, List.append_toArray, List.nil_append, List.cons_append]
  gi_wp2_with (refine ⟨trivial, ?_⟩; gi_at_call 44; refine (nodes_in _ _ _ _ _ _ _ _).mono ?_; rintro e w' ⟨rfl, rfl⟩)
  obtain ⟨W0, hW0⟩ : ∃ W0, (((W.alloc (.cells #[.func (.yield r) #[] #[]] 104)).alloc (.cells #[.slice R n q, .int .i64 keep] 24)).alloc (.cells #[.int .i64 root] 3)).alloc (.cells #[.int .i64 key] 3) = W0 := ⟨_, rfl⟩
  obtain ⟨hx1, hz1, b1, b2, b3⟩ := bts3 hW0
  rw [hW0]
  have hxa := (Ext.refl W).alloc (.cells #[.func (.yield r) #[] #[]] 104)
  have b0 := (Bt.new W #[.func (.yield r) #[] #[]] 104).below hx1
  have hX0 := hxa.trans hx1
  simp only [World.size_alloc] at hz1 b1 b2 b3
  clear hW0 hx1 hxa
  have HX0 := Lib.hid hX0
  refine range_own (m := 3) (gf := 70) (lb := #[.pointer (some ⟨W.heap.size + 1, 0, none⟩), .pointer (some ⟨W.heap.size + 1 + 1 + 1, 0, none⟩), .pointer (some ⟨W.heap.size + 1 + 1, 0, none⟩)]) rfl (enters_of Tryz.func70 (by kernel_rfl) rfl)
    (nodes_seq l HL.out R n q keep root key A C (W.heap.size + 1) (W.heap.size + 1 + 1 + 1) (W.heap.size + 1 + 1) w0 W0 HA.out HNL.out (HX.out.trans hX0) b1 b3 b2) (Ext.refl _) (HX.out.trans hX0).size (fun k hk => by omega) (fun _ => rfl)
    (fun pre V => J (pre.flatMap (itemsY l key)) V ∧ (Bt V W.heap.size 104 #[.func (.yield r) #[] #[]] ∧ (Bt V bf 3 #[.int .i64 key] ∧ Below w0.heap.size w0 V)))
    (fun c _ V => c = .ret ∧ ∃ u, u <+: itemsP l root key ∧ Jx u V)
    (Stays.and (fun s X Y hs ho => HJ.out _ X Y hs (ho.sup (by omega) (by omega))) (Stays.and (stays_bt (fun _ => _) (by omega)) (Stays.and (stays_bt (fun _ => _) (.inl (by omega))) (stays_below w0 (HX.out.trans hX0).size (Nat.le_refl _)))))
    (fun c s X Y hs ho => ⟨hs.1, hs.2.choose, hs.2.choose_spec.1, HJX.out _ X Y hs.2.choose_spec.2 (ho.sup (by omega) (by omega))⟩)
    ⟨HJ.out _ _ _ h0 (.ext hX0), b0, HF.out.below hX0, HX.out.trans hX0⟩
    (fun p a' V => ∃ Bx, W0.heap.size + (2 + 3) ≤ Bx ∧ Bt V Bx 51 #[.bool (cellT l p).leaf, .slice (A p.toNat) (cellT l p).it.length (C p.toNat)] ∧ a' = { tmps := #[.func (.yield r) #[] #[], .pointer (some ⟨bh, 0, none⟩), .pointer (some ⟨br, 0, none⟩), .pointer (some ⟨bf, 0, none⟩), .pointer (some ⟨W.heap.size, 0, none⟩), undef, .pointer (some ⟨Bx, 0, none⟩), undef, undef, undef, undef, .agg #[.slice R n q, .int .i64 keep], .int .i64 root, .int .i64 key, .func (.func 70) #[] #[.pointer (some ⟨W.heap.size + 1, 0, none⟩), .pointer (some ⟨W.heap.size + 1 + 1 + 1, 0, none⟩), .pointer (some ⟨W.heap.size + 1 + 1, 0, none⟩)], .int .i64 p, NV l A C p, undef, undef, undef, undef, undef, undef, undef, undef, undef, undef, undef, undef, undef, undef, undef, undef, undef, undef, undef, undef, undef, undef, undef], defers := [] })
    (fun p a' s X Y hs ho => ⟨hs.choose, hs.choose_spec.1, stays_bt (fun (_ : Unit) => _) (.inr hs.choose_spec.1) () X Y hs.choose_spec.2.1 ho, hs.choose_spec.2.2⟩)
    ?assign ?body ?done ?stop
  case assign =>
    rintro l2 pre p V K ⟨hj, hy, hf, hb⟩ hz hp hK
    have HV := Lib.hid (show Ext V (V.alloc (.cells #[.bool (cellT l p).leaf, .slice (A p.toNat) (cellT l p).it.length (C p.toNat)] 51)) from (Ext.refl V).alloc _)
    have HJV := Lib.hid (HJ.out _ _ _ hj (.ext HV.out))
    have HYV := Lib.hid (hy.below HV.out)
    have HFV := Lib.hid (hf.below HV.out)
    have HBV := Lib.hid (Below.trans hb (HV.out.mono hb.size))
    have HKV := Lib.hid hK
    have HS0 := Lib.hid hb.size
    clear hj hy hf hb hK
    show Code.wpIn _ _ _ _ _ _ _
    simp only [encN, NV]
    gi_wp2
    exact HKV.out _ _ (Kw.ext _ HV.out HS0.out) ⟨HJV.out, HYV.out, HFV.out, HBV.out⟩ ⟨V.heap.size, hz, Bt.new V _ _, rfl⟩
  case body =>
    rintro l2 pre p a' V ⟨hj, hy, hf, hb⟩ ⟨Bx, hBx, bX, rfl⟩ hz hp
    have HZ1 := Lib.hid hz1
    clear hz1
    obtain ⟨k, hk, rfl, hrf⟩ := usedC_iff (dn_used l key 2001 2000 root p (prefix_mem hp))
    have HPF := Lib.hid (prefix_flatMap (itemsY l key) hp)
    rw [List.flatMap_append, List.flatMap_singleton] at HPF
    have HYK := Lib.hid (show itemsY l key (k : Int) = if l[k].leaf then fromT l[k].it true key else [] from by unfold itemsY; rw [cellT_at hk])
    have hnd := (cell_ok (HL.out k hk) hrf).1
    obtain ⟨_, _, hRe, _, _, hI⟩ := HA.out k hk
    clear hRe
    simp only [NV]
    rw [cellT_at hk, Int.toNat_natCast] at bX ⊢
    generalize l[k] = x at *
    obtain ⟨xr, xp, lf, it⟩ := x
    simp only at HYK hnd hI bX ⊢
    obtain ⟨n0, n1, n2⟩ := bX.bx.read2
    have y0 := hy.bx.at 0 _ rfl
    have y1 := hy.lt
    have f0 := hf.bx.at 0 _ rfl
    have f1 := hf.lt
    have HJ1 := Lib.hid hj
    have HY1 := Lib.hid hy
    have HF1 := Lib.hid hf
    have HB1 := Lib.hid (show Ext w0 V from hb)
    have HBX := Lib.hid bX
    have HZ := Lib.hid hz
    clear hj hy hf hb bX hz
    cases lf
    · rw [HYK.out] at HPF
      gi_wp2
      refine ⟨Kw.refl _ _ _, ?_, HY1.out, HF1.out, HB1.out⟩
      rw [List.flatMap_append, List.flatMap_singleton, HYK.out]
      simpa using HJ1.out
    rw [HYK.out] at HPF
    simp only [if_true] at HPF
    obtain ⟨i, hil, hai, hfr⟩ := from_leaf (it := it) key
    rw [hfr] at HPF HYK
    have HAT := Lib.hid (fun W1 (h1 : Ext w0 W1) => nodeAt_any true (A k) it it.length (C k) key W1 rfl ((ndR_iff _).2 hnd) (hI.ext h1))
    rw [hai] at HAT
    have hcap : it.length ≤ C k := hI.2.1
    have hic : i ≤ C k := by omega
    have h4 : it.length ≤ 4 := hnd.1.2
    obtain ⟨A2, hA2⟩ : ∃ A2, (if C k = i then A k else (A k).map fun p => p.add (i * 2)) = A2 := ⟨_, rfl⟩
    have hS5 := hI.post rfl i hil
    rw [hA2] at hS5
    have HS5 := Lib.hid hS5
    have HRL := Lib.hid (show (it.drop i).length = it.length - i from by rw [List.length_drop])
    clear hS5 hfr hai hnd hI hrf
    gi_wp2_with (refine ⟨trivial, ?_⟩; gi_at_call 46; refine stop_here ?_)
    refine stop_on ?_
    refine (callsIn_wide.2 (HAT.out _ HB1.out)).mono ?_
    rintro e w5 ⟨rfl, hx5⟩
    have HX5 := Lib.hid hx5
    obtain ⟨n0, n1, n2⟩ := (HBX.out.below hx5).bx.read2
    have y0 := (HY1.out.below hx5).bx.at 0 _ rfl
    have y1 := (HY1.out.below hx5).lt
    clear hx5
    gi_wp2
    generalize hnr : it.length - i = nr at *
    have hn4 : nr ≤ 4 := by omega
    have HSUB := Lib.hid (show ∀ k, (fun k => (k = W.heap.size + 1 ∨ k = W.heap.size + 1 + 1 + 1 ∨ k = W.heap.size + 1 + 1) ∨ (W0.heap.size ≤ k ∧ k < W0.heap.size + (2 + 3))) k → (k = bh ∨ k = bf ∨ k = br) ∨ (W.heap.size ≤ k ∧ k < W.heap.size + 9) from fun k h => by
      have h1 := HZ1.out
      right
      rcases h with h | h <;> omega)
    clear HAT h4 hcap hic hil hnr hA2 n0 n1 n2 f0 f1 y0 y1
    generalize hres : it.drop i = rest at *
    clear hres
    gi_loopw [31] (fun v wr => ∃ j : Nat, j ≤ nr ∧ v = .int .i64 j ∧ J (pre.flatMap (itemsY l key) ++ rest.take j) wr ∧ (Bt wr W.heap.size 104 #[.func (.yield r) #[] #[]] ∧ Bt wr bf 3 #[.int .i64 key]) ∧ Kw w0.heap.size (fun k => (k = W.heap.size + 1 ∨ k = W.heap.size + 1 + 1 + 1 ∨ k = W.heap.size + 1 + 1) ∨ (W0.heap.size ≤ k ∧ k < W0.heap.size + (2 + 3))) V wr) (fun v _ => nr - (intOf v).toNat)
    case atStart => exact ⟨0, Nat.zero_le _, rfl, by rw [List.take_zero, List.append_nil]; exact HJ.out _ _ _ HJ1.out (.ext HX5.out), ⟨HY1.out.below HX5.out, HF1.out.below HX5.out⟩, Kw.ext _ HX5.out HB1.out.size⟩
    case round =>
      obtain ⟨j, hj, rfl, hJj, ⟨hYj, hFj⟩, hKj⟩ := hrel
      have HJJ := Lib.hid hJj
      have HYJ := Lib.hid hYj
      have HFJ := Lib.hid hFj
      have HKJ := Lib.hid hKj
      have HXJ := Lib.hid (show Ext w0 wr from HB1.out.thru hKj.old)
      clear hJj hYj hFj hKj
      rcases Nat.lt_or_ge j nr with hlt | hlt
      rotate_left
      · obtain rfl : nr = j := by omega
        have hE : rest.take nr = rest := by rw [← HRL.out, List.take_length]
        rw [hE] at HJJ
        clear hE hlt hj
        gi_wp2
        refine ⟨HKJ.out, ?_, HYJ.out, HFJ.out, HXJ.out⟩
        rw [List.flatMap_append, List.flatMap_singleton, HYK.out]
        exact HJJ.out
      have hjl : j < rest.length := by rw [HRL.out]; exact hlt
      obtain ⟨ba, oa, rfl, hba, u0, u1⟩ := it_at HS5.out hjl
      have i0 := (HXJ.out.cell (p := ⟨ba, oa + j * 2, none⟩) hba).trans u0
      have i1 := (HXJ.out.cell (p := ⟨ba, oa + j * 2 + 1, none⟩) hba).trans u1
      have HTP := Lib.hid (take_prefix HPF.out hjl)
      have HTK := Lib.hid (show rest.take (j + 1) = rest.take j ++ [rest[j]] from List.take_succ_eq_append_getElem hjl)
      obtain ⟨x, hxe⟩ : ∃ x, rest[j] = x := ⟨_, rfl⟩
      rw [hxe] at i0 i1 HTP HTK
      clear u0 u1 hxe hjl
      obtain ⟨xa, xb⟩ := x
      simp only at i0 i1
      have hji : (j : Int) < (nr : Int) := by omega
      have HXB := Lib.hid ((Ext.refl wr).alloc (.cells #[.int .i64 xa, .int .i64 xb] 46))
      have y0 := HYJ.out.bx.at 0 _ rfl
      have y1 := HYJ.out.lt
      have y2 := (HYJ.out.below HXB.out).bx.at 0 _ rfl
      have y3 := (HYJ.out.below HXB.out).lt
      obtain ⟨fn, tmps, assign, body, hy, hR⟩ := HY.out _ (xa, xb) _ 2 (HJ.out _ _ _ HJJ.out (.ext HXB.out)) (Nat.le_trans (show W.heap.size + 9 ≤ V.heap.size by have := HZ.out; have := HZ1.out; omega) (Nat.le_trans HKJ.out.old.size HXB.out.size)) HTP.out
      simp only [encI] at hy
      gi_wp2
      refine hR.mono ?_
      rintro e W3 ⟨hk3, (⟨rfl, hJ3⟩ | ⟨rfl, hJx3⟩)⟩
      · have HK3 := Lib.hid ((Kw.ext _ HXB.out HXJ.out.size).trans (hk3.sub HSUB.out))
        have HJ3 := Lib.hid hJ3
        have HYF := Lib.hid (And.intro ((HYJ.out.below HXB.out).kept hk3 (.inr ⟨Nat.le_refl _, by omega⟩)) ((HFJ.out.below HXB.out).kept hk3 (.inl (.inr (.inl rfl)))))
        clear hk3 hJ3
        gi_wp2
        go_roundw
        case rel => exact ⟨j + 1, by omega, by go_num, by rw [HTK.out, ← List.append_assoc]; exact HJ3.out, HYF.out, HKJ.out.trans HK3.out⟩
        case measure => simp [intOf]; omega
      · have HK3 := Lib.hid (HKJ.out.trans ((Kw.ext _ HXB.out HXJ.out.size).trans (hk3.sub HSUB.out)))
        have HJ3 := Lib.hid hJx3
        clear hk3 hJx3
        gi_wp2
        exact ⟨HK3.out, rfl, _, HTP.out, HJ3.out⟩
  case done =>
    rintro D V rfl ⟨hj, hy, hf, hb⟩ hK
    have HJD := Lib.hid (show J (itemsP l root key) V from hj)
    have HK := Lib.hid hK
    clear hj hy hf hb hK
    gi_wp2
    exact ⟨by simp, .inl ⟨_, _, rfl, run_takeDeferred HK.out, _, results_none rfl _ _ _, ⟨_, rfl⟩, .inl (HJ.out _ _ _ HJD.out (.put _ _ (by omega) (by omega)))⟩⟩
  case stop =>
    rintro D c u V rfl hu ⟨rfl, u', hu', hjx⟩ hK
    have HJD := Lib.hid hjx
    have HU := Lib.hid hu'
    have HK := Lib.hid hK
    clear hjx hu' hu hK
    gi_wp2
    exact ⟨by simp, .inl ⟨_, _, rfl, run_takeDeferred HK.out, _, results_none rfl _ _ _, ⟨_, rfl⟩, .inr ⟨_, HU.out, HJX.out _ _ _ HJD.out (.put _ _ (by omega) (by omega))⟩⟩⟩
end Go.Proofs.YtbfbpddfcakieaaGreat
namespace Go.Proofs.YtbfbpddfcakieaaGreat
open Go.RowKit Go.Shelf
attribute [local go_sem] Oper.semAt_some
attribute [local go_sem] run_store_func

/-- No leaf among them. -/
def noLeaf (l : List HC) (xs : List Int) : Prop := ∀ y ∈ xs, (cellT l y).leaf = false
theorem upTo_none {l : List HC} : ∀ {xs : List Int}, noLeaf l xs → upTo l xs = 0
  | [], _ => rfl
  | x :: xs, h => by
    unfold upTo
    rw [h x List.mem_cons_self, upTo_none (fun y hy => h y (List.mem_cons_of_mem _ hy))]
    rfl
theorem upTo_hit {l : List HC} : ∀ {xs : List Int} {p : Int}, noLeaf l xs → (cellT l p).leaf = true → upTo l (xs ++ [p]) = xs.length + 1
  | [], p, _, hp => by
    show upTo l [p] = 1
    unfold upTo
    rw [hp]; rfl
  | x :: xs, p, h, hp => by
    rw [List.cons_append]
    unfold upTo
    rw [h x List.mem_cons_self, upTo_hit (fun y hy => h y (List.mem_cons_of_mem _ hy)) hp]
    simp
theorem upTo_prefix {l : List HC} {L q : List Int} (h : q <+: L) {ini : List Int} {p : Int} (hq : q = ini ++ [p]) (hn : noLeaf l ini) (hp : (cellT l p).leaf = true) : upTo l L = q.length := by
  obtain ⟨r, rfl⟩ := h
  have h1 : upTo l q = q.length := by rw [hq, upTo_hit hn hp]; simp
  rw [upTo_app r (by rw [h1, hq]; simp), h1]
theorem kept_def {w W : World} {n₀ D : Nat} {o : Obj} (h : Below n₀ w W) (_ : n₀ ≤ w.heap.size) (hD : n₀ ≤ D) (hK : W.heap[D]? = some o) (o' : Obj) : Below n₀ w (W.putObj D o') :=
  h.trans ((Below.refl n₀ W).grown (grownBy_putObj' W D o') (by have := (Array.getElem?_eq_some_iff.1 hK).1; omega) (fun k e => by cases e; exact hD))
theorem Bt.putObj {W : World} {k D : Nat} {t : TypeId} {cs : Array Value} (h : Bt W k t cs) (hne : k ≠ D) (o : Obj) : Bt (W.putObj D o) k t cs := (World.putObj_heap_other hne).trans h
set_option maxRecDepth 100000 in
set_option maxHeartbeats 800000 in
theorem high_in (R : Option Addr) (l : List HC) (n q : Nat) (keep p : Int) (w : World) (hl : AllR l) (hA : HcSl w R n q l) :
    CallsIn Fence.wide 5 Tryz.prog 22 #[.agg #[.slice R n q, .int .i64 keep], .int .i64 p] w fun e w' => e = .returned (.int .i64 (hgtP l p)) ∧ Ext w w' := by
  obtain ⟨A, C, hLie⟩ := lie_ex hA
  have HN := Lib.hid hA.1
  have HLN := Lib.hid (show (nodesP l p (-9223372036854775808)).length ≤ 2000 from nodesP_len l p _)
  clear hA
  refine callsIn_of_wp_marks Tryz.func22 rfl trivial ?_ rfl
  simp only [Tryz.ntmps22, List.size_toArray, List.length_cons, List.length_nil, Nat.reduceAdd, Nat.reduceSub, Array.replicate_succ, Array.replicate_zero, List.push_toArray, List.append_toArray, List.nil_append, List.cons_append]
  gi_wp2_with (refine ⟨trivial, ?_⟩; gi_at_call 44; refine (nodes_in _ _ _ _ _ _ _ _).mono ?_; rintro e w' ⟨rfl, rfl⟩)
  obtain ⟨W1, hW1⟩ : ∃ W1, ((w.alloc (.cells #[.slice R n q, .int .i64 keep] 24)).alloc (.cells #[.int .i64 0] 3)).alloc (.cells #[.int .i64 0] 3) = W1 := ⟨_, rfl⟩
  obtain ⟨hx1, hz1, b0, b1, b2⟩ := bts3 hW1
  rw [hW1]
  obtain ⟨W0, hW0⟩ : ∃ W0, ((W1.alloc (.cells #[.slice R n q, .int .i64 keep] 24)).alloc (.cells #[.int .i64 p] 3)).alloc (.cells #[.int .i64 (-9223372036854775808)] 3) = W0 := ⟨_, rfl⟩
  obtain ⟨hx2, hz2, b3, b4, b5⟩ := bts3 hW0
  rw [hW0]
  rw [hz1] at b3 b4 b5 hz2
  replace b1 := b1.below hx2
  replace b2 := b2.below hx2
  have hX0 := hx1.trans hx2
  clear hW1 hW0 b0 hx1 hx2 hz1
  have HX0 := Lib.hid hX0
  have HZ := Lib.hid hz2
  refine range_own (m := 3) (gf := 70) (lb := #[.pointer (some ⟨w.heap.size + 1 + 1 + 1, 0, none⟩), .pointer (some ⟨w.heap.size + 1 + 1 + 1 + 1 + 1, 0, none⟩), .pointer (some ⟨w.heap.size + 1 + 1 + 1 + 1, 0, none⟩)]) rfl (enters_of Tryz.func70 (by kernel_rfl) rfl)
    (nodes_seq l hl R n q keep p (-9223372036854775808) A C (w.heap.size + 1 + 1 + 1) (w.heap.size + 1 + 1 + 1 + 1 + 1) (w.heap.size + 1 + 1 + 1 + 1) w W0 hLie HN.out hX0 b3 b5 b4) (Ext.refl _) hX0.size (fun k hk => by omega) (fun _ => rfl)
    (fun pre V => noLeaf l pre ∧ (Bt V (w.heap.size + 1) 3 #[.int .i64 0] ∧ (Bt V (w.heap.size + 1 + 1) 3 #[.int .i64 pre.length] ∧ Below w.heap.size w V)))
    (fun c u V => (c = .ret ∧ ∃ ini y, u = ini ++ [y] ∧ noLeaf l ini ∧ (cellT l y).leaf = true) ∧ (Bt V (w.heap.size + 1) 3 #[.int .i64 u.length] ∧ Below w.heap.size w V))
    (Stays.and (stays_pure _ _ _) (Stays.and (stays_bt (fun _ => _) (by omega)) (Stays.and (stays_bt (fun pre : List Int => #[Value.int .i64 pre.length]) (by omega)) (stays_below w hX0.size (Nat.le_refl _)))))
    (fun c => Stays.and (stays_pure _ _ (fun u => c = Code.ret ∧ ∃ ini y, u = ini ++ [y] ∧ noLeaf l ini ∧ (cellT l y).leaf = true)) (Stays.and (stays_bt (fun u : List Int => #[Value.int .i64 u.length]) (by omega)) (stays_below w hX0.size (Nat.le_refl _))))
    ⟨fun y hy => by simp at hy, b1, b2, hX0⟩
    (fun y a' V => ∃ Bx, W0.heap.size + (2 + 3) ≤ Bx ∧ Bt V Bx 51 #[.bool (cellT l y).leaf, .slice (A y.toNat) (cellT l y).it.length (C y.toNat)] ∧ a' = { tmps := #[.agg #[.slice R n q, .int .i64 keep], .int .i64 p, .pointer (some ⟨w.heap.size, 0, none⟩), undef, .pointer (some ⟨w.heap.size + 1, 0, none⟩), .pointer (some ⟨w.heap.size + 1 + 1, 0, none⟩), undef, .pointer (some ⟨Bx, 0, none⟩), .agg #[.slice R n q, .int .i64 keep], .int .i64 p, .func (.func 70) #[] #[.pointer (some ⟨w.heap.size + 1 + 1 + 1, 0, none⟩), .pointer (some ⟨w.heap.size + 1 + 1 + 1 + 1 + 1, 0, none⟩), .pointer (some ⟨w.heap.size + 1 + 1 + 1 + 1, 0, none⟩)], .int .i64 y, NV l A C y, undef, undef, undef, undef, undef], defers := [] })
    (fun p a' s X Y hs ho => ⟨hs.choose, hs.choose_spec.1, stays_bt (fun (_ : Unit) => _) (.inr hs.choose_spec.1) () X Y hs.choose_spec.2.1 ho, hs.choose_spec.2.2⟩)
    ?assign ?body ?done ?stop
  case assign =>
    rintro l2 pre y V K ⟨hn, h1, h2, hb⟩ hz hp hK
    have HV := Lib.hid (show Ext V (V.alloc (.cells #[.bool (cellT l y).leaf, .slice (A y.toNat) (cellT l y).it.length (C y.toNat)] 51)) from (Ext.refl V).alloc _)
    have HI := Lib.hid (And.intro hn (And.intro (h1.below HV.out) (And.intro (h2.below HV.out) (Below.trans hb (HV.out.mono hb.size)))))
    have HKV := Lib.hid hK
    have HS0 := Lib.hid hb.size
    clear hn h1 h2 hb hK
    simp only [encN, NV]
    gi_wp2
    exact HKV.out _ _ (Kw.ext _ HV.out HS0.out) HI.out ⟨V.heap.size, hz, Bt.new V _ _, rfl⟩
  case body =>
    rintro l2 pre y a' V ⟨hn, h1, h2, hb⟩ ⟨Bx, hBx, bX, rfl⟩ hz hp
    have hlen : pre.length + 1 ≤ 2000 := by have := hp.length_le; rw [List.length_append] at this; simp at this; have := HLN.out; omega
    have HLE := Lib.hid (show (pre ++ [y]).length = pre.length + 1 from by simp)
    have HNO := Lib.hid (fun h => (show noLeaf l (pre ++ [y]) from fun z hz => (List.mem_append.1 hz).elim (hn z) (fun e => by simp at e; subst e; exact h)))
    have HHI := Lib.hid (fun h : (cellT l y).leaf = true => (show ∃ ini z, pre ++ [y] = ini ++ [z] ∧ noLeaf l ini ∧ (cellT l z).leaf = true from ⟨pre, y, rfl, hn, h⟩))
    have c0 := h2.bx.at 0 _ rfl
    have c1 := h2.bx.free 0
    have c2 := h2.lt
    have HZ2 := HZ.out
    obtain ⟨V1, hV1⟩ : ∃ V1, V.setCell ⟨w.heap.size + 1 + 1, 0, none⟩ (.int .i64 ((pre.length : Int) + 1)) = V1 := ⟨_, rfl⟩
    have hk1 : Kw w.heap.size (fun k => (k = w.heap.size + 1 + 1 + 1 ∨ k = w.heap.size + 1 + 1 + 1 + 1 + 1 ∨ k = w.heap.size + 1 + 1 + 1 + 1) ∨ (W0.heap.size ≤ k ∧ k < W0.heap.size + (2 + 3))) V V1 := by
      rw [← hV1]; exact Kw.set h2 (by decide) (by omega) (by omega) _ _
    have g1 : Bt V1 (w.heap.size + 1) 3 #[.int .i64 0] := by rw [← hV1]; exact h1.other (by show w.heap.size + 1 + 1 ≠ w.heap.size + 1; omega) _
    have g2 : Bt V1 (w.heap.size + 1 + 1) 3 #[.int .i64 ((pre.length : Int) + 1)] := by rw [← hV1]; exact h2.set1 _
    have g3 : Bt V1 Bx 51 #[.bool (cellT l y).leaf, .slice (A y.toNat) (cellT l y).it.length (C y.toNat)] := by rw [← hV1]; exact bX.other (by show w.heap.size + 1 + 1 ≠ Bx; omega) _
    obtain ⟨n0, n1, n2⟩ := g3.bx.read2
    have d0 := g2.bx.at 0 _ rfl
    have d1 := g2.lt
    have e0 := g1.bx.at 0 _ rfl
    have e1 := g1.bx.free 0
    have e2 := g1.lt
    have HB1 := Lib.hid (show Below w.heap.size w V1 from Below.trans hb hk1.old)
    have HK1 := Lib.hid hk1
    have HG1 := Lib.hid g1
    have HG2 := Lib.hid (show Bt V1 (w.heap.size + 1 + 1) 3 #[.int .i64 (pre ++ [y]).length] from by rw [HLE.out]; exact g2)
    have HS := Lib.hid (show Bt (V1.setCell ⟨w.heap.size + 1, 0, none⟩ (.int .i64 ((pre.length : Int) + 1))) (w.heap.size + 1) 3 #[.int .i64 (pre ++ [y]).length] ∧ Below w.heap.size w (V1.setCell ⟨w.heap.size + 1, 0, none⟩ (.int .i64 ((pre.length : Int) + 1))) ∧
        Kw w.heap.size (fun k => (k = w.heap.size + 1 + 1 + 1 ∨ k = w.heap.size + 1 + 1 + 1 + 1 + 1 ∨ k = w.heap.size + 1 + 1 + 1 + 1) ∨ (W0.heap.size ≤ k ∧ k < W0.heap.size + (2 + 3))) V (V1.setCell ⟨w.heap.size + 1, 0, none⟩ (.int .i64 ((pre.length : Int) + 1))) from by
      refine ⟨by rw [HLE.out]; exact g1.set1 _, HB1.out.setCell (p := ⟨w.heap.size + 1, 0, none⟩) (by show w.heap.size ≤ w.heap.size + 1; omega) _, hk1.trans (Kw.set g1 (by decide) (by omega) (by omega) _ _)⟩)
    clear hn h1 h2 hb bX hk1 g1 g2 g3 HZ2 hp
    cases hlf : (cellT l y).leaf
    · have HN1 := Lib.hid (HNO.out hlf)
      rw [hlf] at n0
      clear hlf HNO HHI
      gi_wp2
      exact ⟨HK1.out, HN1.out, HG1.out, HG2.out, HB1.out⟩
    · have HN1 := Lib.hid (HHI.out hlf)
      rw [hlf] at n0
      clear hlf HNO HHI
      gi_wp2
      exact ⟨HS.out.2.2, ⟨rfl, HN1.out⟩, HS.out.1, HS.out.2.1⟩
  case done =>
    rintro D V rfl ⟨hn, h1, h2, hb⟩ hK
    have HH := Lib.hid (show hgtP l p = 0 from upTo_none hn)
    have HZ2 := HZ.out
    have e0 := h1.bx.at 0 _ rfl
    have e1 := h1.bx.free 0
    have e2 := h1.lt
    have HK := Lib.hid ((KeepsOthers.setCell V ⟨w.heap.size + 1, 0, none⟩ (.int .i64 0)).same W0.heap.size _ hK rfl)
    have HB := Lib.hid (show Below w.heap.size w (V.setCell ⟨w.heap.size + 1, 0, none⟩ (.int .i64 0)) from Below.setCell hb (p := ⟨w.heap.size + 1, 0, none⟩) (by show w.heap.size ≤ w.heap.size + 1; omega) _)
    have HG := Lib.hid (show Bt (V.setCell ⟨w.heap.size + 1, 0, none⟩ (.int .i64 0)) (w.heap.size + 1) 3 #[.int .i64 0] from h1.set1 _)
    clear hn h1 h2 hb hK HZ2 hz2
    gi_wp2
    have hzz := HZ.out
    refine ⟨by simp, .inl ⟨_, _, rfl, run_takeDeferred HK.out, ?_⟩⟩
    have c5 := (HG.out.putObj (D := W0.heap.size) (by omega) (.deferred none)).bx.at 0 _ rfl
    exact ⟨.int .i64 0, by simp [results, Tryz.results22, go_sem, c5], by rw [HH.out]; rfl, kept_def HB.out (Nat.le_refl _) (by omega) HK.out _⟩
  case stop =>
    rintro D c u V rfl hu ⟨⟨rfl, ini, y, he, hn, hy⟩, h1, hb⟩ hK
    have HH := Lib.hid (show hgtP l p = u.length from upTo_prefix hu he hn hy)
    have HG := Lib.hid h1
    have HB := Lib.hid (show Below w.heap.size w V from hb)
    have HK := Lib.hid hK
    clear hu he hn hy h1 hb hK hz2
    gi_wp2
    have hzz := HZ.out
    refine ⟨by simp, .inl ⟨_, _, rfl, run_takeDeferred HK.out, ?_⟩⟩
    have c5 := (HG.out.putObj (D := W0.heap.size) (by omega) (.deferred none)).bx.at 0 _ rfl
    exact ⟨.int .i64 u.length, by simp [results, Tryz.results22, go_sem, c5], by rw [HH.out], kept_def HB.out (Nat.le_refl _) (by omega) HK.out _⟩
end Go.Proofs.YtbfbpddfcakieaaGreat
