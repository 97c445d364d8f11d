/- High of package tree, by a range over nodes. The walk of Put of package grow, up to what is put. The walk of Put of package grow, where an item is put. The contract of Put of package grow. The walk of Fill of package grow. -/
import Derived.Test.YtkoomcbiddanfaaGreatK26
import Derived.Test.YtkoomcbiddanfaaGreatK25
namespace Go.Proofs.YtkoomcbiddanfaaGreat
open Go.RowKit Go.Shelf
attribute [local go_sem] Oper.semAt_some
attribute [local go_sem] run_store_func

/-- No leaf among them. -/
def noLeaf (l : List HC) (xs : List Int) : Prop := ∀ y ∈ xs, (cellT l y).leaf = false
theorem upTo_none {l : List HC} : ∀ {xs : List Int}, noLeaf l xs → upTo l xs = 0
  | [], _ => rfl
  | x :: xs, h => by
    unfold upTo
    rw [h x List.mem_cons_self, upTo_none (fun y hy => h y (List.mem_cons_of_mem _ hy))]
    rfl
theorem upTo_hit {l : List HC} : ∀ {xs : List Int} {p : Int}, noLeaf l xs → (cellT l p).leaf = true → upTo l (xs ++ [p]) = xs.length + 1
  | [], p, _, hp => by
    show upTo l [p] = 1
    unfold upTo
    rw [hp]; rfl
  | x :: xs, p, h, hp => by
    rw [List.cons_append]
    unfold upTo
    rw [h x List.mem_cons_self, upTo_hit (fun y hy => h y (List.mem_cons_of_mem _ hy)) hp]
    simp
theorem upTo_prefix {l : List HC} {L q : List Int} (h : q <+: L) {ini : List Int} {p : Int} (hq : q = ini ++ [p]) (hn : noLeaf l ini) (hp : (cellT l p).leaf = true) : upTo l L = q.length := by
  obtain ⟨r, rfl⟩ := h
  have h1 : upTo l q = q.length := by rw [hq, upTo_hit hn hp]; simp
  rw [upTo_app r (by rw [h1, hq]; simp), h1]
theorem kept_def {w W : World} {n₀ D : Nat} {o : Obj} (h : Below n₀ w W) (_ : n₀ ≤ w.heap.size) (hD : n₀ ≤ D) (hK : W.heap[D]? = some o) (o' : Obj) : Below n₀ w (W.putObj D o') :=
  h.trans ((Below.refl n₀ W).grown (grownBy_putObj' W D o') (by have := (Array.getElem?_eq_some_iff.1 hK).1; omega) (fun k e => by cases e; exact hD))
theorem Bt.putObj {W : World} {k D : Nat} {t : TypeId} {cs : Array Value} (h : Bt W k t cs) (hne : k ≠ D) (o : Obj) : Bt (W.putObj D o) k t cs := (World.putObj_heap_other hne).trans h
set_option maxRecDepth 100000 in
set_option maxHeartbeats 800000 in
theorem high_in (R : Option Addr) (l : List HC) (n q : Nat) (keep p : Int) (w : World) (hl : AllR l) (hA : HcSl w R n q l) :
    CallsIn Fence.wide 5 Tryz.prog 20 #[.agg #[.slice R n q, .int .i64 keep], .int .i64 p] w fun e w' => e = .returned (.int .i64 (hgtP l p)) ∧ Ext w w' := by
  obtain ⟨A, C, hLie⟩ := lie_ex hA
  have HN := Lib.hid hA.1
  have HLN := Lib.hid (show (nodesP l p (-9223372036854775808)).length ≤ 2000 from nodesP_len l p _)
  clear hA
  refine callsIn_of_wp_marks Tryz.func20 rfl trivial ?_ rfl
  simp only [Tryz.ntmps20, List.size_toArray, List.length_cons, List.length_nil, Nat.reduceAdd, Nat.reduceSub, Array.replicate_succ, Array.replicate_zero, List.push_toArray, List.append_toArray, List.nil_append, List.cons_append]
  gi_wp2_with (refine ⟨trivial, ?_⟩; gi_at_call 41; refine (nodes_in _ _ _ _ _ _ _ _).mono ?_; rintro e w' ⟨rfl, rfl⟩)
  obtain ⟨W1, hW1⟩ : ∃ W1, ((w.alloc (.cells #[.slice R n q, .int .i64 keep] 24)).alloc (.cells #[.int .i64 0] 3)).alloc (.cells #[.int .i64 0] 3) = W1 := ⟨_, rfl⟩
  obtain ⟨hx1, hz1, b0, b1, b2⟩ := bts3 hW1
  rw [hW1]
  obtain ⟨W0, hW0⟩ : ∃ W0, ((W1.alloc (.cells #[.slice R n q, .int .i64 keep] 24)).alloc (.cells #[.int .i64 p] 3)).alloc (.cells #[.int .i64 (-9223372036854775808)] 3) = W0 := ⟨_, rfl⟩
  obtain ⟨hx2, hz2, b3, b4, b5⟩ := bts3 hW0
  rw [hW0]
  rw [hz1] at b3 b4 b5 hz2
  replace b1 := b1.below hx2
  replace b2 := b2.below hx2
  have hX0 := hx1.trans hx2
  clear hW1 hW0 b0 hx1 hx2 hz1
  have HX0 := Lib.hid hX0
  have HZ := Lib.hid hz2
  refine range_own (m := 3) (gf := 64) (lb := #[.pointer (some ⟨w.heap.size + 1 + 1 + 1, 0, none⟩), .pointer (some ⟨w.heap.size + 1 + 1 + 1 + 1 + 1, 0, none⟩), .pointer (some ⟨w.heap.size + 1 + 1 + 1 + 1, 0, none⟩)]) rfl (enters_of Tryz.func64 (by kernel_rfl) rfl)
    (nodes_seq l hl R n q keep p (-9223372036854775808) A C (w.heap.size + 1 + 1 + 1) (w.heap.size + 1 + 1 + 1 + 1 + 1) (w.heap.size + 1 + 1 + 1 + 1) w W0 hLie HN.out hX0 b3 b5 b4) (Ext.refl _) hX0.size (fun k hk => by omega) (fun _ => rfl)
    (fun pre V => noLeaf l pre ∧ (Bt V (w.heap.size + 1) 3 #[.int .i64 0] ∧ (Bt V (w.heap.size + 1 + 1) 3 #[.int .i64 pre.length] ∧ Below w.heap.size w V)))
    (fun c u V => (c = .ret ∧ ∃ ini y, u = ini ++ [y] ∧ noLeaf l ini ∧ (cellT l y).leaf = true) ∧ (Bt V (w.heap.size + 1) 3 #[.int .i64 u.length] ∧ Below w.heap.size w V))
    (Stays.and (stays_pure _ _ _) (Stays.and (stays_bt (fun _ => _) (by omega)) (Stays.and (stays_bt (fun pre : List Int => #[Value.int .i64 pre.length]) (by omega)) (stays_below w hX0.size (Nat.le_refl _)))))
    (fun c => Stays.and (stays_pure _ _ (fun u => c = Code.ret ∧ ∃ ini y, u = ini ++ [y] ∧ noLeaf l ini ∧ (cellT l y).leaf = true)) (Stays.and (stays_bt (fun u : List Int => #[Value.int .i64 u.length]) (by omega)) (stays_below w hX0.size (Nat.le_refl _))))
    ⟨fun y hy => by simp at hy, b1, b2, hX0⟩
    (fun y a' V => ∃ Bx, W0.heap.size + (2 + 3) ≤ Bx ∧ Bt V Bx 48 #[.bool (cellT l y).leaf, .slice (A y.toNat) (cellT l y).it.length (C y.toNat)] ∧ a' = { tmps := #[.agg #[.slice R n q, .int .i64 keep], .int .i64 p, .pointer (some ⟨w.heap.size, 0, none⟩), undef, .pointer (some ⟨w.heap.size + 1, 0, none⟩), .pointer (some ⟨w.heap.size + 1 + 1, 0, none⟩), undef, .pointer (some ⟨Bx, 0, none⟩), .agg #[.slice R n q, .int .i64 keep], .int .i64 p, .func (.func 64) #[] #[.pointer (some ⟨w.heap.size + 1 + 1 + 1, 0, none⟩), .pointer (some ⟨w.heap.size + 1 + 1 + 1 + 1 + 1, 0, none⟩), .pointer (some ⟨w.heap.size + 1 + 1 + 1 + 1, 0, none⟩)], .int .i64 y, NV l A C y, undef, undef, undef, undef, undef], defers := [] })
    (fun p a' s X Y hs ho => ⟨hs.choose, hs.choose_spec.1, stays_bt (fun (_ : Unit) => _) (.inr hs.choose_spec.1) () X Y hs.choose_spec.2.1 ho, hs.choose_spec.2.2⟩)
    ?assign ?body ?done ?stop
  case assign =>
    rintro l2 pre y V K ⟨hn, h1, h2, hb⟩ hz hp hK
    have HV := Lib.hid (show Ext V (V.alloc (.cells #[.bool (cellT l y).leaf, .slice (A y.toNat) (cellT l y).it.length (C y.toNat)] 48)) from (Ext.refl V).alloc _)
    have HI := Lib.hid (And.intro hn (And.intro (h1.below HV.out) (And.intro (h2.below HV.out) (Below.trans hb (HV.out.mono hb.size)))))
    have HKV := Lib.hid hK
    have HS0 := Lib.hid hb.size
    clear hn h1 h2 hb hK
    simp only [encN, NV]
    gi_wp2
    exact HKV.out _ _ (Kw.ext _ HV.out HS0.out) HI.out ⟨V.heap.size, hz, Bt.new V _ _, rfl⟩
  case body =>
    rintro l2 pre y a' V ⟨hn, h1, h2, hb⟩ ⟨Bx, hBx, bX, rfl⟩ hz hp
    have hlen : pre.length + 1 ≤ 2000 := by have := hp.length_le; rw [List.length_append] at this; simp at this; have := HLN.out; omega
    have HLE := Lib.hid (show (pre ++ [y]).length = pre.length + 1 from by simp)
    have HNO := Lib.hid (fun h => (show noLeaf l (pre ++ [y]) from fun z hz => (List.mem_append.1 hz).elim (hn z) (fun e => by simp at e; subst e; exact h)))
    have HHI := Lib.hid (fun h : (cellT l y).leaf = true => (show ∃ ini z, pre ++ [y] = ini ++ [z] ∧ noLeaf l ini ∧ (cellT l z).leaf = true from ⟨pre, y, rfl, hn, h⟩))
    have c0 := h2.bx.at 0 _ rfl
    have c1 := h2.bx.free 0
    have c2 := h2.lt
    have HZ2 := HZ.out
    obtain ⟨V1, hV1⟩ : ∃ V1, V.setCell ⟨w.heap.size + 1 + 1, 0, none⟩ (.int .i64 ((pre.length : Int) + 1)) = V1 := ⟨_, rfl⟩
    have hk1 : Kw w.heap.size (fun k => (k = w.heap.size + 1 + 1 + 1 ∨ k = w.heap.size + 1 + 1 + 1 + 1 + 1 ∨ k = w.heap.size + 1 + 1 + 1 + 1) ∨ (W0.heap.size ≤ k ∧ k < W0.heap.size + (2 + 3))) V V1 := by
      rw [← hV1]; exact Kw.set h2 (by decide) (by omega) (by omega) _ _
    have g1 : Bt V1 (w.heap.size + 1) 3 #[.int .i64 0] := by rw [← hV1]; exact h1.other (by show w.heap.size + 1 + 1 ≠ w.heap.size + 1; omega) _
    have g2 : Bt V1 (w.heap.size + 1 + 1) 3 #[.int .i64 ((pre.length : Int) + 1)] := by rw [← hV1]; exact h2.set1 _
    have g3 : Bt V1 Bx 48 #[.bool (cellT l y).leaf, .slice (A y.toNat) (cellT l y).it.length (C y.toNat)] := by rw [← hV1]; exact bX.other (by show w.heap.size + 1 + 1 ≠ Bx; omega) _
    obtain ⟨n0, n1, n2⟩ := g3.bx.read2
    have d0 := g2.bx.at 0 _ rfl
    have d1 := g2.lt
    have e0 := g1.bx.at 0 _ rfl
    have e1 := g1.bx.free 0
    have e2 := g1.lt
    have HB1 := Lib.hid (show Below w.heap.size w V1 from Below.trans hb hk1.old)
    have HK1 := Lib.hid hk1
    have HG1 := Lib.hid g1
    have HG2 := Lib.hid (show Bt V1 (w.heap.size + 1 + 1) 3 #[.int .i64 (pre ++ [y]).length] from by rw [HLE.out]; exact g2)
    have HS := Lib.hid (show Bt (V1.setCell ⟨w.heap.size + 1, 0, none⟩ (.int .i64 ((pre.length : Int) + 1))) (w.heap.size + 1) 3 #[.int .i64 (pre ++ [y]).length] ∧ Below w.heap.size w (V1.setCell ⟨w.heap.size + 1, 0, none⟩ (.int .i64 ((pre.length : Int) + 1))) ∧
        Kw w.heap.size (fun k => (k = w.heap.size + 1 + 1 + 1 ∨ k = w.heap.size + 1 + 1 + 1 + 1 + 1 ∨ k = w.heap.size + 1 + 1 + 1 + 1) ∨ (W0.heap.size ≤ k ∧ k < W0.heap.size + (2 + 3))) V (V1.setCell ⟨w.heap.size + 1, 0, none⟩ (.int .i64 ((pre.length : Int) + 1))) from by
      refine ⟨by rw [HLE.out]; exact g1.set1 _, HB1.out.setCell (p := ⟨w.heap.size + 1, 0, none⟩) (by show w.heap.size ≤ w.heap.size + 1; omega) _, hk1.trans (Kw.set g1 (by decide) (by omega) (by omega) _ _)⟩)
    clear hn h1 h2 hb bX hk1 g1 g2 g3 HZ2 hp
    cases hlf : (cellT l y).leaf
    · have HN1 := Lib.hid (HNO.out hlf)
      rw [hlf] at n0
      clear hlf HNO HHI
      gi_wp2
      exact ⟨HK1.out, HN1.out, HG1.out, HG2.out, HB1.out⟩
    · have HN1 := Lib.hid (HHI.out hlf)
      rw [hlf] at n0
      clear hlf HNO HHI
      gi_wp2
      exact ⟨HS.out.2.2, ⟨rfl, HN1.out⟩, HS.out.1, HS.out.2.1⟩
  case done =>
    rintro D V rfl ⟨hn, h1, h2, hb⟩ hK
    have HH := Lib.hid (show hgtP l p = 0 from upTo_none hn)
    have HZ2 := HZ.out
    have e0 := h1.bx.at 0 _ rfl
    have e1 := h1.bx.free 0
    have e2 := h1.lt
    have HK := Lib.hid ((KeepsOthers.setCell V ⟨w.heap.size + 1, 0, none⟩ (.int .i64 0)).same W0.heap.size _ hK rfl)
    have HB := Lib.hid (show Below w.heap.size w (V.setCell ⟨w.heap.size + 1, 0, none⟩ (.int .i64 0)) from Below.setCell hb (p := ⟨w.heap.size + 1, 0, none⟩) (by show w.heap.size ≤ w.heap.size + 1; omega) _)
    have HG := Lib.hid (show Bt (V.setCell ⟨w.heap.size + 1, 0, none⟩ (.int .i64 0)) (w.heap.size + 1) 3 #[.int .i64 0] from h1.set1 _)
    clear hn h1 h2 hb hK HZ2 hz2
    gi_wp2
    have hzz := HZ.out
    refine ⟨by simp, .inl ⟨_, _, rfl, run_takeDeferred HK.out, ?_⟩⟩
    have c5 := (HG.out.putObj (D := W0.heap.size) (by omega) (.deferred none)).bx.at 0 _ rfl
    exact ⟨.int .i64 0, by simp [results, Tryz.results20, go_sem, c5], by rw [HH.out]; rfl, kept_def HB.out (Nat.le_refl _) (by omega) HK.out _⟩
  case stop =>
    rintro D c u V rfl hu ⟨⟨rfl, ini, y, he, hn, hy⟩, h1, hb⟩ hK
    have HH := Lib.hid (show hgtP l p = u.length from upTo_prefix hu he hn hy)
    have HG := Lib.hid h1
    have HB := Lib.hid (show Below w.heap.size w V from hb)
    have HK := Lib.hid hK
    clear hu he hn hy h1 hb hK hz2
    gi_wp2
    have hzz := HZ.out
    refine ⟨by simp, .inl ⟨_, _, rfl, run_takeDeferred HK.out, ?_⟩⟩
    have c5 := (HG.out.putObj (D := W0.heap.size) (by omega) (.deferred none)).bx.at 0 _ rfl
    exact ⟨.int .i64 u.length, by simp [results, Tryz.results20, go_sem, c5], by rw [HH.out], kept_def HB.out (Nat.le_refl _) (by omega) HK.out _⟩
end Go.Proofs.YtkoomcbiddanfaaGreat
namespace Go.Proofs.YtkoomcbiddanfaaGreat
open Go.RowKit
attribute [local go_sem ↓] Go.wp_at_zero Go.wp_at_succ

theorem treeHighP (R : Option Addr) (l : List HC) (n q : Nat) (keep keep' p : Int) (w : World) (hl : AllR l) (hn : l.length ≤ 2000) (hr : rightR ⟨l, keep'⟩ p = true) (hA : HcSl w R n q l) :
    Calls Tryz.prog 20 #[.agg #[.slice R n q, .int .i64 keep], .int .i64 p] w fun e w' => e = .returned (.int .i64 (highT l p)) ∧ Ext w w' := by
  rw [← hgtP_right hl hn hr]
  exact callsIn_wide.1 (high_in R l n q keep p w hl hA)
set_option maxRecDepth 100000 in
set_option maxHeartbeats 1600000 in
theorem growPut_arg (R : Option Addr) (l : List HC) (n q : Nat) (keep root key val : Int) (deep : Bool) (w : World) (hx : ¬ (isNum key = true ∧ isNum val = true)) (hA : HcSl w R n q l) :
    Calls Tryz.prog 6 #[.agg #[.slice R n q, .int .i64 keep], .int .i64 root, .int .i64 key, .int .i64 val, .bool deep] w fun e w' => ∃ S d, e = .returned (.tuple #[.agg #[.slice S n d, .int .i64 keep], .int .i64 root, .int .i64 1]) ∧ HcSl w' S n d l ∧ Ext w w' := by
  obtain ⟨W, hW⟩ : ∃ W, W = (w.alloc (.cells #[.slice R n q, .int .i64 keep] 24)).alloc (.cells #[.slice none 0 0, .int .i64 0] 24) := ⟨_, rfl⟩
  obtain ⟨hx1, hb0, hb1⟩ := allocs2 hW.symm
  have HX := Lib.hid hx1
  have HB1 := Lib.hid hb1
  have HA := Lib.hid (hA.ext hx1)
  obtain ⟨p0, p1, p2⟩ := hb0.read2
  obtain ⟨t0, t1, t2⟩ := hb1.read2
  obtain ⟨f0, f1⟩ := hb1.free2
  clear hx1 hb0 hb1 hA
  obtain ⟨ik, hik⟩ : ∃ b, isNum key = b := ⟨_, rfl⟩
  obtain ⟨iv2, hiv⟩ : ∃ b, isNum val = b := ⟨_, rfl⟩
  have HIK := Lib.hid (fun w => growIsNumber_any key w)
  have HIV := Lib.hid (fun w => growIsNumber_any val w)
  rw [hik] at HIK hx
  rw [hiv] at HIV hx
  clear hik hiv
  subst hW
  cases ik
  · clear hx HIV
    go_enter Tryz.func6, Tryz.ntmps6
    go_wp2_with (go_at_call 19; refine stop_here ?_)
    refine stop_on ?_
    generalize hW : World.alloc (World.alloc w _) _ = W at *
    clear hW
    refine (HIK.out _).mono ?_
    rintro e w1 ⟨rfl, rfl⟩
    go_wp2_with fail
    refine ret2_cell (k := w.heap.size + 1) (x := .slice R n q) (y := .int .i64 keep) (v := .tuple #[.agg #[.slice R n q, .int .i64 keep], .int .i64 root, .int .i64 1]) ?hb4 (fun r0 r1 => by simp [results, Tryz.results6, go_sem, r0, r1]) rfl ?hx4
    case hb4 => exact HB1.out.set2 _ _
    case hx4 => exact ⟨R, q, rfl, HA.out.boxed2 HB1.out _ _, HX.out.store2 (by omega) _ _⟩
  · cases iv2
    rotate_left
    · exact absurd ⟨rfl, rfl⟩ hx
    · clear hx
      go_enter Tryz.func6, Tryz.ntmps6
      go_wp2_with (go_at_call 19; refine stop_here ?_)
      refine stop_on ?_
      generalize hW : World.alloc (World.alloc w _) _ = W at *
      clear hW
      refine (HIK.out _).mono ?_
      rintro e w1 ⟨rfl, rfl⟩
      go_wp2_with (go_at_call 19; refine stop_here ?_)
      refine stop_on ?_
      refine (HIV.out _).mono ?_
      rintro e w1 ⟨rfl, rfl⟩
      go_wp2_with fail
      refine ret2_cell (k := w.heap.size + 1) (x := .slice R n q) (y := .int .i64 keep) (v := .tuple #[.agg #[.slice R n q, .int .i64 keep], .int .i64 root, .int .i64 1]) ?hb4 (fun r0 r1 => by simp [results, Tryz.results6, go_sem, r0, r1]) rfl ?hx4
      case hb4 => exact HB1.out.set2 _ _
      case hx4 => exact ⟨R, q, rfl, HA.out.boxed2 HB1.out _ _, HX.out.store2 (by omega) _ _⟩
set_option maxRecDepth 100000 in
set_option maxHeartbeats 1600000 in
theorem growPut_full (R : Option Addr) (l : List HC) (n q : Nat) (keep root : Int) (x : It) (deep : Bool) (w : World) (hx : okIt x) (hm : mayH ⟨l, keep⟩ 60 = true) (hrr : rightR ⟨l, keep⟩ root = true) (hf : highT l root = 20 ∨ fitsH ⟨l, keep⟩ (2 * highT l root + 1) deep = false) (hA : HcSl w R n q l) :
    Calls Tryz.prog 6 #[.agg #[.slice R n q, .int .i64 keep], .int .i64 root, .int .i64 x.1, .int .i64 x.2, .bool deep] w fun e w' => ∃ S d, e = .returned (.tuple #[.agg #[.slice S n d, .int .i64 keep], .int .i64 root, .int .i64 3]) ∧ HcSl w' S n d l ∧ Ext w w' := by
  obtain ⟨m1, m2, m3⟩ := may_iff hm
  have hal := allR_of m3
  have hn := hA.1
  obtain ⟨W, hW⟩ : ∃ W, W = (w.alloc (.cells #[.slice R n q, .int .i64 keep] 24)).alloc (.cells #[.slice none 0 0, .int .i64 0] 24) := ⟨_, rfl⟩
  obtain ⟨hx1, hb0, hb1⟩ := allocs2 hW.symm
  obtain ⟨key, val⟩ := x
  have HIK := Lib.hid (fun w => growIsNumber_any key w)
  have HIV := Lib.hid (fun w => growIsNumber_any val w)
  rw [(isNum_iff _).2 hx.1] at HIK
  rw [(isNum_iff _).2 hx.2] at HIV
  obtain ⟨H, hH⟩ : ∃ H, highT l root = H := ⟨_, rfl⟩
  have hHb : 0 ≤ H ∧ H ≤ 20 := by
    rw [← hH]; unfold highT
    split
    · omega
    · exact bel_high l 20 root
  have HHI := Lib.hid (fun w' (hx : Ext w w') => treeHighP R l n q keep keep root w' hal (by omega) hrr (hA.ext hx))
  have HNE := Lib.hid (fun w' => treeNeed_any H w' hHb.1 (by omega))
  have HFI := Lib.hid (fun w' (hx : Ext w w') => heapFits_any R l n q keep w' (2 * H + 1) deep hm (hA.ext hx))
  rw [hH] at HHI hf
  have HX := Lib.hid hx1
  have HB0 := Lib.hid hb0
  have HB1 := Lib.hid hb1
  have HA := Lib.hid (fun w' (hx : Ext w w') => hA.ext hx)
  obtain ⟨p0, p1, p2⟩ := hb0.read2
  clear hx1 hb0 hb1 hA hx hm hrr m1 m2 m3 hal hn hH
  subst hW
  show Calls Tryz.prog 6 #[.agg #[.slice R n q, .int .i64 keep], .int .i64 root, .int .i64 key, .int .i64 val, .bool deep] w _
  have hcase : decide ((20 : Int) ≤ H) = true ∨ (decide ((20 : Int) ≤ H) = false ∧ fitsH ⟨l, keep⟩ (2 * H + 1) deep = false) := by
    rcases Int.lt_or_le H 20 with h | h
    · exact .inr ⟨decide_eq_false (by omega), hf.resolve_left (by omega)⟩
    · exact .inl (decide_eq_true h)
  clear hf
  go_enter Tryz.func6, Tryz.ntmps6
  go_wp2_with (go_at_call 19; refine stop_here ?_)
  refine stop_on ?_
  generalize hW : World.alloc (World.alloc w _) _ = W at *
  clear hW
  refine (HIK.out _).mono ?_
  rintro e w1 ⟨rfl, rfl⟩
  go_wp2_with (go_at_call 19; refine stop_here ?_)
  refine stop_on ?_
  refine (HIV.out _).mono ?_
  rintro e w1 ⟨rfl, rfl⟩
  go_wp2_with (go_at_call 20; refine stop_here ?_)
  refine stop_on ?_
  refine (HHI.out _ HX.out).mono ?_
  rintro e w1 ⟨rfl, hx1⟩
  have HX1 := Lib.hid hx1
  clear p0 p1 p2 hx1
  obtain ⟨p0, p1, p2⟩ := (HB0.out.ext HX1.out).read2
  go_wp2_with fail
  go_cut [38] from 29 to 38 (fun v wx => v = .bool true ∧ Ext w1 wx)
  case first =>
    rcases hcase with d | ⟨d, hfb⟩
    · go_quiet (fail)
      go_wp2_with fail
      go_meet
      exact ⟨rfl, (Ext.refl _).drewN _⟩
    · rw [hfb] at HFI
      go_region_law
        (first
          | ((go_simp
              go_at_call 22
              refine (HNE.out _).mono ?_
              rintro e w2 ⟨rfl, hx2⟩
              have HX2 := Lib.hid (show Ext w1 w2 from by first | exact hx2 | exact (Ext.refl _).drew.trans hx2)
              obtain ⟨p0, p1, p2⟩ := ((HB0.out.ext HX1.out).ext HX2.out).read2
              clear hx2))
          | ((go_simp
              go_at_call 21
              refine (HFI.out _ (HX.out.trans (HX1.out.trans HX2.out))).mono ?_
              rintro e w3 ⟨rfl, hx3⟩
              have HX3 := Lib.hid (HX2.out.trans hx3)
              clear hx3)))
      all_goals
        go_wp2_with fail
        go_meet
        exact ⟨rfl, HX3.out⟩
  case rest =>
    obtain ⟨rfl, hxc⟩ := hcut
    have HXC := Lib.hid (HX1.out.trans hxc)
    have HC0 := Lib.hid (HB0.out.ext HXC.out)
    have HC1 := Lib.hid (HB1.out.ext HXC.out)
    clear p0 p1 p2 hxc
    obtain ⟨p0, p1, p2⟩ := HC0.out.read2
    obtain ⟨t0, t1, t2⟩ := HC1.out.read2
    obtain ⟨f0, f1⟩ := HC1.out.free2
    go_wp2_with fail
    refine ret2_cell (k := w.heap.size + 1) (x := .slice R n q) (y := .int .i64 keep) (v := .tuple #[.agg #[.slice R n q, .int .i64 keep], .int .i64 root, .int .i64 3]) ?hb4 (fun r0 r1 => by simp [results, Tryz.results6, go_sem, r0, r1]) rfl ?hx4
    case hb4 => exact HC1.out.set2 _ _
    case hx4 => exact ⟨R, q, rfl, (HA.out _ (HX.out.trans HXC.out)).boxed2 HC1.out _ _, (HX.out.trans HXC.out).store2 (by omega) _ _⟩
end Go.Proofs.YtkoomcbiddanfaaGreat
namespace Go.Proofs.YtkoomcbiddanfaaGreat
open Go.RowKit
attribute [local go_sem ↓] Go.wp_at_zero Go.wp_at_succ

theorem Gx.over {b : Nat} {keep : Int} {w w0 w1 : World} (h : Gx b keep w0 w1) (hx : Ext w w0) (hb : w.heap.size ≤ b) : Ext w w1 :=
  ⟨h.os.trans hx.os, h.tape.trans hx.tape, h.output.trans hx.output, Nat.le_trans hx.size h.size, fun k hk => (h.block k (Nat.lt_of_lt_of_le hk hx.size) (by omega)).trans (hx.block k hk)⟩
set_option maxRecDepth 100000 in
set_option maxHeartbeats 1600000 in
theorem growPut_put (R : Option Addr) (l : List HC) (n q : Nat) (keep root : Int) (x : It) (deep : Bool) (w : World) (hx : okIt x) (hm : mayH ⟨l, keep⟩ 60 = true) (hrr : rightR ⟨l, keep⟩ root = true) (hh : highT l root < 20) (hf : fitsH ⟨l, keep⟩ (2 * highT l root + 1) deep = true) (hA : HcSl w R n q l) (c1 c3 : List HC) (L1 : List It) (hr1 : rightH ⟨c1, keep⟩ = true) (hL1 : 1 ≤ L1.length ∧ L1.length ≤ 2) (hok : 1 < L1.length → allocE c1 false L1 = 0)
    (han : ∀ b w', HBd w' b keep n l → Calls Tryz.prog 24 #[.pointer (some ⟨b, 0, none⟩), .int .i64 root, .int .i64 (highT l root), .agg #[.int .i64 x.1, .int .i64 x.2]] w' fun e w2 => ∃ O z, e = .returned (.slice O L1.length z) ∧ Sl w2 O L1.length z (ivs L1) ∧ HBd w2 b keep n c1 ∧ Gx b keep w' w2)
    (hlo : ∀ b w', HBd w' b keep n (topS c1 L1).1 → Calls Tryz.prog 25 #[.pointer (some ⟨b, 0, none⟩), .int .i64 root] w' fun e w2 => e = .returned (.tuple #[]) ∧ HBd w2 b keep n c3 ∧ Gx b keep w' w2) :
    Calls Tryz.prog 6 #[.agg #[.slice R n q, .int .i64 keep], .int .i64 root, .int .i64 x.1, .int .i64 x.2, .bool deep] w fun e w' => ∃ S d, e = .returned (.tuple #[.agg #[.slice S n d, .int .i64 keep], .int .i64 (topS c1 L1).2, .int .i64 0]) ∧ HcSl w' S n d c3 ∧ Ext w w' := by
  obtain ⟨m1, m2, m3⟩ := may_iff hm
  have hal := allR_of m3
  have hn := hA.1
  obtain ⟨W, hW⟩ : ∃ W, W = (w.alloc (.cells #[.slice R n q, .int .i64 keep] 24)).alloc (.cells #[.slice none 0 0, .int .i64 0] 24) := ⟨_, rfl⟩
  obtain ⟨hx1, hb0, hb1⟩ := allocs2 hW.symm
  obtain ⟨key, val⟩ := x
  have HIK := Lib.hid (fun w => growIsNumber_any key w)
  have HIV := Lib.hid (fun w => growIsNumber_any val w)
  rw [(isNum_iff _).2 hx.1] at HIK
  rw [(isNum_iff _).2 hx.2] at HIV
  obtain ⟨H, hH⟩ : ∃ H, highT l root = H := ⟨_, rfl⟩
  have hHb : 0 ≤ H ∧ H ≤ 20 := by
    rw [← hH]; unfold highT
    split
    · omega
    · exact bel_high l 20 root
  have HHI := Lib.hid (fun w' (hx : Ext w w') => treeHighP R l n q keep keep root w' hal (by omega) hrr (hA.ext hx))
  have HNE := Lib.hid (fun w' => treeNeed_any H w' hHb.1 (by omega))
  have HFI := Lib.hid (fun w' (hx : Ext w w') => heapFits_any R l n q keep w' (2 * H + 1) deep hm (hA.ext hx))
  have HAN := Lib.hid han
  have HLO := Lib.hid hlo
  have HRO := Lib.hid (fun b w' A z (hB : HBd w' b keep n c1) (hI : Sl w' A L1.length z (ivs L1)) => growRoot_any b n keep c1 A L1 L1.length z w' hr1 hL1 hok hB rfl hI)
  rw [hH] at HHI hf HAN hh
  rw [hf] at HFI
  have HX := Lib.hid hx1
  have HB0 := Lib.hid hb0
  have HB1 := Lib.hid hb1
  have HA := Lib.hid (fun w' (hx : Ext w w') => hA.ext hx)
  obtain ⟨p0, p1, p2⟩ := hb0.read2
  clear hx1 hb0 hb1 hA hx hm hrr m1 m2 m3 hal hn hH han hlo hr1 hok hf
  subst hW
  show Calls Tryz.prog 6 #[.agg #[.slice R n q, .int .i64 keep], .int .i64 root, .int .i64 key, .int .i64 val, .bool deep] w _
  have d : decide ((20 : Int) ≤ H) = false := decide_eq_false (by omega)
  generalize (topS c1 L1).2 = tp at *
  generalize (topS c1 L1).1 = c2 at *
  generalize L1.length = l1 at *
  go_enter Tryz.func6, Tryz.ntmps6
  go_wp2_with (go_at_call 19; refine stop_here ?_)
  refine stop_on ?_
  generalize hW : World.alloc (World.alloc w _) _ = W at *
  clear hW
  refine (HIK.out _).mono ?_
  rintro e w1 ⟨rfl, rfl⟩
  go_wp2_with (go_at_call 19; refine stop_here ?_)
  refine stop_on ?_
  refine (HIV.out _).mono ?_
  rintro e w1 ⟨rfl, rfl⟩
  go_wp2_with (go_at_call 20; refine stop_here ?_)
  refine stop_on ?_
  refine (HHI.out _ HX.out).mono ?_
  rintro e w1 ⟨rfl, hx1⟩
  have HX1 := Lib.hid hx1
  clear p0 p1 p2 hx1
  obtain ⟨p0, p1, p2⟩ := (HB0.out.ext HX1.out).read2
  go_wp2_with fail
  go_cut [38] from 29 to 38 (fun v wx => v = .bool false ∧ Ext w1 wx)
  case first =>
    go_region_law
      (first
        | ((go_simp
            go_at_call 22
            refine (HNE.out _).mono ?_
            rintro e w2 ⟨rfl, hx2⟩
            have HX2 := Lib.hid (show Ext w1 w2 from by first | exact hx2 | exact (Ext.refl _).drew.trans hx2)
            obtain ⟨p0, p1, p2⟩ := ((HB0.out.ext HX1.out).ext HX2.out).read2
            clear hx2))
        | ((go_simp
            go_at_call 21
            refine (HFI.out _ (HX.out.trans (HX1.out.trans HX2.out))).mono ?_
            rintro e w3 ⟨rfl, hx3⟩
            have HX3 := Lib.hid (HX2.out.trans hx3)
            clear hx3)))
    all_goals
      go_wp2_with fail
      go_meet
      exact ⟨rfl, HX3.out⟩
  case rest =>
    obtain ⟨rfl, hxc⟩ := hcut
    have HXC := Lib.hid (HX1.out.trans hxc)
    have HC0 := Lib.hid (HB0.out.ext HXC.out)
    have HC1 := Lib.hid (HB1.out.ext HXC.out)
    clear p0 p1 p2 hxc
    obtain ⟨p0, p1, p2⟩ := HC0.out.read2
    obtain ⟨t0, t1, t2⟩ := HC1.out.read2
    obtain ⟨f0, f1⟩ := HC1.out.free2
    go_wp2_with (go_at_call 24; refine stop_here ?_)
    refine stop_on ?_
    have HB4 := Lib.hid (show HBd (wc.alloc (.cells #[.slice R n q, .int .i64 keep, .int .i64 0] 59)) wc.heap.size keep n l from ⟨R, q, Bx.new _ _ _, (HA.out _ (HX.out.trans HXC.out)).ext ((Ext.refl _).alloc _)⟩)
    have HX4 := Lib.hid ((HX.out.trans HXC.out).alloc (.cells #[.slice R n q, .int .i64 keep, .int .i64 0] 59))
    have HD1 := Lib.hid (HC1.out.ext ((Ext.refl _).alloc (.cells #[.slice R n q, .int .i64 keep, .int .i64 0] 59)))
    have HNB := Lib.hid (show w.heap.size + 1 ≠ wc.heap.size from by have := HC1.out.lt; omega)
    have HWB := Lib.hid (show w.heap.size ≤ wc.heap.size from by have := HC1.out.lt; omega)
    clear p0 p1 p2 t0 t1 t2 f0 f1
    generalize hW4 : World.alloc wc _ = W4 at *
    generalize hbb : wc.heap.size = b at *
    clear hW4 hbb
    refine (HAN.out b _ HB4.out).mono ?_
    rintro e w5 ⟨O5, z5, rfl, ho5, hb5, hg5⟩
    have HG5 := Lib.hid hg5
    have HB5 := Lib.hid hb5
    have HO5 := Lib.hid ho5
    clear hg5 hb5 ho5
    go_wp2_with (go_at_call 23; refine stop_here ?_)
    refine stop_on ?_
    refine (HRO.out b _ _ _ HB5.out HO5.out).mono ?_
    rintro e w6 ⟨rfl, hb6, hg6⟩
    have HG6 := Lib.hid (HG5.out.trans hg6)
    have HB6 := Lib.hid hb6
    clear hg6 hb6
    go_wp2_with (go_at_call 25; refine stop_here ?_)
    refine stop_on ?_
    refine (HLO.out b _ HB6.out).mono ?_
    rintro e w7 ⟨rfl, ⟨S7, d7, hb7, hs7⟩, hg7⟩
    have HG7 := Lib.hid (HG6.out.trans hg7)
    have HS7 := Lib.hid hs7
    have HE1 := Lib.hid (HG7.out.bx HD1.out HNB.out)
    obtain ⟨k0, k1, k2, k3⟩ := hb7.read3
    obtain ⟨t0, t1, t2⟩ := HE1.out.read2
    obtain ⟨f0, f1⟩ := HE1.out.free2
    clear hg7 hs7 hb7
    go_wp2_with fail
    refine ret2_cell (k := w.heap.size + 1) (x := .slice S7 n d7) (y := .int .i64 keep) (v := .tuple #[.agg #[.slice S7 n d7, .int .i64 keep], .int .i64 tp, .int .i64 0]) ?hb4 (fun r0 r1 => by simp [results, Tryz.results6, go_sem, r0, r1]) rfl ?hx4
    case hb4 => exact HE1.out.set2 _ _
    case hx4 => exact ⟨S7, d7, rfl, HS7.out.boxed2 HE1.out _ _, (HG7.out.over HX4.out HWB.out).store2 (by omega) _ _⟩
end Go.Proofs.YtkoomcbiddanfaaGreat
namespace Go.Proofs.YtkoomcbiddanfaaGreat
open Go.RowKit

theorem may_mono {h : Hp} {most : Int} (hm : most ≤ 60) (hmay : mayH h most = true) : mayH h 60 = true := by
  unfold mayH smallH at hmay ⊢
  simp only [Bool.and_eq_true, decide_eq_true_eq] at hmay ⊢
  exact ⟨⟨by omega, hmay.1.2⟩, hmay.2⟩
/-- P9.1. -/
theorem growPut_any (R : Option Addr) (l : List HC) (n q : Nat) (keep root most : Int) (x : It) (deep : Bool) (w : World) (hmost : most ≤ 60) (hm : mayT ⟨l, keep⟩ root most = true) (hA : HcSl w R n q l) :
    Calls Tryz.prog 6 #[.agg #[.slice R n q, .int .i64 keep], .int .i64 root, .int .i64 x.1, .int .i64 x.2, .bool deep] w fun e w' => ∃ S d, e = .returned (.tuple #[.agg #[.slice S n d, .int .i64 keep], .int .i64 (putR ⟨l, keep⟩ root x deep).2.1, .int .i64 (putR ⟨l, keep⟩ root x deep).2.2]) ∧ HcSl w' S n d (putR ⟨l, keep⟩ root x deep).1 ∧ Ext w w' := by
  unfold mayT at hm
  rw [Bool.and_eq_true] at hm
  obtain ⟨hmay, hrr⟩ := hm
  obtain ⟨m1, m2, m3⟩ := may_iff hmay
  obtain ⟨kp0, kp1⟩ := may_keep hmay
  have hm60 : mayH ⟨l, keep⟩ 60 = true := may_mono hmost hmay
  have hal := allR_of m3
  have hn := hA.1
  have hs : ∀ k (hk : k < l.length), l[k].ref ≤ 1000000 := fun k hk => (m2 k hk).2
  by_cases hx : okIt x
  rotate_left
  · have e : putR ⟨l, keep⟩ root x deep = (l, root, 1) := by unfold putR; rw [if_neg hx]
    rw [e]
    exact growPut_arg R l n q keep root x.1 x.2 deep w (fun h => hx ⟨(isNum_iff _).1 h.1, (isNum_iff _).1 h.2⟩) hA
  by_cases hf : highT l root = 20 ∨ fitsH ⟨l, keep⟩ (2 * highT l root + 1) deep = false
  · have e : putR ⟨l, keep⟩ root x deep = (l, root, 3) := by unfold putR; rw [if_pos hx]; simp only; rw [if_pos hf]
    rw [e]
    exact growPut_full R l n q keep root x deep w hx hm60 hrr hf hA
  have e : putR ⟨l, keep⟩ root x deep = ((putG l root x).1, (putG l root x).2, 0) := by unfold putR; rw [if_pos hx]; simp only; rw [if_neg hf]
  rw [e]
  have hf2 : highT l root ≠ 20 ∧ fitsH ⟨l, keep⟩ (2 * highT l root + 1) deep = true := by
    rw [not_or, Bool.not_eq_false] at hf; exact hf
  have hfr := fits_free kp0 hf2.2
  rcases Int.lt_or_le root 0 with h0 | h0
  · have hr1 : root = -1 := by
      unfold rightR at hrr
      rw [show usedH ⟨l, keep⟩ root = false from usedC_neg h0, Bool.false_and, Bool.or_false, decide_eq_true_eq] at hrr
      exact hrr
    have hh : highT l root = 0 := by unfold highT; rw [if_pos h0]
    have hfr' := hfr
    rw [hh] at hfr'
    obtain ⟨e1, a, T⟩ := above_none (root := root) m3 hs hx h0 (by omega)
    have hab : aboveS l root x = (allocL l true [x] [], (allocP l true [x] : Int)) := by unfold aboveS; rw [if_pos h0]
    have hpg : putG l root x = (allocL l true [x] [], (allocP l true [x] : Int)) := by unfold putG; rw [if_pos h0, hab]
    rw [hpg]
    rw [hab] at T
    have ht : topS (allocL l true [x] []) [(x.1, (allocP l true [x] : Int))] = (allocL l true [x] [], (allocP l true [x] : Int)) := rfl
    have h := growPut_put R l n q keep root x deep w hx hm60 hrr (by omega) hf2.2 hA (allocL l true [x] []) (allocL l true [x] []) [(x.1, (allocP l true [x] : Int))] T.right (by simp) (by simp) (fun b w' hB => by subst hr1; exact growAnew_none b n _ l x w' m3 e1 hB) (fun b w' hB => by rw [ht] at hB; subst hr1; exact growLoose_none b n keep _ w' hB)
    rw [ht] at h
    exact h
  · have hh : highT l root = (bel l 20 root).high := by unfold highT; rw [if_neg (by omega)]
    obtain ⟨-, h1, hb⟩ := (rightR_iff hrr).resolve_left (by omega)
    have hbh := (bel_high l 20 root).2
    have hlt : (bel l 20 root).high < 20 := by have := hf2.1; omega
    rw [hh] at hfr
    obtain ⟨hok, a, T⟩ := above_some m3 hs hx h0 h1 hb hlt hfr
    obtain ⟨e', he1, he2⟩ : ∃ e', (bel l 20 root).hi < e' ∧ x.1 < e' := by
      rcases Int.lt_or_le (bel l 20 root).hi x.1 with h | h
      · exact ⟨x.1 + 1, by omega, by omega⟩
      · exact ⟨(bel l 20 root).hi + 1, by omega, by omega⟩
    obtain ⟨a1, AN⟩ := anew_ok 20 l root x e' (Nat.le_refl _) m3 hs hx h0 h1 hb he1 he2 (by omega)
    have HC := fun b w' (hB : HBd w' b keep n l) => growAnew_any 20 l root x e' b n (highT l root) w' (Nat.le_refl _) m3 hs hx h0 h1 hb he1 he2 (by omega) hh hB
    have hab : aboveS l root x = topS (anewS 20 l root x).1 (anewS 20 l root x).2 := by unfold aboveS; rw [if_neg (by omega)]
    have hpg : putG l root x = (looseL (l.length + 1) (topS (anewS 20 l root x).1 (anewS 20 l root x).2).1 root, (topS (anewS 20 l root x).1 (anewS 20 l root x).2).2) := by unfold putG; rw [if_neg (by omega), hab]
    rw [hpg]
    simp only
    rw [hab] at T
    have hTl := T.keeps.len
    have hTr := T.refs
    have hTm := T.many
    have hBd : Bd (topS (anewS 20 l root x).1 (anewS 20 l root x).2).1 := fun k hk => by
      have hk' : k < l.length := by omega
      have h3 := hTr k hk' hk
      have h4 := hs k hk'
      split at h3 <;> omega
    obtain ⟨k, rfl⟩ := Int.eq_ofNat_of_zero_le h0
    have hk : k < l.length := by omega
    have hul : usedC l (k : Int) = true := by
      have hrf := (bel_is (m := 19) hb).1
      rw [cellT_at hk] at hrf
      rw [usedC_at hk, decide_eq_true hrf]
    have hu := T.keeps.used hul
    rw [← hTl]
    exact growPut_put R l n q keep (k : Int) x deep w hx hm60 hrr (by omega) hf2.2 hA (anewS 20 l (k : Int) x).1 _ (anewS 20 l (k : Int) x).2 AN.right AN.len hok HC (fun b w' hB => growLoose_some b n k keep _ w' T.right hBd hu hB)
end Go.Proofs.YtkoomcbiddanfaaGreat
namespace Go.Proofs.YtkoomcbiddanfaaGreat
open Go.RowKit
attribute [local go_sem ↓] Go.wp_at_zero Go.wp_at_succ

set_option maxRecDepth 100000 in
set_option maxHeartbeats 3200000 in
theorem growFill_any (R : Option Addr) (l : List HC) (n q : Nat) (keep root most : Int) (A : Option Addr) (it : List It) (m c : Nat) (w : World) (hmost : most ≤ 60) (hf : fineB ⟨l, keep⟩ root most = true) (hm : m = it.length) (hmb : m ≤ 90000) (hA : HcSl w R n q l) (hI : Sl w A m c (ivs it)) :
    Calls Tryz.prog 12 #[.agg #[.slice R n q, .int .i64 keep], .int .i64 root, .slice A m c] w fun e w' => ∃ S d, e = .returned (.tuple #[.agg #[.slice S n d, .int .i64 keep], .int .i64 (fillR keep it l root).2.1, .int .i64 (fillR keep it l root).2.2]) ∧ HcSl w' S n d (fillR keep it l root).1 ∧ Ext w w' := by
  obtain ⟨W, hW⟩ : ∃ W, W = (w.alloc (.cells #[.slice R n q, .int .i64 keep] 24)).alloc (.cells #[.slice none 0 0, .int .i64 0] 24) := ⟨_, rfl⟩
  obtain ⟨hx, hb0, hb1⟩ := allocs2 hW.symm
  have HX := Lib.hid hx
  have HB0 := Lib.hid hb0
  have HB1 := Lib.hid hb1
  have HA := Lib.hid (hA.ext hx)
  have HF := Lib.hid hf
  have HM := Lib.hid hm
  have HI := Lib.hid hI
  clear hx hb0 hb1 hA hf hm hI
  subst hW
  go_enter Tryz.func12, Tryz.ntmps12
  go_wp2_with fail
  generalize hW : World.alloc (World.alloc w _) _ = W at *
  clear hW
  go_loopw [1, 14] (fun r i wr => ∃ (j : Nat) (S : Option Addr) (d : Nat) (cj : List HC) (pj : Int), j ≤ m ∧ i = .int .i64 j ∧ r = .int .i64 pj ∧ fillR keep it l root = fillR keep (it.drop j) cj pj ∧ fineB ⟨cj, keep⟩ pj most = true ∧ Ext w wr ∧ Bx wr w.heap.size #[.slice S n d, .int .i64 keep] ∧ Bx wr (w.heap.size + 1) #[.slice none 0 0, .int .i64 0] ∧ HcSl wr S n d cj) (fun _ i _ => m - (intOf i).toNat)
  case atStart => exact ⟨0, R, q, l, root, Nat.zero_le _, rfl, rfl, rfl, HF.out, HX.out, HB0.out, HB1.out, HA.out⟩
  case round =>
    obtain ⟨j, S, d1, cj, pj, hj, rfl, rfl, heq, hfj, hx, hb0, hb1, hs⟩ := hrel
    have HEQ := Lib.hid heq
    have HXR := Lib.hid hx
    have HC0 := Lib.hid hb0
    have HC1 := Lib.hid hb1
    have HS := Lib.hid hs
    obtain ⟨p0, p1, p2⟩ := hb0.read2
    obtain ⟨f0, f1⟩ := hb0.free2
    obtain ⟨t0, t1, t2⟩ := hb1.read2
    obtain ⟨y0, y1⟩ := hb1.free2
    rcases Nat.lt_or_ge j m with hlt | hlt
    · have hjl : j < it.length := by rw [← HM.out]; exact hlt
      have hji : (j : Int) < (m : Int) := by omega
      obtain ⟨b2, off2, rfl, hbl2, k0w, k1w⟩ := it_at HI.out hjl
      have k0 := (hx.cell (p := ⟨b2, off2 + j * 2, none⟩) hbl2).trans k0w
      have k1 := (hx.cell (p := ⟨b2, off2 + j * 2 + 1, none⟩) hbl2).trans k1w
      have HST := Lib.hid (HEQ.out.trans (fill_step hjl))
      have HFN := Lib.hid (fun (h : (putR ⟨cj, keep⟩ pj it[j] false).2.2 = 0) => fine_next (x := it[j]) (deep := false) hmost hfj h)
      have HPU := Lib.hid (fun w' (hx : Ext wr w') => growPut_any S cj n d1 keep pj most it[j] false w' hmost (by unfold fineB at hfj; rw [Bool.and_eq_true] at hfj; exact hfj.1) (HS.out.ext hx))
      clear hb0 hb1 hs heq hfj k0w k1w hx
      generalize it[j] = y at *
      obtain ⟨ky, vy⟩ := y
      simp only at k0 k1 HPU
      have HER := Lib.hid (show (putR ⟨cj, keep⟩ pj (ky, vy) false).2.2 ≠ 0 → (putR ⟨cj, keep⟩ pj (ky, vy) false).1 = cj ∧ (putR ⟨cj, keep⟩ pj (ky, vy) false).2.1 = pj from fun h => by
        unfold putR at h ⊢
        split
        · rename_i hok
          rw [if_pos hok] at h
          split
          · exact ⟨rfl, rfl⟩
          · rename_i hf
            rw [if_neg hf] at h
            exact absurd rfl h
        · exact ⟨rfl, rfl⟩)
      generalize (putR ⟨cj, keep⟩ pj (ky, vy) false) = pr at *
      obtain ⟨c2, r2, e2⟩ := pr
      simp only at HST HFN HPU HER
      obtain ⟨W5, hW5⟩ : ∃ W5, wr.alloc (.cells #[.int .i64 ky, .int .i64 vy] 26) = W5 := ⟨_, rfl⟩
      obtain ⟨hy, hbx⟩ := allocs1 hW5
      have HY := Lib.hid hy
      obtain ⟨g0, g1, g2⟩ := hbx.read2
      obtain ⟨p5, p6, p7⟩ := (HC0.out.ext hy).read2
      clear hy hbx
      by_cases h0 : e2 = 0
      · have HE0 := Lib.hid h0
        have hne : (e2 != 0) = false := by simp [h0]
        subst h0
        go_wp2_with (go_at_call 6; refine stop_here ?_)
        refine stop_on ?_
        refine (HPU.out _ HY.out).mono ?_
        rintro e w6 ⟨S6, d6, rfl, hs6, hx6⟩
        have HX6 := Lib.hid (HY.out.trans hx6)
        have HS6 := Lib.hid hs6
        have HD0 := Lib.hid (HC0.out.ext HX6.out)
        have HD1 := Lib.hid (HC1.out.ext HX6.out)
        clear hs6 hx6 p0 p1 p2 f0 f1 t0 t1 t2 y0 y1 p5 p6 p7 g0 g1 g2 k0 k1
        obtain ⟨p0, p1, p2⟩ := HD0.out.read2
        obtain ⟨f0, f1⟩ := HD0.out.free2
        go_wp2_with fail
        go_roundw
        case rel =>
          have hst := HST.out
          rw [if_pos trivial] at hst
          exact ⟨j + 1, S6, d6, c2, r2, by omega, by go_num, rfl, hst, HFN.out trivial, (HXR.out.trans HX6.out).store2 (Nat.le_refl _) _ _, HD0.out.set2 _ _, (HD1.out.set_other (p := ⟨w.heap.size, 0, none⟩) (by simp) _).set_other (p := ⟨w.heap.size, 1, none⟩) (by simp) _, HS6.out.boxed2 HD0.out _ _⟩
        case measure => simp [intOf]; omega
      · have HE0 := Lib.hid h0
        have hne : (e2 != 0) = true := by simp [h0]
        have hne2 : (e2 == 0) = false := by simp [h0]
        obtain ⟨ec, er⟩ := HER.out h0
        have HEC := Lib.hid (And.intro ec er)
        clear ec er
        go_wp2_with (go_at_call 6; refine stop_here ?_)
        refine stop_on ?_
        refine (HPU.out _ HY.out).mono ?_
        rintro e w6 ⟨S6, d6, rfl, hs6, hx6⟩
        have HX6 := Lib.hid (HY.out.trans hx6)
        have HS6 := Lib.hid hs6
        have HD0 := Lib.hid (HC0.out.ext HX6.out)
        have HD1 := Lib.hid (HC1.out.ext HX6.out)
        clear hs6 hx6 p0 p1 p2 f0 f1 t0 t1 t2 y0 y1 p5 p6 p7 g0 g1 g2 k0 k1
        obtain ⟨p0, p1, p2⟩ := HD0.out.read2
        obtain ⟨f0, f1⟩ := HD0.out.free2
        obtain ⟨t0, t1, t2⟩ := HD1.out.read2
        obtain ⟨y0, y1⟩ := HD1.out.free2
        go_wp2_with fail
        refine ret2_cell (k := w.heap.size + 1) (x := .slice S6 n d6) (y := .int .i64 keep) (v := .tuple #[.agg #[.slice S6 n d6, .int .i64 keep], .int .i64 r2, .int .i64 e2]) ?hb4 (fun r0 r1 => by simp [results, Tryz.results12, go_sem, r0, r1]) rfl ?hx4
        case hb4 => exact ((HD1.out.set_other (p := ⟨w.heap.size, 0, none⟩) (by simp) _).set_other (p := ⟨w.heap.size, 1, none⟩) (by simp) _).set2 _ _
        case hx4 =>
          have hst := HST.out
          rw [if_neg HE0.out] at hst
          rw [hst]
          have HQ0 := HD0.out.set2 (.slice S6 n d6) (.int .i64 keep)
          have HQ1 := (HD1.out.set_other (p := ⟨w.heap.size, 0, none⟩) (by simp) (.slice S6 n d6)).set_other (p := ⟨w.heap.size, 1, none⟩) (by simp) (.int .i64 keep)
          refine ⟨S6, d6, by rw [HEC.out.2], ?_, ((HXR.out.trans HX6.out).store2 (Nat.le_refl _) _ _).store2 (by omega) _ _⟩
          rw [← HEC.out.1]
          exact (HS6.out.boxed2 HD0.out _ _).boxed2 HQ1 _ _
    · obtain rfl : m = j := by omega
      have hfl : it.drop m = [] := by rw [HM.out, List.drop_length]
      rw [hfl] at HEQ
      have d4 : decide ((m : Int) < (m : Int)) = false := decide_eq_false (by omega)
      clear hb0 hb1 hs hx heq hfj hlt hfl
      go_wp2_with fail
      refine ret2_cell (k := w.heap.size + 1) (x := .slice S n d1) (y := .int .i64 keep) (v := .tuple #[.agg #[.slice S n d1, .int .i64 keep], .int .i64 pj, .int .i64 0]) ?hb4 (fun r0 r1 => by simp [results, Tryz.results12, go_sem, r0, r1]) rfl ?hx4
      case hb4 => exact HC1.out.set2 _ _
      case hx4 =>
        rw [HEQ.out]
        exact ⟨S, d1, rfl, HS.out.boxed2 HC1.out _ _, HXR.out.store2 (by omega) _ _⟩
end Go.Proofs.YtkoomcbiddanfaaGreat
