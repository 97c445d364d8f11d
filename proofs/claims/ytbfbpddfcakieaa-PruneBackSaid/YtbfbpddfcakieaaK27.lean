/- High of package tree, by a range over nodes. -/
import Derived.Test.YtbfbpddfcakieaaK26
namespace Go.Proofs.Ytbfbpddfcakieaa
open Go.RowKit Go.Shelf
attribute [local go_sem] Oper.semAt_some
attribute [local go_sem] run_store_func

/-- No leaf among them. -/
def noLeaf (l : List HC) (xs : List Int) : Prop := ∀ y ∈ xs, (cellT l y).leaf = false
theorem upTo_none {l : List HC} : ∀ {xs : List Int}, noLeaf l xs → upTo l xs = 0
  | [], _ => rfl
  | x :: xs, h => by
    unfold upTo
    rw [h x List.mem_cons_self, upTo_none (fun y hy => h y (List.mem_cons_of_mem _ hy))]
    rfl
theorem upTo_hit {l : List HC} : ∀ {xs : List Int} {p : Int}, noLeaf l xs → (cellT l p).leaf = true → upTo l (xs ++ [p]) = xs.length + 1
  | [], p, _, hp => by
    show upTo l [p] = 1
    unfold upTo
    rw [hp]; rfl
  | x :: xs, p, h, hp => by
    rw [List.cons_append]
    unfold upTo
    rw [h x List.mem_cons_self, upTo_hit (fun y hy => h y (List.mem_cons_of_mem _ hy)) hp]
    simp
theorem upTo_prefix {l : List HC} {L q : List Int} (h : q <+: L) {ini : List Int} {p : Int} (hq : q = ini ++ [p]) (hn : noLeaf l ini) (hp : (cellT l p).leaf = true) : upTo l L = q.length := by
  obtain ⟨r, rfl⟩ := h
  have h1 : upTo l q = q.length := by rw [hq, upTo_hit hn hp]; simp
  rw [upTo_app r (by rw [h1, hq]; simp), h1]
theorem kept_def {w W : World} {n₀ D : Nat} {o : Obj} (h : Below n₀ w W) (_ : n₀ ≤ w.heap.size) (hD : n₀ ≤ D) (hK : W.heap[D]? = some o) (o' : Obj) : Below n₀ w (W.putObj D o') :=
  h.trans ((Below.refl n₀ W).grown (grownBy_putObj' W D o') (by have := (Array.getElem?_eq_some_iff.1 hK).1; omega) (fun k e => by cases e; exact hD))
theorem Bt.putObj {W : World} {k D : Nat} {t : TypeId} {cs : Array Value} (h : Bt W k t cs) (hne : k ≠ D) (o : Obj) : Bt (W.putObj D o) k t cs := (World.putObj_heap_other hne).trans h
set_option maxRecDepth 100000 in
set_option maxHeartbeats 800000 in
theorem high_in (R : Option Addr) (l : List HC) (n q : Nat) (keep p : Int) (w : World) (hl : AllR l) (hA : HcSl w R n q l) :
    CallsIn Fence.wide 5 Try.prog 27 #[.agg #[.slice R n q, .int .i64 keep], .int .i64 p] w fun e w' => e = .returned (.int .i64 (hgtP l p)) ∧ Ext w w' := by
  obtain ⟨A, C, hLie⟩ := lie_ex hA
  have HN := Lib.hid hA.1
  have HLN := Lib.hid (show (nodesP l p (-9223372036854775808)).length ≤ 2000 from nodesP_len l p _)
  clear hA
  refine callsIn_of_wp_marks Try.func27 rfl trivial ?_ rfl
  simp only [Try.ntmps27, List.size_toArray, List.length_cons, List.length_nil, Nat.reduceAdd, Nat.reduceSub, Array.replicate_succ, Array.replicate_zero, List.push_toArray, List.append_toArray, List.nil_append, List.cons_append]
  gi_wp2_with (refine ⟨trivial, ?_⟩; gi_at_call 47; refine (nodes_in _ _ _ _ _ _ _ _).mono ?_; rintro e w' ⟨rfl, rfl⟩)
  obtain ⟨W1, hW1⟩ : ∃ W1, ((w.alloc (.cells #[.slice R n q, .int .i64 keep] 24)).alloc (.cells #[.int .i64 0] 3)).alloc (.cells #[.int .i64 0] 3) = W1 := ⟨_, rfl⟩
  obtain ⟨hx1, hz1, b0, b1, b2⟩ := bts3 hW1
  rw [hW1]
  obtain ⟨W0, hW0⟩ : ∃ W0, ((W1.alloc (.cells #[.slice R n q, .int .i64 keep] 24)).alloc (.cells #[.int .i64 p] 3)).alloc (.cells #[.int .i64 (-9223372036854775808)] 3) = W0 := ⟨_, rfl⟩
  obtain ⟨hx2, hz2, b3, b4, b5⟩ := bts3 hW0
  rw [hW0]
  rw [hz1] at b3 b4 b5 hz2
  replace b1 := b1.below hx2
  replace b2 := b2.below hx2
  have hX0 := hx1.trans hx2
  clear hW1 hW0 b0 hx1 hx2 hz1
  have HX0 := Lib.hid hX0
  have HZ := Lib.hid hz2
  refine range_own (m := 3) (gf := 75) (lb := #[.pointer (some ⟨w.heap.size + 1 + 1 + 1, 0, none⟩), .pointer (some ⟨w.heap.size + 1 + 1 + 1 + 1 + 1, 0, none⟩), .pointer (some ⟨w.heap.size + 1 + 1 + 1 + 1, 0, none⟩)]) rfl (enters_of Try.func75 (by kernel_rfl) rfl)
    (nodes_seq l hl R n q keep p (-9223372036854775808) A C (w.heap.size + 1 + 1 + 1) (w.heap.size + 1 + 1 + 1 + 1 + 1) (w.heap.size + 1 + 1 + 1 + 1) w W0 hLie HN.out hX0 b3 b5 b4) (Ext.refl _) hX0.size (fun k hk => by omega) (fun _ => rfl)
    (fun pre V => noLeaf l pre ∧ (Bt V (w.heap.size + 1) 3 #[.int .i64 0] ∧ (Bt V (w.heap.size + 1 + 1) 3 #[.int .i64 pre.length] ∧ Below w.heap.size w V)))
    (fun c u V => (c = .ret ∧ ∃ ini y, u = ini ++ [y] ∧ noLeaf l ini ∧ (cellT l y).leaf = true) ∧ (Bt V (w.heap.size + 1) 3 #[.int .i64 u.length] ∧ Below w.heap.size w V))
    (Stays.and (stays_pure _ _ _) (Stays.and (stays_bt (fun _ => _) (by omega)) (Stays.and (stays_bt (fun pre : List Int => #[Value.int .i64 pre.length]) (by omega)) (stays_below w hX0.size (Nat.le_refl _)))))
    (fun c => Stays.and (stays_pure _ _ (fun u => c = Code.ret ∧ ∃ ini y, u = ini ++ [y] ∧ noLeaf l ini ∧ (cellT l y).leaf = true)) (Stays.and (stays_bt (fun u : List Int => #[Value.int .i64 u.length]) (by omega)) (stays_below w hX0.size (Nat.le_refl _))))
    ⟨fun y hy => by simp at hy, b1, b2, hX0⟩
    (fun y a' V => ∃ Bx, W0.heap.size + (2 + 3) ≤ Bx ∧ Bt V Bx 57 #[.bool (cellT l y).leaf, .slice (A y.toNat) (cellT l y).it.length (C y.toNat)] ∧ a' = { tmps := #[.agg #[.slice R n q, .int .i64 keep], .int .i64 p, .pointer (some ⟨w.heap.size, 0, none⟩), undef, .pointer (some ⟨w.heap.size + 1, 0, none⟩), .pointer (some ⟨w.heap.size + 1 + 1, 0, none⟩), undef, .pointer (some ⟨Bx, 0, none⟩), .agg #[.slice R n q, .int .i64 keep], .int .i64 p, .func (.func 75) #[] #[.pointer (some ⟨w.heap.size + 1 + 1 + 1, 0, none⟩), .pointer (some ⟨w.heap.size + 1 + 1 + 1 + 1 + 1, 0, none⟩), .pointer (some ⟨w.heap.size + 1 + 1 + 1 + 1, 0, none⟩)], .int .i64 y, NV l A C y, undef, undef, undef, undef, undef], defers := [] })
    (fun p a' s X Y hs ho => ⟨hs.choose, hs.choose_spec.1, stays_bt (fun (_ : Unit) => _) (.inr hs.choose_spec.1) () X Y hs.choose_spec.2.1 ho, hs.choose_spec.2.2⟩)
    ?assign ?body ?done ?stop
  case assign =>
    rintro l2 pre y V K ⟨hn, h1, h2, hb⟩ hz hp hK
    have HV := Lib.hid (show Ext V (V.alloc (.cells #[.bool (cellT l y).leaf, .slice (A y.toNat) (cellT l y).it.length (C y.toNat)] 57)) from (Ext.refl V).alloc _)
    have HI := Lib.hid (And.intro hn (And.intro (h1.below HV.out) (And.intro (h2.below HV.out) (Below.trans hb (HV.out.mono hb.size)))))
    have HKV := Lib.hid hK
    have HS0 := Lib.hid hb.size
    clear hn h1 h2 hb hK
    simp only [encN, NV]
    gi_wp2
    exact HKV.out _ _ (Kw.ext _ HV.out HS0.out) HI.out ⟨V.heap.size, hz, Bt.new V _ _, rfl⟩
  case body =>
    rintro l2 pre y a' V ⟨hn, h1, h2, hb⟩ ⟨Bx, hBx, bX, rfl⟩ hz hp
    have hlen : pre.length + 1 ≤ 2000 := by have := hp.length_le; rw [List.length_append] at this; simp at this; have := HLN.out; omega
    have HLE := Lib.hid (show (pre ++ [y]).length = pre.length + 1 from by simp)
    have HNO := Lib.hid (fun h => (show noLeaf l (pre ++ [y]) from fun z hz => (List.mem_append.1 hz).elim (hn z) (fun e => by simp at e; subst e; exact h)))
    have HHI := Lib.hid (fun h : (cellT l y).leaf = true => (show ∃ ini z, pre ++ [y] = ini ++ [z] ∧ noLeaf l ini ∧ (cellT l z).leaf = true from ⟨pre, y, rfl, hn, h⟩))
    have c0 := h2.bx.at 0 _ rfl
    have c1 := h2.bx.free 0
    have c2 := h2.lt
    have HZ2 := HZ.out
    obtain ⟨V1, hV1⟩ : ∃ V1, V.setCell ⟨w.heap.size + 1 + 1, 0, none⟩ (.int .i64 ((pre.length : Int) + 1)) = V1 := ⟨_, rfl⟩
    have hk1 : Kw w.heap.size (fun k => (k = w.heap.size + 1 + 1 + 1 ∨ k = w.heap.size + 1 + 1 + 1 + 1 + 1 ∨ k = w.heap.size + 1 + 1 + 1 + 1) ∨ (W0.heap.size ≤ k ∧ k < W0.heap.size + (2 + 3))) V V1 := by
      rw [← hV1]; exact Kw.set h2 (by decide) (by omega) (by omega) _ _
    have g1 : Bt V1 (w.heap.size + 1) 3 #[.int .i64 0] := by rw [← hV1]; exact h1.other (by show w.heap.size + 1 + 1 ≠ w.heap.size + 1; omega) _
    have g2 : Bt V1 (w.heap.size + 1 + 1) 3 #[.int .i64 ((pre.length : Int) + 1)] := by rw [← hV1]; exact h2.set1 _
    have g3 : Bt V1 Bx 57 #[.bool (cellT l y).leaf, .slice (A y.toNat) (cellT l y).it.length (C y.toNat)] := by rw [← hV1]; exact bX.other (by show w.heap.size + 1 + 1 ≠ Bx; omega) _
    obtain ⟨n0, n1, n2⟩ := g3.bx.read2
    have d0 := g2.bx.at 0 _ rfl
    have d1 := g2.lt
    have e0 := g1.bx.at 0 _ rfl
    have e1 := g1.bx.free 0
    have e2 := g1.lt
    have HB1 := Lib.hid (show Below w.heap.size w V1 from Below.trans hb hk1.old)
    have HK1 := Lib.hid hk1
    have HG1 := Lib.hid g1
    have HG2 := Lib.hid (show Bt V1 (w.heap.size + 1 + 1) 3 #[.int .i64 (pre ++ [y]).length] from by rw [HLE.out]; exact g2)
    have HS := Lib.hid (show Bt (V1.setCell ⟨w.heap.size + 1, 0, none⟩ (.int .i64 ((pre.length : Int) + 1))) (w.heap.size + 1) 3 #[.int .i64 (pre ++ [y]).length] ∧ Below w.heap.size w (V1.setCell ⟨w.heap.size + 1, 0, none⟩ (.int .i64 ((pre.length : Int) + 1))) ∧
        Kw w.heap.size (fun k => (k = w.heap.size + 1 + 1 + 1 ∨ k = w.heap.size + 1 + 1 + 1 + 1 + 1 ∨ k = w.heap.size + 1 + 1 + 1 + 1) ∨ (W0.heap.size ≤ k ∧ k < W0.heap.size + (2 + 3))) V (V1.setCell ⟨w.heap.size + 1, 0, none⟩ (.int .i64 ((pre.length : Int) + 1))) from by
      refine ⟨by rw [HLE.out]; exact g1.set1 _, HB1.out.setCell (p := ⟨w.heap.size + 1, 0, none⟩) (by show w.heap.size ≤ w.heap.size + 1; omega) _, hk1.trans (Kw.set g1 (by decide) (by omega) (by omega) _ _)⟩)
    clear hn h1 h2 hb bX hk1 g1 g2 g3 HZ2 hp
    cases hlf : (cellT l y).leaf
    · have HN1 := Lib.hid (HNO.out hlf)
      rw [hlf] at n0
      clear hlf HNO HHI
      gi_wp2
      exact ⟨HK1.out, HN1.out, HG1.out, HG2.out, HB1.out⟩
    · have HN1 := Lib.hid (HHI.out hlf)
      rw [hlf] at n0
      clear hlf HNO HHI
      gi_wp2
      exact ⟨HS.out.2.2, ⟨rfl, HN1.out⟩, HS.out.1, HS.out.2.1⟩
  case done =>
    rintro D V rfl ⟨hn, h1, h2, hb⟩ hK
    have HH := Lib.hid (show hgtP l p = 0 from upTo_none hn)
    have HZ2 := HZ.out
    have e0 := h1.bx.at 0 _ rfl
    have e1 := h1.bx.free 0
    have e2 := h1.lt
    have HK := Lib.hid ((KeepsOthers.setCell V ⟨w.heap.size + 1, 0, none⟩ (.int .i64 0)).same W0.heap.size _ hK rfl)
    have HB := Lib.hid (show Below w.heap.size w (V.setCell ⟨w.heap.size + 1, 0, none⟩ (.int .i64 0)) from Below.setCell hb (p := ⟨w.heap.size + 1, 0, none⟩) (by show w.heap.size ≤ w.heap.size + 1; omega) _)
    have HG := Lib.hid (show Bt (V.setCell ⟨w.heap.size + 1, 0, none⟩ (.int .i64 0)) (w.heap.size + 1) 3 #[.int .i64 0] from h1.set1 _)
    clear hn h1 h2 hb hK HZ2 hz2
    gi_wp2
    have hzz := HZ.out
    refine ⟨by simp, .inl ⟨_, _, rfl, run_takeDeferred HK.out, ?_⟩⟩
    have c5 := (HG.out.putObj (D := W0.heap.size) (by omega) (.deferred none)).bx.at 0 _ rfl
    exact ⟨.int .i64 0, by simp [results, Try.results27, go_sem, c5], by rw [HH.out]; rfl, kept_def HB.out (Nat.le_refl _) (by omega) HK.out _⟩
  case stop =>
    rintro D c u V rfl hu ⟨⟨rfl, ini, y, he, hn, hy⟩, h1, hb⟩ hK
    have HH := Lib.hid (show hgtP l p = u.length from upTo_prefix hu he hn hy)
    have HG := Lib.hid h1
    have HB := Lib.hid (show Below w.heap.size w V from hb)
    have HK := Lib.hid hK
    clear hu he hn hy h1 hb hK hz2
    gi_wp2
    have hzz := HZ.out
    refine ⟨by simp, .inl ⟨_, _, rfl, run_takeDeferred HK.out, ?_⟩⟩
    have c5 := (HG.out.putObj (D := W0.heap.size) (by omega) (.deferred none)).bx.at 0 _ rfl
    exact ⟨.int .i64 u.length, by simp [results, Try.results27, go_sem, c5], by rw [HH.out], kept_def HB.out (Nat.le_refl _) (by omega) HK.out _⟩
end Go.Proofs.Ytbfbpddfcakieaa
