/- Nodes of package tree, by a range over nodes. -/
import Derived.Test.YthlencnlgnbpaaaTreeM5
import Derived.Test.YthlencnlgnbpaaaTreeW3
namespace Go.Proofs.Ythlencnlgnbpaaa
open Go.RowKit Go.Shelf
attribute [local go_sem] Oper.semAt_some
attribute [local go_sem] run_store_func

theorem stays_own {β : Type} {B c B0 e s : Nat} (v : β → Value) (n : β → Nat) (xs : β → List Value) (h : B + c ≤ B0) : Stays B c (fun b W => W.ownsRow B0 e s (v b) (n b) (xs b)) := fun b X Y hs ho => by
  obtain ⟨h1, h2⟩ := hs
  refine ⟨h1, ?_⟩
  rcases h2 with h2 | ⟨g, cap, cur, hv, hg, hh, r⟩
  · exact .inl h2
  · exact .inr ⟨g, cap, cur, hv, hg, (ho.same g (Array.getElem?_eq_some_iff.1 hh).1 (.inr (by omega))).trans hh, r⟩
theorem Kw.own {n₀ : Nat} {S : Nat → Prop} {W W' : World} {B e s n : Nat} {v : Value} {xs : List Value} (h : W.ownsRow B e s v n xs) (he : e ∉ TN) (hg : W.grownBy W' v.ownBlock) (hB : B ≤ W.heap.size) (hn : n₀ ≤ B) (hS : ∀ k, S k → k < B) : Kw n₀ S W W' := by
  have hr : ∀ k, v.ownBlock = some k → B ≤ k := fun k hk => (h.lt k hk).1
  refine ⟨(Below.refl n₀ W).grown hg (by omega) (fun k hk => Nat.le_trans hn (hr k hk)), fun k hk hl => hg.block k hl (fun e1 => by have := hr k e1.symm; have := hS k hk; omega), fun k cs t ht hb => ?_⟩
  unfold Bt at hb ⊢
  refine (hg.block k (Array.getElem?_eq_some_iff.1 hb).1 (fun e1 => ?_)).trans hb
  rcases h.2 with ⟨rfl, _⟩ | ⟨g, cap, cur, rfl, hB, hh, _⟩
  · cases e1
  · cases e1
    rw [hb] at hh
    cases hh
    exact he ht
theorem Bt.grown {W W' : World} {k : Nat} {t : TypeId} {cs : Array Value} {row : Option Nat} (h : Bt W k t cs) (hg : W.grownBy W' row) (hne : row ≠ some k) : Bt W' k t cs :=
  (hg.block k h.lt (fun e => hne e.symm)).trans h
theorem own_far {W : World} {B e s n k : Nat} {v : Value} {xs : List Value} (h : W.ownsRow B e s v n xs) (hk : k < B) : v.ownBlock ≠ some k := by
  intro he
  have := (h.lt k he).1
  omega
theorem own_put {W : World} {B e s n D : Nat} {v : Value} {xs : List Value} (h : W.ownsRow B e s v n xs) (hD : D < B) (o : Obj) : (W.putObj D o).ownsRow B e s v n xs := by
  obtain ⟨h1, h2⟩ := h
  refine ⟨h1, ?_⟩
  rcases h2 with h2 | ⟨g, cap, cur, hv, hg, hh, r⟩
  · exact .inl h2
  · exact .inr ⟨g, cap, cur, hv, hg, (World.putObj_heap_other (by omega)).trans hh, r⟩
set_option maxRecDepth 100000 in
set_option maxHeartbeats 1600000 in
theorem nodes2_in (R : Option Addr) (l : List HC) (n q : Nat) (keep p : Int) (w : World) (hl : AllR l) (hA : HcSl w R n q l) :
    CallsIn Fence.wide 5 Try.prog 18 #[.agg #[.slice R n q, .int .i64 keep], .int .i64 p] w fun e w' => ∃ S s d, e = .returned (.slice S s d) ∧ s = (nodesP l p (-9223372036854775808)).length ∧ Sl w' S s d ((nodesP l p (-9223372036854775808)).map iv) ∧ Ext w w' := by
  obtain ⟨A, C, hLie⟩ := lie_ex hA
  have HN := Lib.hid hA.1
  have HLN := Lib.hid (show (nodesP l p (-9223372036854775808)).length ≤ 2000 from nodesP_len l p _)
  clear hA
  refine callsIn_of_wp_marks Try.func18 rfl trivial ?_ rfl
  simp only [Try.ntmps18, List.size_toArray, List.length_cons, List.length_nil, Nat.reduceAdd, Nat.reduceSub, Array.replicate_succ, Array.replicate_zero, List.push_toArray, List.append_toArray, List.nil_append, List.cons_append]
  gi_wp2_with (refine ⟨trivial, ?_⟩; gi_at_call 34; refine (nodes_in _ _ _ _ _ _ _ _).mono ?_; rintro e w' ⟨rfl, rfl⟩)
  obtain ⟨W1, hW1⟩ : ∃ W1, (w.alloc (.cells #[.slice R n q, .int .i64 keep] 24)).alloc (.cells #[.slice none 0 0] 31) = W1 := ⟨_, rfl⟩
  obtain ⟨hx1, hz1, b1⟩ := bts2 hW1
  rw [hW1]
  obtain ⟨W0, hW0⟩ : ∃ W0, ((W1.alloc (.cells #[.slice R n q, .int .i64 keep] 24)).alloc (.cells #[.int .i64 p] 3)).alloc (.cells #[.int .i64 (-9223372036854775808)] 3) = W0 := ⟨_, rfl⟩
  obtain ⟨hx2, hz2, b3, b4, b5⟩ := bts3 hW0
  rw [hW0]
  rw [hz1] at b3 b4 b5 hz2
  replace b1 := b1.below hx2
  have hX0 := hx1.trans hx2
  clear hW1 hW0 hx1 hx2 hz1
  have HX0 := Lib.hid hX0
  have HZ := Lib.hid hz2
  refine range_own (m := 3) (gf := 39) (lb := #[.pointer (some ⟨w.heap.size + 1 + 1, 0, none⟩), .pointer (some ⟨w.heap.size + 1 + 1 + 1 + 1, 0, none⟩), .pointer (some ⟨w.heap.size + 1 + 1 + 1, 0, none⟩)]) rfl (enters_of Try.func39 (by kernel_rfl) rfl)
    (nodes_seq l hl R n q keep p (-9223372036854775808) A C (w.heap.size + 1 + 1) (w.heap.size + 1 + 1 + 1 + 1) (w.heap.size + 1 + 1 + 1) w W0 hLie HN.out hX0 b3 b5 b4) (Ext.refl _) hX0.size (fun k hk => by omega) (fun _ => rfl)
    (fun pre V => ∃ Z z c, Bt V (w.heap.size + 1) 31 #[.slice Z z c] ∧ (V.ownsRow (W0.heap.size + (2 + 3)) 3 1 (.slice Z z c) z (pre.map iv) ∧ Below w.heap.size w V))
    (fun _ _ _ => False)
    (fun pre X Y hs ho => by
      obtain ⟨Z, z, c, h1, h2, h3⟩ := hs
      exact ⟨Z, z, c, stays_bt (fun (_ : Unit) => #[Value.slice Z z c]) (by omega) () X Y h1 ho, stays_own (fun (_ : Unit) => Value.slice Z z c) (fun _ => z) (fun _ => pre.map iv) (Nat.le_refl _) () X Y h2 ho, stays_below w hX0.size (Nat.le_refl _) () X Y h3 ho⟩)
    (fun _ _ _ _ h _ => h.elim)
    ⟨none, 0, 0, b1, ⟨rfl, .inl ⟨rfl, rfl⟩⟩, hX0⟩
    (fun y a' _ => a' = { tmps := #[.agg #[.slice R n q, .int .i64 keep], .int .i64 p, .pointer (some ⟨w.heap.size, 0, none⟩), undef, .slice none 0 0, .pointer (some ⟨w.heap.size + 1, 0, none⟩), .int .i64 y, .agg #[.slice R n q, .int .i64 keep], .int .i64 p, .func (.func 39) #[] #[.pointer (some ⟨w.heap.size + 1 + 1, 0, none⟩), .pointer (some ⟨w.heap.size + 1 + 1 + 1 + 1, 0, none⟩), .pointer (some ⟨w.heap.size + 1 + 1 + 1, 0, none⟩)], .int .i64 y, NV l A C y, undef, undef, undef, undef, undef], defers := [] })
    (fun p a' s X Y hs ho => hs)
    ?assign ?body ?done ?stop
  case assign =>
    rintro l2 pre y V K hI hz hp hK
    have HKV := Lib.hid hK
    have HIV := Lib.hid hI
    clear hK hI
    simp only [encN]
    gi_wp2
    exact HKV.out _ _ (Kw.refl _ _ _) HIV.out rfl
  case body =>
    rintro l2 pre y a' V ⟨Z, z, c, hO, hRow, hb⟩ rfl hz hp
    have hlen : pre.length + 1 ≤ 2000 := by have := hp.length_le; rw [List.length_append] at this; simp at this; have := HLN.out; omega
    have HZL := Lib.hid (show z + 1 ≤ 2000 from by have h1 := hRow.1; simp at h1; omega)
    have HME := Lib.hid (show (pre ++ [y]).map iv = pre.map iv ++ [.int .i64 y] from by simp [iv])
    have c3 := hO.bx.at 0 _ rfl
    have f3 := hO.bx.free 0
    have g3 := hO.lt
    have HX1 := Lib.hid ((Ext.refl V).alloc (.cells #[.int .i64 y] 3))
    have HO1 := Lib.hid (hO.below HX1.out)
    have c4 := HO1.out.bx.at 0 _ rfl
    have HR1 := Lib.hid (own_ext hRow HX1.out)
    have HN1 := Lib.hid (sl_lit V 3 1 [.int .i64 y] (by unfold maxLen; omega))
    have HB1 := Lib.hid (show W0.heap.size + (2 + 3) ≤ (V.alloc (.cells #[.int .i64 y] 3)).heap.size from Nat.le_trans hz HX1.out.size)
    have HBW := Lib.hid hb
    have HBS := Lib.hid hb.size
    obtain ⟨i, hi', hz', hs', hb'⟩ := info_parts infoI1
    clear hO hRow hb hz hlen hp
    simp only [NV]
    gi_wp2_with (gi_at_builtin; refine stop_here ?_)
    refine stop_on ?_
    refine wpListIn_append_own _ rfl _ _ 31 rfl (W0.heap.size + (2 + 3)) 3 i _ 1 8 Try.underlying31 hi' hz' hs' hb' rfl (by omega) _ _ _ rfl HR1.out ⟨V.heap.size, 0, none⟩ 1 1 [.int .i64 y] rfl rfl (HN1.out.cells.at_ _ rfl) (by intro u hu; simp only [List.mem_cons, List.not_mem_nil, or_false] at hu; rcases hu with rfl; rfl) (Nat.le_trans HZL.out (by unfold maxLen; omega)) (Nat.le_trans (Nat.mul_le_mul_right 8 HZL.out) (by omega)) HB1.out ?_
    intro v' w' h5 h6 _
    obtain ⟨A', c', rfl⟩ := own_shape h5
    have hzz := HZ.out
    have HO2 := Lib.hid (HO1.out.grown h6 (own_far HR1.out (by omega)))
    have HR2 := Lib.hid h5
    have HG2 := Lib.hid h6
    clear h5 h6 c3 f3 c4 g3
    have c3 := HO2.out.bx.at 0 _ rfl
    have f3 := HO2.out.bx.free 0
    have g3 := HO2.out.lt
    have HKW := Lib.hid (show Kw w.heap.size (fun k => (k = w.heap.size + 1 + 1 ∨ k = w.heap.size + 1 + 1 + 1 + 1 ∨ k = w.heap.size + 1 + 1 + 1) ∨ (W0.heap.size ≤ k ∧ k < W0.heap.size + (2 + 3))) V (w'.setCell ⟨w.heap.size + 1, 0, none⟩ (.slice A' (z + 1) c')) from
      ((Kw.ext _ HX1.out HBS.out).trans (Kw.own HR1.out (by decide) HG2.out HB1.out (by omega) (fun k hk => by omega))).trans (Kw.set HO2.out (by decide) (by omega) (by omega) _ _))
    have HRE := Lib.hid (show (w'.setCell ⟨w.heap.size + 1, 0, none⟩ (.slice A' (z + 1) c')).ownsRow (W0.heap.size + (2 + 3)) 3 1 (.slice A' (z + 1) c') (z + 1) ((pre ++ [y]).map iv) from by
      rw [HME.out]
      exact ownsRow_setCell_below HR2.out (by show w.heap.size + 1 < _; omega) _)
    clear hzz hz2
    gi_wp2
    exact ⟨HKW.out, A', z + 1, c', HO2.out.set1 _, HRE.out, Below.trans HBW.out HKW.out.old⟩
  case done =>
    rintro D V rfl ⟨Z, z, c, hO, hRow, hb⟩ hK
    have c3 := hO.bx.at 0 _ rfl
    have HK := Lib.hid hK
    have HR := Lib.hid hRow
    have HB := Lib.hid (show Below w.heap.size w V from hb)
    have HZL := Lib.hid (show z = (nodesP l p (-9223372036854775808)).length from by have h1 := hRow.1; simp at h1; omega)
    clear hO hRow hb hK hz2
    gi_wp2
    have hzz := HZ.out
    refine ⟨by simp, .inl ⟨_, _, rfl, run_takeDeferred HK.out, ?_⟩⟩
    exact ⟨.slice Z z c, by simp [results, Try.results18, go_sem], Z, z, c, rfl, HZL.out, own_sl (own_put HR.out (by omega) _), kept_def HB.out (Nat.le_refl _) (by omega) HK.out _⟩
  case stop =>
    rintro D c u V rfl hu h hK
    exact h.elim
end Go.Proofs.Ythlencnlgnbpaaa
