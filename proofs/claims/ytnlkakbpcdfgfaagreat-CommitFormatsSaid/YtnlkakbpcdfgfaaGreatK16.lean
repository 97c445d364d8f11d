/- Chunks of package plan as it landed. -/
import Derived.Test.YtnlkakbpcdfgfaaGreatK15
namespace Go.Proofs.YtnlkakbpcdfgfaaGreat
set_option maxRecDepth 20000
open Go.RowKit Go.Shelf
attribute [local go_sem] Oper.semAt_some

/-- A conversion at a step of a region that draws its order. -/
theorem step_conv {P : Program} {w : World} {ops : Array Oper} {o : Oper} {a : Act} {K : Act → World → Prop} {Q : Exit → Act → World → Prop} {E : Prop} (hgd : o.guard = none) (x : Operand) (s t : TypeId)
    (ho : o.op = .convert s t x) (v v' : Value) (hx : a.eval x = v) (hr : (convert s t v).run P w = .ok v' w) (h : K (a.put o.dst v') w) :
    if Region.wanted o (yielded ops a.tmps) = true then Oper.wp P o a w K Q else E := by
  have hw : Region.wanted o (yielded ops a.tmps) = true := by simp [Region.wanted, hgd]
  rw [if_pos hw]
  unfold Oper.wp
  simp [execOp, ho, hx, hr, Result.andThen]
  exact h
theorem zeros_any (k : Nat) (w : World) (hk : k ≤ 40) : Calls Tryz.prog 29 #[.string (ByteArray.mk #[0]), .int .i64 k] w fun e w' => e = .returned (.string ⟨(List.replicate k (0 : UInt8)).toArray⟩) ∧ Ext w w' := by
  have h := Tryz.strings_Repeat (ByteArray.mk #[0]) k w (by omega) (by simp only [show (ByteArray.mk #[0]).size = 1 from rfl]; omega)
  rw [show (ByteArray.mk #[0]).data.toList = [0] from rfl, repeat_zero] at h
  exact h
/-- What is owned stays owned where a window below it is turned. -/
theorem own_out {A A' : World} {B c base e s k n oc : Nat} {O : Option Addr} {xs : List Value} (h : A.ownsRow base e s (.slice O k oc) n xs) (ho : Out B c A A') (hb : B + c ≤ base) : A'.ownsRow base e s (.slice O k oc) n xs := by
  refine ⟨h.1, ?_⟩
  rcases h.2 with h2 | ⟨g, cap, cur, e0, hg, hh, rest⟩
  · exact .inl h2
  · exact .inr ⟨g, cap, cur, e0, hg, (ho.same g (Array.getElem?_eq_some_iff.1 hh).1 (.inr (by omega))).trans hh, rest⟩
theorem own_blk {w : World} {base e s k n oc : Nat} {O : Option Addr} {xs : List Value} (h : w.ownsRow base e s (.slice O k oc) n xs) : ∀ r, (Value.slice O k oc).ownBlock = some r → base ≤ r := fun r hr => by
  rcases h.2 with ⟨h2, _⟩ | ⟨g, cap, cur, e0, hg, _⟩
  · cases h2; cases hr
  · cases e0; cases hr; exact hg
theorem own_setP {w : World} {base e s k n oc : Nat} {O : Option Addr} {xs : List Value} (h : w.ownsRow base e s (.slice O k oc) n xs) {b i : Nat} (hb : b < base) (v : Value) : (w.setCell ⟨b, i, none⟩ v).ownsRow base e s (.slice O k oc) n xs := by
  refine ⟨h.1, ?_⟩
  rcases h.2 with h2 | ⟨g, cap, cur, e0, hg, hh, rest⟩
  · exact .inl h2
  · exact .inr ⟨g, cap, cur, e0, hg, (Below.heap_setCell _ _ _ _ (by show g ≠ b; omega)).trans hh, rest⟩
theorem range_last {pre : List Nat} {x N : Nat} (h : pre ++ [x] <+: List.range N) : x = pre.length ∧ pre.length < N := by
  obtain ⟨r, hr⟩ := h
  have h3 : (List.range N)[pre.length]? = some x := by rw [← hr]; simp
  obtain ⟨h4, h5⟩ := List.getElem?_eq_some_iff.1 h3
  simp at h4 h5
  exact ⟨h5.symm, h4⟩
theorem bts3 {w W : World} {c0 c1 c2 : Array Value} {t0 t1 t2 : TypeId} (h : ((w.alloc (.cells c0 t0)).alloc (.cells c1 t1)).alloc (.cells c2 t2) = W) : Ext w W ∧ W.heap.size = w.heap.size + 3 ∧ Bt W w.heap.size t0 c0 ∧ Bt W (w.heap.size + 1) t1 c1 ∧ Bt W (w.heap.size + 1 + 1) t2 c2 := by
  subst h
  have b0 := Bt.new w c0 t0
  have b1 := Bt.new (w.alloc (.cells c0 t0)) c1 t1
  have b2 := Bt.new ((w.alloc (.cells c0 t0)).alloc (.cells c1 t1)) c2 t2
  simp only [World.size_alloc] at b1 b2
  have y := fun (X : World) o => (Ext.refl X).alloc o
  exact ⟨((y w _).alloc _).alloc _, by simp, (b0.below (y _ _)).below (y _ _), b1.below (y _ _), b2⟩
theorem own_lowPmF {w : World} {base base' e s k n oc : Nat} {O : Option Addr} {xs : List Value} (h : w.ownsRow base e s (.slice O k oc) n xs) (hb : base' ≤ base) : w.ownsRow base' e s (.slice O k oc) n xs := by
  refine ⟨h.1, ?_⟩
  rcases h.2 with h2 | ⟨g, cap, cur, e0, hg, rest⟩
  · exact .inl h2
  · exact .inr ⟨g, cap, cur, e0, Nat.le_trans hb hg, rest⟩
theorem own_keptP {A B : World} {base e s k n oc n₀ : Nat} {S : Nat → Prop} {O : Option Addr} {xs : List Value} (h : A.ownsRow base e s (.slice O k oc) n xs) (hk : Kp n₀ S A B) (hS : ∀ g, base ≤ g → g < A.heap.size → S g) : B.ownsRow base e s (.slice O k oc) n xs := by
  refine ⟨h.1, ?_⟩
  rcases h.2 with h2 | ⟨g, cap, cur, e0, hg, hh, rest⟩
  · exact .inl h2
  · exact .inr ⟨g, cap, cur, e0, hg, (hk.same g (hS g hg (Array.getElem?_eq_some_iff.1 hh).1) (Array.getElem?_eq_some_iff.1 hh).1).trans hh, rest⟩
theorem own_def {w : World} {base e s k n oc D : Nat} {O : Option Addr} {xs : List Value} {d : Option (List Deferred)} (h : w.ownsRow base e s (.slice O k oc) n xs) (hK : w.heap[D]? = some (.deferred d)) (o : Obj) : (w.putObj D o).ownsRow base e s (.slice O k oc) n xs := by
  refine ⟨h.1, ?_⟩
  rcases h.2 with h2 | ⟨g, cap, cur, e0, hg, hh, rest⟩
  · exact .inl h2
  · exact .inr ⟨g, cap, cur, e0, hg, (World.putObj_heap_other (by intro e; subst e; rw [hK] at hh; cases hh)).trans hh, rest⟩
theorem kept_def {w W : World} {n₀ D : Nat} {o : Obj} (h : Below n₀ w W) (_ : n₀ ≤ w.heap.size) (hD : n₀ ≤ D) (hK : W.heap[D]? = some o) (o' : Obj) : Below n₀ w (W.putObj D o') :=
  h.trans ((Below.refl n₀ W).grown (grownBy_putObj' W D o') (by have := (Array.getElem?_eq_some_iff.1 hK).1; omega) (fun k e => by cases e; exact hD))
theorem bytes_cat (a b : List UInt8) : (⟨a.toArray⟩ ++ ⟨b.toArray⟩ : ByteArray) = ⟨(a ++ b).toArray⟩ := by
  refine ByteArray.ext ?_
  simp
theorem ckb_at {l : Bl} {k : Nat} (hk : k < pieces l.length) : (chB l).take (k + 1) = (chB l).take k ++ [⟨(((l.drop (40 * k)).take 40) ++ List.replicate (40 - min 40 (l.length - 40 * k)) 0).toArray⟩] := by
  have h : k < (chB l).length := by rw [chB_len, chunks_len]; exact hk
  rw [List.take_succ_eq_append_getElem h, chB_at l hk h]
  unfold padB
  rw [show ((l.drop (40 * k)).take 40).length = min 40 (l.length - 40 * k) by simp]

set_option maxRecDepth 100000 in
set_option maxHeartbeats 4000000 in
theorem planChunks_any (A : Option Addr) (l : Bl) (n c : Nat) (w : World) (hn : n = l.length) (hn2 : n ≤ 1000000) (hS : Sl w A n c (l.map bv)) :
    Calls Tryz.prog 124 #[.slice A n c] w fun e w' => ∃ B d, e = .returned (.slice B (pieces n) d) ∧ w'.ownsRow w.heap.size 9 1 (.slice B (pieces n) d) (pieces n) ((chB l).map sv) ∧ Ext w w' := by
  refine (callsIn_wide.1 (?_ : CallsIn Fence.wide 5 _ _ _ _ _))
  have HS := Lib.hid hS
  have hnc : n ≤ c := hS.2.1
  have HN := Lib.hid hn
  clear hS hn
  have hp2 : pieces n ≤ 1000000 := by unfold pieces; omega
  refine callsIn_of_wp_marks Tryz.func124 rfl trivial ?_ rfl
  simp only [Tryz.ntmps124, List.size_toArray, List.length_cons, List.length_nil, Nat.reduceAdd, Nat.reduceSub, Array.replicate_succ, Array.replicate_zero, List.push_toArray, List.append_toArray, List.nil_append, List.cons_append]
  gi_wp2_with (refine ⟨trivial, ?_⟩; gi_at_call 141; refine (chunk_in _ _ _ _ _).mono ?_; rintro e w' ⟨rfl, rfl⟩)
  obtain ⟨W, hW⟩ : ∃ W, ((w.alloc (.cells #[.slice none 0 0] 23)).alloc (.cells #[.slice A n c] 83)).alloc (.cells #[.int .i64 40] 3) = W := ⟨_, rfl⟩
  obtain ⟨hX, hz1, b0, b1, b2⟩ := bts3 hW
  rw [hW]
  clear hW
  have HX := Lib.hid hX
  have HB0 := Lib.hid b0
  refine range_ownW rfl (m := 3) (gf := 149) (lb := #[.pointer (some ⟨w.heap.size + 1, 0, none⟩), .pointer (some ⟨w.heap.size + 1 + 1, 0, none⟩)]) rfl (enters_of Tryz.func149 (by kernel_rfl) rfl)
    (chunk_seq A n c (w.heap.size + 1) (w.heap.size + 1 + 1) w.heap.size W hnc hn2 b1 b2) (Ext.refl _) hX.size (fun k hk => by omega) (fun _ => rfl)
    (fun W0 pre V => ∃ O oc, Bt V w.heap.size 23 #[.slice O pre.length oc] ∧ V.ownsRow W0.heap.size 9 1 (.slice O pre.length oc) pre.length (((chB l).take pre.length).map sv) ∧ Below w.heap.size w V ∧ pre = List.range pre.length)
    (fun _ _ _ _ => False)
    (fun W0 h s X Y ⟨O, oc, h1, h2, h3, h4⟩ ho => ⟨O, oc, (ho.same _ h1.lt (.inl (by omega))).trans h1, own_out h2 ho (by have := h.size; omega), stays_below (β := Unit) w (n₀ := w.heap.size) (by omega) (Nat.le_refl _) () _ _ h3 ho, h4⟩)
    (fun _ _ _ _ _ _ h _ => h)
    (fun W0 h => ⟨none, 0, HB0.out.below h, World.ownsRow_nil _ _ _ _, HX.out.trans h, rfl⟩)
    (fun W0 x a' V => a' = { tmps := #[.slice A n c, undef, .slice none 0 0, .pointer (some ⟨w.heap.size, 0, none⟩), .slice (A.map (·.add (40 * x))) (min 40 (n - 40 * x)) (min 40 (n - 40 * x)), .slice A n c, .func (.func 149) #[] #[.pointer (some ⟨w.heap.size + 1, 0, none⟩), .pointer (some ⟨w.heap.size + 1 + 1, 0, none⟩)], .slice (A.map (·.add (40 * x))) (min 40 (n - 40 * x)) (min 40 (n - 40 * x)), undef, undef, undef, undef, undef, undef, undef, undef, undef, undef, undef], defers := [] })
    (fun _ _ _ _ _ _ _ h _ => h)
    ?assign ?body ?done ?stop
  case assign =>
    rintro l2 W0 pre x V K hx0 hi hz hp hK
    have HI := Lib.hid hi
    have HKV := Lib.hid hK
    clear hi hK
    show Code.wpIn _ _ _ _ _ _ _
    simp only [encC]
    gi_wp2
    exact HKV.out _ _ (Kp.refl _ _ _) HI.out rfl
  case body =>
    rintro l2 W0 pre x a' V hx0 ⟨O, oc, hb, ho, hB, hpr⟩ rfl hz hp
    obtain ⟨rfl, hxN⟩ := range_last hp
    have HRG := Lib.hid (show pre ++ [pre.length] = List.range (pre.length + 1) from by rw [List.range_succ]; exact congrArg (· ++ [pre.length]) hpr)
    have HLP := Lib.hid (show (pre ++ [pre.length]).length = pre.length + 1 from by simp)
    have HOX := Lib.hid ho
    have HBX := Lib.hid hb
    clear hpr hp ho
    obtain ⟨k, hk⟩ : ∃ k, pre.length = k := ⟨_, rfl⟩
    rw [hk] at HRG HLP HOX HBX hxN hb ⊢
    have hlo : 40 * k < n := by unfold pieces at hxN; omega
    have hne : l.map bv ≠ [] := by intro e; have h0 := congrArg List.length e; rw [List.length_map, ← HN.out] at h0; simp at h0; omega
    obtain ⟨bb, off, hA, hbl, hcc⟩ := HS.out.cells hne
    have HTK := Lib.hid (ckb_at (l := l) (k := k) (by rw [← HN.out]; exact hxN))
    rw [← HN.out] at HTK
    obtain ⟨m, hm⟩ : ∃ m, min 40 (n - 40 * k) = m := ⟨_, rfl⟩
    have HCV := Lib.hid (fun V' (hV : Below w.heap.size w V') => (show (convert 83 9 (.slice (A.map (·.add (40 * k))) m m)).run Tryz.prog V' = .ok (.string ⟨((l.drop (40 * k)).take 40).toArray⟩) V' from by
      have hl : ((l.drop (40 * k)).take 40).length = m := by rw [List.length_take, List.length_drop, ← HN.out]; exact hm
      have h2 := run_convert_bytes_back (P := Tryz.prog) V' 83 9 5 ((⟨bb, off, none⟩ : Addr).add (40 * k)) m ((l.drop (40 * k)).take 40) Tryz.underlying83 Tryz.underlying5 Tryz.underlying9 (fun j hj => by
        rw [Addr.add_lit, Addr.add_lit, (hV.cell (p := ⟨bb, off + 40 * k + j, none⟩) hbl), show off + 40 * k + j = off + (40 * k + j) by omega]
        refine hcc (40 * k + j) _ ?_
        rw [hl] at hj
        have hj2 : 40 * k + j < l.length := by rw [← HN.out]; omega
        rw [List.getElem?_map, List.getElem?_eq_getElem hj2]
        simp [bv])
      rw [hl] at h2
      rw [hA]
      exact h2))
    rw [hm] at HTK ⊢
    have hm1 : m ≤ 40 := by omega
    have HZ := Lib.hid (fun V' => zeros_any (40 - m) V' (by omega))
    have v1 : IntKind.i64.wrap (40 - (m : Int)) = ((40 - m : Nat) : Int) := by rw [IntKind.wrap_i64]; omega
    have hPL : ((l.drop (40 * k)).take 40).length = m := by rw [List.length_take, List.length_drop, ← HN.out]; exact hm
    generalize (l.drop (40 * k)).take 40 = PC at *
    have hcat : ¬ 9223372036854775807 < PC.length + (40 - m) := by omega
    have heq := bytes_cat PC (List.replicate (40 - m) (0 : UInt8))
    rw [List.toArray_replicate] at heq
    clear hPL
    generalize A.map (·.add (40 * k)) = AA at *
    have HBD := Lib.hid (show Below w.heap.size w V.drew from Below.trans hB (((Ext.refl V).drew).mono hB.size))
    have HVD := Lib.hid ((Ext.refl V).drew)
    have r0 := (HBX.out.below HVD.out).bx.at 0 _ rfl
    have hz0 := hx0.size
    have HZ1 := Lib.hid hz1
    clear hz1 hb hm hA hcc hne hbl hlo
    refine wpIn_block ?_
    refine region_round (by kernel_rfl) (plain_all (by kernel_rfl)) (fun ⟨_, _, h⟩ => h) ?_
    refine wpAny_take (i := 1) (v := ?_) rfl (by kernel_rfl) (by kernel_rfl) (by kernel_rfl) (fun _ _ _ h => h) (Or.inl ⟨by rfl, ?_⟩) ?_
    rotate_left
    · (intro w9; go_simp; try with_reducible rfl)
    refine wpAny_take (i := 3) (v := ?_) rfl (by kernel_rfl) (by kernel_rfl) (by kernel_rfl) (fun _ _ _ h => h) (Or.inl ⟨by rfl, ?_⟩) ?_
    rotate_left
    · (intro w9; go_simp; try with_reducible rfl)
    refine wpAny_take (i := 4) (v := ?_) rfl (by kernel_rfl) (by kernel_rfl) (by kernel_rfl) (fun _ _ _ h => h) (Or.inl ⟨by rfl, ?_⟩) ?_
    rotate_left
    · (intro w9; go_simp; try with_reducible rfl)
    refine wpAny_take (i := 5) (v := ?_) rfl (by kernel_rfl) (by kernel_rfl) (by kernel_rfl) (fun _ _ _ h => h) (Or.inl ⟨by rfl, ?_⟩) ?_
    rotate_left
    · (intro w9; go_simp; try with_reducible rfl)
    refine wpAny_ready (rs := [0, 2, 6]) (by kernel_rfl) (by simp) ?_
    refine AllReady.cons rfl (fun K hK => ?_) ?_
    · go_simp
      try (refine hK _ _ ?_)
      try (clear hK K)
      refine wpAny_ready (rs := [2, 6]) (by kernel_rfl) (by simp) ?_
      refine AllReady.cons rfl (fun K hK => ?_) ?_
      · refine step_conv rfl (.tmp 9) 83 9 rfl (.slice AA m m) _ rfl (HCV.out _ HBD.out) ?_
        try (refine hK _ _ ?_)
        try (clear hK K)
        refine wpAny_ready (rs := [6]) (by kernel_rfl) (by simp) ?_
        refine AllReady.cons rfl (fun K hK => ?_) ?_
        · go_simp
          go_wp2_with (go_at_call 29; refine (HZ.out _).mono ?_; rintro e w5 ⟨rfl, hx5⟩; have X5 := Lib.hid (HVD.out.trans hx5); have HB5 := Lib.hid (Below.trans HBD.out (hx5.mono HBD.out.size)); have r5 := (HBX.out.below X5.out).bx.at 0 _ rfl; have r8 := fun o => (HBX.out.below (X5.out.alloc o)).bx.at 0 _ rfl; clear hx5)
          try (refine hK _ _ ?_)
          try (clear hK K)
          refine wpAny_take (i := 7) (v := ?_) rfl (by kernel_rfl) (by kernel_rfl) (by kernel_rfl) (fun _ _ _ h => h) (Or.inl ⟨by rfl, ?_⟩) ?_
          rotate_left
          · (intro w9; go_simp; try with_reducible rfl)
          refine wpAny_ready (rs := [8]) (by kernel_rfl) (by simp) ?_
          refine AllReady.cons rfl (fun K hK => ?_) ?_
          · go_simp
            try (refine hK _ _ ?_)
            try (clear hK K)
            refine wpAny_ready (rs := [9]) (by kernel_rfl) (by simp) ?_
            refine AllReady.cons rfl (fun K hK => ?_) ?_
            · refine step_app_sl rfl (.tmp 8) (.tmp 16) 23 rfl W0.heap.size 9 (.string (ByteArray.mk #[])) 1 16 Tryz.underlying23 infoSt rfl (by omega) _ k _ rfl (own_ext HOX.out (X5.out.alloc _)) _ 1 1 [sv ⟨(PC ++ List.replicate (40 - m) (0 : UInt8)).toArray⟩] rfl rfl (slU_lit rfl _ _ _ (by unfold maxLen; omega)) (fun u hu => by simp at hu; subst hu; rfl) (by unfold maxLen; omega) (by omega) (Nat.le_trans hz (X5.out.alloc _).size) ?_
              intro A9 c9 w9 h1 h2
              have X9 := Lib.hid (Kp.grown (n₀ := w.heap.size) (S := fun k => (k = w.heap.size + 1 ∨ k = w.heap.size + 1 + 1) ∨ W.heap.size ≤ k ∧ k < W0.heap.size) h2 (fun r hr => by have hz1 := HZ1.out; have := own_blk HOX.out r hr; omega) (Nat.le_trans HB5.out.size ((Ext.refl w5).alloc _).size))
              have H9 := Lib.hid h1
              have B9 := Lib.hid (show Bt w9 w.heap.size 23 #[.slice O k oc] from (h2.block _ (HBX.out.below (X5.out.alloc _)).lt (fun e => by have hz1 := HZ1.out; have := own_blk HOX.out _ e.symm; omega)).trans (HBX.out.below (X5.out.alloc _)))
              have r9 := B9.out.bx.at 0 _ rfl
              have f9 := B9.out.bx.free 0
              have l9 := B9.out.lt
              clear h1 h2
              try (refine hK _ _ ?_)
              try (clear hK K)
              refine wpAny_ready (rs := [10]) (by kernel_rfl) (by simp) ?_
              refine AllReady.cons rfl (fun K hK => ?_) ?_
              · go_simp
                try (refine hK _ _ ?_)
                try (clear hK K)
                refine wpAny_done (by kernel_rfl) ?_ _
                have KK := Lib.hid ((Kp.ext (n₀ := w.heap.size) (fun k => (k = w.heap.size + 1 ∨ k = w.heap.size + 1 + 1) ∨ W.heap.size ≤ k ∧ k < W0.heap.size) (X5.out.alloc _) hB.size).trans (X9.out.trans (Kp.set w9 (k := w.heap.size) (by have := HZ1.out; omega) (Nat.le_refl _) 0 (.slice A9 (k + 1) c9))))
                refine ⟨KK.out, A9, c9, by rw [HLP.out]; exact B9.out.set1 _, by rw [HLP.out, HTK.out, List.map_append]; exact own_setP H9.out (by have := HZ1.out; omega) _, Below.trans hB KK.out.old, by rw [HLP.out]; exact HRG.out⟩
              exact AllReady.nil
            exact AllReady.nil
          exact AllReady.nil
        exact AllReady.nil
      refine AllReady.cons rfl (fun K hK => ?_) ?_
      · go_simp
        go_wp2_with (go_at_call 29; refine (HZ.out _).mono ?_; rintro e w5 ⟨rfl, hx5⟩; have X5 := Lib.hid (HVD.out.trans hx5); have HB5 := Lib.hid (Below.trans HBD.out (hx5.mono HBD.out.size)); have r5 := (HBX.out.below X5.out).bx.at 0 _ rfl; have r8 := fun o => (HBX.out.below (X5.out.alloc o)).bx.at 0 _ rfl; clear hx5)
        try (refine hK _ _ ?_)
        try (clear hK K)
        refine wpAny_ready (rs := [2]) (by kernel_rfl) (by simp) ?_
        refine AllReady.cons rfl (fun K hK => ?_) ?_
        · refine step_conv rfl (.tmp 9) 83 9 rfl (.slice AA m m) _ rfl (HCV.out _ HB5.out) ?_
          try (refine hK _ _ ?_)
          try (clear hK K)
          refine wpAny_take (i := 7) (v := ?_) rfl (by kernel_rfl) (by kernel_rfl) (by kernel_rfl) (fun _ _ _ h => h) (Or.inl ⟨by rfl, ?_⟩) ?_
          rotate_left
          · (intro w9; go_simp; try with_reducible rfl)
          refine wpAny_ready (rs := [8]) (by kernel_rfl) (by simp) ?_
          refine AllReady.cons rfl (fun K hK => ?_) ?_
          · go_simp
            try (refine hK _ _ ?_)
            try (clear hK K)
            refine wpAny_ready (rs := [9]) (by kernel_rfl) (by simp) ?_
            refine AllReady.cons rfl (fun K hK => ?_) ?_
            · refine step_app_sl rfl (.tmp 8) (.tmp 16) 23 rfl W0.heap.size 9 (.string (ByteArray.mk #[])) 1 16 Tryz.underlying23 infoSt rfl (by omega) _ k _ rfl (own_ext HOX.out (X5.out.alloc _)) _ 1 1 [sv ⟨(PC ++ List.replicate (40 - m) (0 : UInt8)).toArray⟩] rfl rfl (slU_lit rfl _ _ _ (by unfold maxLen; omega)) (fun u hu => by simp at hu; subst hu; rfl) (by unfold maxLen; omega) (by omega) (Nat.le_trans hz (X5.out.alloc _).size) ?_
              intro A9 c9 w9 h1 h2
              have X9 := Lib.hid (Kp.grown (n₀ := w.heap.size) (S := fun k => (k = w.heap.size + 1 ∨ k = w.heap.size + 1 + 1) ∨ W.heap.size ≤ k ∧ k < W0.heap.size) h2 (fun r hr => by have hz1 := HZ1.out; have := own_blk HOX.out r hr; omega) (Nat.le_trans HB5.out.size ((Ext.refl w5).alloc _).size))
              have H9 := Lib.hid h1
              have B9 := Lib.hid (show Bt w9 w.heap.size 23 #[.slice O k oc] from (h2.block _ (HBX.out.below (X5.out.alloc _)).lt (fun e => by have hz1 := HZ1.out; have := own_blk HOX.out _ e.symm; omega)).trans (HBX.out.below (X5.out.alloc _)))
              have r9 := B9.out.bx.at 0 _ rfl
              have f9 := B9.out.bx.free 0
              have l9 := B9.out.lt
              clear h1 h2
              try (refine hK _ _ ?_)
              try (clear hK K)
              refine wpAny_ready (rs := [10]) (by kernel_rfl) (by simp) ?_
              refine AllReady.cons rfl (fun K hK => ?_) ?_
              · go_simp
                try (refine hK _ _ ?_)
                try (clear hK K)
                refine wpAny_done (by kernel_rfl) ?_ _
                have KK := Lib.hid ((Kp.ext (n₀ := w.heap.size) (fun k => (k = w.heap.size + 1 ∨ k = w.heap.size + 1 + 1) ∨ W.heap.size ≤ k ∧ k < W0.heap.size) (X5.out.alloc _) hB.size).trans (X9.out.trans (Kp.set w9 (k := w.heap.size) (by have := HZ1.out; omega) (Nat.le_refl _) 0 (.slice A9 (k + 1) c9))))
                refine ⟨KK.out, A9, c9, by rw [HLP.out]; exact B9.out.set1 _, by rw [HLP.out, HTK.out, List.map_append]; exact own_setP H9.out (by have := HZ1.out; omega) _, Below.trans hB KK.out.old, by rw [HLP.out]; exact HRG.out⟩
              exact AllReady.nil
            exact AllReady.nil
          exact AllReady.nil
        exact AllReady.nil
      exact AllReady.nil
    refine AllReady.cons rfl (fun K hK => ?_) ?_
    · refine step_conv rfl (.tmp 9) 83 9 rfl (.slice AA m m) _ rfl (HCV.out _ HBD.out) ?_
      try (refine hK _ _ ?_)
      try (clear hK K)
      refine wpAny_ready (rs := [0, 6]) (by kernel_rfl) (by simp) ?_
      refine AllReady.cons rfl (fun K hK => ?_) ?_
      · go_simp
        try (refine hK _ _ ?_)
        try (clear hK K)
        refine wpAny_ready (rs := [6]) (by kernel_rfl) (by simp) ?_
        refine AllReady.cons rfl (fun K hK => ?_) ?_
        · go_simp
          go_wp2_with (go_at_call 29; refine (HZ.out _).mono ?_; rintro e w5 ⟨rfl, hx5⟩; have X5 := Lib.hid (HVD.out.trans hx5); have HB5 := Lib.hid (Below.trans HBD.out (hx5.mono HBD.out.size)); have r5 := (HBX.out.below X5.out).bx.at 0 _ rfl; have r8 := fun o => (HBX.out.below (X5.out.alloc o)).bx.at 0 _ rfl; clear hx5)
          try (refine hK _ _ ?_)
          try (clear hK K)
          refine wpAny_take (i := 7) (v := ?_) rfl (by kernel_rfl) (by kernel_rfl) (by kernel_rfl) (fun _ _ _ h => h) (Or.inl ⟨by rfl, ?_⟩) ?_
          rotate_left
          · (intro w9; go_simp; try with_reducible rfl)
          refine wpAny_ready (rs := [8]) (by kernel_rfl) (by simp) ?_
          refine AllReady.cons rfl (fun K hK => ?_) ?_
          · go_simp
            try (refine hK _ _ ?_)
            try (clear hK K)
            refine wpAny_ready (rs := [9]) (by kernel_rfl) (by simp) ?_
            refine AllReady.cons rfl (fun K hK => ?_) ?_
            · refine step_app_sl rfl (.tmp 8) (.tmp 16) 23 rfl W0.heap.size 9 (.string (ByteArray.mk #[])) 1 16 Tryz.underlying23 infoSt rfl (by omega) _ k _ rfl (own_ext HOX.out (X5.out.alloc _)) _ 1 1 [sv ⟨(PC ++ List.replicate (40 - m) (0 : UInt8)).toArray⟩] rfl rfl (slU_lit rfl _ _ _ (by unfold maxLen; omega)) (fun u hu => by simp at hu; subst hu; rfl) (by unfold maxLen; omega) (by omega) (Nat.le_trans hz (X5.out.alloc _).size) ?_
              intro A9 c9 w9 h1 h2
              have X9 := Lib.hid (Kp.grown (n₀ := w.heap.size) (S := fun k => (k = w.heap.size + 1 ∨ k = w.heap.size + 1 + 1) ∨ W.heap.size ≤ k ∧ k < W0.heap.size) h2 (fun r hr => by have hz1 := HZ1.out; have := own_blk HOX.out r hr; omega) (Nat.le_trans HB5.out.size ((Ext.refl w5).alloc _).size))
              have H9 := Lib.hid h1
              have B9 := Lib.hid (show Bt w9 w.heap.size 23 #[.slice O k oc] from (h2.block _ (HBX.out.below (X5.out.alloc _)).lt (fun e => by have hz1 := HZ1.out; have := own_blk HOX.out _ e.symm; omega)).trans (HBX.out.below (X5.out.alloc _)))
              have r9 := B9.out.bx.at 0 _ rfl
              have f9 := B9.out.bx.free 0
              have l9 := B9.out.lt
              clear h1 h2
              try (refine hK _ _ ?_)
              try (clear hK K)
              refine wpAny_ready (rs := [10]) (by kernel_rfl) (by simp) ?_
              refine AllReady.cons rfl (fun K hK => ?_) ?_
              · go_simp
                try (refine hK _ _ ?_)
                try (clear hK K)
                refine wpAny_done (by kernel_rfl) ?_ _
                have KK := Lib.hid ((Kp.ext (n₀ := w.heap.size) (fun k => (k = w.heap.size + 1 ∨ k = w.heap.size + 1 + 1) ∨ W.heap.size ≤ k ∧ k < W0.heap.size) (X5.out.alloc _) hB.size).trans (X9.out.trans (Kp.set w9 (k := w.heap.size) (by have := HZ1.out; omega) (Nat.le_refl _) 0 (.slice A9 (k + 1) c9))))
                refine ⟨KK.out, A9, c9, by rw [HLP.out]; exact B9.out.set1 _, by rw [HLP.out, HTK.out, List.map_append]; exact own_setP H9.out (by have := HZ1.out; omega) _, Below.trans hB KK.out.old, by rw [HLP.out]; exact HRG.out⟩
              exact AllReady.nil
            exact AllReady.nil
          exact AllReady.nil
        exact AllReady.nil
      refine AllReady.cons rfl (fun K hK => ?_) ?_
      · go_simp
        go_wp2_with (go_at_call 29; refine (HZ.out _).mono ?_; rintro e w5 ⟨rfl, hx5⟩; have X5 := Lib.hid (HVD.out.trans hx5); have HB5 := Lib.hid (Below.trans HBD.out (hx5.mono HBD.out.size)); have r5 := (HBX.out.below X5.out).bx.at 0 _ rfl; have r8 := fun o => (HBX.out.below (X5.out.alloc o)).bx.at 0 _ rfl; clear hx5)
        try (refine hK _ _ ?_)
        try (clear hK K)
        refine wpAny_take (i := 7) (v := ?_) rfl (by kernel_rfl) (by kernel_rfl) (by kernel_rfl) (fun _ _ _ h => h) (Or.inl ⟨by rfl, ?_⟩) ?_
        rotate_left
        · (intro w9; go_simp; try with_reducible rfl)
        refine wpAny_ready (rs := [0, 8]) (by kernel_rfl) (by simp) ?_
        refine AllReady.cons rfl (fun K hK => ?_) ?_
        · go_simp
          try (refine hK _ _ ?_)
          try (clear hK K)
          refine wpAny_ready (rs := [8]) (by kernel_rfl) (by simp) ?_
          refine AllReady.cons rfl (fun K hK => ?_) ?_
          · go_simp
            try (refine hK _ _ ?_)
            try (clear hK K)
            refine wpAny_ready (rs := [9]) (by kernel_rfl) (by simp) ?_
            refine AllReady.cons rfl (fun K hK => ?_) ?_
            · refine step_app_sl rfl (.tmp 8) (.tmp 16) 23 rfl W0.heap.size 9 (.string (ByteArray.mk #[])) 1 16 Tryz.underlying23 infoSt rfl (by omega) _ k _ rfl (own_ext HOX.out (X5.out.alloc _)) _ 1 1 [sv ⟨(PC ++ List.replicate (40 - m) (0 : UInt8)).toArray⟩] rfl rfl (slU_lit rfl _ _ _ (by unfold maxLen; omega)) (fun u hu => by simp at hu; subst hu; rfl) (by unfold maxLen; omega) (by omega) (Nat.le_trans hz (X5.out.alloc _).size) ?_
              intro A9 c9 w9 h1 h2
              have X9 := Lib.hid (Kp.grown (n₀ := w.heap.size) (S := fun k => (k = w.heap.size + 1 ∨ k = w.heap.size + 1 + 1) ∨ W.heap.size ≤ k ∧ k < W0.heap.size) h2 (fun r hr => by have hz1 := HZ1.out; have := own_blk HOX.out r hr; omega) (Nat.le_trans HB5.out.size ((Ext.refl w5).alloc _).size))
              have H9 := Lib.hid h1
              have B9 := Lib.hid (show Bt w9 w.heap.size 23 #[.slice O k oc] from (h2.block _ (HBX.out.below (X5.out.alloc _)).lt (fun e => by have hz1 := HZ1.out; have := own_blk HOX.out _ e.symm; omega)).trans (HBX.out.below (X5.out.alloc _)))
              have r9 := B9.out.bx.at 0 _ rfl
              have f9 := B9.out.bx.free 0
              have l9 := B9.out.lt
              clear h1 h2
              try (refine hK _ _ ?_)
              try (clear hK K)
              refine wpAny_ready (rs := [10]) (by kernel_rfl) (by simp) ?_
              refine AllReady.cons rfl (fun K hK => ?_) ?_
              · go_simp
                try (refine hK _ _ ?_)
                try (clear hK K)
                refine wpAny_done (by kernel_rfl) ?_ _
                have KK := Lib.hid ((Kp.ext (n₀ := w.heap.size) (fun k => (k = w.heap.size + 1 ∨ k = w.heap.size + 1 + 1) ∨ W.heap.size ≤ k ∧ k < W0.heap.size) (X5.out.alloc _) hB.size).trans (X9.out.trans (Kp.set w9 (k := w.heap.size) (by have := HZ1.out; omega) (Nat.le_refl _) 0 (.slice A9 (k + 1) c9))))
                refine ⟨KK.out, A9, c9, by rw [HLP.out]; exact B9.out.set1 _, by rw [HLP.out, HTK.out, List.map_append]; exact own_setP H9.out (by have := HZ1.out; omega) _, Below.trans hB KK.out.old, by rw [HLP.out]; exact HRG.out⟩
              exact AllReady.nil
            exact AllReady.nil
          exact AllReady.nil
        refine AllReady.cons rfl (fun K hK => ?_) ?_
        · go_simp
          try (refine hK _ _ ?_)
          try (clear hK K)
          refine wpAny_ready (rs := [0]) (by kernel_rfl) (by simp) ?_
          refine AllReady.cons rfl (fun K hK => ?_) ?_
          · go_simp
            try (refine hK _ _ ?_)
            try (clear hK K)
            refine wpAny_ready (rs := [9]) (by kernel_rfl) (by simp) ?_
            refine AllReady.cons rfl (fun K hK => ?_) ?_
            · refine step_app_sl rfl (.tmp 8) (.tmp 16) 23 rfl W0.heap.size 9 (.string (ByteArray.mk #[])) 1 16 Tryz.underlying23 infoSt rfl (by omega) _ k _ rfl (own_ext HOX.out (X5.out.alloc _)) _ 1 1 [sv ⟨(PC ++ List.replicate (40 - m) (0 : UInt8)).toArray⟩] rfl rfl (slU_lit rfl _ _ _ (by unfold maxLen; omega)) (fun u hu => by simp at hu; subst hu; rfl) (by unfold maxLen; omega) (by omega) (Nat.le_trans hz (X5.out.alloc _).size) ?_
              intro A9 c9 w9 h1 h2
              have X9 := Lib.hid (Kp.grown (n₀ := w.heap.size) (S := fun k => (k = w.heap.size + 1 ∨ k = w.heap.size + 1 + 1) ∨ W.heap.size ≤ k ∧ k < W0.heap.size) h2 (fun r hr => by have hz1 := HZ1.out; have := own_blk HOX.out r hr; omega) (Nat.le_trans HB5.out.size ((Ext.refl w5).alloc _).size))
              have H9 := Lib.hid h1
              have B9 := Lib.hid (show Bt w9 w.heap.size 23 #[.slice O k oc] from (h2.block _ (HBX.out.below (X5.out.alloc _)).lt (fun e => by have hz1 := HZ1.out; have := own_blk HOX.out _ e.symm; omega)).trans (HBX.out.below (X5.out.alloc _)))
              have r9 := B9.out.bx.at 0 _ rfl
              have f9 := B9.out.bx.free 0
              have l9 := B9.out.lt
              clear h1 h2
              try (refine hK _ _ ?_)
              try (clear hK K)
              refine wpAny_ready (rs := [10]) (by kernel_rfl) (by simp) ?_
              refine AllReady.cons rfl (fun K hK => ?_) ?_
              · go_simp
                try (refine hK _ _ ?_)
                try (clear hK K)
                refine wpAny_done (by kernel_rfl) ?_ _
                have KK := Lib.hid ((Kp.ext (n₀ := w.heap.size) (fun k => (k = w.heap.size + 1 ∨ k = w.heap.size + 1 + 1) ∨ W.heap.size ≤ k ∧ k < W0.heap.size) (X5.out.alloc _) hB.size).trans (X9.out.trans (Kp.set w9 (k := w.heap.size) (by have := HZ1.out; omega) (Nat.le_refl _) 0 (.slice A9 (k + 1) c9))))
                refine ⟨KK.out, A9, c9, by rw [HLP.out]; exact B9.out.set1 _, by rw [HLP.out, HTK.out, List.map_append]; exact own_setP H9.out (by have := HZ1.out; omega) _, Below.trans hB KK.out.old, by rw [HLP.out]; exact HRG.out⟩
              exact AllReady.nil
            exact AllReady.nil
          exact AllReady.nil
        exact AllReady.nil
      exact AllReady.nil
    refine AllReady.cons rfl (fun K hK => ?_) ?_
    · go_simp
      go_wp2_with (go_at_call 29; refine (HZ.out _).mono ?_; rintro e w5 ⟨rfl, hx5⟩; have X5 := Lib.hid (HVD.out.trans hx5); have HB5 := Lib.hid (Below.trans HBD.out (hx5.mono HBD.out.size)); have r5 := (HBX.out.below X5.out).bx.at 0 _ rfl; have r8 := fun o => (HBX.out.below (X5.out.alloc o)).bx.at 0 _ rfl; clear hx5)
      try (refine hK _ _ ?_)
      try (clear hK K)
      refine wpAny_ready (rs := [0, 2]) (by kernel_rfl) (by simp) ?_
      refine AllReady.cons rfl (fun K hK => ?_) ?_
      · go_simp
        try (refine hK _ _ ?_)
        try (clear hK K)
        refine wpAny_ready (rs := [2]) (by kernel_rfl) (by simp) ?_
        refine AllReady.cons rfl (fun K hK => ?_) ?_
        · refine step_conv rfl (.tmp 9) 83 9 rfl (.slice AA m m) _ rfl (HCV.out _ HB5.out) ?_
          try (refine hK _ _ ?_)
          try (clear hK K)
          refine wpAny_take (i := 7) (v := ?_) rfl (by kernel_rfl) (by kernel_rfl) (by kernel_rfl) (fun _ _ _ h => h) (Or.inl ⟨by rfl, ?_⟩) ?_
          rotate_left
          · (intro w9; go_simp; try with_reducible rfl)
          refine wpAny_ready (rs := [8]) (by kernel_rfl) (by simp) ?_
          refine AllReady.cons rfl (fun K hK => ?_) ?_
          · go_simp
            try (refine hK _ _ ?_)
            try (clear hK K)
            refine wpAny_ready (rs := [9]) (by kernel_rfl) (by simp) ?_
            refine AllReady.cons rfl (fun K hK => ?_) ?_
            · refine step_app_sl rfl (.tmp 8) (.tmp 16) 23 rfl W0.heap.size 9 (.string (ByteArray.mk #[])) 1 16 Tryz.underlying23 infoSt rfl (by omega) _ k _ rfl (own_ext HOX.out (X5.out.alloc _)) _ 1 1 [sv ⟨(PC ++ List.replicate (40 - m) (0 : UInt8)).toArray⟩] rfl rfl (slU_lit rfl _ _ _ (by unfold maxLen; omega)) (fun u hu => by simp at hu; subst hu; rfl) (by unfold maxLen; omega) (by omega) (Nat.le_trans hz (X5.out.alloc _).size) ?_
              intro A9 c9 w9 h1 h2
              have X9 := Lib.hid (Kp.grown (n₀ := w.heap.size) (S := fun k => (k = w.heap.size + 1 ∨ k = w.heap.size + 1 + 1) ∨ W.heap.size ≤ k ∧ k < W0.heap.size) h2 (fun r hr => by have hz1 := HZ1.out; have := own_blk HOX.out r hr; omega) (Nat.le_trans HB5.out.size ((Ext.refl w5).alloc _).size))
              have H9 := Lib.hid h1
              have B9 := Lib.hid (show Bt w9 w.heap.size 23 #[.slice O k oc] from (h2.block _ (HBX.out.below (X5.out.alloc _)).lt (fun e => by have hz1 := HZ1.out; have := own_blk HOX.out _ e.symm; omega)).trans (HBX.out.below (X5.out.alloc _)))
              have r9 := B9.out.bx.at 0 _ rfl
              have f9 := B9.out.bx.free 0
              have l9 := B9.out.lt
              clear h1 h2
              try (refine hK _ _ ?_)
              try (clear hK K)
              refine wpAny_ready (rs := [10]) (by kernel_rfl) (by simp) ?_
              refine AllReady.cons rfl (fun K hK => ?_) ?_
              · go_simp
                try (refine hK _ _ ?_)
                try (clear hK K)
                refine wpAny_done (by kernel_rfl) ?_ _
                have KK := Lib.hid ((Kp.ext (n₀ := w.heap.size) (fun k => (k = w.heap.size + 1 ∨ k = w.heap.size + 1 + 1) ∨ W.heap.size ≤ k ∧ k < W0.heap.size) (X5.out.alloc _) hB.size).trans (X9.out.trans (Kp.set w9 (k := w.heap.size) (by have := HZ1.out; omega) (Nat.le_refl _) 0 (.slice A9 (k + 1) c9))))
                refine ⟨KK.out, A9, c9, by rw [HLP.out]; exact B9.out.set1 _, by rw [HLP.out, HTK.out, List.map_append]; exact own_setP H9.out (by have := HZ1.out; omega) _, Below.trans hB KK.out.old, by rw [HLP.out]; exact HRG.out⟩
              exact AllReady.nil
            exact AllReady.nil
          exact AllReady.nil
        exact AllReady.nil
      refine AllReady.cons rfl (fun K hK => ?_) ?_
      · refine step_conv rfl (.tmp 9) 83 9 rfl (.slice AA m m) _ rfl (HCV.out _ HB5.out) ?_
        try (refine hK _ _ ?_)
        try (clear hK K)
        refine wpAny_take (i := 7) (v := ?_) rfl (by kernel_rfl) (by kernel_rfl) (by kernel_rfl) (fun _ _ _ h => h) (Or.inl ⟨by rfl, ?_⟩) ?_
        rotate_left
        · (intro w9; go_simp; try with_reducible rfl)
        refine wpAny_ready (rs := [0, 8]) (by kernel_rfl) (by simp) ?_
        refine AllReady.cons rfl (fun K hK => ?_) ?_
        · go_simp
          try (refine hK _ _ ?_)
          try (clear hK K)
          refine wpAny_ready (rs := [8]) (by kernel_rfl) (by simp) ?_
          refine AllReady.cons rfl (fun K hK => ?_) ?_
          · go_simp
            try (refine hK _ _ ?_)
            try (clear hK K)
            refine wpAny_ready (rs := [9]) (by kernel_rfl) (by simp) ?_
            refine AllReady.cons rfl (fun K hK => ?_) ?_
            · refine step_app_sl rfl (.tmp 8) (.tmp 16) 23 rfl W0.heap.size 9 (.string (ByteArray.mk #[])) 1 16 Tryz.underlying23 infoSt rfl (by omega) _ k _ rfl (own_ext HOX.out (X5.out.alloc _)) _ 1 1 [sv ⟨(PC ++ List.replicate (40 - m) (0 : UInt8)).toArray⟩] rfl rfl (slU_lit rfl _ _ _ (by unfold maxLen; omega)) (fun u hu => by simp at hu; subst hu; rfl) (by unfold maxLen; omega) (by omega) (Nat.le_trans hz (X5.out.alloc _).size) ?_
              intro A9 c9 w9 h1 h2
              have X9 := Lib.hid (Kp.grown (n₀ := w.heap.size) (S := fun k => (k = w.heap.size + 1 ∨ k = w.heap.size + 1 + 1) ∨ W.heap.size ≤ k ∧ k < W0.heap.size) h2 (fun r hr => by have hz1 := HZ1.out; have := own_blk HOX.out r hr; omega) (Nat.le_trans HB5.out.size ((Ext.refl w5).alloc _).size))
              have H9 := Lib.hid h1
              have B9 := Lib.hid (show Bt w9 w.heap.size 23 #[.slice O k oc] from (h2.block _ (HBX.out.below (X5.out.alloc _)).lt (fun e => by have hz1 := HZ1.out; have := own_blk HOX.out _ e.symm; omega)).trans (HBX.out.below (X5.out.alloc _)))
              have r9 := B9.out.bx.at 0 _ rfl
              have f9 := B9.out.bx.free 0
              have l9 := B9.out.lt
              clear h1 h2
              try (refine hK _ _ ?_)
              try (clear hK K)
              refine wpAny_ready (rs := [10]) (by kernel_rfl) (by simp) ?_
              refine AllReady.cons rfl (fun K hK => ?_) ?_
              · go_simp
                try (refine hK _ _ ?_)
                try (clear hK K)
                refine wpAny_done (by kernel_rfl) ?_ _
                have KK := Lib.hid ((Kp.ext (n₀ := w.heap.size) (fun k => (k = w.heap.size + 1 ∨ k = w.heap.size + 1 + 1) ∨ W.heap.size ≤ k ∧ k < W0.heap.size) (X5.out.alloc _) hB.size).trans (X9.out.trans (Kp.set w9 (k := w.heap.size) (by have := HZ1.out; omega) (Nat.le_refl _) 0 (.slice A9 (k + 1) c9))))
                refine ⟨KK.out, A9, c9, by rw [HLP.out]; exact B9.out.set1 _, by rw [HLP.out, HTK.out, List.map_append]; exact own_setP H9.out (by have := HZ1.out; omega) _, Below.trans hB KK.out.old, by rw [HLP.out]; exact HRG.out⟩
              exact AllReady.nil
            exact AllReady.nil
          exact AllReady.nil
        refine AllReady.cons rfl (fun K hK => ?_) ?_
        · go_simp
          try (refine hK _ _ ?_)
          try (clear hK K)
          refine wpAny_ready (rs := [0]) (by kernel_rfl) (by simp) ?_
          refine AllReady.cons rfl (fun K hK => ?_) ?_
          · go_simp
            try (refine hK _ _ ?_)
            try (clear hK K)
            refine wpAny_ready (rs := [9]) (by kernel_rfl) (by simp) ?_
            refine AllReady.cons rfl (fun K hK => ?_) ?_
            · refine step_app_sl rfl (.tmp 8) (.tmp 16) 23 rfl W0.heap.size 9 (.string (ByteArray.mk #[])) 1 16 Tryz.underlying23 infoSt rfl (by omega) _ k _ rfl (own_ext HOX.out (X5.out.alloc _)) _ 1 1 [sv ⟨(PC ++ List.replicate (40 - m) (0 : UInt8)).toArray⟩] rfl rfl (slU_lit rfl _ _ _ (by unfold maxLen; omega)) (fun u hu => by simp at hu; subst hu; rfl) (by unfold maxLen; omega) (by omega) (Nat.le_trans hz (X5.out.alloc _).size) ?_
              intro A9 c9 w9 h1 h2
              have X9 := Lib.hid (Kp.grown (n₀ := w.heap.size) (S := fun k => (k = w.heap.size + 1 ∨ k = w.heap.size + 1 + 1) ∨ W.heap.size ≤ k ∧ k < W0.heap.size) h2 (fun r hr => by have hz1 := HZ1.out; have := own_blk HOX.out r hr; omega) (Nat.le_trans HB5.out.size ((Ext.refl w5).alloc _).size))
              have H9 := Lib.hid h1
              have B9 := Lib.hid (show Bt w9 w.heap.size 23 #[.slice O k oc] from (h2.block _ (HBX.out.below (X5.out.alloc _)).lt (fun e => by have hz1 := HZ1.out; have := own_blk HOX.out _ e.symm; omega)).trans (HBX.out.below (X5.out.alloc _)))
              have r9 := B9.out.bx.at 0 _ rfl
              have f9 := B9.out.bx.free 0
              have l9 := B9.out.lt
              clear h1 h2
              try (refine hK _ _ ?_)
              try (clear hK K)
              refine wpAny_ready (rs := [10]) (by kernel_rfl) (by simp) ?_
              refine AllReady.cons rfl (fun K hK => ?_) ?_
              · go_simp
                try (refine hK _ _ ?_)
                try (clear hK K)
                refine wpAny_done (by kernel_rfl) ?_ _
                have KK := Lib.hid ((Kp.ext (n₀ := w.heap.size) (fun k => (k = w.heap.size + 1 ∨ k = w.heap.size + 1 + 1) ∨ W.heap.size ≤ k ∧ k < W0.heap.size) (X5.out.alloc _) hB.size).trans (X9.out.trans (Kp.set w9 (k := w.heap.size) (by have := HZ1.out; omega) (Nat.le_refl _) 0 (.slice A9 (k + 1) c9))))
                refine ⟨KK.out, A9, c9, by rw [HLP.out]; exact B9.out.set1 _, by rw [HLP.out, HTK.out, List.map_append]; exact own_setP H9.out (by have := HZ1.out; omega) _, Below.trans hB KK.out.old, by rw [HLP.out]; exact HRG.out⟩
              exact AllReady.nil
            exact AllReady.nil
          exact AllReady.nil
        exact AllReady.nil
      exact AllReady.nil
    exact AllReady.nil
  case done =>
    rintro D W0 V rfl hx0 _ ⟨O, oc, hb, ho, hB, hpr⟩ hK
    rw [List.length_range] at hb ho
    rw [List.take_of_length_le (by rw [chB_len, chunks_len, ← HN.out]; exact Nat.le_refl _)] at ho
    have HO := Lib.hid (own_def ho hK (.deferred none))
    have HBL := Lib.hid (kept_def hB (Nat.le_refl _) (by have := hX.size; omega) hK (.deferred none))
    have r0 := hb.bx.at 0 _ rfl
    have HK := Lib.hid hK
    clear hb ho hB hK hpr
    gi_wp2
    refine ⟨by simp, .inl ⟨_, _, rfl, run_takeDeferred HK.out, ?_⟩⟩
    exact ⟨.slice O (pieces n) oc, by simp [results, Tryz.f124, go_sem], O, oc, rfl, own_lowPmF HO.out (by have := hX.size; have := hx0.size; omega), HBL.out⟩
  case stop =>
    rintro D W0 c q V rfl hx0 _ hq h hK
    exact h.elim
end Go.Proofs.YtnlkakbpcdfgfaaGreat
