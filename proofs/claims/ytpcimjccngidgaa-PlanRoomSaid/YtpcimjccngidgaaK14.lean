/- All that a commit of a state that uses no cell has ahead of its slot. The walks of both rows of package book's reader. The walks of isFrom, areRefs, areRoots and areIds of package book. Rows of numbers and bools of the call's own, told by functions (as GpB and GrW4 have them, for seats without these). The walk of Roots of package state, of any volumes. The walks of areRoots, areIds and isTold of package book. -/
import Derived.Test.YtpcimjccngidgaaK13
import Derived.Test.YtpcimjccngidgaaK12
import Derived.Test.YtpcimjccngidgaaK11
namespace Go.Proofs.Ytpcimjccngidgaa
set_option maxRecDepth 20000
open Go.RowKit Go.Shelf
attribute [local go_sem] Oper.semAt_some

theorem bts2 {w W : World} {c0 c1 : Array Value} {t0 t1 : TypeId} (h : (w.alloc (.cells c0 t0)).alloc (.cells c1 t1) = W) : Ext w W ∧ W.heap.size = w.heap.size + 2 ∧ Bt W w.heap.size t0 c0 ∧ Bt W (w.heap.size + 1) t1 c1 := by
  subst h
  have b0 := Bt.new w c0 t0
  have b1 := Bt.new (w.alloc (.cells c0 t0)) c1 t1
  rw [World.size_alloc] at b1
  exact ⟨((Ext.refl w).alloc _).alloc _, by simp, b0.below ((Ext.refl _).alloc _), b1⟩
theorem bts1 {w W : World} {c0 : Array Value} {t0 : TypeId} (h : w.alloc (.cells c0 t0) = W) : Ext w W ∧ W.heap.size = w.heap.size + 1 ∧ Bt W w.heap.size t0 c0 := by
  subst h
  exact ⟨(Ext.refl w).alloc _, by simp, Bt.new w c0 t0⟩
theorem run_store_func (P : Program) (w : World) (a : Addr) (m : Mode) (f : Fn) (x y : Array Value) : (store a (.func f x y) m).run P w = stored P w a (.func f x y) m := run_store P w a _ m rfl
attribute [local go_sem] run_store_func
set_option maxRecDepth 100000 in
set_option maxHeartbeats 3200000 in
theorem ahead_seq (n q g z s m c bc n₀ : Nat) (keep : Int) (R A : Option Addr) (l : Bl) (w : World) (hn : n ≤ 2000) (hl : m = l.length) (hm : m ≤ 100000) (hR : HcSl w R n q (List.replicate n HC.none)) (hA : Sl w A m c (l.map bv))
    (hb : Bt w bc 62 #[.int .i64 n, .int .i64 g, .int .i64 z, .int .i64 s, .slice A m c, .slice R n q, .int .i64 keep]) (hn0 : n₀ ≤ w.heap.size) :
    SeqW Try.prog 44 #[.pointer (some ⟨bc, 0, none⟩)] encW n₀ (fun k => k = bc) (pgs (2 + g % 2 * areaP n) (chB l)) w := by
  intro r J Jx W d hx hJ hJx hY h0
  refine (callsIn_wide (n := d)).2 (callsIn_wide.1 (?_ : CallsIn Fence.wide 5 _ _ _ _ _))
  have HB := Lib.hid (hb.below hx)
  have HR := Lib.hid (hR.ext hx)
  have HA := Lib.hid (hA.ext hx)
  have HJ := Lib.hid hJ
  have HJX := Lib.hid hJx
  have HY := Lib.hid hY
  have H0 := Lib.hid h0
  have HL := Lib.hid hl
  have hnW := Nat.le_trans hn0 hx.size
  have hbl := (hb.below hx).lt
  have HPS := Lib.hid (fun (V : World) (bt : Nat) (hV : Ext W V) (h : Bt V bt 60 #[.int .i64 n, .int .i64 g, .int .i64 z, .int .i64 s, .slice A m c]) => pages_seq n g z s m c bt n₀ A l V hn HL.out hm (HA.out.ext hV) h)
  generalize pgs (2 + g % 2 * areaP n) (chB l) = PG at *
  have HRD := Lib.hid (fun w' (hy : Ext W w') => (show w'.cell? ⟨bc, 0, none⟩ = some (.int .i64 n) ∧ w'.cell? ⟨bc, 1, none⟩ = some (.int .i64 g) ∧ w'.cell? ⟨bc, 2, none⟩ = some (.int .i64 z) ∧ w'.cell? ⟨bc, 3, none⟩ = some (.int .i64 s) ∧ w'.cell? ⟨bc, 4, none⟩ = some (.slice A m c) ∧ w'.cell? ⟨bc, 5, none⟩ = some (.slice R n q) ∧ w'.cell? ⟨bc, 6, none⟩ = some (.int .i64 keep) from ⟨(HB.out.below hy).bx.at 0 _ rfl, (HB.out.below hy).bx.at 1 _ rfl, (HB.out.below hy).bx.at 2 _ rfl, (HB.out.below hy).bx.at 3 _ rfl, (HB.out.below hy).bx.at 4 _ rfl, (HB.out.below hy).bx.at 5 _ rfl, (HB.out.below hy).bx.at 6 _ rfl⟩))
  have HW1 := Lib.hid ((Ext.refl W).alloc (.cells #[.func (.yield r) #[] #[]] 99))
  obtain ⟨p0, p1, p2, p3, p4, p5, p6⟩ := HRD.out _ HW1.out
  clear hb hA hJ hJx hY h0 hl hR
  refine callsIn_of_wp_marks Try.func44 rfl trivial ?_ rfl
  simp only [Try.ntmps44, List.size_toArray, List.length_cons, List.length_nil, Nat.reduceAdd, Nat.reduceSub, Array.replicate_succ, Array.replicate_zero, List.push_toArray, List.append_toArray, List.nil_append, List.cons_append]
  gi_wp2_with (refine ⟨trivial, ?_⟩; gi_at_call 45; refine (nodes_in _ _ _).mono ?_; rintro e w' ⟨rfl, rfl⟩)
  obtain ⟨W2, hW2⟩ : ∃ W2, (W.alloc (.cells #[.func (.yield r) #[] #[]] 99)).alloc (.cells #[.int .i64 n, .int .i64 g, .int .i64 z, .int .i64 s, .slice A m c, .slice R n q, .int .i64 keep] 62) = W2 := ⟨_, rfl⟩
  obtain ⟨hx2, hz2, b0, b1⟩ := bts2 hW2
  rw [hW2]
  have hz22 : W.heap.size + 2 ≤ W2.heap.size := by omega
  clear hz2 hW2 p0 p1 p2 p3 p4 p5 p6
  refine range_ownW rfl (m := 3) (gf := 62) (lb := #[.pointer (some ⟨W.heap.size + 1, 0, none⟩)]) rfl (enters_of Try.func62 (by kernel_rfl) rfl)
    (nodes_none n q (W.heap.size + 1) W2.heap.size n g z s keep R A m c W2 hn (HR.out.ext hx2) b1) (Ext.refl _) (Nat.le_refl _) (fun k hk => by omega) (fun _ => rfl)
    (fun W0 pre V => Ext W2 V) (fun _ _ _ _ => False)
    (fun W0 h => stays_below W2 (Nat.le_refl _) (Nat.le_refl _)) (fun _ _ _ _ _ _ h _ => h) (fun W0 h => h)
    (fun _ _ _ _ => False) (fun _ _ _ _ _ _ _ h _ => h)
    ?assign ?body ?done ?stop
  case assign => exact fun _ _ _ _ _ _ _ _ _ hp _ => absurd hp (by simp)
  case body => exact fun _ _ _ _ _ _ _ _ h _ _ => h.elim
  case stop => exact fun _ _ _ _ _ _ _ _ _ h _ => h.elim
  case done =>
    rintro D W0 V rfl hx0 hd2 hV hK
    have HV := Lib.hid (hx2.trans hV)
    obtain ⟨p0, p1, p2, p3, p4, p5, p6⟩ := HRD.out _ HV.out
    have HBV := Lib.hid (b0.below hV)
    have HK1 := Lib.hid hK
    have HZV := Lib.hid hV.size
    clear hV hK b0 b1 hx0 hd2
    gi_wp2_with (refine ⟨trivial, ?_⟩; gi_at_call 46; refine (pages_in _ _ _).mono ?_; rintro e w' ⟨rfl, rfl⟩)
    obtain ⟨V2, hV2⟩ : ∃ V2, V.alloc (.cells #[.int .i64 n, .int .i64 g, .int .i64 z, .int .i64 s, .slice A m c] 60) = V2 := ⟨_, rfl⟩
    obtain ⟨hxv, hzv, t0⟩ := bts1 hV2
    rw [hV2]
    have hzv2 : V.heap.size + 1 ≤ V2.heap.size := by omega
    clear hzv hV2 p0 p1 p2 p3 p4 p5 p6
    have hD1 : V2.heap[W2.heap.size]? = some (.deferred (some [])) := (hxv.block _ (Array.getElem?_eq_some_iff.1 HK1.out).1).trans HK1.out
    have hy2 : Bt V2 W.heap.size 99 #[.func (.yield r) #[] #[]] := HBV.out.below hxv
    have HXV := Lib.hid (HV.out.trans hxv)
    have hsz1 : W.heap.size ≤ V2.heap.size := HXV.out.size
    have hsz2 : W2.heap.size < V2.heap.size := (Array.getElem?_eq_some_iff.1 hD1).1
    have hsz3 := HZV.out
    refine range_ownW rfl (m := 3) (gf := 64) (lb := #[.pointer (some ⟨V.heap.size, 0, none⟩)]) rfl (enters_of Try.func64 (by kernel_rfl) rfl)
      (HPS.out V2 V.heap.size HXV.out t0) (Ext.refl _) (Nat.le_trans hnW hsz1) (fun k hk => by omega) (fun _ => rfl)
      (fun W0 pre X => J W0 pre X ∧ (Bt X W.heap.size 99 #[.func (.yield r) #[] #[]] ∧ X.heap[W2.heap.size]? = some (.deferred (some []))))
      (fun W0 cd u X => cd = .ret ∧ Jx W0 u X ∧ X.heap[W2.heap.size]? = some (.deferred (some [])))
      (fun W0 h u X Y hs ho => ⟨HJ.out W0 (HXV.out.trans h) u X Y hs.1 (ho.sup (by omega) (by have := h.size; omega)), (ho.same _ hs.2.1.lt (.inl (by omega))).trans hs.2.1, (ho.same _ (Array.getElem?_eq_some_iff.1 hs.2.2).1 (.inl (by omega))).trans hs.2.2⟩)
      (fun W0 cd h u X Y hs ho => ⟨hs.1, HJX.out W0 (HXV.out.trans h) u X Y hs.2.1 (ho.sup (by omega) (by have := h.size; omega)), (ho.same _ (Array.getElem?_eq_some_iff.1 hs.2.2).1 (.inl (by omega))).trans hs.2.2⟩)
      (fun W0 h => ⟨H0.out W0 (HXV.out.trans h), hy2.below h, (h.block _ (by omega)).trans hD1⟩)
      (fun W0 x a' X => ∃ Bx, W0.heap.size ≤ Bx ∧ Bt X Bx 47 #[.int .i64 x.1, .string x.2] ∧ a' = { tmps := #[.func (.yield r) #[] #[], .pointer (some ⟨bc, 0, none⟩), .pointer (some ⟨W.heap.size, 0, none⟩), undef, .pointer (some ⟨Bx, 0, none⟩), .agg #[.int .i64 n, .int .i64 g, .int .i64 z, .int .i64 s, .slice A m c, .slice R n q, .int .i64 keep], .func (.func 62) #[] #[.pointer (some ⟨W.heap.size + 1, 0, none⟩)], undef, undef, undef, undef, undef, .pointer (some ⟨bc, 0, none⟩), .agg #[.int .i64 n, .int .i64 g, .int .i64 z, .int .i64 s, .slice A m c], .func (.func 64) #[] #[.pointer (some ⟨V.heap.size, 0, none⟩)], .agg #[.int .i64 x.1, .string x.2], undef, undef, undef, undef], defers := [] })
      (fun W0 x a' h u X Y hs ho => ⟨hs.choose, hs.choose_spec.1, (ho.same _ hs.choose_spec.2.1.lt (.inr (by have := hs.choose_spec.1; have := h.size; omega))).trans hs.choose_spec.2.1, hs.choose_spec.2.2⟩)
      ?assign2 ?body2 ?done2 ?stop2
    case assign2 =>
      rintro l2 W0 pre ⟨xa, xs⟩ X K hx0 ⟨hj, hy, hd⟩ hz hp hK
      have HX := Lib.hid (show Ext X (X.alloc (.cells #[.int .i64 xa, .string xs] 47)) from (Ext.refl X).alloc _)
      have HJX1 := Lib.hid (HJ.out W0 (HXV.out.trans hx0) _ _ _ hj (.ext HX.out))
      have HYX := Lib.hid (hy.below HX.out)
      have HDX := Lib.hid ((HX.out.block _ (Array.getElem?_eq_some_iff.1 hd).1).trans hd)
      have HKX := Lib.hid hK
      have HS0 := Lib.hid (Nat.le_trans (Nat.le_trans (Nat.le_trans hnW hsz1) hx0.size) hz)
      clear hj hy hd hK
      show Code.wpIn _ _ _ _ _ _ _
      simp only [encW]
      gi_wp2
      exact HKX.out _ _ (Kp.ext _ HX.out HS0.out) ⟨HJX1.out, HYX.out, HDX.out⟩ ⟨X.heap.size, hz, Bt.new X _ _, rfl⟩
    case body2 =>
      rintro l2 W0 pre ⟨xa, xs⟩ a' X hx0 ⟨hj, hy, hd⟩ ⟨Bx, hBx, bX, rfl⟩ hz hp
      have hzz := hx0.size
      obtain ⟨n0, n1, n2⟩ := bX.bx.read2
      have y0 := hy.bx.at 0 _ rfl
      have HYX := Lib.hid hy
      have HDX := Lib.hid hd
      obtain ⟨fn, tmps, assign, body, hyy, hRR⟩ := HY.out W0 pre (xa, xs) X 2 (HXV.out.trans hx0) hj hz hp
      simp only [encW] at hyy
      have HZ := Lib.hid (show W.heap.size < W0.heap.size ∧ W2.heap.size < W0.heap.size ∧ W.heap.size ≤ W2.heap.size from by omega)
      have HSUB := Lib.hid (show ∀ k, (k = V.heap.size ∨ (V2.heap.size ≤ k ∧ k < W0.heap.size)) → (k = bc ∨ (W.heap.size ≤ k ∧ k < W0.heap.size)) from fun k h => by right; omega)
      clear hj hy hd bX
      gi_wp2
      refine hRR.mono ?_
      rintro e W3 ⟨hk3, (⟨rfl, hJ3⟩ | ⟨rfl, hJx3⟩)⟩
      · have HK3 := Lib.hid (hk3.sub HSUB.out)
        have HJ3 := Lib.hid hJ3
        have HY3 := Lib.hid (HYX.out.keptP hk3 (.inr ⟨Nat.le_refl _, HZ.out.1⟩))
        have HD3 := Lib.hid ((hk3.same W2.heap.size (.inr ⟨HZ.out.2.2, HZ.out.2.1⟩) (Array.getElem?_eq_some_iff.1 HDX.out).1).trans HDX.out)
        clear hk3 hJ3
        gi_wp2
        exact ⟨HK3.out, HJ3.out, HY3.out, HD3.out⟩
      · have HK3 := Lib.hid (hk3.sub HSUB.out)
        have HJ3 := Lib.hid hJx3
        have HD3 := Lib.hid ((hk3.same W2.heap.size (.inr ⟨HZ.out.2.2, HZ.out.2.1⟩) (Array.getElem?_eq_some_iff.1 HDX.out).1).trans HDX.out)
        clear hk3 hJx3
        gi_wp2
        exact ⟨HK3.out, rfl, HJ3.out, HD3.out⟩
    case done2 =>
      rintro D W0' X rfl hx0 hd2 ⟨hj, hy, hd⟩ hK2
      have HXW := Lib.hid (HXV.out.trans hx0)
      have HJ3 := Lib.hid (HJ.out W0' HXW.out _ _ _ (HJ.out W0' HXW.out _ _ _ hj (.put _ (k := V2.heap.size) (.deferred none) (by omega) (by omega))) (.put _ (k := W2.heap.size) (.deferred none) (by omega) (by omega)))
      have HD3 := Lib.hid (show (X.putObj V2.heap.size (.deferred none)).heap[W2.heap.size]? = some (.deferred (some [])) from (World.putObj_heap_other (by omega)).trans hd)
      have HK := Lib.hid hK2
      clear hj hy hd hK2
      gi_wp2
      exact ⟨by simp, .inl ⟨_, _, rfl, run_takeDeferred HK.out, ⟨by simp, .inl ⟨_, _, rfl, run_takeDeferred HD3.out, _, results_none rfl _ _ _, ⟨_, rfl⟩, W0', HXW.out, .inl HJ3.out⟩⟩⟩⟩
    case stop2 =>
      rintro D W0' cd u X rfl hx0 hd2 hu ⟨rfl, hj, hd⟩ hK2
      have HXW := Lib.hid (HXV.out.trans hx0)
      have HJ3 := Lib.hid (HJX.out W0' HXW.out _ _ _ (HJX.out W0' HXW.out _ _ _ hj (.put _ (k := V2.heap.size) (.deferred none) (by omega) (by omega))) (.put _ (k := W2.heap.size) (.deferred none) (by omega) (by omega)))
      have HD3 := Lib.hid (show (X.putObj V2.heap.size (.deferred none)).heap[W2.heap.size]? = some (.deferred (some [])) from (World.putObj_heap_other (by omega)).trans hd)
      have HK := Lib.hid hK2
      have HU := Lib.hid hu
      clear hj hd hK2 hu
      gi_wp2
      exact ⟨by simp, .inl ⟨_, _, rfl, run_takeDeferred HK.out, ⟨by simp, .inl ⟨_, _, rfl, run_takeDeferred HD3.out, _, results_none rfl _ _ _, ⟨_, rfl⟩, W0', HXW.out, .inr ⟨_, HU.out, HJ3.out⟩⟩⟩⟩⟩
end Go.Proofs.Ytpcimjccngidgaa
namespace Go.Proofs.Ytpcimjccngidgaa
set_option maxRecDepth 20000
open Go.RowKit
attribute [local go_sem ↓] Go.wp_at_zero Go.wp_at_succ

theorem infoVol : (Try.prog.info? 115).map (fun i => (i.zero, i.size, i.bytes)) = some (some (.agg #[.int .i64 0, .int .i64 0]), 2, 16) := by kernel_rfl
theorem app_vol (w : World) {ops : Array Oper} {rest : List Oper} {o : Oper} {a : Act} {Q : Exit → Act → World → Prop} (hgd : o.guard = none) (s x : Operand)
    (ho : o.op = .call { callee := .builtin .append, args := #[s, x], argTypes := #[39, 39] })
    (B : Nat) (v : Value) (n : Nat) (l : List It) (hs : a.eval s = v) (hown : w.ownsRow B 115 2 v n (ivs l))
    (A : Option Addr) (m c : Nat) (k : List It) (hx : a.eval x = .slice A m c) (hl : k.length = m) (hS : Sl w A m c (ivs k))
    (hsz : n + m ≤ 100000) (hB : B ≤ w.heap.size)
    (h : ∀ A' c' w', w'.ownsRow B 115 2 (.slice A' (n + m) c') (n + m) (ivs (l ++ k)) → w.grownBy w' v.ownBlock → wpList Try.prog ops Q rest (a.put o.dst (.slice A' (n + m) c')) w') : wpList Try.prog ops Q (o :: rest) a w := by
  refine wpList_app_sl w hgd s x 39 ho B 115 (.agg #[.int .i64 0, .int .i64 0]) 2 16 Try.underlying39 infoVol rfl (by omega) v n (ivs l) hs hown A m c (ivs k) hx (by rw [ivs_length, hl]) hS (ivs_oneCell k) (by unfold maxLen; omega) (by omega) hB ?_
  intro A' c' w' h1 h2
  rw [← ivs_append] at h1
  exact h A' c' w' h1 h2
theorem takeS_one {l : List UInt8} {a : Int} {n : Nat} (h : takeS l a 1 = some n) : n < 256 := by
  obtain ⟨h1, h2, h3, h4, rfl⟩ := takeS_at h
  have h5 := leNat_lt ((l.drop a.toNat).take (1 : Int).toNat)
  have h6 : ((l.drop a.toNat).take (1 : Int).toNat).length ≤ 1 := by rw [List.length_take]; exact Nat.min_le_left _ _
  have h7 : 256 ^ ((l.drop a.toNat).take (1 : Int).toNat).length ≤ 256 ^ 1 := Nat.pow_le_pow_right (by omega) h6
  omega
end Go.Proofs.Ytpcimjccngidgaa
namespace Go.Proofs.Ytpcimjccngidgaa
set_option maxRecDepth 20000
open Go.RowKit
attribute [local go_sem ↓] Go.wp_at_zero Go.wp_at_succ

def fromP (lo x hi : Int) : Bool := decide (lo ≤ x) && decide (x ≤ hi)
theorem bkFrom_any (lo x hi : Int) (w : World) :
    Calls Try.prog 72 #[.int .i64 lo, .int .i64 x, .int .i64 hi] w fun e w' => e = .returned (.bool (fromP lo x hi)) ∧ w = w' := by
  unfold fromP
  rcases Int.lt_or_le x lo with h | h
  · have d1 : decide (lo ≤ x) = false := decide_eq_false (by omega)
    rw [d1]
    go_enter Try.func72, Try.ntmps72
    go_wp2
    go_ret
    exact ⟨rfl, rfl⟩
  · have d1 : decide (lo ≤ x) = true := decide_eq_true h
    rw [d1]
    rcases Int.lt_or_le hi x with k | k
    · have d2 : decide (x ≤ hi) = false := decide_eq_false (by omega)
      rw [d2]
      go_enter Try.func72, Try.ntmps72
      go_wp2
      go_ret
      exact ⟨rfl, rfl⟩
    · have d2 : decide (x ≤ hi) = true := decide_eq_true k
      rw [d2]
      go_enter Try.func72, Try.ntmps72
      go_wp2
      go_ret
      exact ⟨rfl, rfl⟩
/-- Is a cell's Ref one that no book tells? -/
def refBad (x : HC) : Bool := !fromP 0 x.ref 65535
theorem bkRefF_any (x : HC) (A : Option Addr) (m c : Nat) (w : World) :
    Calls Try.prog 83 #[.agg #[.int .i64 x.ref, .bool x.pin, .bool x.leaf, .slice A m c]] w fun e w' => e = .returned (.bool (refBad x)) ∧ Ext w w' := by
  unfold refBad
  obtain ⟨r, p, l, it⟩ := x
  simp only
  have HF := Lib.hid (fun w' => bkFrom_any 0 r 65535 w')
  have hb := Bx.new w #[.int .i64 r, .bool p, .bool l, .slice A m c] 92
  have HX := Lib.hid ((Ext.refl w).alloc (.cells #[.int .i64 r, .bool p, .bool l, .slice A m c] 92))
  obtain ⟨p0, p1, p2, p3⟩ := hb.read4
  generalize fromP 0 r 65535 = b at *
  clear hb
  go_enter Try.func83, Try.ntmps83
  go_wp2_with (go_at_call 72; with_reducible refine (HF.out _).mono ?_; rintro e w' ⟨rfl, rfl⟩)
  go_ret
  exact ⟨rfl, HX.out⟩
set_option maxRecDepth 100000 in
set_option maxHeartbeats 1600000 in
theorem bkIdxRef_any (S : Option Addr) (l : List HC) (t d : Nat) (w : World) (hS : HcSl w S t d l) (hl : t ≤ 1000000) :
    Calls Try.prog 59 #[.slice S t d, .func (.func 83) #[] #[]] w fun e w' => e = .returned (.int .i64 (idxBy refBad l)) ∧ Ext w w' := by
  have HT := Lib.hid hS.1
  have HS := Lib.hid hS
  have HF := Lib.hid (fun x A m c w => bkRefF_any x A m c w)
  clear hS
  go_enter Try.func59, Try.ntmps59
  go_wp2_with fail
  go_loopw [8] (fun i wr => ∃ k : Nat, k ≤ t ∧ i = .int .i64 k ∧ (∀ j (hj : j < l.length), j < k → refBad l[j] = false) ∧ Ext w wr) (fun i _ => t - (intOf i).toNat)
  case atStart => exact ⟨0, Nat.zero_le _, rfl, fun _ _ h => by omega, Ext.refl _⟩
  case round =>
    obtain ⟨k, hk, rfl, hb, hx⟩ := hrel
    have HB := Lib.hid hb
    have HX := Lib.hid hx
    clear hb hx
    rcases Nat.lt_or_ge k t with hlt | hlt
    · have hkl : k < l.length := by rw [← HT.out]; exact hlt
      obtain ⟨b, off, rfl, hbl, A, c, c0, c1, c2, c3, _⟩ := (HS.out.ext HX.out).cell hkl
      have hki : (k : Int) < (t : Int) := by omega
      have HH := Lib.hid (fun h => idx_hit (f := refBad) hkl h HB.out)
      have HN := Lib.hid (fun (h : refBad l[k] = false) => (show ∀ j (hj : j < l.length), j < k + 1 → refBad l[j] = false from fun j hj hjk => by
        rcases Nat.lt_or_ge j k with h' | h'
        · exact HB.out j hj h'
        · obtain rfl : j = k := by omega
          exact h))
      have HC := Lib.hid (HF.out l[k] A l[k].it.length c wr)
      clear HB
      generalize refBad l[k] = fy at *
      generalize l[k] = y at *
      obtain ⟨r, p, lf, it⟩ := y
      simp only at c0 c1 c2 c3 HC
      cases fy
      · have HE := Lib.hid (HN.out rfl)
        clear HH HN
        go_wp2_with (go_at_call 83; refine HC.out.mono ?_; rintro e w1 ⟨rfl, hx⟩; have X1 := Lib.hid (HX.out.trans hx); clear hx)
        go_roundw
        case rel => exact ⟨k + 1, by omega, by go_num, HE.out, X1.out⟩
        case measure => simp [intOf]; omega
      · have HE := Lib.hid (HH.out rfl)
        clear HH HN
        go_wp2_with (go_at_call 83; refine HC.out.mono ?_; rintro e w1 ⟨rfl, hx⟩; have X1 := Lib.hid (HX.out.trans hx); clear hx)
        go_ret
        exact ⟨ret_int HE.out.symm, X1.out⟩
    · obtain rfl : k = t := by omega
      have HE := Lib.hid (idx_none (f := refBad) (fun j hj => HB.out j hj (by rw [HT.out]; exact hj)))
      clear hlt
      go_wp2_with fail
      go_ret
      exact ⟨ret_int HE.out.symm, HX.out⟩
set_option maxHeartbeats 800000 in
theorem bkRefs_any (S : Option Addr) (l : List HC) (t d : Nat) (w : World) (hS : HcSl w S t d l) (hl : t ≤ 1000000) :
    Calls Try.prog 73 #[.slice S t d] w fun e w' => e = .returned (.bool (!l.any refBad)) ∧ Ext w w' := by
  have HI := Lib.hid (show Calls Try.prog 38 #[.slice S t d, .func (.func 83) #[] #[]] w fun e w' => e = .returned (.bool (l.any refBad)) ∧ Ext w w' from by
    have HI := Lib.hid (bkIdxRef_any S l t d w hS hl)
    rw [← idx_any refBad l]
    generalize idxBy refBad l = z at *
    clear hS hl
    go_enter Try.func38, Try.ntmps38
    go_wp2_with (go_at_call 59; refine HI.out.mono ?_; rintro e w1 ⟨rfl, hx⟩; have X1 := Lib.hid hx; clear hx)
    go_ret
    exact ⟨by first | rfl | simp, X1.out⟩)
  generalize l.any refBad = z at *
  clear hS hl
  go_enter Try.func73, Try.ntmps73
  go_wp2_with (go_at_call 38; refine HI.out.mono ?_; rintro e w1 ⟨rfl, hx⟩; have X1 := Lib.hid hx; clear hx)
  go_ret
  exact ⟨rfl, X1.out⟩
/-- Is a root neither that of no tree nor a cell that something refers to? -/
def rootBad (c : List HC) (p : Int) : Bool := if p = -1 then false else if 0 ≤ p ∧ p < c.length then decide ((c.getD p.toNat HC.none).ref = 0) else true
set_option maxHeartbeats 1600000 in
theorem bkRootF_any (c : List HC) (p : Int) (R : Option Addr) (n q kb : Nat) (w : World) (hA : HcSl w R n q c) (hn : n ≤ 1000000) (hb : w.cell? ⟨kb, 0, none⟩ = some (.slice R n q)) :
    Calls Try.prog 85 #[.int .i64 p, .pointer (some ⟨kb, 0, none⟩)] w fun e w' => e = .returned (.bool (rootBad c p)) ∧ w = w' := by
  have HF := Lib.hid (fun w' => bkFrom_any 0 p ((n : Int) - 1) w')
  have hwr : IntKind.i64.wrap ((n : Int) - 1) = (n : Int) - 1 := by simp only [IntKind.wrap_i64]; omega
  unfold rootBad
  rw [← hA.1]
  by_cases h1 : p = -1
  · have d1 : (p != -1) = false := by simp [h1]
    rw [if_pos h1]
    clear hA hb
    subst h1
    go_enter Try.func85, Try.ntmps85
    go_wp2
    go_ret
    exact ⟨rfl, rfl⟩
  rw [if_neg h1]
  have d1 : (p != -1) = true := by simpa using h1
  by_cases h2 : 0 ≤ p ∧ p < n
  · rw [if_pos h2]
    obtain ⟨k, rfl⟩ : ∃ k : Nat, p = k := ⟨p.toNat, by omega⟩
    have hf : fromP 0 k ((n : Int) - 1) = true := by unfold fromP; simp; omega
    rw [hf] at HF
    have hkl : k < c.length := by rw [← hA.1]; omega
    obtain ⟨b, off, rfl, hbl, A, cc, c0, c1, c2, c3, _⟩ := hA.cell hkl
    have hg : c.getD k HC.none = c[k] := by rw [List.getD_eq_getElem?_getD, List.getElem?_eq_getElem hkl]; rfl
    rw [Int.toNat_natCast, hg]
    have h2b := h2.2
    generalize c[k].ref = r at *
    clear hA hf h1 hg c1 c2 c3
    go_enter Try.func85, Try.ntmps85
    go_wp2_with (go_at_call 72; with_reducible refine (HF.out _).mono ?_; rintro e w' ⟨rfl, rfl⟩)
    go_ret
    exact ⟨by first | rfl | (simp; done), rfl⟩
  · rw [if_neg h2]
    have hf : fromP 0 p ((n : Int) - 1) = false := by
      unfold fromP
      rw [Bool.eq_false_iff]
      intro h
      simp only [Bool.and_eq_true, decide_eq_true_eq] at h
      omega
    rw [hf] at HF
    clear hA h2 hf h1
    go_enter Try.func85, Try.ntmps85
    go_wp2_with (go_at_call 72; with_reducible refine (HF.out _).mono ?_; rintro e w' ⟨rfl, rfl⟩)
    go_ret
    exact ⟨rfl, rfl⟩
end Go.Proofs.Ytpcimjccngidgaa
namespace Go.Proofs.Ytpcimjccngidgaa
set_option maxRecDepth 20000
open Go.RowKit

def rwI (n : Nat) (f : Nat → Int) : List Value := (List.range n).map (fun k => iv (f k))
theorem rwI_len (n : Nat) (f : Nat → Int) : (rwI n f).length = n := by unfold rwI; simp
theorem rwI_set {n : Nat} {f : Nat → Int} {k : Nat} (_hk : k < n) (b : Int) : (rwI n f).set k (.int .i64 b) = rwI n (fun j => if j = k then b else f j) := by
  apply List.ext_getElem (by simp [rwI_len])
  intro j h1 h2
  by_cases h : k = j
  · subst h; simp [rwI, iv]
  · simp [rwI, iv, List.getElem_set_ne h, Ne.symm h]
theorem rwI_congr {n : Nat} {f g : Nat → Int} (h : ∀ k, k < n → f k = g k) : rwI n f = rwI n g := by
  unfold rwI
  exact List.map_congr_left (fun k hk => by rw [h k (List.mem_range.1 hk)])
theorem rwI_made (n : Nat) : (madeCells (Value.int .i64 0).cells (n * 1)).toList = rwI n (fun _ => 0) := by
  have hz : (Value.int .i64 0).cells = #[.int .i64 0] := by simp [Value.cells]
  rw [hz, Nat.mul_one]
  apply List.ext_getElem (by simp [rwI_len, size_madeCells])
  intro j h1 h2
  unfold rwI
  simp [madeCells, iv, Nat.mod_one]
/-- A row of numbers of the call's own that holds what f says. -/
def OnI (w : World) (B g n c : Nat) (f : Nat → Int) : Prop := B ≤ g ∧ w.ownsRow B 3 1 (.slice (some ⟨g, 0, none⟩) n c) n (rwI n f)
theorem OnI.free {w : World} {B g n c : Nat} {f : Nat → Int} (h : OnI w B g n c f) (k : Nat) : w.frozen? ⟨g, k, none⟩ = false := own_free h.2 k
theorem OnI.cell {w : World} {B g n c : Nat} {f : Nat → Int} (h : OnI w B g n c f) {k : Nat} (hk : k < n) : w.cell? ⟨g, k, none⟩ = some (.int .i64 (f k)) := (h.2.cellAt k (by omega)).trans (by unfold rwI; simp [hk, iv])
theorem OnI.ext {w w' : World} {B g n c : Nat} {f : Nat → Int} (h : OnI w B g n c f) (hx : Ext w w') : OnI w' B g n c f := ⟨h.1, own_ext h.2 hx⟩
theorem OnI.set {w : World} {B g n c : Nat} {f : Nat → Int} (h : OnI w B g n c f) {k : Nat} (hk : k < n) (b : Int) : OnI (w.setCell ⟨g, k, none⟩ (.int .i64 b)) B g n c (fun j => if j = k then b else f j) := ⟨h.1, by rw [← rwI_set hk]; exact own_set h.2 (by omega) _⟩
theorem OnI.congr {w : World} {B g n c : Nat} {f f' : Nat → Int} (h : OnI w B g n c f) (he : ∀ k, k < n → f k = f' k) : OnI w B g n c f' := ⟨h.1, by rw [← rwI_congr he]; exact h.2⟩
theorem OnI.made (w : World) (B n : Nat) (hB : B ≤ w.heap.size) (hn : n ≤ 90000) : OnI (w.alloc (.cells (madeCells (Value.int .i64 0).cells (n * 1)) 3)) B w.heap.size n n (fun _ => 0) :=
  ⟨hB, by rw [← rwI_made]; exact World.ownsRow_lit (base := B) (e := 3) (size := 1) w _ n hB (by unfold maxLen; omega) (by rw [size_madeCells])⟩
theorem infoI8 : (Try.prog.info? 3).map (fun i => (i.zero, i.size, i.bytes)) = some (some (.int .i64 0), 1, 8) := by kernel_rfl
theorem infoB8 : (Try.prog.info? 4).map (fun i => (i.zero, i.size, i.bytes)) = some (some (.bool false), 1, 1) := by kernel_rfl
def bo8 (b : Bool) : Value := .bool b
def rwB (n : Nat) (f : Nat → Bool) : List Value := (List.range n).map (fun k => bo8 (f k))
theorem rwB_len (n : Nat) (f : Nat → Bool) : (rwB n f).length = n := by unfold rwB; simp
theorem rwB_at {n : Nat} {f : Nat → Bool} {k : Nat} (hk : k < n) : (rwB n f)[k]? = some (.bool (f k)) := by unfold rwB; simp [hk, bo8]
theorem rwB_congr {n : Nat} {f g : Nat → Bool} (h : ∀ k, k < n → f k = g k) : rwB n f = rwB n g := by
  unfold rwB
  exact List.map_congr_left (fun k hk => by rw [h k (List.mem_range.1 hk)])
theorem rwB_set {n : Nat} {f : Nat → Bool} {k : Nat} (_hk : k < n) (b : Bool) : (rwB n f).set k (.bool b) = rwB n (fun j => if j = k then b else f j) := by
  apply List.ext_getElem (by simp [rwB_len])
  intro j h1 h2
  by_cases h : k = j
  · subst h; simp [rwB, bo8]
  · simp [rwB, bo8, List.getElem_set_ne h, Ne.symm h]
theorem rwB_one (n : Nat) (f : Nat → Bool) : ∀ u ∈ rwB n f, u.oneCell' = true := by
  intro u hu
  unfold rwB at hu
  obtain ⟨k, _, rfl⟩ := List.mem_map.1 hu
  rfl
/-- A row of the call's own that holds what f says. -/
def OnB (w : World) (B g n c : Nat) (f : Nat → Bool) : Prop := B ≤ g ∧ w.ownsRow B 4 1 (.slice (some ⟨g, 0, none⟩) n c) n (rwB n f)
theorem OnB.read {w : World} {B g n c : Nat} {f : Nat → Bool} (h : OnB w B g n c f) {k : Nat} (hk : k < n) : w.cell? ⟨g, k, none⟩ = some (.bool (f k)) := (h.2.cellAt k (by omega)).trans (rwB_at hk)
theorem OnB.free {w : World} {B g n c : Nat} {f : Nat → Bool} (h : OnB w B g n c f) (k : Nat) : w.frozen? ⟨g, k, none⟩ = false := own_free h.2 k
theorem OnB.ext {w w' : World} {B g n c : Nat} {f : Nat → Bool} (h : OnB w B g n c f) (hx : Ext w w') : OnB w' B g n c f := ⟨h.1, own_ext h.2 hx⟩
theorem OnB.congr {w : World} {B g n c : Nat} {f f' : Nat → Bool} (h : OnB w B g n c f) (he : ∀ k, k < n → f k = f' k) : OnB w B g n c f' := ⟨h.1, by rw [← rwB_congr he]; exact h.2⟩
theorem OnB.set {w : World} {B g n c : Nat} {f : Nat → Bool} (h : OnB w B g n c f) {k : Nat} (hk : k < n) (b : Bool) : OnB (w.setCell ⟨g, k, none⟩ (.bool b)) B g n c (fun j => if j = k then b else f j) := ⟨h.1, by rw [← rwB_set hk]; exact own_set h.2 (by omega) _⟩
theorem OnB.other {w : World} {B g n c : Nat} {f : Nat → Bool} (h : OnB w B g n c f) {p : Addr} (hp : g ≠ p.block) (v : Value) : OnB (w.setCell p v) B g n c f := ⟨h.1, ownsRow_setCell_other h.2 (by simp [Value.ownBlock, hp]) v⟩
theorem OnB.lt {w : World} {B g n c : Nat} {f : Nat → Bool} (h : OnB w B g n c f) : g < w.heap.size := (h.2.lt g rfl).2
theorem OnB.base {w : World} {B B' g n c : Nat} {f : Nat → Bool} (h : OnB w B g n c f) (hB : B' ≤ B) : OnB w B' g n c f :=
  ⟨Nat.le_trans hB h.1, h.2.1, h.2.2.imp id (fun ⟨a, b, c, h1, h2, h3⟩ => ⟨a, b, c, h1, Nat.le_trans hB h2, h3⟩)⟩
theorem rwB_made (n : Nat) : (madeCells (Value.bool false).cells (n * 1)).toList = rwB n (fun _ => false) := by
  have hz : (Value.bool false).cells = #[.bool false] := by simp [Value.cells]
  rw [hz, Nat.mul_one]
  apply List.ext_getElem (by simp [rwB_len, size_madeCells])
  intro j h1 h2
  unfold rwB
  simp [madeCells, bo8, Nat.mod_one]
theorem OnB.made (w : World) (B n : Nat) (hB : B ≤ w.heap.size) (hn : n ≤ 90000) : OnB (w.alloc (.cells (madeCells (Value.bool false).cells (n * 1)) 4)) B w.heap.size n n (fun _ => false) :=
  ⟨hB, by rw [← rwB_made]; exact World.ownsRow_lit (base := B) (e := 4) (size := 1) w _ n hB (by unfold maxLen; omega) (by rw [size_madeCells])⟩
theorem iv_one1 (l : List Int) : ∀ u ∈ l.map iv, u.oneCell' = true := by
  intro u hu
  obtain ⟨_, _, rfl⟩ := List.mem_map.1 hu
  rfl
theorem app_iv1 (w : World) {ops : Array Oper} {rest : List Oper} {o : Oper} {a : Act} {Q : Exit → Act → World → Prop} (hgd : o.guard = none) (s x : Operand)
    (ho : o.op = .call { callee := .builtin .append, args := #[s, x], argTypes := #[136, 136] })
    (B : Nat) (v : Value) (n : Nat) (l : List Int) (hs : a.eval s = v) (hown : w.ownsRow B 3 1 v n (l.map iv))
    (A : Option Addr) (m c : Nat) (k : List Int) (hx : a.eval x = .slice A m c) (hl : k.length = m) (hS : Sl w A m c (k.map iv))
    (hsz : n + m ≤ 1000000) (hB : B ≤ w.heap.size)
    (h : ∀ A' c' w', w'.ownsRow B 3 1 (.slice A' (n + m) c') (n + m) ((l ++ k).map iv) → w.grownBy w' v.ownBlock → wpList Try.prog ops Q rest (a.put o.dst (.slice A' (n + m) c')) w') : wpList Try.prog ops Q (o :: rest) a w := by
  refine wpList_app_sl w hgd s x 136 ho B 3 (.int .i64 0) 1 8 Try.underlying136 infoI8 rfl (by omega) v n (l.map iv) hs hown A m c (k.map iv) hx (by simp [hl]) hS (iv_one1 k) (by unfold maxLen; omega) (by omega) hB ?_
  intro A' c' w' h1 h2
  rw [← List.map_append] at h1
  exact h A' c' w' h1 h2
theorem sl_lit3 {w : World} {z : Nat} (hz : z = w.heap.size) (e n : Nat) (xs : List Value) (hn : n ≤ maxLen) : Sl (w.alloc (.cells xs.toArray e)) (some ⟨z, 0, none⟩) n n xs := by subst hz; exact sl_lit w e n xs hn
end Go.Proofs.Ytpcimjccngidgaa
namespace Go.Proofs.Ytpcimjccngidgaa
set_option maxRecDepth 20000
open Go.RowKit

set_option maxRecDepth 100000 in
set_option maxHeartbeats 800000 in
theorem stateRoots_any (R V L : Option Addr) (vs : List It) (n q m cv t cl : Nat) (keep next gen : Int) (w : World) (hm : m = vs.length) (hm2 : m ≤ 1000) (hV : Sl w V m cv (ivs vs)) :
    Calls Try.prog 76 #[.agg #[.slice R n q, .int .i64 keep, .slice V m cv, .slice L t cl, .int .i64 next, .int .i64 gen]] w fun e w' => ∃ S d, e = .returned (.slice S m d) ∧ Sl w' S m d ((vs.map (·.2)).map iv) ∧ Ext w w' := by
  have hb := Bx.new w #[.slice R n q, .int .i64 keep, .slice V m cv, .slice L t cl, .int .i64 next, .int .i64 gen] 42
  have HX0 := Lib.hid ((Ext.refl w).alloc (.cells #[.slice R n q, .int .i64 keep, .slice V m cv, .slice L t cl, .int .i64 next, .int .i64 gen] 42))
  obtain ⟨s0, s1, s2, s3, s4, s5⟩ := st_at6 hb
  have HV := Lib.hid hV
  have HM := Lib.hid hm
  clear hb hV hm
  go_enter Try.func76, Try.ntmps76
  go_wp2_with fail
  generalize hW : w.alloc _ = W0 at *
  clear s0 s1 s2 s3 s4 s5 hW
  go_loopw [3, 9] (fun s i wr => ∃ (k : Nat) (S : Option Addr) (d : Nat), k ≤ m ∧ i = .int .i64 k ∧ s = .slice S k d ∧ wr.ownsRow w.heap.size 3 1 (.slice S k d) k (((vs.take k).map (·.2)).map iv) ∧ Ext w wr) (fun _ i _ => m - (intOf i).toNat)
  case atStart => exact ⟨0, none, 0, Nat.zero_le _, rfl, rfl, World.ownsRow_nil _ _ _ _, HX0.out⟩
  case round =>
    obtain ⟨k, S, d, hk, rfl, rfl, ho, hx⟩ := hrel
    have HO := Lib.hid ho
    have HX := Lib.hid hx
    clear ho hx
    rcases Nat.lt_or_ge k m with hlt | hge
    · have hkl : k < vs.length := by rw [← HM.out]; exact hlt
      obtain ⟨b, off, rfl, _, hc⟩ := (HV.out.ext HX.out).cells.it hkl
      obtain ⟨a0, a1⟩ := hc k hkl
      have hki : (k : Int) < (m : Int) := by omega
      have HST := Lib.hid (show (vs.take (k + 1)).map (·.2) = (vs.take k).map (·.2) ++ [vs[k].2] from by rw [List.take_succ_eq_append_getElem hkl, List.map_append]; rfl)
      clear hc
      generalize vs[k] = x at *
      obtain ⟨x1, x2⟩ := x
      simp only at a0 a1 HST
      have Y1 := Lib.hid ((Ext.refl wr).alloc (.cells #[.int .i64 x1, .int .i64 x2] 115))
      go_wp2_with (at_builtin; refine stop_here ?_)
      refine stop_on ?_
      have Y2 := Lib.hid (Y1.out.alloc (.cells #[.int .i64 x2] 3))
      have Y := Lib.hid (HX.out.trans Y2.out)
      refine app_iv1 _ rfl _ _ rfl w.heap.size (.slice S k d) k ((vs.take k).map (·.2)) rfl (own_ext HO.out Y2.out) (some ⟨_, 0, none⟩) 1 1 [x2] rfl rfl (sl_lit3 (by simp) _ 1 ([x2].map iv) (by unfold maxLen; omega)) (by omega) Y.out.size ?_
      intro S2 d2 w3 hown hg
      rw [← HST.out] at hown
      have X3 := Lib.hid (Y.out.app (own_ext HO.out Y2.out) (Nat.le_refl _) hg)
      have O3 := Lib.hid hown
      clear hown hg
      go_wp2
      go_roundw
      case rel => exact ⟨k + 1, S2, d2, by omega, by go_num, rfl, O3.out, X3.out⟩
      case measure => simp [intOf]; omega
    · obtain rfl : m = k := by omega
      have HE := Lib.hid (show vs.take m = vs from by rw [HM.out, List.take_length])
      clear hge
      go_wp2
      go_ret
      exact ⟨S, d, rfl, by have := own_sl HO.out; rw [HE.out] at this; exact this, HX.out⟩
end Go.Proofs.Ytpcimjccngidgaa
namespace Go.Proofs.Ytpcimjccngidgaa
set_option maxRecDepth 20000
open Go.RowKit
attribute [local go_sem ↓] Go.wp_at_zero Go.wp_at_succ

theorem bk_num {w : World} {A : Option Addr} {l : List Int} (h : Cells w A (l.map iv)) {k : Nat} (hk : k < l.length) :
    ∃ b off, A = some ⟨b, off, none⟩ ∧ b < w.heap.size ∧ ∀ j (hj : j < l.length), w.cell? ⟨b, off + j, none⟩ = some (.int .i64 l[j]) := by
  obtain ⟨b, off, rfl, hlt, hc⟩ := h (by intro e; rw [List.map_eq_nil_iff] at e; subst e; simp at hk)
  exact ⟨b, off, rfl, hlt, fun j hj => hc j _ (by simp [iv, hj])⟩
set_option maxRecDepth 100000 in
set_option maxHeartbeats 1600000 in
theorem bkIdxRoot_any (f : Int → Bool) (kb : Nat) (S : Option Addr) (l : List Int) (t d : Nat) (w : World) (ht : t = l.length) (hS : Sl w S t d (l.map iv))
    (hF : ∀ p, Calls Try.prog 85 #[.int .i64 p, .pointer (some ⟨kb, 0, none⟩)] w fun e w' => e = .returned (.bool (f p)) ∧ w = w') :
    Calls Try.prog 89 #[.slice S t d, .func (.func 85) #[] #[.pointer (some ⟨kb, 0, none⟩)]] w fun e w' => e = .returned (.int .i64 (idxBy f l)) ∧ w = w' := by
  have hl := hS.len
  unfold maxLen at hl
  have HT := Lib.hid ht
  have HS := Lib.hid hS.cells
  have HF := Lib.hid hF
  clear ht hS hF
  go_enter Try.func89, Try.ntmps89
  go_wp2_with fail
  go_loopw [8] (fun i wr => ∃ k : Nat, k ≤ t ∧ i = .int .i64 k ∧ (∀ j (hj : j < l.length), j < k → f l[j] = false) ∧ w = wr) (fun i _ => t - (intOf i).toNat)
  case atStart => exact ⟨0, Nat.zero_le _, rfl, fun _ _ h => by omega, rfl⟩
  case round =>
    obtain ⟨k, hk, rfl, hb, rfl⟩ := hrel
    have HB := Lib.hid hb
    clear hb
    rcases Nat.lt_or_ge k t with hlt | hlt
    · have hkl : k < l.length := by rw [← HT.out]; exact hlt
      obtain ⟨b, off, rfl, hbl, hc⟩ := bk_num HS.out hkl
      have hck := hc k hkl
      have hki : (k : Int) < (t : Int) := by omega
      have HH := Lib.hid (fun h => idx_hit (f := f) hkl h HB.out)
      have HN := Lib.hid (fun (h : f l[k] = false) => (show ∀ j (hj : j < l.length), j < k + 1 → f l[j] = false from fun j hj hjk => by
        rcases Nat.lt_or_ge j k with h' | h'
        · exact HB.out j hj h'
        · obtain rfl : j = k := by omega
          exact h))
      have HC := Lib.hid (HF.out l[k])
      clear hc HB
      generalize l[k] = y at *
      generalize f y = fy at *
      cases fy
      · have HE := Lib.hid (HN.out rfl)
        clear HH HN
        go_wp2_with (go_at_call 85; refine HC.out.mono ?_; rintro e w1 ⟨rfl, rfl⟩)
        go_roundw
        case rel => exact ⟨k + 1, by omega, by go_num, HE.out, by first | rfl | trivial⟩
        case measure => simp [intOf]; omega
      · have HE := Lib.hid (HH.out rfl)
        clear HH HN
        go_wp2_with (go_at_call 85; refine HC.out.mono ?_; rintro e w1 ⟨rfl, rfl⟩)
        go_ret
        exact ⟨ret_int HE.out.symm, rfl⟩
    · obtain rfl : k = t := by omega
      have HE := Lib.hid (idx_none (f := f) (fun j hj => HB.out j hj (by rw [HT.out]; exact hj)))
      clear hlt
      go_wp2_with fail
      go_ret
      exact ⟨ret_int HE.out.symm, rfl⟩
set_option maxHeartbeats 800000 in
theorem bkHasRoot_any (f : Int → Bool) (kb : Nat) (S : Option Addr) (l : List Int) (t d : Nat) (w : World) (ht : t = l.length) (hS : Sl w S t d (l.map iv))
    (hF : ∀ p, Calls Try.prog 85 #[.int .i64 p, .pointer (some ⟨kb, 0, none⟩)] w fun e w' => e = .returned (.bool (f p)) ∧ w = w') :
    Calls Try.prog 84 #[.slice S t d, .func (.func 85) #[] #[.pointer (some ⟨kb, 0, none⟩)]] w fun e w' => e = .returned (.bool (l.any f)) ∧ w = w' := by
  have HI := Lib.hid (bkIdxRoot_any f kb S l t d w ht hS hF)
  rw [← idx_any f l]
  generalize idxBy f l = z at *
  clear ht hS hF
  go_enter Try.func84, Try.ntmps84
  go_wp2_with (go_at_call 89; refine HI.out.mono ?_; rintro e w1 ⟨rfl, rfl⟩)
  go_ret
  exact ⟨by first | rfl | simp, rfl⟩
set_option maxHeartbeats 800000 in
theorem bkRoots_any (c : List HC) (R S : Option Addr) (l : List Int) (n q t d : Nat) (w : World) (hA : HcSl w R n q c) (hn : n ≤ 1000000) (ht : t = l.length) (hS : Sl w S t d (l.map iv)) :
    Calls Try.prog 75 #[.slice S t d, .slice R n q] w fun e w' => e = .returned (.bool (!l.any (rootBad c))) ∧ Ext w w' := by
  obtain ⟨W, hW⟩ : ∃ W, w.alloc (.cells #[.slice R n q] 36) = W := ⟨_, rfl⟩
  have HX := Lib.hid (show Ext w W from hW ▸ Ext.alloc (Ext.refl _) _)
  have hb : W.cell? ⟨w.heap.size, 0, none⟩ = some (.slice R n q) := by subst hW; exact Cells.at_ (sl_lit w 36 1 [.slice R n q] (by unfold maxLen; omega)).cells _ rfl 0 _ rfl
  have HC := Lib.hid (bkHasRoot_any (rootBad c) w.heap.size S l t d W ht (hS.ext HX.out) (fun p => bkRootF_any c p R n q w.heap.size W (hA.ext HX.out) hn hb))
  generalize l.any (rootBad c) = r at *
  clear hS ht hA hb
  subst hW
  go_enter Try.func75, Try.ntmps75
  go_wp2_with (go_at_call 84; refine HC.out.mono ?_; rintro e w1 ⟨rfl, rfl⟩)
  go_ret
  exact ⟨rfl, HX.out⟩
/-- Do volumes' numbers rise, from one on, all below next? -/
def idsR (next : Int) : List It → Int → Bool
  | [], _ => true
  | v :: vs, least => fromP least v.1 (next - 1) && idsR next vs (v.1 + 1)
def idsP (vs : List It) (next : Int) : Bool := idsR next vs 1 && decide (vs.length ≤ 20)
set_option maxRecDepth 100000 in
set_option maxHeartbeats 1600000 in
theorem bkIds_any (V : Option Addr) (vs : List It) (m cv : Nat) (next : Int) (w : World) (hm : m = vs.length) (hm2 : m ≤ 1000) (h1 : 1 ≤ next) (h2 : next ≤ 4294967296) (hV : Sl w V m cv (ivs vs)) :
    Calls Try.prog 74 #[.slice V m cv, .int .i64 next] w fun e w' => e = .returned (.bool (idsP vs next)) ∧ Ext w w' := by
  have HV := Lib.hid hV
  have HM := Lib.hid hm
  have HF := Lib.hid (fun a b w' => bkFrom_any a b (next - 1) w')
  have hwr : IntKind.i64.wrap (next - 1) = next - 1 := by simp only [IntKind.wrap_i64]; omega
  obtain ⟨res, hres⟩ : ∃ r, idsP vs next = r := ⟨_, rfl⟩
  have HP := Lib.hid (show (idsR next vs 1 && decide (m ≤ 20)) = res from by rw [← hres, hm]; rfl)
  rw [hres]
  clear hV hm hres
  go_enter Try.func74, Try.ntmps74
  go_wp2_with fail
  go_loopw [5, 10] (fun z i wr => ∃ (k : Nat) (x : Int), k ≤ m ∧ i = .int .i64 k ∧ z = .int .i64 x ∧ 1 ≤ x ∧ x ≤ 4294967296 ∧ idsR next vs 1 = idsR next (vs.drop k) x ∧ Ext w wr) (fun _ i _ => m - (intOf i).toNat)
  case atStart => exact ⟨0, 1, Nat.zero_le _, rfl, rfl, by omega, by omega, rfl, Ext.refl _⟩
  case round =>
    obtain ⟨k, x, hk, rfl, rfl, hx1, hx2, hid, hx⟩ := hrel
    have HX := Lib.hid hx
    have HID := Lib.hid hid
    clear hx hid
    rcases Nat.lt_or_ge k m with hlt | hge
    · have hkl : k < vs.length := by rw [← HM.out]; exact hlt
      obtain ⟨b, off, rfl, _, hc⟩ := (HV.out.ext HX.out).cells.it hkl
      obtain ⟨a0, a1⟩ := hc k hkl
      have hki : (k : Int) < (m : Int) := by omega
      have HD := Lib.hid (show vs.drop k = vs[k] :: vs.drop (k + 1) from (List.getElem_cons_drop ..).symm)
      clear hc
      generalize vs[k] = y at *
      obtain ⟨y1, y2⟩ := y
      simp only at a0 a1
      have HB := Lib.hid (Bx.new wr #[.int .i64 y1, .int .i64 y2] 115)
      have HXA := Lib.hid (HX.out.alloc (.cells #[.int .i64 y1, .int .i64 y2] 115))
      have HG := Lib.hid (HF.out x y1)
      have HS := Lib.hid (show idsR next vs 1 = (fromP x y1 (next - 1) && idsR next (vs.drop (k + 1)) (y1 + 1)) from by rw [HID.out, HD.out]; rfl)
      obtain ⟨g0, g1, g2⟩ := HB.out.read2
      cases hf : fromP x y1 (next - 1) with
      | false =>
        rw [hf] at HG HS
        have HE := Lib.hid (show res = false from by rw [← HP.out, HS.out]; rfl)
        clear hf HS HID HD
        go_wp2_with (go_at_call 72; with_reducible refine (HG.out _).mono ?_; rintro e w' ⟨rfl, rfl⟩)
        go_ret
        exact ⟨by rw [HE.out]; rfl, HXA.out⟩
      | true =>
        rw [hf] at HG HS
        have hle : x ≤ y1 ∧ y1 ≤ next - 1 := by
          unfold fromP at hf
          simpa only [Bool.and_eq_true, decide_eq_true_eq] using hf
        have hw2 : IntKind.i64.wrap (y1 + 1) = y1 + 1 := by simp only [IntKind.wrap_i64]; omega
        clear hf HID HD
        go_wp2_with (go_at_call 72; with_reducible refine (HG.out _).mono ?_; rintro e w' ⟨rfl, rfl⟩)
        go_roundw
        case rel => exact ⟨k + 1, y1 + 1, by omega, by go_num, rfl, by omega, by omega, by rw [HS.out]; rfl, HXA.out⟩
        case measure => simp [intOf]; omega
    · obtain rfl : m = k := by omega
      have HE := Lib.hid (show res = decide (m ≤ 20) from by
        rw [← HP.out, HID.out, HM.out, List.drop_length]; rfl)
      clear hge HID
      go_wp2
      go_ret
      exact ⟨by rw [HE.out]; first | rfl | (congr 1; congr 1; simp; omega), HX.out⟩
end Go.Proofs.Ytpcimjccngidgaa
