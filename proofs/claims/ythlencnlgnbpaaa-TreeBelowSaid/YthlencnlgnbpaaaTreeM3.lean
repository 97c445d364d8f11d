/- nodes of package tree as an iterator. -/
import Derived.Test.YthlencnlgnbpaaaTreeM2
namespace Go.Proofs.Ythlencnlgnbpaaa
open Go.RowKit Go.Shelf
attribute [local go_sem] Oper.semAt_some

theorem run_store_func (P : Program) (w : World) (a : Addr) (m : Mode) (f : Fn) (x y : Array Value) : (store a (.func f x y) m).run P w = stored P w a (.func f x y) m := run_store P w a _ m rfl
attribute [local go_sem] run_store_func
theorem nodes_in (d : Nat) (R : Option Addr) (m q : Nat) (keep root key : Int) (w : World) :
    CallsIn Fence.wide d Try.prog 34 #[.agg #[.slice R m q, .int .i64 keep], .int .i64 root, .int .i64 key] w fun e w' =>
      e = .returned (.func (.func 39) #[] #[.pointer (some ⟨w.heap.size, 0, none⟩), .pointer (some ⟨w.heap.size + 1 + 1, 0, none⟩), .pointer (some ⟨w.heap.size + 1, 0, none⟩)]) ∧
      w' = ((w.alloc (.cells #[.slice R m q, .int .i64 keep] 24)).alloc (.cells #[.int .i64 root] 3)).alloc (.cells #[.int .i64 key] 3) := by
  refine callsIn_of_wp Try.func34 rfl trivial ?_ rfl
  simp only [Try.ntmps34, List.size_toArray, List.length_cons, List.length_nil, Nat.reduceAdd, Nat.reduceSub, Array.replicate_succ, Array.replicate_zero, List.push_toArray, List.append_toArray, List.nil_append, List.cons_append]
  gi_wp2
  go_ret
  exact ⟨rfl, rfl⟩
theorem items_in (d : Nat) (R : Option Addr) (m q : Nat) (keep root key : Int) (w : World) :
    CallsIn Fence.wide d Try.prog 35 #[.agg #[.slice R m q, .int .i64 keep], .int .i64 root, .int .i64 key] w fun e w' =>
      e = .returned (.func (.func 42) #[] #[.pointer (some ⟨w.heap.size, 0, none⟩), .pointer (some ⟨w.heap.size + 1, 0, none⟩), .pointer (some ⟨w.heap.size + 1 + 1, 0, none⟩)]) ∧
      w' = ((w.alloc (.cells #[.slice R m q, .int .i64 keep] 24)).alloc (.cells #[.int .i64 root] 3)).alloc (.cells #[.int .i64 key] 3) := by
  refine callsIn_of_wp Try.func35 rfl trivial ?_ rfl
  simp only [Try.ntmps35, List.size_toArray, List.length_cons, List.length_nil, Nat.reduceAdd, Nat.reduceSub, Array.replicate_succ, Array.replicate_zero, List.push_toArray, List.append_toArray, List.nil_append, List.cons_append]
  gi_wp2
  go_ret
  exact ⟨rfl, rfl⟩
/-- Two boxes, made one behind the other: the second one. -/
theorem bts2 {w W : World} {c0 c1 : Array Value} {t0 t1 : TypeId} (h : (w.alloc (.cells c0 t0)).alloc (.cells c1 t1) = W) : Ext w W ∧ W.heap.size = w.heap.size + 2 ∧ Bt W (w.heap.size + 1) t1 c1 := by
  subst h
  have b1 := Bt.new (w.alloc (.cells c0 t0)) c1 t1
  rw [World.size_alloc] at b1
  exact ⟨((Ext.refl w).alloc _).alloc _, by simp, b1⟩
/-- Three boxes, made one behind the other. -/
theorem bts3 {w W : World} {c0 c1 c2 : Array Value} {t0 t1 t2 : TypeId} (h : ((w.alloc (.cells c0 t0)).alloc (.cells c1 t1)).alloc (.cells c2 t2) = W) : Ext w W ∧ W.heap.size = w.heap.size + 3 ∧ Bt W w.heap.size t0 c0 ∧ Bt W (w.heap.size + 1) t1 c1 ∧ Bt W (w.heap.size + 1 + 1) t2 c2 := by
  subst h
  have b0 := Bt.new w c0 t0
  have b1 := Bt.new (w.alloc (.cells c0 t0)) c1 t1
  have b2 := Bt.new ((w.alloc (.cells c0 t0)).alloc (.cells c1 t1)) c2 t2
  simp only [World.size_alloc] at b1 b2
  have y := fun (X : World) o => (Ext.refl X).alloc o
  exact ⟨((y w _).alloc _).alloc _, by simp, (b0.below (y _ _)).below (y _ _), b1.below (y _ _), b2⟩
def encN (l : List HC) (A : Nat → Option Addr) (C : Nat → Nat) (p : Int) : Array Value := #[.int .i64 p, NV l A C p]
set_option maxRecDepth 100000 in
set_option maxHeartbeats 1600000 in
theorem nodes_seq (l : List HC) (hl : AllR l) (R : Option Addr) (n q : Nat) (keep root key : Int) (A : Nat → Option Addr) (C : Nat → Nat) (bh bf br : Nat) (w0 w : World) (hA : Lie w0 R l A C) (hnl : n = l.length) (hx0 : Ext w0 w)
    (hbh : Bt w bh 24 #[.slice R n q, .int .i64 keep]) (hbf : Bt w bf 3 #[.int .i64 key]) (hbr : Bt w br 3 #[.int .i64 root]) :
    SeqO Try.prog 39 #[.pointer (some ⟨bh, 0, none⟩), .pointer (some ⟨bf, 0, none⟩), .pointer (some ⟨br, 0, none⟩)] (encN l A C) w0.heap.size (fun k => k = bh ∨ k = bf ∨ k = br) 3 (nodesP l root key) w := by
  intro r J Jx W d hx hJ hJx hY h0
  refine (callsIn_wide (n := d)).2 (callsIn_wide.1 (?_ : CallsIn Fence.wide 3 _ _ _ _ _))
  obtain ⟨W2, hW2⟩ : ∃ W2, ((W.alloc (.cells #[.func (.yield r) #[] #[]] 77)).alloc (.cells #[.int .i64 2000] 3)).alloc (.cells #[.nilFunc] 78) = W2 := ⟨_, rfl⟩
  obtain ⟨hx2, hz2, t0, t1, t2⟩ := bts3 hW2
  have d0 := t2.bx.at 0 _ rfl
  have d1 := t2.bx.free 0
  have d2 := t2.lt
  obtain ⟨FV, hFV⟩ : ∃ FV, Value.func (.func 40) #[] #[.pointer (some ⟨bh, 0, none⟩), .pointer (some ⟨W.heap.size + 1, 0, none⟩), .pointer (some ⟨W.heap.size, 0, none⟩), .pointer (some ⟨bf, 0, none⟩), .pointer (some ⟨W.heap.size + 1 + 1, 0, none⟩)] = FV := ⟨_, rfl⟩
  have HX3 := Lib.hid (show Ext W (W2.setCell ⟨W.heap.size + 1 + 1, 0, none⟩ FV) from hx2.set (p := ⟨W.heap.size + 1 + 1, 0, none⟩) (by show W.heap.size ≤ W.heap.size + 1 + 1; omega) _)
  have HM := Lib.hid (show MemN (W2.setCell ⟨W.heap.size + 1 + 1, 0, none⟩ FV) R n q keep key bh bf W.heap.size r 2000 from by
    refine ⟨(hbh.below hx).below HX3.out, (hbf.below hx).below HX3.out, t0.other (by show W.heap.size + 1 + 1 ≠ W.heap.size; omega) _, t1.other (by show W.heap.size + 1 + 1 ≠ W.heap.size + 1; omega) _, ?_⟩
    rw [hFV]
    exact t2.set1 _)
  have c3 := ((hbr.below hx).below hx2).bx.at 0 _ rfl
  have c4 := ((hbr.below hx).below HX3.out).bx.at 0 _ rfl
  have c5 := ((hbr.below hx).below hx2).lt
  have D : DnC l R n q keep key A C bh bf W.heap.size r w0 (fun k => (k = bh ∨ k = bf ∨ k = br) ∨ (W.heap.size ≤ k ∧ k < W.heap.size + 3)) (nodesP l root key) J Jx :=
    ⟨hl, hA, hnl, (hx0.trans hx).size, (hbh.below hx).lt, (hbf.below hx).lt, ⟨.inl (.inl rfl), .inl (.inr (.inl rfl)), .inr ⟨Nat.le_refl _, by omega⟩, .inr ⟨by omega, by omega⟩, .inr ⟨by omega, by omega⟩⟩, hJ, hY⟩
  have IHC := Lib.hid (fun n' => (callsIn_wide (n := n')).2 (callsIn_wide.1 (dn_all l R n q keep key A C bh bf W.heap.size r w0 _ _ J Jx D 2001 2000 root [] 1 _ (Nat.le_refl _) (by omega) (Nat.le_refl _) ((hx0.trans hx).trans HX3.out) HM.out (hJ _ _ _ h0 (.ext HX3.out)) (by have := hz2; simp; omega) (List.prefix_rfl))))
  subst hFV
  clear hJ hJx hY h0 t0 t1 t2 hbh hbf hbr hx hx2 hz2 hA hnl HM D
  refine callsIn_of_wp Try.func39 rfl trivial ?_ rfl
  simp only [Try.ntmps39, List.size_toArray, List.length_cons, List.length_nil, Nat.reduceAdd, Nat.reduceSub, Array.replicate_succ, Array.replicate_zero, List.push_toArray, List.append_toArray, List.nil_append, List.cons_append]
  gi_wp2_with (refine ⟨trivial, ?_⟩; gi_at_call 40; refine stop_here ?_)
  refine stop_on ?_
  refine (IHC.out _).mono ?_
  rintro e W6 (⟨rfl, hJ6, hM6, hk6⟩ | ⟨rfl, u, hu, hJx⟩)
  · have HJ6 := Lib.hid hJ6
    clear hJ6 hM6 hk6
    gi_wp2
    go_end0
    exact ⟨⟨_, rfl⟩, .inl HJ6.out⟩
  · gi_wp2
    go_end0
    exact ⟨⟨_, rfl⟩, .inr ⟨u, hu, hJx⟩⟩
end Go.Proofs.Ythlencnlgnbpaaa
