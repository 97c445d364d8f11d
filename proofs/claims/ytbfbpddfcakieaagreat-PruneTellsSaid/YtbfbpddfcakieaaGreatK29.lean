/- The walk of the closure in nodes of package tree, that calls itself and yields. The walk of the closure in nodes of package tree, where it yields and goes on. nodes of package tree as an iterator. -/
import Derived.Test.YtbfbpddfcakieaaGreatK28
namespace Go.Proofs.YtbfbpddfcakieaaGreat
open Go.RowKit Go.Shelf
attribute [local go_sem] Oper.semAt_some

/-- The memory that the closure leans on. -/
structure MemN (W : World) (R : Option Addr) (n q : Nat) (keep key : Int) (bh bf B r c : Nat) : Prop where
  h : Bt W bh 24 #[.slice R n q, .int .i64 keep]
  f : Bt W bf 3 #[.int .i64 key]
  y : Bt W B 106 #[.func (.yield r) #[] #[]]
  l : Bt W (B + 1) 3 #[.int .i64 c]
  d : Bt W (B + 1 + 1) 107 #[.func (.func 71) #[] #[.pointer (some ⟨bh, 0, none⟩), .pointer (some ⟨B + 1, 0, none⟩), .pointer (some ⟨B, 0, none⟩), .pointer (some ⟨bf, 0, none⟩), .pointer (some ⟨B + 1 + 1, 0, none⟩)]]
theorem Bt.kept {W W' : World} {k : Nat} {t : TypeId} {cs : Array Value} (h : Bt W k t cs) {n₀ : Nat} {S : Nat → Prop} (hk : Kw n₀ S W W') (hS : S k) : Bt W' k t cs := (hk.same k hS h.lt).trans h
theorem MemN.keep {W W' : World} {R : Option Addr} {n q : Nat} {keep key : Int} {bh bf B r c : Nat} (h : MemN W R n q keep key bh bf B r c) {n₀ : Nat} {S : Nat → Prop} (hk : Kw n₀ S W W') (s1 : S bh) (s2 : S bf) (s3 : S B) (s4 : S (B + 1)) (s5 : S (B + 1 + 1)) : MemN W' R n q keep key bh bf B r c :=
  ⟨h.h.kept hk s1, h.f.kept hk s2, h.y.kept hk s3, h.l.kept hk s4, h.d.kept hk s5⟩
theorem MemN.ext {W W' : World} {R : Option Addr} {n q : Nat} {keep key : Int} {bh bf B r c : Nat} (h : MemN W R n q keep key bh bf B r c) (hx : Ext W W') : MemN W' R n q keep key bh bf B r c :=
  ⟨h.h.below hx, h.f.below hx, h.y.below hx, h.l.below hx, h.d.below hx⟩
theorem MemN.less {W : World} {R : Option Addr} {n q : Nat} {keep key : Int} {bh bf B r c : Nat} (h : MemN W R n q keep key bh bf B r c) (h1 : bh < B) (h2 : bf < B) (c' : Nat) : MemN (W.setCell ⟨B + 1, 0, none⟩ (.int .i64 c')) R n q keep key bh bf B r c' :=
  ⟨h.h.other (by show B + 1 ≠ bh; omega) _, h.f.other (by show B + 1 ≠ bf; omega) _, h.y.other (by show B + 1 ≠ B; omega) _, h.l.set1 _, h.d.other (by show B + 1 ≠ B + 1 + 1; omega) _⟩
def noS : Nat → Prop := fun _ => False
theorem prefix_app {α : Type} {a b c : List α} (h : a ++ b <+: c) : a <+: c := (List.prefix_append a b).trans h
theorem prefix_mid {α : Type} {a b c d : List α} (h : a ++ (b ++ c) <+: d) : a ++ b <+: d := by rw [← List.append_assoc] at h; exact prefix_app h
/-- What the closure hands back, and leaves. -/
def dnPost (l : List HC) (key : Int) (m c : Nat) (p : Int) (J Jx : List Int → World → Prop) (pre : List Int) (n₀ : Nat) (W : World) (R : Option Addr) (n q : Nat) (keep : Int) (bh bf B r : Nat) (e : Ending) (W' : World) : Prop :=
  (e = .returned (.bool (dn l key m c p).ok) ∧ J (pre ++ (dn l key m c p).ys) W' ∧ MemN W' R n q keep key bh bf B r (dn l key m c p).left ∧ Kw n₀ noS W W') ∨
  (e = .returned (.bool false) ∧ ∃ u, u <+: pre ++ (dn l key m c p).ys ∧ Jx u W')
theorem dn_no {l : List HC} {key : Int} {m c : Nat} {p : Int} (h : usedC l p = false ∨ c = 0) : dn l key (m + 1) c p = ⟨[], c, false⟩ := by
  unfold dn
  rw [if_neg]
  rcases h with h | h
  · rw [h]; simp
  · subst h; simp
theorem dn_leaf {l : List HC} {key : Int} {m c k : Nat} (hk : k < l.length) (h : 0 < l[k].ref) (hc : c ≠ 0) (hl : l[k].leaf = true) : dn l key (m + 1) c (k : Int) = ⟨[(k : Int)], c - 1, true⟩ := by
  unfold dn
  rw [cellT_at hk, usedC_at hk, decide_eq_true h, decide_eq_true hc, hl]
  rfl
theorem dn_other {l : List HC} {key : Int} {m c k : Nat} (hk : k < l.length) (h : 0 < l[k].ref) (hc : c ≠ 0) (hl : l[k].leaf = false) : dn l key (m + 1) c (k : Int) =
    ⟨(k : Int) :: (dnRow (dn l key m) (c - 1) (fromT l[k].it false key)).ys, (dnRow (dn l key m) (c - 1) (fromT l[k].it false key)).left, (dnRow (dn l key m) (c - 1) (fromT l[k].it false key)).ok⟩ := by
  conv => lhs; unfold dn
  rw [cellT_at hk, usedC_at hk, decide_eq_true h, decide_eq_true hc, hl]
  rfl
/-- Where the closure is walked: the heap's cells as they lay at first, the boxes, what a round keeps, and what is said of what was yielded. -/
structure DnC (l : List HC) (R : Option Addr) (n q : Nat) (keep key : Int) (A : Nat → Option Addr) (C : Nat → Nat) (bh bf B r : Nat) (w0 : World) (S : Nat → Prop) (L : List Int) (J Jx : List Int → World → Prop) : Prop where
  hl : AllR l
  hA : Lie w0 R l A C
  hnl : n = l.length
  h0B : w0.heap.size ≤ B
  hbh : bh < B
  hbf : bf < B
  s : S bh ∧ S bf ∧ S B ∧ S (B + 1) ∧ S (B + 1 + 1)
  hJ : Stays B 3 J
  hY : ∀ pre p W m, J pre W → B + 3 ≤ W.heap.size → pre ++ [p] <+: L → YieldAt Fence.wide m Tryz.prog r #[.int .i64 p, NV l A C p] W fun e W' => Kw w0.heap.size S W W' ∧
      ((e = .returned (.bool true) ∧ J (pre ++ [p]) W') ∨ (e = .returned (.bool false) ∧ Jx (pre ++ [p]) W'))
def DnOk (l : List HC) (R : Option Addr) (n q : Nat) (keep key : Int) (bh bf B r : Nat) (w0 : World) (L : List Int) (J Jx : List Int → World → Prop) (m : Nat) : Prop :=
  ∀ (c : Nat) (p : Int) (pre : List Int) (d : Nat) (W : World), 1 ≤ d → c < m → c ≤ 2000 → Ext w0 W → MemN W R n q keep key bh bf B r c → J pre W → B + 3 ≤ W.heap.size → pre ++ (dn l key m c p).ys <+: L →
    CallsIn Fence.wide d Tryz.prog 71 #[.int .i64 p, .pointer (some ⟨bh, 0, none⟩), .pointer (some ⟨B + 1, 0, none⟩), .pointer (some ⟨B, 0, none⟩), .pointer (some ⟨bf, 0, none⟩), .pointer (some ⟨B + 1 + 1, 0, none⟩)] W
      (dnPost l key m c p J Jx pre w0.heap.size W R n q keep bh bf B r)
set_option maxRecDepth 100000 in
set_option maxHeartbeats 800000 in
theorem dn_a (l : List HC) (R : Option Addr) (n q : Nat) (keep key : Int) (A : Nat → Option Addr) (C : Nat → Nat) (bh bf B r : Nat) (w0 : World) (S : Nat → Prop) (L : List Int) (J Jx : List Int → World → Prop) (D : DnC l R n q keep key A C bh bf B r w0 S L J Jx) (m c : Nat) (p : Int) (pre : List Int) (d : Nat) (W : World) (hd : 1 ≤ d) (hx : Ext w0 W) (hM : MemN W R n q keep key bh bf B r c) (hJ0 : J pre W) (hz : B + 3 ≤ W.heap.size) (hu : usedC l p = false) :
    CallsIn Fence.wide d Tryz.prog 71 #[.int .i64 p, .pointer (some ⟨bh, 0, none⟩), .pointer (some ⟨B + 1, 0, none⟩), .pointer (some ⟨B, 0, none⟩), .pointer (some ⟨bf, 0, none⟩), .pointer (some ⟨B + 1 + 1, 0, none⟩)] W
      (dnPost l key (m + 1) c p J Jx pre w0.heap.size W R n q keep bh bf B r) := by
  have HM := Lib.hid hM
  have HX := Lib.hid hx
  have HJ0 := Lib.hid hJ0
  have HZ := Lib.hid hz
  have HDC := Lib.hid D
  have HUS := Lib.hid (fun W1 (h1 : Ext W W1) => treeUsed_any R l n q keep p A C W1 D.hl D.hnl (D.hA.ext (hx.trans h1)))
  obtain ⟨p0, p1, p2⟩ := hM.h.bx.read2
  rw [show usedV l A C p = .agg #[.bool false, .slice none 0 0] from by unfold usedV; rw [hu]; rfl, hu] at HUS
  have HD := Lib.hid (dn_no (l := l) (key := key) (m := m) (c := c) (p := p) (.inl hu))
  clear hM hx hJ0 hz hu D
  refine callsIn_of_wp Tryz.func71 rfl trivial ?_ rfl
  simp only [Tryz.ntmps71, List.size_toArray, List.length_cons, List.length_nil, Nat.reduceAdd, Nat.reduceSub, Array.replicate_succ, Array.replicate_zero, List.push_toArray, List.append_toArray, List.nil_append, List.cons_append]
  gi_wp2_with (refine ⟨trivial, ?_⟩; gi_at_call 72; refine stop_here ?_)
  refine stop_on ?_
  refine (callsIn_wide.2 (HUS.out _ (Ext.refl _))).mono ?_
  rintro e w1 ⟨rfl, hx1⟩
  have HX1 := Lib.hid hx1
  clear hx1
  gi_wp2
  refine ⟨nofun, ?_⟩
  gi_wp2
  go_ret
  have hxa := HX1.out.alloc (.cells #[.bool false, .slice none 0 0] 51)
  refine .inl ⟨by rw [HD.out]; rfl, ?_, by rw [HD.out]; exact HM.out.ext hxa, Kw.ext _ hxa HX.out.size⟩
  rw [HD.out, List.append_nil]
  exact HDC.out.hJ _ _ _ HJ0.out (.ext hxa)
set_option maxRecDepth 100000 in
set_option maxHeartbeats 800000 in
theorem dn_b (l : List HC) (R : Option Addr) (n q : Nat) (keep key : Int) (A : Nat → Option Addr) (C : Nat → Nat) (bh bf B r : Nat) (w0 : World) (S : Nat → Prop) (L : List Int) (J Jx : List Int → World → Prop) (D : DnC l R n q keep key A C bh bf B r w0 S L J Jx) (m c : Nat) (p : Int) (pre : List Int) (d : Nat) (W : World) (hd : 1 ≤ d) (hx : Ext w0 W) (hM : MemN W R n q keep key bh bf B r c) (hJ0 : J pre W) (hz : B + 3 ≤ W.heap.size) (hu : usedC l p = true) (hc : c = 0) :
    CallsIn Fence.wide d Tryz.prog 71 #[.int .i64 p, .pointer (some ⟨bh, 0, none⟩), .pointer (some ⟨B + 1, 0, none⟩), .pointer (some ⟨B, 0, none⟩), .pointer (some ⟨bf, 0, none⟩), .pointer (some ⟨B + 1 + 1, 0, none⟩)] W
      (dnPost l key (m + 1) c p J Jx pre w0.heap.size W R n q keep bh bf B r) := by
  have HM := Lib.hid hM
  have HX := Lib.hid hx
  have HJ0 := Lib.hid hJ0
  have HZ := Lib.hid hz
  have HDC := Lib.hid D
  have HUS := Lib.hid (fun W1 (h1 : Ext W W1) => treeUsed_any R l n q keep p A C W1 D.hl D.hnl (D.hA.ext (hx.trans h1)))
  obtain ⟨p0, p1, p2⟩ := hM.h.bx.read2
  subst hc
  obtain ⟨k, hk, rfl, hrf⟩ := usedC_iff hu
  rw [show usedV l A C (k : Int) = .agg #[.bool l[k].leaf, .slice (A k) l[k].it.length (C k)] from by unfold usedV NV; rw [hu, cellT_at hk, Int.toNat_natCast]; rfl, hu] at HUS
  have HD := Lib.hid (dn_no (l := l) (key := key) (m := m) (c := 0) (p := (k : Int)) (.inr rfl))
  have HLT := Lib.hid (fun W1 (h1 : Ext W W1) => (hM.l.below h1).bx.at 0 _ rfl)
  have HLF := Lib.hid (fun W1 (h1 : Ext W W1) => (hM.l.below h1).lt)
  clear hM hx hJ0 hz hu D hrf
  generalize l[k] = x at *
  refine callsIn_of_wp Tryz.func71 rfl trivial ?_ rfl
  simp only [Tryz.ntmps71, List.size_toArray, List.length_cons, List.length_nil, Nat.reduceAdd, Nat.reduceSub, Array.replicate_succ, Array.replicate_zero, List.push_toArray, List.append_toArray, List.nil_append, List.cons_append]
  gi_wp2_with (refine ⟨trivial, ?_⟩; gi_at_call 72; refine stop_here ?_)
  refine stop_on ?_
  refine (callsIn_wide.2 (HUS.out _ (Ext.refl _))).mono ?_
  rintro e w1 ⟨rfl, hx1⟩
  have HXA := Lib.hid (hx1.alloc (.cells #[.bool x.leaf, .slice (A k) x.it.length (C k)] 51))
  have c0 := HLT.out _ HXA.out
  have c1 := HLT.out _ hx1
  have c2 := HLF.out _ hx1
  clear hx1
  gi_wp2
  refine ⟨nofun, ?_⟩
  gi_wp2
  go_ret
  refine .inl ⟨by rw [HD.out]; rfl, ?_, by rw [HD.out]; exact HM.out.ext HXA.out, Kw.ext _ HXA.out HX.out.size⟩
  rw [HD.out, List.append_nil]
  exact HDC.out.hJ _ _ _ HJ0.out (.ext HXA.out)
end Go.Proofs.YtbfbpddfcakieaaGreat
namespace Go.Proofs.YtbfbpddfcakieaaGreat
open Go.RowKit Go.Shelf
attribute [local go_sem] Oper.semAt_some

theorem Ext.thru {w0 W W' : World} (h : Ext w0 W) (k : Below w0.heap.size W W') : Ext w0 W' := Below.trans h k
theorem dnRow_head {f : Nat → Int → Dn} {c : Nat} {x : It} {r : List It} : (f c x.2).ys <+: (dnRow f c (x :: r)).ys := by
  unfold dnRow
  split
  · exact List.prefix_append _ _
  · exact List.prefix_rfl
theorem dnRow_on {f : Nat → Int → Dn} {c : Nat} {x : It} {r : List It} (h : (f c x.2).ok = true) : dnRow f c (x :: r) = ⟨(f c x.2).ys ++ (dnRow f (f c x.2).left r).ys, (dnRow f (f c x.2).left r).left, (dnRow f (f c x.2).left r).ok⟩ := by
  conv => lhs; unfold dnRow
  rw [if_pos h]
theorem dnRow_off {f : Nat → Int → Dn} {c : Nat} {x : It} {r : List It} (h : (f c x.2).ok = false) : dnRow f c (x :: r) = f c x.2 := by
  conv => lhs; unfold dnRow
  rw [if_neg (by rw [h]; simp)]
theorem prefix_same {α : Type} {a b c : List α} (h : b <+: c) : a ++ b <+: a ++ c := by
  obtain ⟨r, rfl⟩ := h
  exact ⟨r, by rw [List.append_assoc]⟩
theorem from_i {it : List It} (h : NdR it) (key : Int) : ∃ i : Nat, i < it.length ∧ atI false it key = (i : Int) ∧ fromT it false key = it.drop i := by
  obtain ⟨hi, _⟩ := at_low h key
  refine ⟨_, hi, ?_, rfl⟩
  cases hb : atB it key
  · rw [atI_not hb, Int.toNat_natCast]
  · rw [atI_yes hb, Int.toNat_natCast]
set_option maxRecDepth 100000 in
set_option maxHeartbeats 800000 in
theorem dn_c (l : List HC) (R : Option Addr) (n q : Nat) (keep key : Int) (A : Nat → Option Addr) (C : Nat → Nat) (bh bf B r : Nat) (w0 : World) (S : Nat → Prop) (L : List Int) (J Jx : List Int → World → Prop) (D : DnC l R n q keep key A C bh bf B r w0 S L J Jx) (m c : Nat) (p : Int) (pre : List Int) (d : Nat) (W : World) (hd : 1 ≤ d) (hx : Ext w0 W) (hM : MemN W R n q keep key bh bf B r c) (hJ0 : J pre W) (hz : B + 3 ≤ W.heap.size) (hcm : c < m + 1) (hc2 : c ≤ 2000) (hp : pre ++ (dn l key (m + 1) c p).ys <+: L) (hu : usedC l p = true) (hc : c ≠ 0) (ih : DnOk l R n q keep key bh bf B r w0 L J Jx m) :
    CallsIn Fence.wide d Tryz.prog 71 #[.int .i64 p, .pointer (some ⟨bh, 0, none⟩), .pointer (some ⟨B + 1, 0, none⟩), .pointer (some ⟨B, 0, none⟩), .pointer (some ⟨bf, 0, none⟩), .pointer (some ⟨B + 1 + 1, 0, none⟩)] W
      (dnPost l key (m + 1) c p J Jx pre w0.heap.size W R n q keep bh bf B r) := by
  have HM := Lib.hid hM
  have HX := Lib.hid hx
  have HJ0 := Lib.hid hJ0
  have HZ := Lib.hid hz
  have HDC := Lib.hid D
  have HUS := Lib.hid (fun W1 (h1 : Ext W W1) => treeUsed_any R l n q keep p A C W1 D.hl D.hnl (D.hA.ext (hx.trans h1)))
  obtain ⟨p0, p1, p2⟩ := hM.h.bx.read2
  obtain ⟨k, hk, rfl, hrf⟩ := usedC_iff hu
  have hnd := (cell_ok (D.hl k hk) hrf).1
  have HNV := Lib.hid (show NV l A C (k : Int) = .agg #[.bool l[k].leaf, .slice (A k) l[k].it.length (C k)] from by unfold NV; rw [cellT_at hk, Int.toNat_natCast])
  rw [show usedV l A C (k : Int) = .agg #[.bool l[k].leaf, .slice (A k) l[k].it.length (C k)] from by unfold usedV; rw [hu]; exact HNV.out, hu] at HUS
  have IH := Lib.hid ih
  obtain ⟨c1, rfl⟩ : ∃ c1, c = c1 + 1 := ⟨c - 1, by omega⟩
  have HDL := Lib.hid (fun h => dn_leaf (key := key) (m := m) (c := c1 + 1) hk hrf (by omega) h)
  have HDO := Lib.hid (fun h => dn_other (key := key) (m := m) (c := c1 + 1) hk hrf (by omega) h)
  have HPK := Lib.hid (show pre ++ [(k : Int)] <+: L from by
    cases hlf : l[k].leaf
    · rw [HDO.out hlf] at hp; exact prefix_mid (b := [(k : Int)]) hp
    · rw [HDL.out hlf] at hp; exact hp)
  obtain ⟨_, _, hRe, _, _, hI⟩ := D.hA k hk
  clear hRe
  have HS := Lib.hid hI
  have HAT := Lib.hid (fun W1 (h1 : Ext w0 W1) => nodeAt_any l[k].leaf (A k) l[k].it l[k].it.length (C k) key W1 rfl ((ndR_iff _).2 hnd) (hI.ext h1))
  have HND := Lib.hid hnd
  have HCH := Lib.hid (fun hlf => (cell_ok (D.hl k hk) hrf).2 hlf)
  have HCM := Lib.hid hcm
  have HPP := Lib.hid hp
  generalize l[k] = x at *
  obtain ⟨xr, xp, lf, it⟩ := x
  simp only at *
  have HLT := Lib.hid (fun W1 (h1 : Ext W W1) => (show W1.cell? ⟨B + 1, 0, none⟩ = some (.int .i64 ((c1 : Int) + 1)) from by have := (hM.l.below h1).bx.at 0 _ rfl; rw [this]; simp))
  have HLF := Lib.hid (fun W1 (h1 : Ext W W1) => (hM.l.below h1).lt)
  have HYT := Lib.hid (fun W1 (h1 : Ext W W1) => (hM.y.below h1).bx.at 0 _ rfl)
  have HYF := Lib.hid (fun W1 (h1 : Ext W W1) => (hM.y.below h1).lt)
  have hne : (((c1 : Int) + 1) == 0) = false := by rw [beq_eq_false_iff_ne]; omega
  clear hM hx hJ0 hz hp hu hnd hrf hI hcm D ih hc
  refine callsIn_of_wp Tryz.func71 rfl trivial ?_ rfl
  simp only [Tryz.ntmps71, List.size_toArray, List.length_cons, List.length_nil, Nat.reduceAdd, Nat.reduceSub, Array.replicate_succ, Array.replicate_zero, List.push_toArray, List.append_toArray, List.nil_append, List.cons_append]
  gi_wp2_with (refine ⟨trivial, ?_⟩; gi_at_call 72; refine stop_here ?_)
  refine stop_on ?_
  refine (callsIn_wide.2 (HUS.out _ (Ext.refl _))).mono ?_
  rintro e w1 ⟨rfl, hx1⟩
  have HXA := Lib.hid (hx1.alloc (.cells #[.bool lf, .slice (A k) it.length (C k)] 51))
  have HX1 := Lib.hid hx1
  have HBN := Lib.hid (Bt.new w1 #[.bool lf, .slice (A k) it.length (C k)] 51)
  have c0 := HLT.out _ HXA.out
  have c1' := HLT.out _ hx1
  have c2 := HLF.out _ hx1
  have y0 := HYT.out _ HXA.out
  have y1 := HYT.out _ hx1
  have y2 := HYF.out _ hx1
  obtain ⟨fn, tmps, assign, body, hy, hR⟩ := HDC.out.hY pre (k : Int) _ (d - 1) (HDC.out.hJ _ _ _ HJ0.out (.ext HXA.out)) (Nat.le_trans HZ.out HXA.out.size) HPK.out
  rw [HNV.out] at hy
  clear hx1
  skip -- HERE
  gi_wp2
  refine hR.mono ?_
  rintro e W3 ⟨hk3, (⟨rfl, hJ3⟩ | ⟨rfl, hJx3⟩)⟩
  rotate_left
  · gi_wp2
    go_ret
    refine .inr ⟨rfl, pre ++ [(k : Int)], ?_, hJx3⟩
    cases lf
    · rw [HDO.out rfl]; exact ⟨_, by simp only [List.append_assoc, List.singleton_append]; rfl⟩
    · rw [HDL.out rfl]; exact List.prefix_rfl
  obtain ⟨s1, s2, s3, s4, s5⟩ := HDC.out.s
  have hM3 := (HM.out.ext HXA.out).keep hk3 s1 s2 s3 s4 s5
  have HB3 := Lib.hid (hk3.typ _ _ _ (by decide) HBN.out)
  have l3 : W3.cell? ⟨B + 1, 0, none⟩ = some (.int .i64 ((c1 : Int) + 1)) := by have := hM3.l.bx.at 0 _ rfl; rw [this]; simp
  have f3 := hM3.l.bx.free 0
  have z3 := hM3.l.lt
  obtain ⟨W4, hW4⟩ : ∃ W4, W3.setCell ⟨B + 1, 0, none⟩ (.int .i64 c1) = W4 := ⟨_, rfl⟩
  have hw1 : B + 3 ≤ w1.heap.size := Nat.le_trans HZ.out HX1.out.size
  have HM4 := Lib.hid (show MemN W4 R n q keep key bh bf B r c1 from by rw [← hW4]; exact hM3.less HDC.out.hbh HDC.out.hbf c1)
  have HB4 := Lib.hid (show Bt W4 w1.heap.size 51 #[.bool lf, .slice (A k) it.length (C k)] from by rw [← hW4]; exact HB3.out.other (by show B + 1 ≠ w1.heap.size; omega) _)
  have HJ4 := Lib.hid (show J (pre ++ [(k : Int)]) W4 from by rw [← hW4]; exact HDC.out.hJ _ _ _ hJ3 (.set _ _ _ (by omega) (by omega)))
  have HK4 := Lib.hid (show Kw w0.heap.size noS W W4 from by
    rw [← hW4]
    exact ((Kw.ext _ HXA.out HX.out.size).trans (hk3.sub (fun _ h => h.elim))).trans (Kw.set hM3.l (by decide) id (by have := HDC.out.h0B; omega) _ _))
  have HX4 := Lib.hid (show Ext w0 W4 from HX.out.thru HK4.out.old)
  have HZ4 := Lib.hid (show B + 3 ≤ W4.heap.size from Nat.le_trans HZ.out HK4.out.old.size)
  obtain ⟨n0, n1, n2⟩ := HB4.out.bx.read2
  clear hk3 hJ3 hM3 s1 s2 s3 s4 s5 hw1
  cases lf
  rotate_left
  · have HD := Lib.hid (HDL.out rfl)
    clear HDL HDO
    gi_wp2
    go_ret
    refine .inl ⟨by rw [HD.out]; rfl, by rw [HD.out]; exact HJ4.out, by rw [HD.out]; exact HM4.out, HK4.out⟩
  have hD := HDO.out rfl
  rw [Nat.add_sub_cancel] at hD
  obtain ⟨i, hi, hai, hfr⟩ := from_i HND.out key
  rw [hfr] at hD
  have HD := Lib.hid hD
  have HCI := Lib.hid (HCH.out rfl)
  rw [hai] at HAT
  have g4 := HM4.out.f.bx.at 0 _ rfl
  have g5 := HM4.out.f.lt
  have hcap : it.length ≤ C k := HS.out.2.1
  have hil : i ≤ it.length := by omega
  have hic : i ≤ C k := by omega
  have h4 : it.length ≤ 4 := HND.out.1.2
  obtain ⟨A2, hA2⟩ : ∃ A2, (if C k = i then A k else (A k).map fun p => p.add (i * 2)) = A2 := ⟨_, rfl⟩
  clear HDL HDO HCH hD hfr hai hi
  gi_wp2_with (refine ⟨trivial, ?_⟩; gi_at_call 46; refine stop_here ?_)
  refine stop_on ?_
  refine (callsIn_wide.2 (HAT.out _ HX4.out)).mono ?_
  rintro e w5 ⟨rfl, hx5⟩
  have HX5 := Lib.hid hx5
  obtain ⟨n0, n1, n2⟩ := (HB4.out.below hx5).bx.read2
  clear hx5
  gi_wp2
  obtain ⟨T, hT⟩ : ∃ T, dnRow (dn l key m) c1 (it.drop i) = T := ⟨_, rfl⟩
  have hrl : (it.drop i).length = it.length - i := by rw [List.length_drop]
  have hS5 := HS.out.post rfl i hil
  rw [hA2] at hS5
  rw [hT] at HD
  generalize hnr : it.length - i = nr at *
  have HNR := Lib.hid (show nr ≤ 4 by omega)
  have HDI := Lib.hid (fun x (h : x ∈ it.drop i) => HCI.out x (List.mem_of_mem_drop h))
  clear HNV HAT HXA HBN HUS HLT HLF HYT HYF h4 hcap hic hil hnr hA2 HCI HB3 hne n0 n1 n2 g4 g5 c2 y2 p0 p1 p2 HS
  generalize it.drop i = rest at *
  have HS5 := Lib.hid hS5
  have HRL := Lib.hid hrl
  have HT := Lib.hid hT
  clear hS5 hrl hT
  gi_loopw [48] (fun v wr => ∃ (j c' : Nat) (pre' : List Int), j ≤ nr ∧ v = .int .i64 j ∧ c' ≤ c1 ∧ J pre' wr ∧ MemN wr R n q keep key bh bf B r c' ∧ Kw w0.heap.size noS w5 wr ∧
    (pre' ++ (dnRow (dn l key m) c' (rest.drop j)).ys = pre ++ ((k : Int) :: T.ys) ∧ (dnRow (dn l key m) c' (rest.drop j)).left = T.left ∧ (dnRow (dn l key m) c' (rest.drop j)).ok = T.ok)) (fun v _ => nr - (intOf v).toNat)
  case atStart => exact ⟨0, c1, pre ++ [(k : Int)], Nat.zero_le _, rfl, Nat.le_refl _, HDC.out.hJ _ _ _ HJ4.out (.ext HX5.out), HM4.out.ext HX5.out, Kw.refl _ _ _, by rw [List.drop_zero, HT.out, List.append_assoc]; rfl, by rw [List.drop_zero, HT.out], by rw [List.drop_zero, HT.out]⟩
  case round =>
    obtain ⟨j, c', pre', hj, rfl, hc', hJj, hMj, hkj, hys, hlf, hok⟩ := hrel
    have HX5j := Lib.hid (show Ext w0 wr from (HX4.out.trans HX5.out).thru hkj.old)
    have HKJ := Lib.hid hkj
    have HJJ := Lib.hid hJj
    have HMJ := Lib.hid hMj
    have HYS := Lib.hid hys
    have HLF := Lib.hid hlf
    have HOK := Lib.hid hok
    have HC' := Lib.hid hc'
    have HZJ := Lib.hid (show B + 3 ≤ wr.heap.size from Nat.le_trans HZ4.out (Nat.le_trans HX5.out.size hkj.old.size))
    clear hkj hJj hMj hys hlf hok hc'
    rcases Nat.lt_or_ge j nr with hlt | hlt
    rotate_left
    · obtain rfl : nr = j := by omega
      have hE : rest.drop nr = [] := List.drop_of_length_le (by rw [HRL.out]; exact Nat.le_refl _)
      rw [hE] at HYS HLF HOK
      clear hE hlt hj
      gi_wp2
      go_ret
      have h1 : pre' = pre ++ ((k : Int) :: T.ys) := by rw [← HYS.out]; simp [dnRow]
      have h2 : c' = T.left := HLF.out
      have h3 : true = T.ok := HOK.out
      refine .inl ⟨by rw [HD.out]; show Ending.returned (.bool true) = .returned (.bool T.ok); rw [← h3], by rw [HD.out]; show J (pre ++ ((k : Int) :: T.ys)) wr; rw [← h1]; exact HJJ.out, by rw [HD.out]; show MemN wr R n q keep key bh bf B r T.left; rw [← h2]; exact HMJ.out, (HK4.out.trans (Kw.ext _ HX5.out HX4.out.size)).trans HKJ.out⟩
    have hjl : j < rest.length := by rw [HRL.out]; exact hlt
    obtain ⟨ba, oa, rfl, hba, u0, u1⟩ := it_at HS5.out hjl
    have i0 := (HX5j.out.cell (p := ⟨ba, oa + j * 2, none⟩) hba).trans u0
    have i1 := (HX5j.out.cell (p := ⟨ba, oa + j * 2 + 1, none⟩) hba).trans u1
    have hdj : rest.drop j = rest[j] :: rest.drop (j + 1) := List.drop_eq_getElem_cons hjl
    rw [hdj] at HYS HLF HOK
    have hpos := HDI.out rest[j] (List.getElem_mem hjl)
    obtain ⟨x, hxe⟩ : ∃ x, rest[j] = x := ⟨_, rfl⟩
    rw [hxe] at i0 i1 HYS HLF HOK hpos
    clear u0 u1 hdj hxe hjl
    obtain ⟨xa, xb⟩ := x
    simp only at i0 i1 hpos
    have hji : (j : Int) < (nr : Int) := by omega
    have hn4 := HNR.out
    have HXB := Lib.hid ((Ext.refl wr).alloc (.cells #[.int .i64 xa, .int .i64 xb] 46))
    have hMB := HMJ.out.ext HXB.out
    have m1 := hMB.d.bx.at 0 _ rfl
    have m2 := hMB.d.lt
    have m3 := HMJ.out.d.bx.at 0 _ rfl
    have m4 := HMJ.out.d.lt
    have HPX := Lib.hid (show pre' ++ (dn l key m c' xb).ys <+: pre ++ ((k : Int) :: T.ys) from by rw [← HYS.out]; exact prefix_same (dnRow_head (f := dn l key m) (x := (xa, xb))))
    have HPL := Lib.hid (show pre ++ ((k : Int) :: T.ys) <+: L from by have := HPP.out; rw [HD.out] at this; exact this)
    have IHC := Lib.hid (fun n' => (callsIn_wide (n := n')).2 (callsIn_wide.1 (IH.out c' xb pre' 1 _ (Nat.le_refl _) (by have := HCM.out; have := HC'.out; omega) (by have := HC'.out; omega) (HX5j.out.trans HXB.out) hMB (HDC.out.hJ _ _ _ HJJ.out (.ext HXB.out)) (Nat.le_trans HZJ.out HXB.out.size) (HPX.out.trans HPL.out))))
    clear hMB hpos
    gi_wp2_with (refine ⟨trivial, ?_⟩; gi_at_call 71; refine stop_here ?_)
    refine stop_on ?_
    refine (IHC.out _).mono ?_
    rintro e W6 (⟨rfl, hJ6, hM6, hk6⟩ | ⟨rfl, u, hu, hJx⟩)
    rotate_left
    · gi_wp2
      go_ret
      refine .inr ⟨rfl, u, ?_, hJx⟩
      rw [HD.out]
      exact hu.trans HPX.out
    have HK6 := Lib.hid hk6
    have HM6 := Lib.hid hM6
    have HJ6 := Lib.hid hJ6
    have HON := Lib.hid (fun h => dnRow_on (f := dn l key m) (c := c') (x := (xa, xb)) (r := rest.drop (j + 1)) h)
    have HOF := Lib.hid (fun h => dnRow_off (f := dn l key m) (c := c') (x := (xa, xb)) (r := rest.drop (j + 1)) h)
    have HCN := Lib.hid (dn_count l key m c' xb)
    clear hk6 hM6 hJ6
    obtain ⟨o, ho⟩ : ∃ o, (dn l key m c' xb).ok = o := ⟨_, rfl⟩
    rw [ho]
    cases o
    · have h1 := HOF.out ho
      rw [h1] at HYS HLF HOK
      clear h1 HON HOF
      have HO := Lib.hid ho
      clear ho
      gi_wp2
      go_ret
      refine .inl ⟨?_, ?_, ?_, ((HK4.out.trans (Kw.ext _ HX5.out HX4.out.size)).trans HKJ.out).trans ((Kw.ext _ HXB.out HX5j.out.size).trans HK6.out)⟩
      · rw [HD.out]
        show Ending.returned (.bool false) = .returned (.bool T.ok)
        rw [← HOK.out]
        exact congrArg (fun b => Ending.returned (.bool b)) HO.out.symm
      · rw [HD.out]
        show J (pre ++ ((k : Int) :: T.ys)) W6
        rw [← HYS.out]
        exact HJ6.out
      · rw [HD.out]
        show MemN W6 R n q keep key bh bf B r T.left
        rw [← HLF.out]
        exact HM6.out
    · have h1 := HON.out ho
      rw [h1] at HYS HLF HOK
      clear h1 HON HOF ho
      gi_wp2
      go_roundw
      case rel => exact ⟨j + 1, (dn l key m c' xb).left, pre' ++ (dn l key m c' xb).ys, by omega, by go_num, by have := HCN.out; have := HC'.out; omega, HJ6.out, HM6.out, HKJ.out.trans ((Kw.ext _ HXB.out HX5j.out.size).trans HK6.out), by rw [List.append_assoc]; exact HYS.out, HLF.out, HOK.out⟩
      case measure => simp [intOf]; omega
theorem dn_all (l : List HC) (R : Option Addr) (n q : Nat) (keep key : Int) (A : Nat → Option Addr) (C : Nat → Nat) (bh bf B r : Nat) (w0 : World) (S : Nat → Prop) (L : List Int) (J Jx : List Int → World → Prop) (D : DnC l R n q keep key A C bh bf B r w0 S L J Jx) : ∀ m, DnOk l R n q keep key bh bf B r w0 L J Jx m
  | 0 => fun c _ _ _ _ _ h _ _ _ _ _ _ => absurd h (Nat.not_lt_zero c)
  | m + 1 => fun c p pre d W hd hcm hc2 hx hM hJ0 hz hp => by
    cases hu : usedC l p
    · exact dn_a l R n q keep key A C bh bf B r w0 S L J Jx D m c p pre d W hd hx hM hJ0 hz hu
    · by_cases hc : c = 0
      · exact dn_b l R n q keep key A C bh bf B r w0 S L J Jx D m c p pre d W hd hx hM hJ0 hz hu hc
      · exact dn_c l R n q keep key A C bh bf B r w0 S L J Jx D m c p pre d W hd hx hM hJ0 hz hcm hc2 hp hu hc (dn_all l R n q keep key A C bh bf B r w0 S L J Jx D m)
end Go.Proofs.YtbfbpddfcakieaaGreat
namespace Go.Proofs.YtbfbpddfcakieaaGreat
open Go.RowKit Go.Shelf
attribute [local go_sem] Oper.semAt_some

theorem run_store_func (P : Program) (w : World) (a : Addr) (m : Mode) (f : Fn) (x y : Array Value) : (store a (.func f x y) m).run P w = stored P w a (.func f x y) m := run_store P w a _ m rfl
attribute [local go_sem] run_store_func
theorem nodes_in (d : Nat) (R : Option Addr) (m q : Nat) (keep root key : Int) (w : World) :
    CallsIn Fence.wide d Tryz.prog 44 #[.agg #[.slice R m q, .int .i64 keep], .int .i64 root, .int .i64 key] w fun e w' =>
      e = .returned (.func (.func 70) #[] #[.pointer (some ⟨w.heap.size, 0, none⟩), .pointer (some ⟨w.heap.size + 1 + 1, 0, none⟩), .pointer (some ⟨w.heap.size + 1, 0, none⟩)]) ∧
      w' = ((w.alloc (.cells #[.slice R m q, .int .i64 keep] 24)).alloc (.cells #[.int .i64 root] 3)).alloc (.cells #[.int .i64 key] 3) := by
  refine callsIn_of_wp Tryz.func44 rfl trivial ?_ rfl
  simp only [Tryz.ntmps44, List.size_toArray, List.length_cons, List.length_nil, Nat.reduceAdd, Nat.reduceSub, Array.replicate_succ, Array.replicate_zero, List.push_toArray, List.append_toArray, List.nil_append, List.cons_append]
  gi_wp2
  go_ret
  exact ⟨rfl, rfl⟩
theorem items_in (d : Nat) (R : Option Addr) (m q : Nat) (keep root key : Int) (w : World) :
    CallsIn Fence.wide d Tryz.prog 42 #[.agg #[.slice R m q, .int .i64 keep], .int .i64 root, .int .i64 key] w fun e w' =>
      e = .returned (.func (.func 68) #[] #[.pointer (some ⟨w.heap.size, 0, none⟩), .pointer (some ⟨w.heap.size + 1, 0, none⟩), .pointer (some ⟨w.heap.size + 1 + 1, 0, none⟩)]) ∧
      w' = ((w.alloc (.cells #[.slice R m q, .int .i64 keep] 24)).alloc (.cells #[.int .i64 root] 3)).alloc (.cells #[.int .i64 key] 3) := by
  refine callsIn_of_wp Tryz.func42 rfl trivial ?_ rfl
  simp only [Tryz.ntmps42, List.size_toArray, List.length_cons, List.length_nil, Nat.reduceAdd, Nat.reduceSub, Array.replicate_succ, Array.replicate_zero, List.push_toArray, List.append_toArray, List.nil_append, List.cons_append]
  gi_wp2
  go_ret
  exact ⟨rfl, rfl⟩
/-- Two boxes, made one behind the other: the second one. -/
theorem bts2 {w W : World} {c0 c1 : Array Value} {t0 t1 : TypeId} (h : (w.alloc (.cells c0 t0)).alloc (.cells c1 t1) = W) : Ext w W ∧ W.heap.size = w.heap.size + 2 ∧ Bt W (w.heap.size + 1) t1 c1 := by
  subst h
  have b1 := Bt.new (w.alloc (.cells c0 t0)) c1 t1
  rw [World.size_alloc] at b1
  exact ⟨((Ext.refl w).alloc _).alloc _, by simp, b1⟩
/-- Three boxes, made one behind the other. -/
theorem bts3 {w W : World} {c0 c1 c2 : Array Value} {t0 t1 t2 : TypeId} (h : ((w.alloc (.cells c0 t0)).alloc (.cells c1 t1)).alloc (.cells c2 t2) = W) : Ext w W ∧ W.heap.size = w.heap.size + 3 ∧ Bt W w.heap.size t0 c0 ∧ Bt W (w.heap.size + 1) t1 c1 ∧ Bt W (w.heap.size + 1 + 1) t2 c2 := by
  subst h
  have b0 := Bt.new w c0 t0
  have b1 := Bt.new (w.alloc (.cells c0 t0)) c1 t1
  have b2 := Bt.new ((w.alloc (.cells c0 t0)).alloc (.cells c1 t1)) c2 t2
  simp only [World.size_alloc] at b1 b2
  have y := fun (X : World) o => (Ext.refl X).alloc o
  exact ⟨((y w _).alloc _).alloc _, by simp, (b0.below (y _ _)).below (y _ _), b1.below (y _ _), b2⟩
def encN (l : List HC) (A : Nat → Option Addr) (C : Nat → Nat) (p : Int) : Array Value := #[.int .i64 p, NV l A C p]
set_option maxRecDepth 100000 in
set_option maxHeartbeats 1600000 in
theorem nodes_seq (l : List HC) (hl : AllR l) (R : Option Addr) (n q : Nat) (keep root key : Int) (A : Nat → Option Addr) (C : Nat → Nat) (bh bf br : Nat) (w0 w : World) (hA : Lie w0 R l A C) (hnl : n = l.length) (hx0 : Ext w0 w)
    (hbh : Bt w bh 24 #[.slice R n q, .int .i64 keep]) (hbf : Bt w bf 3 #[.int .i64 key]) (hbr : Bt w br 3 #[.int .i64 root]) :
    SeqO Tryz.prog 70 #[.pointer (some ⟨bh, 0, none⟩), .pointer (some ⟨bf, 0, none⟩), .pointer (some ⟨br, 0, none⟩)] (encN l A C) w0.heap.size (fun k => k = bh ∨ k = bf ∨ k = br) 3 (nodesP l root key) w := by
  intro r J Jx W d hx hJ hJx hY h0
  refine (callsIn_wide (n := d)).2 (callsIn_wide.1 (?_ : CallsIn Fence.wide 3 _ _ _ _ _))
  obtain ⟨W2, hW2⟩ : ∃ W2, ((W.alloc (.cells #[.func (.yield r) #[] #[]] 106)).alloc (.cells #[.int .i64 2000] 3)).alloc (.cells #[.nilFunc] 107) = W2 := ⟨_, rfl⟩
  obtain ⟨hx2, hz2, t0, t1, t2⟩ := bts3 hW2
  have d0 := t2.bx.at 0 _ rfl
  have d1 := t2.bx.free 0
  have d2 := t2.lt
  obtain ⟨FV, hFV⟩ : ∃ FV, Value.func (.func 71) #[] #[.pointer (some ⟨bh, 0, none⟩), .pointer (some ⟨W.heap.size + 1, 0, none⟩), .pointer (some ⟨W.heap.size, 0, none⟩), .pointer (some ⟨bf, 0, none⟩), .pointer (some ⟨W.heap.size + 1 + 1, 0, none⟩)] = FV := ⟨_, rfl⟩
  have HX3 := Lib.hid (show Ext W (W2.setCell ⟨W.heap.size + 1 + 1, 0, none⟩ FV) from hx2.set (p := ⟨W.heap.size + 1 + 1, 0, none⟩) (by show W.heap.size ≤ W.heap.size + 1 + 1; omega) _)
  have HM := Lib.hid (show MemN (W2.setCell ⟨W.heap.size + 1 + 1, 0, none⟩ FV) R n q keep key bh bf W.heap.size r 2000 from by
    refine ⟨(hbh.below hx).below HX3.out, (hbf.below hx).below HX3.out, t0.other (by show W.heap.size + 1 + 1 ≠ W.heap.size; omega) _, t1.other (by show W.heap.size + 1 + 1 ≠ W.heap.size + 1; omega) _, ?_⟩
    rw [hFV]
    exact t2.set1 _)
  have c3 := ((hbr.below hx).below hx2).bx.at 0 _ rfl
  have c4 := ((hbr.below hx).below HX3.out).bx.at 0 _ rfl
  have c5 := ((hbr.below hx).below hx2).lt
  have D : DnC l R n q keep key A C bh bf W.heap.size r w0 (fun k => (k = bh ∨ k = bf ∨ k = br) ∨ (W.heap.size ≤ k ∧ k < W.heap.size + 3)) (nodesP l root key) J Jx :=
    ⟨hl, hA, hnl, (hx0.trans hx).size, (hbh.below hx).lt, (hbf.below hx).lt, ⟨.inl (.inl rfl), .inl (.inr (.inl rfl)), .inr ⟨Nat.le_refl _, by omega⟩, .inr ⟨by omega, by omega⟩, .inr ⟨by omega, by omega⟩⟩, hJ, hY⟩
  have IHC := Lib.hid (fun n' => (callsIn_wide (n := n')).2 (callsIn_wide.1 (dn_all l R n q keep key A C bh bf W.heap.size r w0 _ _ J Jx D 2001 2000 root [] 1 _ (Nat.le_refl _) (by omega) (Nat.le_refl _) ((hx0.trans hx).trans HX3.out) HM.out (hJ _ _ _ h0 (.ext HX3.out)) (by have := hz2; simp; omega) (List.prefix_rfl))))
  subst hFV
  clear hJ hJx hY h0 t0 t1 t2 hbh hbf hbr hx hx2 hz2 hA hnl HM D
  refine callsIn_of_wp Tryz.func70 rfl trivial ?_ rfl
  simp only [Tryz.ntmps70, List.size_toArray, List.length_cons, List.length_nil, Nat.reduceAdd, Nat.reduceSub, Array.replicate_succ, Array.replicate_zero, List.push_toArray, List.append_toArray, List.nil_append, List.cons_append]
  gi_wp2_with (refine ⟨trivial, ?_⟩; gi_at_call 71; refine stop_here ?_)
  refine stop_on ?_
  refine (IHC.out _).mono ?_
  rintro e W6 (⟨rfl, hJ6, hM6, hk6⟩ | ⟨rfl, u, hu, hJx⟩)
  · have HJ6 := Lib.hid hJ6
    clear hJ6 hM6 hk6
    gi_wp2
    go_end0
    exact ⟨⟨_, rfl⟩, .inl HJ6.out⟩
  · gi_wp2
    go_end0
    exact ⟨⟨_, rfl⟩, .inr ⟨u, hu, hJx⟩⟩
end Go.Proofs.YtbfbpddfcakieaaGreat
