/- The walk of the closure in nodes of package tree, that calls itself and yields. -/
import Derived.Test.YthlencnlgnbpaaaTreeK
import Derived.Test.YthlencnlgnbpaaaTreeJ
namespace Go.Proofs.Ythlencnlgnbpaaa
open Go.RowKit Go.Shelf
attribute [local go_sem] Oper.semAt_some

/-- The memory that the closure leans on. -/
structure MemN (W : World) (R : Option Addr) (n q : Nat) (keep key : Int) (bh bf B r c : Nat) : Prop where
  h : Bt W bh 24 #[.slice R n q, .int .i64 keep]
  f : Bt W bf 3 #[.int .i64 key]
  y : Bt W B 77 #[.func (.yield r) #[] #[]]
  l : Bt W (B + 1) 3 #[.int .i64 c]
  d : Bt W (B + 1 + 1) 78 #[.func (.func 40) #[] #[.pointer (some ⟨bh, 0, none⟩), .pointer (some ⟨B + 1, 0, none⟩), .pointer (some ⟨B, 0, none⟩), .pointer (some ⟨bf, 0, none⟩), .pointer (some ⟨B + 1 + 1, 0, none⟩)]]
theorem Bt.kept {W W' : World} {k : Nat} {t : TypeId} {cs : Array Value} (h : Bt W k t cs) {n₀ : Nat} {S : Nat → Prop} (hk : Kw n₀ S W W') (hS : S k) : Bt W' k t cs := (hk.same k hS h.lt).trans h
theorem MemN.keep {W W' : World} {R : Option Addr} {n q : Nat} {keep key : Int} {bh bf B r c : Nat} (h : MemN W R n q keep key bh bf B r c) {n₀ : Nat} {S : Nat → Prop} (hk : Kw n₀ S W W') (s1 : S bh) (s2 : S bf) (s3 : S B) (s4 : S (B + 1)) (s5 : S (B + 1 + 1)) : MemN W' R n q keep key bh bf B r c :=
  ⟨h.h.kept hk s1, h.f.kept hk s2, h.y.kept hk s3, h.l.kept hk s4, h.d.kept hk s5⟩
theorem MemN.ext {W W' : World} {R : Option Addr} {n q : Nat} {keep key : Int} {bh bf B r c : Nat} (h : MemN W R n q keep key bh bf B r c) (hx : Ext W W') : MemN W' R n q keep key bh bf B r c :=
  ⟨h.h.below hx, h.f.below hx, h.y.below hx, h.l.below hx, h.d.below hx⟩
theorem MemN.less {W : World} {R : Option Addr} {n q : Nat} {keep key : Int} {bh bf B r c : Nat} (h : MemN W R n q keep key bh bf B r c) (h1 : bh < B) (h2 : bf < B) (c' : Nat) : MemN (W.setCell ⟨B + 1, 0, none⟩ (.int .i64 c')) R n q keep key bh bf B r c' :=
  ⟨h.h.other (by show B + 1 ≠ bh; omega) _, h.f.other (by show B + 1 ≠ bf; omega) _, h.y.other (by show B + 1 ≠ B; omega) _, h.l.set1 _, h.d.other (by show B + 1 ≠ B + 1 + 1; omega) _⟩
def noS : Nat → Prop := fun _ => False
theorem prefix_app {α : Type} {a b c : List α} (h : a ++ b <+: c) : a <+: c := (List.prefix_append a b).trans h
theorem prefix_mid {α : Type} {a b c d : List α} (h : a ++ (b ++ c) <+: d) : a ++ b <+: d := by rw [← List.append_assoc] at h; exact prefix_app h
/-- What the closure hands back, and leaves. -/
def dnPost (l : List HC) (key : Int) (m c : Nat) (p : Int) (J Jx : List Int → World → Prop) (pre : List Int) (n₀ : Nat) (W : World) (R : Option Addr) (n q : Nat) (keep : Int) (bh bf B r : Nat) (e : Ending) (W' : World) : Prop :=
  (e = .returned (.bool (dn l key m c p).ok) ∧ J (pre ++ (dn l key m c p).ys) W' ∧ MemN W' R n q keep key bh bf B r (dn l key m c p).left ∧ Kw n₀ noS W W') ∨
  (e = .returned (.bool false) ∧ ∃ u, u <+: pre ++ (dn l key m c p).ys ∧ Jx u W')
theorem dn_no {l : List HC} {key : Int} {m c : Nat} {p : Int} (h : usedC l p = false ∨ c = 0) : dn l key (m + 1) c p = ⟨[], c, false⟩ := by
  unfold dn
  rw [if_neg]
  rcases h with h | h
  · rw [h]; simp
  · subst h; simp
theorem dn_leaf {l : List HC} {key : Int} {m c k : Nat} (hk : k < l.length) (h : 0 < l[k].ref) (hc : c ≠ 0) (hl : l[k].leaf = true) : dn l key (m + 1) c (k : Int) = ⟨[(k : Int)], c - 1, true⟩ := by
  unfold dn
  rw [cellT_at hk, usedC_at hk, decide_eq_true h, decide_eq_true hc, hl]
  rfl
theorem dn_other {l : List HC} {key : Int} {m c k : Nat} (hk : k < l.length) (h : 0 < l[k].ref) (hc : c ≠ 0) (hl : l[k].leaf = false) : dn l key (m + 1) c (k : Int) =
    ⟨(k : Int) :: (dnRow (dn l key m) (c - 1) (fromT l[k].it false key)).ys, (dnRow (dn l key m) (c - 1) (fromT l[k].it false key)).left, (dnRow (dn l key m) (c - 1) (fromT l[k].it false key)).ok⟩ := by
  conv => lhs; unfold dn
  rw [cellT_at hk, usedC_at hk, decide_eq_true h, decide_eq_true hc, hl]
  rfl
/-- Where the closure is walked: the heap's cells as they lay at first, the boxes, what a round keeps, and what is said of what was yielded. -/
structure DnC (l : List HC) (R : Option Addr) (n q : Nat) (keep key : Int) (A : Nat → Option Addr) (C : Nat → Nat) (bh bf B r : Nat) (w0 : World) (S : Nat → Prop) (L : List Int) (J Jx : List Int → World → Prop) : Prop where
  hl : AllR l
  hA : Lie w0 R l A C
  hnl : n = l.length
  h0B : w0.heap.size ≤ B
  hbh : bh < B
  hbf : bf < B
  s : S bh ∧ S bf ∧ S B ∧ S (B + 1) ∧ S (B + 1 + 1)
  hJ : Stays B 3 J
  hY : ∀ pre p W m, J pre W → B + 3 ≤ W.heap.size → pre ++ [p] <+: L → YieldAt Fence.wide m Try.prog r #[.int .i64 p, NV l A C p] W fun e W' => Kw w0.heap.size S W W' ∧
      ((e = .returned (.bool true) ∧ J (pre ++ [p]) W') ∨ (e = .returned (.bool false) ∧ Jx (pre ++ [p]) W'))
def DnOk (l : List HC) (R : Option Addr) (n q : Nat) (keep key : Int) (bh bf B r : Nat) (w0 : World) (L : List Int) (J Jx : List Int → World → Prop) (m : Nat) : Prop :=
  ∀ (c : Nat) (p : Int) (pre : List Int) (d : Nat) (W : World), 1 ≤ d → c < m → c ≤ 2000 → Ext w0 W → MemN W R n q keep key bh bf B r c → J pre W → B + 3 ≤ W.heap.size → pre ++ (dn l key m c p).ys <+: L →
    CallsIn Fence.wide d Try.prog 40 #[.int .i64 p, .pointer (some ⟨bh, 0, none⟩), .pointer (some ⟨B + 1, 0, none⟩), .pointer (some ⟨B, 0, none⟩), .pointer (some ⟨bf, 0, none⟩), .pointer (some ⟨B + 1 + 1, 0, none⟩)] W
      (dnPost l key m c p J Jx pre w0.heap.size W R n q keep bh bf B r)
set_option maxRecDepth 100000 in
set_option maxHeartbeats 800000 in
theorem dn_a (l : List HC) (R : Option Addr) (n q : Nat) (keep key : Int) (A : Nat → Option Addr) (C : Nat → Nat) (bh bf B r : Nat) (w0 : World) (S : Nat → Prop) (L : List Int) (J Jx : List Int → World → Prop) (D : DnC l R n q keep key A C bh bf B r w0 S L J Jx) (m c : Nat) (p : Int) (pre : List Int) (d : Nat) (W : World) (hd : 1 ≤ d) (hx : Ext w0 W) (hM : MemN W R n q keep key bh bf B r c) (hJ0 : J pre W) (hz : B + 3 ≤ W.heap.size) (hu : usedC l p = false) :
    CallsIn Fence.wide d Try.prog 40 #[.int .i64 p, .pointer (some ⟨bh, 0, none⟩), .pointer (some ⟨B + 1, 0, none⟩), .pointer (some ⟨B, 0, none⟩), .pointer (some ⟨bf, 0, none⟩), .pointer (some ⟨B + 1 + 1, 0, none⟩)] W
      (dnPost l key (m + 1) c p J Jx pre w0.heap.size W R n q keep bh bf B r) := by
  have HM := Lib.hid hM
  have HX := Lib.hid hx
  have HJ0 := Lib.hid hJ0
  have HZ := Lib.hid hz
  have HDC := Lib.hid D
  have HUS := Lib.hid (fun W1 (h1 : Ext W W1) => treeUsed_any R l n q keep p A C W1 D.hl D.hnl (D.hA.ext (hx.trans h1)))
  obtain ⟨p0, p1, p2⟩ := hM.h.bx.read2
  rw [show usedV l A C p = .agg #[.bool false, .slice none 0 0] from by unfold usedV; rw [hu]; rfl, hu] at HUS
  have HD := Lib.hid (dn_no (l := l) (key := key) (m := m) (c := c) (p := p) (.inl hu))
  clear hM hx hJ0 hz hu D
  refine callsIn_of_wp Try.func40 rfl trivial ?_ rfl
  simp only [Try.ntmps40, List.size_toArray, List.length_cons, List.length_nil, Nat.reduceAdd, Nat.reduceSub, Array.replicate_succ, Array.replicate_zero, List.push_toArray, List.append_toArray, List.nil_append, List.cons_append]
  gi_wp2_with (refine ⟨trivial, ?_⟩; gi_at_call 32; refine stop_here ?_)
  refine stop_on ?_
  refine (callsIn_wide.2 (HUS.out _ (Ext.refl _))).mono ?_
  rintro e w1 ⟨rfl, hx1⟩
  have HX1 := Lib.hid hx1
  clear hx1
  gi_wp2
  refine ⟨nofun, ?_⟩
  gi_wp2
  go_ret
  have hxa := HX1.out.alloc (.cells #[.bool false, .slice none 0 0] 53)
  refine .inl ⟨by rw [HD.out]; rfl, ?_, by rw [HD.out]; exact HM.out.ext hxa, Kw.ext _ hxa HX.out.size⟩
  rw [HD.out, List.append_nil]
  exact HDC.out.hJ _ _ _ HJ0.out (.ext hxa)
set_option maxRecDepth 100000 in
set_option maxHeartbeats 800000 in
theorem dn_b (l : List HC) (R : Option Addr) (n q : Nat) (keep key : Int) (A : Nat → Option Addr) (C : Nat → Nat) (bh bf B r : Nat) (w0 : World) (S : Nat → Prop) (L : List Int) (J Jx : List Int → World → Prop) (D : DnC l R n q keep key A C bh bf B r w0 S L J Jx) (m c : Nat) (p : Int) (pre : List Int) (d : Nat) (W : World) (hd : 1 ≤ d) (hx : Ext w0 W) (hM : MemN W R n q keep key bh bf B r c) (hJ0 : J pre W) (hz : B + 3 ≤ W.heap.size) (hu : usedC l p = true) (hc : c = 0) :
    CallsIn Fence.wide d Try.prog 40 #[.int .i64 p, .pointer (some ⟨bh, 0, none⟩), .pointer (some ⟨B + 1, 0, none⟩), .pointer (some ⟨B, 0, none⟩), .pointer (some ⟨bf, 0, none⟩), .pointer (some ⟨B + 1 + 1, 0, none⟩)] W
      (dnPost l key (m + 1) c p J Jx pre w0.heap.size W R n q keep bh bf B r) := by
  have HM := Lib.hid hM
  have HX := Lib.hid hx
  have HJ0 := Lib.hid hJ0
  have HZ := Lib.hid hz
  have HDC := Lib.hid D
  have HUS := Lib.hid (fun W1 (h1 : Ext W W1) => treeUsed_any R l n q keep p A C W1 D.hl D.hnl (D.hA.ext (hx.trans h1)))
  obtain ⟨p0, p1, p2⟩ := hM.h.bx.read2
  subst hc
  obtain ⟨k, hk, rfl, hrf⟩ := usedC_iff hu
  rw [show usedV l A C (k : Int) = .agg #[.bool l[k].leaf, .slice (A k) l[k].it.length (C k)] from by unfold usedV NV; rw [hu, cellT_at hk, Int.toNat_natCast]; rfl, hu] at HUS
  have HD := Lib.hid (dn_no (l := l) (key := key) (m := m) (c := 0) (p := (k : Int)) (.inr rfl))
  have HLT := Lib.hid (fun W1 (h1 : Ext W W1) => (hM.l.below h1).bx.at 0 _ rfl)
  have HLF := Lib.hid (fun W1 (h1 : Ext W W1) => (hM.l.below h1).lt)
  clear hM hx hJ0 hz hu D hrf
  generalize l[k] = x at *
  refine callsIn_of_wp Try.func40 rfl trivial ?_ rfl
  simp only [Try.ntmps40, List.size_toArray, List.length_cons, List.length_nil, Nat.reduceAdd, Nat.reduceSub, Array.replicate_succ, Array.replicate_zero, List.push_toArray, List.append_toArray, List.nil_append, List.cons_append]
  gi_wp2_with (refine ⟨trivial, ?_⟩; gi_at_call 32; refine stop_here ?_)
  refine stop_on ?_
  refine (callsIn_wide.2 (HUS.out _ (Ext.refl _))).mono ?_
  rintro e w1 ⟨rfl, hx1⟩
  have HXA := Lib.hid (hx1.alloc (.cells #[.bool x.leaf, .slice (A k) x.it.length (C k)] 53))
  have c0 := HLT.out _ HXA.out
  have c1 := HLT.out _ hx1
  have c2 := HLF.out _ hx1
  clear hx1
  gi_wp2
  refine ⟨nofun, ?_⟩
  gi_wp2
  go_ret
  refine .inl ⟨by rw [HD.out]; rfl, ?_, by rw [HD.out]; exact HM.out.ext HXA.out, Kw.ext _ HXA.out HX.out.size⟩
  rw [HD.out, List.append_nil]
  exact HDC.out.hJ _ _ _ HJ0.out (.ext HXA.out)
end Go.Proofs.Ythlencnlgnbpaaa
