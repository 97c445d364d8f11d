/- The walk of CleanBound, where package clean answers as it should, and there are not too many roots. -/
import Derived.Test.YtlbhcakjcklmgaaK25
import Derived.Deep.AppendLies
import Derived.Deep.RegionHeld3
import Derived.Deep.DeepCutAuto
import Derived.Deep.DrawnRows
import Derived.RegionTactic
namespace Go.Proofs.Ytlbhcakjcklmgaa
open Go.RowKit
attribute [local go_sem ↓] Go.wp_at_zero Go.wp_at_succ

/-- append in a region that draws, where its guard is met. -/
theorem step_app_g {P : Program} {w : World} {ops : Array Oper} {o : Oper} {a : Act} {K : Act → World → Prop} {Q : Exit → Act → World → Prop} {E : Prop} (hw : Region.wanted o (yielded ops a.tmps) = true) (s x : Operand) (t : TypeId)
    (ho : o.op = .call { callee := .builtin .append, args := #[s, x], argTypes := #[t, t] })
    (base : Nat) (e : TypeId) (z : Value) (size bytes : Nat) (ht : P.underlying t = some (.slice e)) (hinfo : (P.info? e).map (fun i => (i.zero, i.size, i.bytes)) = some (some z, size, bytes)) (hzs : z.cells.size = size) (hsz : 0 < size)
    (v : Value) (n : Nat) (xs : List Value) (hs : a.eval s = v) (hown : w.ownsRow base e size v n xs)
    (A : Option Addr) (m c : Nat) (news : List Value) (hx : a.eval x = .slice A m c) (hl : news.length = m * size) (hS : Sl w A m c news) (h1 : ∀ u ∈ news, u.oneCell' = true)
    (h63 : n + m ≤ maxLen) (hbytes : (n + m) * bytes ≤ 140737488355328) (hbase : base ≤ w.heap.size)
    (h : ∀ A' c' w', w'.ownsRow base e size (.slice A' (n + m) c') (n + m) (xs ++ news) → w.grownBy w' v.ownBlock → K (a.put o.dst (.slice A' (n + m) c')) w') :
    if Region.wanted o (yielded ops a.tmps) = true then Oper.wp P o a w K Q else E := by
  rw [if_pos hw]
  obtain ⟨i, hi, hz, hsize, hby⟩ := info_parts hinfo
  cases A with
  | some ad =>
    refine wp_append_own w s x t ho base e i z size bytes ht hi hz hsize hby hzs hsz v n xs hs hown ad m c news hx hl (hS.cells.at_ ad rfl) h1 h63 hbytes hbase ?_
    intro v' w' h2 h3 _
    obtain ⟨A', c', rfl⟩ := own_shape h2
    exact h A' c' w' h2 h3
  | none =>
    have h0 := hS.cells.len_none rfl
    rw [hl] at h0
    obtain rfl : m = 0 := by rcases Nat.mul_eq_zero.1 h0 with h | h <;> omega
    obtain rfl := hS.1 rfl
    obtain rfl : news = [] := List.eq_nil_of_length_eq_zero (by simpa using hl)
    have hrun := run_append_owned_none (P := P) w base t o.type e i size ht hi v n xs hown
    obtain ⟨A', c', rfl⟩ := own_shape hown
    unfold Oper.wp
    simp [execOp, ho, resolve, invoke, builtin, hs, hx, hrun, Result.andThen]
    exact h A' c' w (by simpa using hown) (World.grownBy.refl _ _)
/-- A list of one, written out at g. -/
theorem sl_at {w w' : World} {g e : Nat} {u : Value} (hx : Ext (w.alloc (.cells #[u] e)) w') (hg : w.heap.size = g) : Sl w' (some ⟨g, 0, none⟩) 1 1 [u] := by
  subst hg
  exact (sl_lit w e 1 [u] (by unfold maxLen; omega)).ext hx
theorem own_at {w w' : World} {g B e : Nat} (hx : Ext (w.alloc (.cells #[] e)) w') (hg : w.heap.size = g) (hB : B ≤ g) : w'.ownsRow B e 1 (.slice (some ⟨g, 0, none⟩) 0 0) 0 [] := by
  subst hg
  exact own_ext (own_base (own_empty w e 1) hB) hx
theorem one_grown {w1 w5 : World} {row : Option Nat} {g k : Nat} {u : Value} (S : Sl w1 (some ⟨g, 0, none⟩) 1 1 [u]) (hg : w1.grownBy w5 row) (hr : row = some k) (hk : k ≠ g) : Sl w5 (some ⟨g, 0, none⟩) 1 1 [u] :=
  S.grown hg (fun _ p e1 e2 => by cases e1; rw [hr] at e2; exact hk (Option.some.inj e2))
attribute [local go_sem] beq_self_eq_true bne_self_eq_false
set_option maxRecDepth 100000 in
set_option maxHeartbeats 4000000 in
theorem cbound_low (G : CleanOk) (R : Option Addr) (l : List HC) (n q : Nat) (keep : Int) (A : Option Addr) (rs : List Int) (m c : Nat) (root : Int) (w : World) (hA : HcSl w R n q l) (hB : Sl w A m c (rs.map iv)) (hmr : m = rs.length) (_hm6 : m ≤ 17592186043904) (h : root < 0) :
    Calls Try.prog 3 #[.agg #[.slice R n q, .int .i64 keep], .slice A m c, .int .i64 root] w fun e w' => e = .returned (.bool true) ∧ Ext w w' := by
  have A_1 := Lib.hid (hA)
  have RS_2 := Lib.hid (hB)
  have X_3 := Lib.hid (Ext.refl w)
  have HG := Lib.hid G
  have HMR := Lib.hid hmr
  clear hA hB G hmr
  have d0 : decide (root < 0) = true := decide_eq_true h
  clear h
  go_enter Try.func3, Try.ntmps3
  go_wp2_with (go_at_call 5; refine stop_here ?_)
  refine stop_on ?_
  generalize hW : (World.alloc w _) = W4
  obtain ⟨hx, hb0⟩ := allocs1 hW
  clear hW
  have A_5 := Lib.hid (A_1.out.ext hx)
  have RS_5 := Lib.hid (RS_2.out.ext hx)
  have X_5 := Lib.hid (X_3.out.ext hx)
  clear A_1 RS_2 X_3
  have h_6 := Lib.hid hb0
  clear hx hb0
  refine (HG.out.shown _).mono ?_
  rintro e w7 ⟨rfl, hx⟩
  have A_8 := Lib.hid (A_5.out.ext hx)
  have RS_8 := Lib.hid (RS_5.out.ext hx)
  have X_8 := Lib.hid (X_5.out.ext hx)
  have h_8 := Lib.hid (h_6.out.ext hx)
  clear A_5 RS_5 X_5 h_6
  clear hx
  have qh0 : w7.cell? ⟨w.heap.size, 0, none⟩ = some (.slice R n q) := h_8.out.at 0 _ rfl
  have qh1 : w7.cell? ⟨w.heap.size, 1, none⟩ = some (.int .i64 keep) := h_8.out.at 1 _ rfl
  have zh := h_8.out.lt
  go_wp2_with fail
  go_quiet (fail)
  go_wp2_with fail
  go_ret
  exact ⟨rfl, X_8.out.drewN _⟩
set_option maxRecDepth 100000 in
set_option maxHeartbeats 4000000 in
theorem cbound_not (G : CleanOk) (R : Option Addr) (l : List HC) (n q : Nat) (keep : Int) (A : Option Addr) (rs : List Int) (m c : Nat) (root : Int) (w : World) (hA : HcSl w R n q l) (hB : Sl w A m c (rs.map iv)) (hmr : m = rs.length) (hm6 : m ≤ 17592186043904) (h : 0 ≤ root) (hf : fineS ⟨l, keep⟩ (rs ++ [root]) 40 = false) :
    Calls Try.prog 3 #[.agg #[.slice R n q, .int .i64 keep], .slice A m c, .int .i64 root] w fun e w' => e = .returned (.bool true) ∧ Ext w w' := by
  have A_9 := Lib.hid (hA)
  have RS_10 := Lib.hid (hB)
  have X_11 := Lib.hid (Ext.refl w)
  have HG := Lib.hid G
  have HMR := Lib.hid hmr
  clear hA hB G hmr
  have d0 : decide (root < 0) = false := decide_eq_false (by omega)
  have HF := Lib.hid hf
  clear h hf
  go_enter Try.func3, Try.ntmps3
  go_wp2_with (go_at_call 5; refine stop_here ?_)
  refine stop_on ?_
  generalize hW : (World.alloc w _) = W12
  obtain ⟨hx, hb0⟩ := allocs1 hW
  clear hW
  have A_13 := Lib.hid (A_9.out.ext hx)
  have RS_13 := Lib.hid (RS_10.out.ext hx)
  have X_13 := Lib.hid (X_11.out.ext hx)
  clear A_9 RS_10 X_11
  have h_14 := Lib.hid hb0
  clear hx hb0
  refine (HG.out.shown _).mono ?_
  rintro e w15 ⟨rfl, hx⟩
  have A_16 := Lib.hid (A_13.out.ext hx)
  have RS_16 := Lib.hid (RS_13.out.ext hx)
  have X_16 := Lib.hid (X_13.out.ext hx)
  have h_16 := Lib.hid (h_14.out.ext hx)
  clear A_13 RS_13 X_13 h_14
  clear hx
  have qh0 : w15.cell? ⟨w.heap.size, 0, none⟩ = some (.slice R n q) := h_16.out.at 0 _ rfl
  have qh1 : w15.cell? ⟨w.heap.size, 1, none⟩ = some (.int .i64 keep) := h_16.out.at 1 _ rfl
  have zh := h_16.out.lt
  have GF := Lib.hid (fun w' A c (hx : Ext w15 w') (hR : Sl w' A (m + 1) c ((rs ++ [root]).map iv)) => cFine_is (rs ++ [root]) A c (m + 1) 40 (by rw [HMR.out, List.length_append]; rfl) HF.out (A_16.out.ext hx) hR)
  go_wp2_with fail
  go_cut [25] from 13 to 24 (fun v wx => v = .bool true ∧ Ext w15 wx)
  case first =>
    go_region_law
      (first
        | ((refine step_app_g ?_ ?_ ?_ 25 ?_ w15.heap.size 3 (.int .i64 0) 1 8 Try.underlying25 infoI1 rfl Nat.one_pos ?_ 0 [] ?_ ?_ A m c (rs.map iv) ?_ ?_ ?_ (iv_one rs) ?_ ?_ ?_ ?_
            (first | rfl | (simp [Region.wanted]; done))
            rotate_left 2
            rfl
            rotate_left 1
            rfl
            (exact own_at (by ((repeat (first | exact Ext.refl _ | exact X6.out | exact X5.out | with_reducible refine Ext.drew ?_ | with_reducible refine Ext.alloc ?_ _)); done)) (by simp) (by simp))
            rfl
            (rw [List.length_map, HMR.out, Nat.mul_one])
            (exact RS_16.out.ext (by ((repeat (first | exact Ext.refl _ | exact X6.out | exact X5.out | with_reducible refine Ext.drew ?_ | with_reducible refine Ext.alloc ?_ _)); done)))
            (unfold maxLen; omega)
            omega
            focus (first | (simp; done) | (simp; omega))
            intro A5 c5 w5 hown hg
            rw [Nat.zero_add, List.nil_append] at hown
            rw [Nat.zero_add]
            have S5 := Lib.hid (show Sl w5 (some ⟨w15.heap.size + 1, 0, none⟩) 1 1 [iv root] from by exact one_grown (k := w15.heap.size) (sl_at (by ((repeat (first | exact Ext.refl _ | exact X6.out | exact X5.out | with_reducible refine Ext.drew ?_ | with_reducible refine Ext.alloc ?_ _)); done)) (by simp)) hg rfl (by omega))
            have X5 := Lib.hid (show Ext w15 w5 from by exact Ext.row' (by ((repeat (first | exact Ext.refl _ | exact X6.out | exact X5.out | with_reducible refine Ext.drew ?_ | with_reducible refine Ext.alloc ?_ _)); done)) hg (by simp))
            have O5 := Lib.hid hown
            have z5 := Nat.lt_of_lt_of_le zh X5.out.size
            have p5 := (h_16.out.ext X5.out).at 0 _ rfl
            have p6 := (h_16.out.ext X5.out).at 1 _ rfl
            clear hown hg))
        | ((refine step_app_g ?_ ?_ ?_ 25 ?_ w15.heap.size 3 (.int .i64 0) 1 8 Try.underlying25 infoI1 rfl Nat.one_pos ?_ 0 [] ?_ ?_ A m c (rs.map iv) ?_ ?_ ?_ (iv_one rs) ?_ ?_ ?_ ?_
            (first | rfl | (simp [Region.wanted]; done))
            rotate_left 2
            rfl
            rotate_left 1
            rfl
            (exact own_at (by ((repeat (first | exact Ext.refl _ | exact X6.out | exact X5.out | with_reducible refine Ext.drew ?_ | with_reducible refine Ext.alloc ?_ _)); done)) (by simp) (by simp))
            rfl
            (rw [List.length_map, HMR.out, Nat.mul_one])
            (exact RS_16.out.ext (by ((repeat (first | exact Ext.refl _ | exact X6.out | exact X5.out | with_reducible refine Ext.drew ?_ | with_reducible refine Ext.alloc ?_ _)); done)))
            (unfold maxLen; omega)
            omega
            focus (first | (simp; done) | (simp; omega))
            intro A5 c5 w5 hown hg
            rw [Nat.zero_add, List.nil_append] at hown
            rw [Nat.zero_add]
            have S5 := Lib.hid (show Sl w5 (some ⟨w15.heap.size, 0, none⟩) 1 1 [iv root] from by exact one_grown (k := w15.heap.size + 1) (sl_at (by ((repeat (first | exact Ext.refl _ | exact X6.out | exact X5.out | with_reducible refine Ext.drew ?_ | with_reducible refine Ext.alloc ?_ _)); done)) (by simp)) hg rfl (by omega))
            have X5 := Lib.hid (show Ext w15 w5 from by exact Ext.row' (by ((repeat (first | exact Ext.refl _ | exact X6.out | exact X5.out | with_reducible refine Ext.drew ?_ | with_reducible refine Ext.alloc ?_ _)); done)) hg (by simp))
            have O5 := Lib.hid hown
            have z5 := Nat.lt_of_lt_of_le zh X5.out.size
            have p5 := (h_16.out.ext X5.out).at 0 _ rfl
            have p6 := (h_16.out.ext X5.out).at 1 _ rfl
            clear hown hg))
        | ((refine step_app_g ?_ ?_ ?_ 25 ?_ w15.heap.size 3 (.int .i64 0) 1 8 Try.underlying25 infoI1 rfl Nat.one_pos ?_ 0 [] ?_ ?_ A m c (rs.map iv) ?_ ?_ ?_ (iv_one rs) ?_ ?_ ?_ ?_
            (first | rfl | (simp [Region.wanted]; done))
            rotate_left 2
            rfl
            rotate_left 1
            rfl
            (exact own_at (by ((repeat (first | exact Ext.refl _ | exact X6.out | exact X5.out | with_reducible refine Ext.drew ?_ | with_reducible refine Ext.alloc ?_ _)); done)) (by simp) (by simp))
            rfl
            (rw [List.length_map, HMR.out, Nat.mul_one])
            (exact RS_16.out.ext (by ((repeat (first | exact Ext.refl _ | exact X6.out | exact X5.out | with_reducible refine Ext.drew ?_ | with_reducible refine Ext.alloc ?_ _)); done)))
            (unfold maxLen; omega)
            omega
            focus (first | (simp; done) | (simp; omega))
            intro A5 c5 w5 hown hg
            rw [Nat.zero_add, List.nil_append] at hown
            rw [Nat.zero_add]
            have S5 := Lib.hid (trivial)
            have X5 := Lib.hid (show Ext w15 w5 from by exact Ext.row' (by ((repeat (first | exact Ext.refl _ | exact X6.out | exact X5.out | with_reducible refine Ext.drew ?_ | with_reducible refine Ext.alloc ?_ _)); done)) hg (by simp))
            have O5 := Lib.hid hown
            have z5 := Nat.lt_of_lt_of_le zh X5.out.size
            have p5 := (h_16.out.ext X5.out).at 0 _ rfl
            have p6 := (h_16.out.ext X5.out).at 1 _ rfl
            clear hown hg))
        | ((refine step_app_g ?_ ?_ ?_ 25 ?_ w15.heap.size 3 (.int .i64 0) 1 8 Try.underlying25 infoI1 rfl Nat.one_pos ?_ m (rs.map iv) ?_ ?_ (some ⟨w15.heap.size + 1, 0, none⟩) 1 1 [iv root] ?_ ?_ ?_ (iv_one [root]) ?_ ?_ ?_ ?_
            (first | rfl | (simp [Region.wanted]; done))
            rotate_left 2
            rfl
            rotate_left 1
            rfl
            (first | exact O5.out | exact own_ext O5.out (by ((repeat (first | exact Ext.refl _ | exact X6.out | exact X5.out | with_reducible refine Ext.drew ?_ | with_reducible refine Ext.alloc ?_ _)); done)))
            rfl
            rfl
            (first | exact S5.out | exact S5.out.ext (by ((repeat (first | exact Ext.refl _ | exact X6.out | exact X5.out | with_reducible refine Ext.drew ?_ | with_reducible refine Ext.alloc ?_ _)); done)))
            (unfold maxLen; omega)
            omega
            (exact Nat.le_trans X5.out.size (by simp))
            intro A6 c6 w6 hown hg
            have X6 := Lib.hid (show Ext w15 w6 from by exact Ext.app (B := w15.heap.size) (by ((repeat (first | exact Ext.refl _ | exact X6.out | exact X5.out | with_reducible refine Ext.drew ?_ | with_reducible refine Ext.alloc ?_ _)); done)) (show World.ownsRow _ w15.heap.size 3 1 _ m (rs.map iv) from by (first | exact O5.out | exact own_ext O5.out (by ((repeat (first | exact Ext.refl _ | exact X6.out | exact X5.out | with_reducible refine Ext.drew ?_ | with_reducible refine Ext.alloc ?_ _)); done)))) (Nat.le_refl _) hg)
            have R6 := Lib.hid (show Sl w6 A6 (m + 1) c6 ((rs ++ [root]).map iv) from by rw [List.map_append]; exact own_sl hown)
            have z6 := Nat.lt_of_lt_of_le zh X6.out.size
            have p5 := (h_16.out.ext X6.out).at 0 _ rfl
            have p6 := (h_16.out.ext X6.out).at 1 _ rfl
            clear hown hg))
        | ((refine step_app_g ?_ ?_ ?_ 25 ?_ w15.heap.size 3 (.int .i64 0) 1 8 Try.underlying25 infoI1 rfl Nat.one_pos ?_ m (rs.map iv) ?_ ?_ (some ⟨w15.heap.size, 0, none⟩) 1 1 [iv root] ?_ ?_ ?_ (iv_one [root]) ?_ ?_ ?_ ?_
            (first | rfl | (simp [Region.wanted]; done))
            rotate_left 2
            rfl
            rotate_left 1
            rfl
            (first | exact O5.out | exact own_ext O5.out (by ((repeat (first | exact Ext.refl _ | exact X6.out | exact X5.out | with_reducible refine Ext.drew ?_ | with_reducible refine Ext.alloc ?_ _)); done)))
            rfl
            rfl
            (first | exact S5.out | exact S5.out.ext (by ((repeat (first | exact Ext.refl _ | exact X6.out | exact X5.out | with_reducible refine Ext.drew ?_ | with_reducible refine Ext.alloc ?_ _)); done)))
            (unfold maxLen; omega)
            omega
            (exact Nat.le_trans X5.out.size (by simp))
            intro A6 c6 w6 hown hg
            have X6 := Lib.hid (show Ext w15 w6 from by exact Ext.app (B := w15.heap.size) (by ((repeat (first | exact Ext.refl _ | exact X6.out | exact X5.out | with_reducible refine Ext.drew ?_ | with_reducible refine Ext.alloc ?_ _)); done)) (show World.ownsRow _ w15.heap.size 3 1 _ m (rs.map iv) from by (first | exact O5.out | exact own_ext O5.out (by ((repeat (first | exact Ext.refl _ | exact X6.out | exact X5.out | with_reducible refine Ext.drew ?_ | with_reducible refine Ext.alloc ?_ _)); done)))) (Nat.le_refl _) hg)
            have R6 := Lib.hid (show Sl w6 A6 (m + 1) c6 ((rs ++ [root]).map iv) from by rw [List.map_append]; exact own_sl hown)
            have z6 := Nat.lt_of_lt_of_le zh X6.out.size
            have p5 := (h_16.out.ext X6.out).at 0 _ rfl
            have p6 := (h_16.out.ext X6.out).at 1 _ rfl
            clear hown hg))
        | ((refine step_app_g ?_ ?_ ?_ 25 ?_ w15.heap.size 3 (.int .i64 0) 1 8 Try.underlying25 infoI1 rfl Nat.one_pos ?_ m (rs.map iv) ?_ ?_ (some ⟨w5.heap.size, 0, none⟩) 1 1 [iv root] ?_ ?_ ?_ (iv_one [root]) ?_ ?_ ?_ ?_
            (first | rfl | (simp [Region.wanted]; done))
            rotate_left 2
            rfl
            rotate_left 1
            rfl
            (first | exact O5.out | exact own_ext O5.out (by ((repeat (first | exact Ext.refl _ | exact X6.out | exact X5.out | with_reducible refine Ext.drew ?_ | with_reducible refine Ext.alloc ?_ _)); done)))
            rfl
            rfl
            (exact sl_at (by ((repeat (first | exact Ext.refl _ | exact X6.out | exact X5.out | with_reducible refine Ext.drew ?_ | with_reducible refine Ext.alloc ?_ _)); done)) (by simp))
            (unfold maxLen; omega)
            omega
            (exact Nat.le_trans X5.out.size (by simp))
            intro A6 c6 w6 hown hg
            have X6 := Lib.hid (show Ext w15 w6 from by exact Ext.app (B := w15.heap.size) (by ((repeat (first | exact Ext.refl _ | exact X6.out | exact X5.out | with_reducible refine Ext.drew ?_ | with_reducible refine Ext.alloc ?_ _)); done)) (show World.ownsRow _ w15.heap.size 3 1 _ m (rs.map iv) from by (first | exact O5.out | exact own_ext O5.out (by ((repeat (first | exact Ext.refl _ | exact X6.out | exact X5.out | with_reducible refine Ext.drew ?_ | with_reducible refine Ext.alloc ?_ _)); done)))) (Nat.le_refl _) hg)
            have R6 := Lib.hid (show Sl w6 A6 (m + 1) c6 ((rs ++ [root]).map iv) from by rw [List.map_append]; exact own_sl hown)
            have z6 := Nat.lt_of_lt_of_le zh X6.out.size
            have p5 := (h_16.out.ext X6.out).at 0 _ rfl
            have p6 := (h_16.out.ext X6.out).at 1 _ rfl
            clear hown hg))
        | ((go_simp
            go_at_call 6
            refine (GF.out _ A6 c6 (by ((repeat (first | exact Ext.refl _ | exact X6.out | exact X5.out | with_reducible refine Ext.drew ?_ | with_reducible refine Ext.alloc ?_ _)); done)) (by first | exact R6.out | exact R6.out.ext (by ((repeat (first | exact Ext.refl _ | exact X6.out | exact X5.out | with_reducible refine Ext.drew ?_ | with_reducible refine Ext.alloc ?_ _)); done)))).mono ?_
            rintro e w7 ⟨rfl, hx7⟩
            have X7 := Lib.hid (show Ext w15 w7 from by refine Ext.trans ?_ hx7; ((repeat (first | exact Ext.refl _ | exact X6.out | exact X5.out | with_reducible refine Ext.drew ?_ | with_reducible refine Ext.alloc ?_ _)); done))
            clear hx7)))
    all_goals
      go_wp2_with fail
      go_meet
      exact ⟨rfl, X7.out⟩
  case rest =>
    obtain ⟨rfl, hx⟩ := hcut
    have A_17 := Lib.hid (A_16.out.ext hx)
    have RS_17 := Lib.hid (RS_16.out.ext hx)
    have X_17 := Lib.hid (X_16.out.ext hx)
    have h_17 := Lib.hid (h_16.out.ext hx)
    clear A_16 RS_16 X_16 h_16
    clear hx GF
    clear qh0 qh1 zh
    go_wp2_with fail
    go_ret
    exact ⟨rfl, X_17.out⟩
set_option maxRecDepth 100000 in
set_option maxHeartbeats 4000000 in
theorem cbound_yes (G : CleanOk) (R : Option Addr) (l : List HC) (n q : Nat) (keep : Int) (A : Option Addr) (rs : List Int) (m c : Nat) (k : Nat) (w : World) (hA : HcSl w R n q l) (hB : Sl w A m c (rs.map iv)) (hmr : m = rs.length) (hm6 : m ≤ 17592186043904) (hk : k < l.length) (hf : fineS ⟨l, keep⟩ (rs ++ [(k : Int)]) 40 = true) (hr : rightH ⟨l, keep⟩ = true) (hrr : rightR ⟨l, keep⟩ (k : Int) = true) (h40 : l.length ≤ 40) (hbd : ∀ j (hj : j < l.length), l[j].ref ≤ 1000000) (cn s : Nat) (hcn : cntC l 20 (k : Int) = cn) (hs : (nodesT l (k : Int)).length = s) (hs2 : s ≤ 2000) (h1 : (1 < l[k].ref ∨ l[k].leaf = true) → cn = 1) (h3 : ¬ (1 < l[k].ref ∨ l[k].leaf = true) → 3 ≤ cn) (h4 : cn ≤ 4 * s + 1) :
    Calls Try.prog 3 #[.agg #[.slice R n q, .int .i64 keep], .slice A m c, .int .i64 k] w fun e w' => e = .returned (.bool true) ∧ Ext w w' := by
  have A_18 := Lib.hid (hA)
  have RS_19 := Lib.hid (hB)
  have X_20 := Lib.hid (Ext.refl w)
  have HG := Lib.hid G
  have HMR := Lib.hid hmr
  clear hA hB G hmr
  have d0 : decide ((k : Int) < 0) = false := decide_eq_false (by omega)
  have HF := Lib.hid hf
  have HGI := Lib.hid (fun w => HG.out.give k w (by omega))
  have HLE := Lib.hid (fun A t w' (hx : Ext w w') => HG.out.left l R A n q t k keep w' hr hrr h40 hbd (A_18.out.ext hx))
  rw [hcn] at HLE
  have HND := Lib.hid (fun w' (hx : Ext w w') => cNodes_is (allR_of hr) (show l.length ≤ 2000 by omega) hrr hs (A_18.out.ext hx))
  obtain ⟨b0, o0, hR0, hbl0, -, -, r0, -, r2, -⟩ := A_18.out.cell hk
  have HR0 := Lib.hid hR0
  have hkn : k < n := by rw [A_18.out.1]; exact hk
  have hki : (k : Int) < (n : Int) := by omega
  generalize l[k].ref = rf at r0 h1 h3
  generalize l[k].leaf = lf at r2 h1 h3
  have HR00 := Lib.hid (And.intro hbl0 (And.intro r0 r2))
  have HT := Lib.hid (And.intro h1 (And.intro h3 (And.intro h4 hs2)))
  clear hf hr hrr h40 hbd hcn hs h1 h3 h4 hs2 r0 r2 hbl0 hk hR0
  go_enter Try.func3, Try.ntmps3
  go_wp2_with (go_at_call 5; refine stop_here ?_)
  refine stop_on ?_
  generalize hW : (World.alloc w _) = W21
  obtain ⟨hx, hb0⟩ := allocs1 hW
  clear hW
  have A_22 := Lib.hid (A_18.out.ext hx)
  have RS_22 := Lib.hid (RS_19.out.ext hx)
  have X_22 := Lib.hid (X_20.out.ext hx)
  clear A_18 RS_19 X_20
  have h_23 := Lib.hid hb0
  clear hx hb0
  refine (HG.out.shown _).mono ?_
  rintro e w24 ⟨rfl, hx⟩
  have A_25 := Lib.hid (A_22.out.ext hx)
  have RS_25 := Lib.hid (RS_22.out.ext hx)
  have X_25 := Lib.hid (X_22.out.ext hx)
  have h_25 := Lib.hid (h_23.out.ext hx)
  clear A_22 RS_22 X_22 h_23
  clear hx
  have qh0 : w24.cell? ⟨w.heap.size, 0, none⟩ = some (.slice R n q) := h_25.out.at 0 _ rfl
  have qh1 : w24.cell? ⟨w.heap.size, 1, none⟩ = some (.int .i64 keep) := h_25.out.at 1 _ rfl
  have zh := h_25.out.lt
  have GF := Lib.hid (fun w' A c (hx : Ext w24 w') (hR : Sl w' A (m + 1) c ((rs ++ [(k : Int)]).map iv)) => cFine_is (rs ++ [(k : Int)]) A c (m + 1) 40 (by rw [HMR.out, List.length_append]; rfl) HF.out (A_25.out.ext hx) hR)
  go_wp2_with fail
  go_cut [25] from 13 to 24 (fun v wx => v = .bool false ∧ Ext w24 wx)
  case first =>
    go_region_law
      (first
        | ((refine step_app_g ?_ ?_ ?_ 25 ?_ w24.heap.size 3 (.int .i64 0) 1 8 Try.underlying25 infoI1 rfl Nat.one_pos ?_ 0 [] ?_ ?_ A m c (rs.map iv) ?_ ?_ ?_ (iv_one rs) ?_ ?_ ?_ ?_
            (first | rfl | (simp [Region.wanted]; done))
            rotate_left 2
            rfl
            rotate_left 1
            rfl
            (exact own_at (by ((repeat (first | exact Ext.refl _ | exact X6.out | exact X5.out | with_reducible refine Ext.drew ?_ | with_reducible refine Ext.alloc ?_ _)); done)) (by simp) (by simp))
            rfl
            (rw [List.length_map, HMR.out, Nat.mul_one])
            (exact RS_25.out.ext (by ((repeat (first | exact Ext.refl _ | exact X6.out | exact X5.out | with_reducible refine Ext.drew ?_ | with_reducible refine Ext.alloc ?_ _)); done)))
            (unfold maxLen; omega)
            omega
            focus (first | (simp; done) | (simp; omega))
            intro A5 c5 w5 hown hg
            rw [Nat.zero_add, List.nil_append] at hown
            rw [Nat.zero_add]
            have S5 := Lib.hid (show Sl w5 (some ⟨w24.heap.size + 1, 0, none⟩) 1 1 [iv (k : Int)] from by exact one_grown (k := w24.heap.size) (sl_at (by ((repeat (first | exact Ext.refl _ | exact X6.out | exact X5.out | with_reducible refine Ext.drew ?_ | with_reducible refine Ext.alloc ?_ _)); done)) (by simp)) hg rfl (by omega))
            have X5 := Lib.hid (show Ext w24 w5 from by exact Ext.row' (by ((repeat (first | exact Ext.refl _ | exact X6.out | exact X5.out | with_reducible refine Ext.drew ?_ | with_reducible refine Ext.alloc ?_ _)); done)) hg (by simp))
            have O5 := Lib.hid hown
            have z5 := Nat.lt_of_lt_of_le zh X5.out.size
            have p5 := (h_25.out.ext X5.out).at 0 _ rfl
            have p6 := (h_25.out.ext X5.out).at 1 _ rfl
            clear hown hg))
        | ((refine step_app_g ?_ ?_ ?_ 25 ?_ w24.heap.size 3 (.int .i64 0) 1 8 Try.underlying25 infoI1 rfl Nat.one_pos ?_ 0 [] ?_ ?_ A m c (rs.map iv) ?_ ?_ ?_ (iv_one rs) ?_ ?_ ?_ ?_
            (first | rfl | (simp [Region.wanted]; done))
            rotate_left 2
            rfl
            rotate_left 1
            rfl
            (exact own_at (by ((repeat (first | exact Ext.refl _ | exact X6.out | exact X5.out | with_reducible refine Ext.drew ?_ | with_reducible refine Ext.alloc ?_ _)); done)) (by simp) (by simp))
            rfl
            (rw [List.length_map, HMR.out, Nat.mul_one])
            (exact RS_25.out.ext (by ((repeat (first | exact Ext.refl _ | exact X6.out | exact X5.out | with_reducible refine Ext.drew ?_ | with_reducible refine Ext.alloc ?_ _)); done)))
            (unfold maxLen; omega)
            omega
            focus (first | (simp; done) | (simp; omega))
            intro A5 c5 w5 hown hg
            rw [Nat.zero_add, List.nil_append] at hown
            rw [Nat.zero_add]
            have S5 := Lib.hid (show Sl w5 (some ⟨w24.heap.size, 0, none⟩) 1 1 [iv (k : Int)] from by exact one_grown (k := w24.heap.size + 1) (sl_at (by ((repeat (first | exact Ext.refl _ | exact X6.out | exact X5.out | with_reducible refine Ext.drew ?_ | with_reducible refine Ext.alloc ?_ _)); done)) (by simp)) hg rfl (by omega))
            have X5 := Lib.hid (show Ext w24 w5 from by exact Ext.row' (by ((repeat (first | exact Ext.refl _ | exact X6.out | exact X5.out | with_reducible refine Ext.drew ?_ | with_reducible refine Ext.alloc ?_ _)); done)) hg (by simp))
            have O5 := Lib.hid hown
            have z5 := Nat.lt_of_lt_of_le zh X5.out.size
            have p5 := (h_25.out.ext X5.out).at 0 _ rfl
            have p6 := (h_25.out.ext X5.out).at 1 _ rfl
            clear hown hg))
        | ((refine step_app_g ?_ ?_ ?_ 25 ?_ w24.heap.size 3 (.int .i64 0) 1 8 Try.underlying25 infoI1 rfl Nat.one_pos ?_ 0 [] ?_ ?_ A m c (rs.map iv) ?_ ?_ ?_ (iv_one rs) ?_ ?_ ?_ ?_
            (first | rfl | (simp [Region.wanted]; done))
            rotate_left 2
            rfl
            rotate_left 1
            rfl
            (exact own_at (by ((repeat (first | exact Ext.refl _ | exact X6.out | exact X5.out | with_reducible refine Ext.drew ?_ | with_reducible refine Ext.alloc ?_ _)); done)) (by simp) (by simp))
            rfl
            (rw [List.length_map, HMR.out, Nat.mul_one])
            (exact RS_25.out.ext (by ((repeat (first | exact Ext.refl _ | exact X6.out | exact X5.out | with_reducible refine Ext.drew ?_ | with_reducible refine Ext.alloc ?_ _)); done)))
            (unfold maxLen; omega)
            omega
            focus (first | (simp; done) | (simp; omega))
            intro A5 c5 w5 hown hg
            rw [Nat.zero_add, List.nil_append] at hown
            rw [Nat.zero_add]
            have S5 := Lib.hid (trivial)
            have X5 := Lib.hid (show Ext w24 w5 from by exact Ext.row' (by ((repeat (first | exact Ext.refl _ | exact X6.out | exact X5.out | with_reducible refine Ext.drew ?_ | with_reducible refine Ext.alloc ?_ _)); done)) hg (by simp))
            have O5 := Lib.hid hown
            have z5 := Nat.lt_of_lt_of_le zh X5.out.size
            have p5 := (h_25.out.ext X5.out).at 0 _ rfl
            have p6 := (h_25.out.ext X5.out).at 1 _ rfl
            clear hown hg))
        | ((refine step_app_g ?_ ?_ ?_ 25 ?_ w24.heap.size 3 (.int .i64 0) 1 8 Try.underlying25 infoI1 rfl Nat.one_pos ?_ m (rs.map iv) ?_ ?_ (some ⟨w24.heap.size + 1, 0, none⟩) 1 1 [iv (k : Int)] ?_ ?_ ?_ (iv_one [(k : Int)]) ?_ ?_ ?_ ?_
            (first | rfl | (simp [Region.wanted]; done))
            rotate_left 2
            rfl
            rotate_left 1
            rfl
            (first | exact O5.out | exact own_ext O5.out (by ((repeat (first | exact Ext.refl _ | exact X6.out | exact X5.out | with_reducible refine Ext.drew ?_ | with_reducible refine Ext.alloc ?_ _)); done)))
            rfl
            rfl
            (first | exact S5.out | exact S5.out.ext (by ((repeat (first | exact Ext.refl _ | exact X6.out | exact X5.out | with_reducible refine Ext.drew ?_ | with_reducible refine Ext.alloc ?_ _)); done)))
            (unfold maxLen; omega)
            omega
            (exact Nat.le_trans X5.out.size (by simp))
            intro A6 c6 w6 hown hg
            have X6 := Lib.hid (show Ext w24 w6 from by exact Ext.app (B := w24.heap.size) (by ((repeat (first | exact Ext.refl _ | exact X6.out | exact X5.out | with_reducible refine Ext.drew ?_ | with_reducible refine Ext.alloc ?_ _)); done)) (show World.ownsRow _ w24.heap.size 3 1 _ m (rs.map iv) from by (first | exact O5.out | exact own_ext O5.out (by ((repeat (first | exact Ext.refl _ | exact X6.out | exact X5.out | with_reducible refine Ext.drew ?_ | with_reducible refine Ext.alloc ?_ _)); done)))) (Nat.le_refl _) hg)
            have R6 := Lib.hid (show Sl w6 A6 (m + 1) c6 ((rs ++ [(k : Int)]).map iv) from by rw [List.map_append]; exact own_sl hown)
            have z6 := Nat.lt_of_lt_of_le zh X6.out.size
            have p5 := (h_25.out.ext X6.out).at 0 _ rfl
            have p6 := (h_25.out.ext X6.out).at 1 _ rfl
            clear hown hg))
        | ((refine step_app_g ?_ ?_ ?_ 25 ?_ w24.heap.size 3 (.int .i64 0) 1 8 Try.underlying25 infoI1 rfl Nat.one_pos ?_ m (rs.map iv) ?_ ?_ (some ⟨w24.heap.size, 0, none⟩) 1 1 [iv (k : Int)] ?_ ?_ ?_ (iv_one [(k : Int)]) ?_ ?_ ?_ ?_
            (first | rfl | (simp [Region.wanted]; done))
            rotate_left 2
            rfl
            rotate_left 1
            rfl
            (first | exact O5.out | exact own_ext O5.out (by ((repeat (first | exact Ext.refl _ | exact X6.out | exact X5.out | with_reducible refine Ext.drew ?_ | with_reducible refine Ext.alloc ?_ _)); done)))
            rfl
            rfl
            (first | exact S5.out | exact S5.out.ext (by ((repeat (first | exact Ext.refl _ | exact X6.out | exact X5.out | with_reducible refine Ext.drew ?_ | with_reducible refine Ext.alloc ?_ _)); done)))
            (unfold maxLen; omega)
            omega
            (exact Nat.le_trans X5.out.size (by simp))
            intro A6 c6 w6 hown hg
            have X6 := Lib.hid (show Ext w24 w6 from by exact Ext.app (B := w24.heap.size) (by ((repeat (first | exact Ext.refl _ | exact X6.out | exact X5.out | with_reducible refine Ext.drew ?_ | with_reducible refine Ext.alloc ?_ _)); done)) (show World.ownsRow _ w24.heap.size 3 1 _ m (rs.map iv) from by (first | exact O5.out | exact own_ext O5.out (by ((repeat (first | exact Ext.refl _ | exact X6.out | exact X5.out | with_reducible refine Ext.drew ?_ | with_reducible refine Ext.alloc ?_ _)); done)))) (Nat.le_refl _) hg)
            have R6 := Lib.hid (show Sl w6 A6 (m + 1) c6 ((rs ++ [(k : Int)]).map iv) from by rw [List.map_append]; exact own_sl hown)
            have z6 := Nat.lt_of_lt_of_le zh X6.out.size
            have p5 := (h_25.out.ext X6.out).at 0 _ rfl
            have p6 := (h_25.out.ext X6.out).at 1 _ rfl
            clear hown hg))
        | ((refine step_app_g ?_ ?_ ?_ 25 ?_ w24.heap.size 3 (.int .i64 0) 1 8 Try.underlying25 infoI1 rfl Nat.one_pos ?_ m (rs.map iv) ?_ ?_ (some ⟨w5.heap.size, 0, none⟩) 1 1 [iv (k : Int)] ?_ ?_ ?_ (iv_one [(k : Int)]) ?_ ?_ ?_ ?_
            (first | rfl | (simp [Region.wanted]; done))
            rotate_left 2
            rfl
            rotate_left 1
            rfl
            (first | exact O5.out | exact own_ext O5.out (by ((repeat (first | exact Ext.refl _ | exact X6.out | exact X5.out | with_reducible refine Ext.drew ?_ | with_reducible refine Ext.alloc ?_ _)); done)))
            rfl
            rfl
            (exact sl_at (by ((repeat (first | exact Ext.refl _ | exact X6.out | exact X5.out | with_reducible refine Ext.drew ?_ | with_reducible refine Ext.alloc ?_ _)); done)) (by simp))
            (unfold maxLen; omega)
            omega
            (exact Nat.le_trans X5.out.size (by simp))
            intro A6 c6 w6 hown hg
            have X6 := Lib.hid (show Ext w24 w6 from by exact Ext.app (B := w24.heap.size) (by ((repeat (first | exact Ext.refl _ | exact X6.out | exact X5.out | with_reducible refine Ext.drew ?_ | with_reducible refine Ext.alloc ?_ _)); done)) (show World.ownsRow _ w24.heap.size 3 1 _ m (rs.map iv) from by (first | exact O5.out | exact own_ext O5.out (by ((repeat (first | exact Ext.refl _ | exact X6.out | exact X5.out | with_reducible refine Ext.drew ?_ | with_reducible refine Ext.alloc ?_ _)); done)))) (Nat.le_refl _) hg)
            have R6 := Lib.hid (show Sl w6 A6 (m + 1) c6 ((rs ++ [(k : Int)]).map iv) from by rw [List.map_append]; exact own_sl hown)
            have z6 := Nat.lt_of_lt_of_le zh X6.out.size
            have p5 := (h_25.out.ext X6.out).at 0 _ rfl
            have p6 := (h_25.out.ext X6.out).at 1 _ rfl
            clear hown hg))
        | ((go_simp
            go_at_call 6
            refine (GF.out _ A6 c6 (by ((repeat (first | exact Ext.refl _ | exact X6.out | exact X5.out | with_reducible refine Ext.drew ?_ | with_reducible refine Ext.alloc ?_ _)); done)) (by first | exact R6.out | exact R6.out.ext (by ((repeat (first | exact Ext.refl _ | exact X6.out | exact X5.out | with_reducible refine Ext.drew ?_ | with_reducible refine Ext.alloc ?_ _)); done)))).mono ?_
            rintro e w7 ⟨rfl, hx7⟩
            have X7 := Lib.hid (show Ext w24 w7 from by refine Ext.trans ?_ hx7; ((repeat (first | exact Ext.refl _ | exact X6.out | exact X5.out | with_reducible refine Ext.drew ?_ | with_reducible refine Ext.alloc ?_ _)); done))
            clear hx7)))
    all_goals
      go_wp2_with fail
      go_meet
      exact ⟨rfl, X7.out⟩
  case rest =>
    obtain ⟨rfl, hx⟩ := hcut
    have A_26 := Lib.hid (A_25.out.ext hx)
    have RS_26 := Lib.hid (RS_25.out.ext hx)
    have X_26 := Lib.hid (X_25.out.ext hx)
    have h_26 := Lib.hid (h_25.out.ext hx)
    clear A_25 RS_25 X_25 h_25
    clear hx GF
    clear qh0 qh1 zh
    go_wp2_with (go_at_call 7; refine stop_here ?_)
    refine stop_on ?_
    refine (HGI.out _).mono ?_
    rintro e w27 ⟨TA, tt, rfl, h3, hx⟩
    have A_28 := Lib.hid (A_26.out.ext hx)
    have RS_28 := Lib.hid (RS_26.out.ext hx)
    have X_28 := Lib.hid (X_26.out.ext hx)
    have h_28 := Lib.hid (h_26.out.ext hx)
    clear A_26 RS_26 X_26 h_26
    have T_29 := Lib.hid h3
    clear hx h3
    have qh0 : w27.cell? ⟨w.heap.size, 0, none⟩ = some (.slice R n q) := h_28.out.at 0 _ rfl
    have qh1 : w27.cell? ⟨w.heap.size, 1, none⟩ = some (.int .i64 keep) := h_28.out.at 1 _ rfl
    have zh := h_28.out.lt
    have HXX := Lib.hid X_28.out
    go_wp2_with (go_at_call 8; refine stop_here ?_)
    refine stop_on ?_
    clear qh0 qh1 zh
    refine (HLE.out TA tt _ HXX.out T_29.out).mono ?_
    rintro e w30 ⟨rfl, hx⟩
    have A_31 := Lib.hid (A_28.out.ext hx)
    have RS_31 := Lib.hid (RS_28.out.ext hx)
    have X_31 := Lib.hid (X_28.out.ext hx)
    have h_31 := Lib.hid (h_28.out.ext hx)
    have T_31 := Lib.hid (T_29.out.ext hx)
    clear A_28 RS_28 X_28 h_28 T_29
    clear hx
    have qh0 : w30.cell? ⟨w.heap.size, 0, none⟩ = some (.slice R n q) := h_31.out.at 0 _ rfl
    have qh1 : w30.cell? ⟨w.heap.size, 1, none⟩ = some (.int .i64 keep) := h_31.out.at 1 _ rfl
    have zh := h_31.out.lt
    have HXY := Lib.hid X_31.out
    go_wp2_with (go_at_call 9; refine stop_here ?_)
    refine stop_on ?_
    clear qh0 qh1 zh
    refine (HND.out _ HXY.out).mono ?_
    rintro e w32 ⟨S6, t6, rfl, hx⟩
    have A_33 := Lib.hid (A_31.out.ext hx)
    have RS_33 := Lib.hid (RS_31.out.ext hx)
    have X_33 := Lib.hid (X_31.out.ext hx)
    have h_33 := Lib.hid (h_31.out.ext hx)
    have T_33 := Lib.hid (T_31.out.ext hx)
    clear A_31 RS_31 X_31 h_31 T_31
    clear hx
    have qh0 : w32.cell? ⟨w.heap.size, 0, none⟩ = some (.slice R n q) := h_33.out.at 0 _ rfl
    have qh1 : w32.cell? ⟨w.heap.size, 1, none⟩ = some (.int .i64 keep) := h_33.out.at 1 _ rfl
    have zh := h_33.out.lt
    have hR0 := HR0.out
    subst hR0
    clear HR0
    have v0 := (X_33.out.cell (p := ⟨b0, o0 + k * 4, none⟩) HR00.out.1).trans HR00.out.2.1
    have v2 := (X_33.out.cell (p := ⟨b0, o0 + k * 4 + 2, none⟩) HR00.out.1).trans HR00.out.2.2
    obtain ⟨h1, h3, h4, hs2⟩ := HT.out
    by_cases hA : 1 < rf
    · have d1 : decide (1 < rf) = true := decide_eq_true hA
      obtain rfl := h1 (.inl hA)
      clear h1 h3 h4 hA
      go_wp2_with fail
      go_ret
      exact ⟨rfl, X_33.out⟩
    · have d1 : decide (1 < rf) = false := decide_eq_false hA
      cases lf with
      | true =>
        obtain rfl := h1 (.inr rfl)
        clear h1 h3 h4 hA
        go_wp2_with fail
        go_ret
        exact ⟨rfl, X_33.out⟩
      | false =>
        have h5 := h3 (by rintro (h | h); exact hA h; cases h)
        have d3 : decide ((3 : Int) ≤ (cn : Int)) = true := decide_eq_true (by omega)
        have hw1 : IntKind.i64.wrap (4 * (s : Int)) = 4 * (s : Int) := by rw [IntKind.wrap_i64]; omega
        have hw2 : IntKind.i64.wrap (4 * (s : Int) + 1) = 4 * (s : Int) + 1 := by rw [IntKind.wrap_i64]; omega
        have d4 : decide ((cn : Int) ≤ 4 * (s : Int) + 1) = true := decide_eq_true (by omega)
        clear h1 h3 h4 hA h5 hs2
        go_wp2_with fail
        go_ret
        exact ⟨rfl, X_33.out⟩
theorem cbound_any (G : CleanOk) (R : Option Addr) (l : List HC) (n q : Nat) (keep : Int) (A : Option Addr) (rs : List Int) (m c : Nat) (root : Int) (w : World) (hA : HcSl w R n q l) (hB : Sl w A m c (rs.map iv)) (hmr : m = rs.length) (hm6 : m ≤ 17592186043904) :
    Calls Try.prog 3 #[.agg #[.slice R n q, .int .i64 keep], .slice A m c, .int .i64 root] w fun e w' => e = .returned (.bool true) ∧ Ext w w' := by
  rcases Int.lt_or_le root 0 with h | h
  · exact cbound_low G R l n q keep A rs m c root w hA hB hmr hm6 h
  · cases hf : fineS ⟨l, keep⟩ (rs ++ [root]) 40
    · exact cbound_not G R l n q keep A rs m c root w hA hB hmr hm6 h hf
    · obtain ⟨k, hk, rfl, hr, hrr, -, h40, hbd, -, h1, h3, h4⟩ := bound_facts hf h
      have hn : l.length ≤ 2000 := by have h40' : (l.length : Int) ≤ 40 := h40; omega
      have hs2 : (nodesT l (k : Int)).length ≤ 2000 := by rw [← nodesP_all (allR_of hr) hn hrr (key := -9223372036854775808) (by decide)]; exact nodesP_len l _ _
      exact cbound_yes G R l n q keep A rs m c k w hA hB hmr hm6 hk hf hr hrr (by have h40' : (l.length : Int) ≤ 40 := h40; omega) hbd _ _ rfl rfl hs2 h1 h3 h4
end Go.Proofs.Ytlbhcakjcklmgaa

