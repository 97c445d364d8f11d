/- The walks of copied, at both kinds. -/
import Derived.Test.YtikdicnpmobidaaDiskW1
import Derived.Test.YtikdicnpmobidaaDiskP2
namespace Go.Proofs.Ytikdicnpmobidaa
open Go.RowKit

theorem infoS : (Try.prog.info? 9).map (fun i => (i.zero, i.size, i.bytes)) = some (some (.string (ByteArray.mk #[])), 1, 16) := by kernel_rfl
theorem infoW : (Try.prog.info? 43).map (fun i => (i.zero, i.size, i.bytes)) = some (some (.agg #[.int .i64 0, .string (ByteArray.mk #[])]), 2, 24) := by kernel_rfl

set_option maxHeartbeats 1000000 in
set_option maxRecDepth 20000 in
theorem copiedB_any (A : Option Addr) (l : List ByteArray) (c more : Nat) (w : World) (hl : l.length ≤ 1000000) (hm : more ≤ 1) (hn : A = none → c = 0) (hA : Cells w A (l.map sv)) :
    Calls Try.prog 35 #[.slice A l.length c, .int .i64 more] w fun e w' => e = .returned (.slice (some ⟨w.heap.size, 0, none⟩) l.length (l.length + more)) ∧
      w'.ownsRow w.heap.size 9 1 (.slice (some ⟨w.heap.size, 0, none⟩) l.length (l.length + more)) l.length (l.map sv) ∧ Ext w w' := by
  have HA := Lib.hid hA
  have HN := Lib.hid hn
  clear hA hn
  obtain ⟨i0, hi, hz0, hz1, hz2⟩ := info_parts infoS
  have HI := Lib.hid hi
  have HZ0 := Lib.hid hz0
  have HZ1 := Lib.hid hz1
  have HZ2 := Lib.hid hz2
  clear hi hz0 hz1 hz2
  go_enter Try.func35, Try.ntmps35
  go_wp2_with (at_make; refine stop_here ?_)
  refine stop_on ?_

  refine wpList_make_cap _ rfl _ _ 22 rfl 9 i0 _ Try.underlying22 HI.out HZ0.out _ _ _ _ l.length (l.length + more) rfl rfl (by omega) (by omega) (by omega) (by rw [HZ2.out]; omega) (by unfold maxLen; omega) ?_
  rw [HZ1.out]
  obtain ⟨cur, hcur⟩ : ∃ cur, cur = madeCells (Value.string (ByteArray.mk #[])).cells ((l.length + more) * 1) := ⟨_, rfl⟩
  have hsz : cur.size = (l.length + more) * 1 := by rw [hcur]; exact size_madeCells _ _
  rw [← hcur]
  clear hcur
  have HS := Lib.hid hsz
  clear hsz
  have HO := Lib.hid (own_copied w l.length (l.length + more) 1 9 cur (l.map sv) (by unfold maxLen; omega) (by omega) HS.out (by simp))
  have hrun := run_copy_head (P := Try.prog) (w.alloc (.cells cur 9)) 22 22 3 9 i0 Try.underlying22 HI.out w.heap.size l.length (l.length + more) c A cur 9 (heap_alloc_new w _) (l.map sv) (by rw [HZ1.out]; simp) HN.out (HA.out.ext ((Ext.refl w).alloc _)) (by rw [HS.out]; simp) (svs_oneCell l) (fun h => by have := (HA.out).len_none h; simpa using this)
  obtain ⟨w1, hw1⟩ : ∃ w1, w1 = (w.alloc (.cells cur 9)).setRow w.heap.size (l.map sv ++ cur.toList.drop (l.map sv).length).toArray := ⟨_, rfl⟩
  rw [← hw1] at HO hrun
  clear hw1
  go_wp2
  go_ret
  exact ⟨rfl, HO.out⟩

set_option maxHeartbeats 1000000 in
set_option maxRecDepth 20000 in
theorem copiedW_any (A : Option Addr) (l : List Wr) (c more : Nat) (w : World) (hl : l.length ≤ 1000000) (hm : more ≤ 1) (hn : A = none → c = 0) (hA : Cells w A (wvs l)) :
    Calls Try.prog 36 #[.slice A l.length c, .int .i64 more] w fun e w' => e = .returned (.slice (some ⟨w.heap.size, 0, none⟩) l.length (l.length + more)) ∧
      w'.ownsRow w.heap.size 43 2 (.slice (some ⟨w.heap.size, 0, none⟩) l.length (l.length + more)) l.length (wvs l) ∧ Ext w w' := by
  have HA := Lib.hid hA
  have HN := Lib.hid hn
  clear hA hn
  obtain ⟨i0, hi, hz0, hz1, hz2⟩ := info_parts infoW
  have HI := Lib.hid hi
  have HZ0 := Lib.hid hz0
  have HZ1 := Lib.hid hz1
  have HZ2 := Lib.hid hz2
  clear hi hz0 hz1 hz2
  go_enter Try.func36, Try.ntmps36
  go_wp2_with (at_make; refine stop_here ?_)
  refine stop_on ?_
  refine wpList_make_cap _ rfl _ _ 23 rfl 43 i0 _ Try.underlying23 HI.out HZ0.out _ _ _ _ l.length (l.length + more) rfl rfl (by omega) (by omega) (by omega) (by rw [HZ2.out]; omega) (by unfold maxLen; omega) ?_
  rw [HZ1.out]
  obtain ⟨cur, hcur⟩ : ∃ cur, cur = madeCells (Value.agg #[.int .i64 0, .string (ByteArray.mk #[])]).cells ((l.length + more) * 2) := ⟨_, rfl⟩
  have hsz : cur.size = (l.length + more) * 2 := by rw [hcur]; exact size_madeCells _ _
  rw [← hcur]
  clear hcur
  have HS := Lib.hid hsz
  clear hsz
  have HO := Lib.hid (own_copied w l.length (l.length + more) 2 43 cur (wvs l) (by unfold maxLen; omega) (by omega) HS.out (wvs_length l))
  have hrun := run_copy_head (P := Try.prog) (w.alloc (.cells cur 43)) 23 23 3 43 i0 Try.underlying23 HI.out w.heap.size l.length (l.length + more) c A cur 43 (heap_alloc_new w _) (wvs l) (by rw [HZ1.out]; exact wvs_length l) HN.out (HA.out.ext ((Ext.refl w).alloc _)) (by rw [HS.out, wvs_length]; omega) (wvs_oneCell l) (fun h => by have := (HA.out).len_none h; rw [wvs_length] at this; omega)
  obtain ⟨w1, hw1⟩ : ∃ w1, w1 = (w.alloc (.cells cur 43)).setRow w.heap.size (wvs l ++ cur.toList.drop (wvs l).length).toArray := ⟨_, rfl⟩
  rw [← hw1] at HO hrun
  clear hw1
  go_wp2
  go_ret
  exact ⟨rfl, HO.out⟩

theorem copiedB0 (A : Option Addr) (l : List ByteArray) (c : Nat) (w : World) (hl : l.length ≤ 1000000) (hn : A = none → c = 0) (hA : Cells w A (l.map sv)) :
    Calls Try.prog 35 #[.slice A l.length c, .int .i64 0] w fun e w' => e = .returned (.slice (some ⟨w.heap.size, 0, none⟩) l.length l.length) ∧
      w'.ownsRow w.heap.size 9 1 (.slice (some ⟨w.heap.size, 0, none⟩) l.length l.length) l.length (l.map sv) ∧ Ext w w' :=
  copiedB_any A l c 0 w hl (by omega) hn hA
theorem copiedW0 (A : Option Addr) (l : List Wr) (c : Nat) (w : World) (hl : l.length ≤ 1000000) (hn : A = none → c = 0) (hA : Cells w A (wvs l)) :
    Calls Try.prog 36 #[.slice A l.length c, .int .i64 0] w fun e w' => e = .returned (.slice (some ⟨w.heap.size, 0, none⟩) l.length l.length) ∧
      w'.ownsRow w.heap.size 43 2 (.slice (some ⟨w.heap.size, 0, none⟩) l.length l.length) l.length (wvs l) ∧ Ext w w' :=
  copiedW_any A l c 0 w hl (by omega) hn hA
theorem copiedW1 (A : Option Addr) (l : List Wr) (c : Nat) (w : World) (hl : l.length ≤ 1000000) (hn : A = none → c = 0) (hA : Cells w A (wvs l)) :
    Calls Try.prog 36 #[.slice A l.length c, .int .i64 1] w fun e w' => e = .returned (.slice (some ⟨w.heap.size, 0, none⟩) l.length (l.length + 1)) ∧
      w'.ownsRow w.heap.size 43 2 (.slice (some ⟨w.heap.size, 0, none⟩) l.length (l.length + 1)) l.length (wvs l) ∧ Ext w w' :=
  copiedW_any A l c 1 w hl (by omega) hn hA
end Go.Proofs.Ytikdicnpmobidaa
