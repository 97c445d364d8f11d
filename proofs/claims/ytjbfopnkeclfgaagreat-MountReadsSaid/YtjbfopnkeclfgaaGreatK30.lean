/- The reader's deferred closure (recover), and what it makes of a panic. The walk of state of package book's reader, and of Parse, of any bytes. -/
import Derived.Test.YtjbfopnkeclfgaaGreatK29
import Derived.Defers
import Derived.Recover
import Derived.Laws.Pointers
namespace Go.Proofs.YtjbfopnkeclfgaaGreat
set_option maxRecDepth 20000
open Go.RowKit
attribute [local go_sem ↓] Go.wp_at_zero Go.wp_at_succ

/-- A state that is none, laid into a box of six, and an error into a box of one. -/
def noneAt (w : World) (K E : Nat) : World := ((((((w.setCell ⟨K, 0, none⟩ (.slice none 0 0)).setCell ⟨K, 1, none⟩ (.int .i64 0)).setCell ⟨K, 2, none⟩ (.slice none 0 0)).setCell ⟨K, 3, none⟩ (.slice none 0 0)).setCell ⟨K, 4, none⟩ (.int .i64 0)).setCell ⟨K, 5, none⟩ (.int .i64 0)).setCell ⟨E, 0, none⟩ (.int .i64 2)
theorem bkCatch_panicking (K E : Nat) (x0 x1 x2 x3 x4 x5 z : Value) (u : TypeId) (pv : Value) (older : List PanicEntry) (w : World) (hne : E ≠ K) (hb : Bx w K #[x0, x1, x2, x3, x4, x5]) (he : Bx w E #[z]) :
    CallsD Tryz.prog 110 #[.pointer (some ⟨K, 0, none⟩), .pointer (some ⟨E, 0, none⟩)] (.panicking ({ v := .iface u pv, recovered := false } :: older)) w fun e u' w' =>
      e = .returned (.tuple #[]) ∧ u' = .panicking ({ v := .iface u pv, recovered := true } :: older) ∧ w' = noneAt w K E := by
  obtain ⟨c0, c1, c2, c3, c4, c5⟩ := st_at6 hb
  obtain ⟨f0, f1, f2, f3, f4, f5⟩ := st_free6 hb
  have e0 := he.at 0 z rfl
  have e1 := he.free 0
  unfold noneAt
  refine callsD_of_wpS Tryz.func110 rfl fun c₀ cs hu => ?_
  apply wpS_seq
  apply wpS_region
  simp [wpOpsS, go_sem, recoverD, hu, Tryz.ntmps110, Exit.thenS]
  refine wpS_cond (t := true) (by simp [Act.eval, Array.replicate]) ?_
  simp only [if_true]
  refine wpS_of_wp ?_
  go_wp2
  simp [bodyPostS, results, Tryz.results110, go_sem]
theorem bkCatch_idle (K E : Nat) (w : World) :
    CallsD Tryz.prog 110 #[.pointer (some ⟨K, 0, none⟩), .pointer (some ⟨E, 0, none⟩)] .returning w fun e u' w' => e = .returned (.tuple #[]) ∧ u' = .returning ∧ w' = w := by
  refine callsD_of_wpS Tryz.func110 rfl fun c₀ cs hu => ?_
  apply wpS_seq
  apply wpS_region
  simp [wpOpsS, go_sem, recoverD, hu, Tryz.ntmps110, Exit.thenS]
  refine wpS_cond (t := false) (by simp [Act.eval, Array.replicate]) ?_
  simp only [Bool.false_eq_true, if_false]
  refine wpS_of_wp (wp_skip ?_)
  cases c₀
  simp_all [bodyPostS, results, Tryz.results110]
/-- What a book tells: Refs, Keep, volumes, tasks, Next. -/
def bookT (l : List UInt8) (gen : Int) : Option (List Int × Int × List It × List (Nat × Nat) × Int) :=
  match takeS l 0 4 with
  | none => none
  | some nx => match volsP l 4 with
    | none => none
    | some (vs, b1) => match tasksP l b1 2000 with
      | none => none
      | some (ts, b2) => match takeS l b2 2 with
        | none => none
        | some kp => match cellsR l (b2 + 2) with
          | none => none
          | some (rs, b3) => if b3 = l.length && toldP (rs.map hcOf) kp vs ts nx gen then some (rs, (kp : Int), vs, ts, (nx : Int)) else none
/-- What stands in a box of no state, behind the reader. -/
def stZ : Array Value := #[.slice none 0 0, .int .i64 0, .slice none 0 0, .slice none 0 0, .int .i64 0, .int .i64 0]
theorem leaves_tmps {P : Program} {fn : Func} {t t' : Array Value} {R : Ending → World → Prop} (h : results fn t = results fn t') : ∀ (ds : List Deferred) (u : FrameMode) (w : World), Leaves P fn t R ds u w → Leaves P fn t' R ds u w
  | [], .returning, w, k => by
    obtain ⟨v, k1, k2⟩ := k
    exact ⟨v, by rw [← h]; exact k1, k2⟩
  | [], .panicking chain, w, k => k
  | [], .run, w, k => k
  | d :: ds, u, w, k => by
    obtain ⟨k1, fv, cap, f, args, k2, k3, k4⟩ := k
    refine ⟨k1, fv, cap, f, args, k2, k3, k4.mono ?_⟩
    intro e u' w' q
    cases e with
    | returned v => exact leaves_tmps h ds _ _ q
    | panicked c => exact leaves_tmps h ds _ _ q
    | outgrown => exact q
/-- A slot that is no result does not count at the door. -/
theorem bkDoor_put {R : Ending → World → Prop} {c : List PanicEntry} {a : Act} {d : Option Tmp} {v : Value} {w : World} (h4 : d ≠ some 4) (h5 : d ≠ some 5) (h : bodyPostD Tryz.prog Tryz.f71 R (.panic c) (a.put d v) w) : bodyPostD Tryz.prog Tryz.f71 R (.panic c) a w := by
  cases d with
  | none => exact h
  | some k =>
    have g4 : k ≠ 4 := fun e => h4 (by rw [e])
    have g5 : k ≠ 5 := fun e => h5 (by rw [e])
    refine leaves_tmps ?_ a.defers _ w h
    simp [results, Tryz.results71, Act.put, Array.getD_eq_getD_getElem?, Array.getElem?_setIfInBounds, g4, g5]
theorem noneAt_bx {w : World} {K E : Nat} {x0 x1 x2 x3 x4 x5 z : Value} (hne : E ≠ K) (hb : Bx w K #[x0, x1, x2, x3, x4, x5]) (he : Bx w E #[z]) : Bx (noneAt w K E) K stZ ∧ Bx (noneAt w K E) E #[.int .i64 2] := by
  unfold noneAt
  exact ⟨(st_set6 hb _ _ _ _ _ _).set_other hne _, by
    have h := ((((((he.set_other (p := ⟨K, 0, none⟩) hne.symm (.slice none 0 0)).set_other (p := ⟨K, 1, none⟩) hne.symm (.int .i64 0)).set_other (p := ⟨K, 2, none⟩) hne.symm (.slice none 0 0)).set_other (p := ⟨K, 3, none⟩) hne.symm (.slice none 0 0)).set_other (p := ⟨K, 4, none⟩) hne.symm (.int .i64 0)).set_other (p := ⟨K, 5, none⟩) hne.symm (.int .i64 0)).set 0 (.int .i64 2)
    exact h⟩
/-- A panic at the door: the deferred closure recovers it. -/
theorem bkDoor {R : Ending → World → Prop} {tmps : Array Value} {K E : Nat} {w : World} {x0 x1 x2 x3 x4 x5 z : Value} (hne : E ≠ K) (hb : Bx w K #[x0, x1, x2, x3, x4, x5]) (he : Bx w E #[z]) (h4 : tmps.getD 4 undef = .pointer (some ⟨K, 0, none⟩)) (h5 : tmps.getD 5 undef = .pointer (some ⟨E, 0, none⟩))
    (hR : R (.returned (.tuple #[.agg stZ, .int .i64 2])) (noneAt w K E)) :
    bodyPostD Tryz.prog Tryz.f71 R (.panic rdPanic) { tmps := tmps, defers := [{ target := .fn (.func 110) #[.pointer (some ⟨K, 0, none⟩), .pointer (some ⟨E, 0, none⟩)], args := #[] }] } w := by
  refine leaves_cons (f := 110) (args := #[.pointer (some ⟨K, 0, none⟩), .pointer (some ⟨E, 0, none⟩)]) (by simp) (by simp [go_sem]) ?_
  refine (bkCatch_panicking K E x0 x1 x2 x3 x4 x5 z 35 (.int .i64 2) [] w hne hb he).mono ?_
  rintro e u' w'' ⟨rfl, rfl, rfl⟩
  obtain ⟨n1, n2⟩ := noneAt_bx hne hb he
  obtain ⟨c0, c1, c2, c3, c4, c5⟩ := st_at6 n1
  have e0 := n2.at 0 (.int .i64 2) rfl
  rw [Array.getD_eq_getD_getElem?] at h4 h5
  refine ⟨_, ?_, hR⟩
  unfold stZ
  simp [results, Tryz.results71, go_sem, h4, h5, c0, c1, c2, c3, c4, c5, e0]
/-- A return at the door: the deferred closure finds nothing. -/
theorem bkDoor_ret {R : Ending → World → Prop} {tmps : Array Value} {K E : Nat} {w : World} {x0 x1 x2 x3 x4 x5 z : Value} (hb : Bx w K #[x0, x1, x2, x3, x4, x5]) (he : Bx w E #[z]) (_h4 : tmps.getD 4 undef = .pointer (some ⟨K, 0, none⟩)) (_h5 : tmps.getD 5 undef = .pointer (some ⟨E, 0, none⟩))
    (hres : (results Tryz.f71 tmps).run Tryz.prog w = .ok (.tuple #[.agg #[x0, x1, x2, x3, x4, x5], z]) w) (hR : R (.returned (.tuple #[.agg #[x0, x1, x2, x3, x4, x5], z])) w) :
    bodyPostD Tryz.prog Tryz.f71 R .ret { tmps := tmps, defers := [{ target := .fn (.func 110) #[.pointer (some ⟨K, 0, none⟩), .pointer (some ⟨E, 0, none⟩)], args := #[] }] } w := by
  refine leaves_cons (f := 110) (args := #[.pointer (some ⟨K, 0, none⟩), .pointer (some ⟨E, 0, none⟩)]) (by simp) (by simp [go_sem]) ?_
  refine (bkCatch_idle K E w).mono ?_
  rintro e u' w'' ⟨rfl, rfl, rfl⟩
  exact ⟨_, hres, hR⟩
end Go.Proofs.YtjbfopnkeclfgaaGreat
namespace Go.Proofs.YtjbfopnkeclfgaaGreat
set_option maxRecDepth 20000
open Go.RowKit
attribute [local go_sem ↓] Go.wp_at_zero Go.wp_at_succ

theorem rowV_ok {l : List UInt8} : ∀ {n : Nat} {a : Int} {r : List It}, rowV l n a = some r → a ≤ l.length → r.length = n ∧ a + 6 * n ≤ l.length
  | 0, a, r, h, ha => by cases h; exact ⟨rfl, by omega⟩
  | n + 1, a, r, h, ha => by
    rw [rowV] at h
    split at h
    · cases h
    · rename_i x hx
      have h1 := (volP_small hx).2.1
      cases hr : rowV l n (a + 6) with
      | none => rw [hr] at h; cases h
      | some q =>
        rw [hr] at h
        cases h
        obtain ⟨h2, h3⟩ := rowV_ok hr h1
        exact ⟨by rw [List.length_cons, h2], by push_cast; omega⟩
theorem volsP_ok {l : List UInt8} {a b : Int} {vs : List It} (h : volsP l a = some (vs, b)) : 0 ≤ a ∧ 0 ≤ b ∧ b ≤ l.length ∧ vs.length < 256 := by
  unfold volsP at h
  split at h
  · cases h
  · rename_i n hn
    have h1 := takeS_at hn
    have h2 := takeS_one hn
    cases hr : rowV l n (a + 1) with
    | none => rw [hr] at h; cases h
    | some r =>
      rw [hr] at h
      cases h
      obtain ⟨h3, h4⟩ := rowV_ok hr h1.2.1
      exact ⟨h1.1, by omega, by omega, by omega⟩
theorem rowC_ok {l : List UInt8} : ∀ {n : Nat} {a : Int} {r : List Int}, rowC l n a = some r → a ≤ l.length → (r.length = n ∧ ∀ x ∈ r, 0 ≤ x ∧ x < 65536) ∧ a + 2 * n ≤ l.length
  | 0, a, r, h, ha => by cases h; exact ⟨⟨rfl, fun x hx => by cases hx⟩, by omega⟩
  | n + 1, a, r, h, ha => by
    rw [rowC] at h
    split at h
    · cases h
    · rename_i x hx
      have h1 := takeS_small hx (by omega)
      have h5 := (takeS_at hx).2.1
      cases hr : rowC l n (a + 2) with
      | none => rw [hr] at h; cases h
      | some q =>
        rw [hr] at h
        cases h
        obtain ⟨⟨h2, h3⟩, h4⟩ := rowC_ok hr h5
        refine ⟨⟨by rw [List.length_cons, h2], fun y hy => ?_⟩, by push_cast; omega⟩
        rcases List.mem_cons.1 hy with rfl | hy
        · omega
        · exact h3 y hy
theorem cellsR_ok {l : List UInt8} {a b : Int} {rs : List Int} (h : cellsR l a = some (rs, b)) : rs.length < 65536 ∧ (rs.map hcOf).any refBad = false ∧ 0 ≤ b ∧ b ≤ l.length := by
  unfold cellsR at h
  split at h
  · cases h
  · rename_i n hn
    have h1 := takeS_at hn
    have h2 := takeS_small hn (by omega)
    cases hr : rowC l n (a + 2) with
    | none => rw [hr] at h; cases h
    | some r =>
      rw [hr] at h
      cases h
      obtain ⟨⟨h3, h4⟩, h5⟩ := rowC_ok hr h1.2.1
      refine ⟨by omega, ?_, by omega, by omega⟩
      rw [List.any_eq_false]
      intro x hx
      obtain ⟨y, hy, rfl⟩ := List.mem_map.1 hx
      have := h4 y hy
      unfold refBad fromP hcOf
      simp
      omega
theorem takenP_at {l : List UInt8} {a b : Int} {r : List (Nat × Nat)} (h : takenP l a = some (r, b)) : 0 ≤ b ∧ b ≤ l.length := by
  unfold takenP at h
  split at h
  · cases h
  · rename_i m hm
    have h1 := takeS_at hm
    cases hr : rowP2 l m (a + 2) with
    | none => rw [hr] at h; cases h
    | some q =>
      rw [hr] at h
      cases h
      have h2 : ∀ {m : Nat} {a : Int} {r : List (Nat × Nat)}, rowP2 l m a = some r → a ≤ l.length → a + 3 * m ≤ l.length := by
        intro m
        induction m with
        | zero => intro a r _ ha; omega
        | succ m ih =>
          intro a r h ha
          rw [rowP2] at h
          split at h
          · cases h
          · rename_i x hx
            have h3 := (oneP_small hx).2.2.2
            cases hr : rowP2 l m (a + 3) with
            | none => rw [hr] at h; cases h
            | some q =>
              have := ih hr h3
              omega
      have h3 := h2 hr h1.2.1
      exact ⟨by omega, by omega⟩
theorem tasksP_ok {l : List UInt8} {a b n : Int} {ts : List (Nat × Nat)} (h : tasksP l a n = some (ts, b)) : 0 ≤ b ∧ b ≤ l.length ∧ ∀ x ∈ ts, x.1 < 65536 ∧ x.2 < 65536 := by
  unfold tasksP at h
  split at h
  · cases h
  · rename_i x hx
    split at h
    · cases h
      have := takenP_at hx
      exact ⟨this.1, this.2, takenP_small hx⟩
    · cases h
/-- A state that is read: the reader, the state's box, the error's. -/
structure Rs (v : World) (R : Nat) (A : Option Addr) (m c : Nat) (K : Nat) (a : Int) (cs : Array Value) (w : World) : Prop where
  rd : Rd v R A m c a w
  k : Bx w K cs
  e : Bx w (K + 1) #[.int .i64 0]
theorem Rs.call {v : World} {R : Nat} {A : Option Addr} {m c K : Nat} {a a' : Int} {cs : Array Value} {w w' : World} (h : Rs v R A m c K a cs w) (hK : R < K) (hr : Rd v R A m c a' w') (hx : Rx R w w') : Rs v R A m c K a' cs w' :=
  ⟨hr, hx.bx h.k (by omega), hx.bx h.e (by omega)⟩
theorem Rs.put {v : World} {R : Nat} {A : Option Addr} {m c K : Nat} {a : Int} {cs : Array Value} {w : World} (h : Rs v R A m c K a cs w) (hK : R < K) (i : Nat) (x : Value) : Rs v R A m c K a (cs.setIfInBounds i x) (w.setCell ⟨K, i, none⟩ x) :=
  have hy := (Rx.refl K w).set i x
  ⟨⟨hy.over h.rd.ext (by have := h.rd.new; omega), h.rd.new, hy.bx h.rd.box (by omega)⟩, h.k.set i x, hy.bx h.e (by omega)⟩
theorem Rs.free {v : World} {R : Nat} {A : Option Addr} {m c K : Nat} {a : Int} {cs : Array Value} {w : World} (h : Rs v R A m c K a cs w) (i : Nat) : w.frozen? ⟨K, i, none⟩ = false := h.k.free i
theorem Rs.door {v : World} {R : Nat} {A : Option Addr} {m c K : Nat} {a : Int} {cs : Array Value} {w w' : World} (h : Rs v R A m c K a cs w) (hK : R < K) (hx : Rx R w w') : Bx w' K cs ∧ Bx w' (K + 1) #[.int .i64 0] ∧ Ext v (noneAt w' K (K + 1)) := by
  have hn := h.rd.new
  refine ⟨hx.bx h.k (by omega), hx.bx h.e (by omega), ?_⟩
  unfold noneAt
  have h1 := ((((((Rx.refl K w').set 0 (.slice none 0 0)).set 1 (.int .i64 0)).set 2 (.slice none 0 0)).set 3 (.slice none 0 0)).set 4 (.int .i64 0)).set 5 (.int .i64 0)
  exact ((Rx.refl (K + 1) _).set 0 (.int .i64 2)).over (h1.over (hx.over h.rd.ext h.rd.new) (by omega)) (by omega)
end Go.Proofs.YtjbfopnkeclfgaaGreat
