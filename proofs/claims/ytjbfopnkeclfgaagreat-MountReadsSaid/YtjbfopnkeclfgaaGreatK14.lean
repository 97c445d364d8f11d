/- Do of the reference of layer 15, of a state that uses no cell and holds no volumes and tasks, the plan done whole. Format of the reference of layer 15. What Format answers where it ends well: the plain facts; and what package commit is to answer. -/
import Derived.Test.YtjbfopnkeclfgaaGreatK13
import Derived.Test.YtjbfopnkeclfgaaGreatK09
namespace Go.Proofs.YtjbfopnkeclfgaaGreat
set_option maxRecDepth 20000
open Go.RowKit
attribute [local go_sem ↓] Go.wp_at_zero Go.wp_at_succ

theorem no_str6 {w : World} {k : Nat} {A1 A2 A3 : Option Addr} {n1 c1 n2 c2 n3 c3 : Nat} {z y x : Int} (hb : Bx w k #[.slice A1 n1 c1, .int .i64 z, .slice A2 n2 c2, .slice A3 n3 c3, .int .i64 y, .int .i64 x]) {o : Nat} {s : ByteArray} (h : w.cell? ⟨k, o, none⟩ = some (.string s)) : False := by
  obtain ⟨t, hb⟩ := hb
  unfold World.cell? at h
  rw [show w.heap[(⟨k, o, none⟩ : Addr).block]? = _ from hb] at h
  match o, h with
  | 0, h => simp at h
  | 1, h => simp at h
  | 2, h => simp at h
  | 3, h => simp at h
  | 4, h => simp at h
  | 5, h => simp at h
  | n + 6, h => simp at h
/-- Rows with a string in them lie in no state's box. -/
theorem Sl.store6 {w : World} {A : Option Addr} {n c : Nat} {xs : List Value} (h : Sl w A n c xs) (hs : xs ≠ [] → ∃ (i : Nat) (s : ByteArray), xs[i]? = some (Value.string s)) {k : Nat} {A1 A2 A3 : Option Addr} {n1 c1 n2 c2 n3 c3 : Nat} {z1 y1 x1 : Int} (hb : Bx w k #[.slice A1 n1 c1, .int .i64 z1, .slice A2 n2 c2, .slice A3 n3 c3, .int .i64 y1, .int .i64 x1]) (x y z u s t : Value) :
    Sl ((((((w.setCell ⟨k, 0, none⟩ x).setCell ⟨k, 1, none⟩ y).setCell ⟨k, 2, none⟩ z).setCell ⟨k, 3, none⟩ u).setCell ⟨k, 4, none⟩ s).setCell ⟨k, 5, none⟩ t) A n c xs :=
  h.grown (grown_store6 w k x y z u s t) (fun hx p hp e => by
    obtain ⟨b, off, e', _, hc⟩ := h.cells hx
    rw [hp] at e'
    cases e'
    obtain ⟨i, s, hi⟩ := hs hx
    have h1 := hc _ _ hi
    obtain rfl : k = b := Option.some.inj e
    exact no_str6 hb h1)
theorem svs_str {b : List ByteArray} (h : b.map sv ≠ []) : ∃ (i : Nat) (s : ByteArray), (b.map sv)[i]? = some (Value.string s) := by
  cases b with
  | nil => exact absurd rfl h
  | cons x b => exact ⟨0, x, rfl⟩
theorem wvs_str {l : List Wr} (h : wvs l ≠ []) : ∃ (i : Nat) (s : ByteArray), (wvs l)[i]? = some (Value.string s) := by
  cases l with
  | nil => exact absurd rfl h
  | cons x l => exact ⟨1, x.2, rfl⟩
/-- Cells without items lie in no disk's box. -/
theorem hcs_boxed22 {w : World} {R : Option Addr} {m q : Nat} {l : List HC} (hit : ∀ y ∈ l, y.it = []) (h : HcSl w R m q l) {k : Nat} {A1 A2 : Option Addr} {n1 c1 n2 c2 : Nat} (hb : Bx w k #[.slice A1 n1 c1, .slice A2 n2 c2]) (x y : Value) :
    HcSl ((w.setCell ⟨k, 0, none⟩ x).setCell ⟨k, 1, none⟩ y) R m q l := by
  obtain ⟨h1, cs, h2, h3⟩ := h
  refine ⟨h1, cs, ?_, h3.1, fun i hi => ?_⟩
  · refine h2.grown (grown_store2 w k x y) (fun hx p hp e => ?_)
    obtain ⟨b, off, e', hlt, hc⟩ := h2.cells hx
    rw [hp] at e'
    cases e'
    have hl := h3.1
    have hpos : 0 < l.length := by
      rcases Nat.eq_zero_or_pos l.length with h0 | h0
      · rw [h0] at hl; exact absurd (List.eq_nil_of_length_eq_zero hl) hx
      · exact h0
    obtain ⟨A, c, e1, e2, _⟩ := h3.2 0 hpos
    have g0 := hc _ _ e1
    simp only [Nat.zero_mul, Nat.add_zero] at g0
    obtain rfl : k = b := Option.some.inj e
    obtain ⟨t, hb⟩ := hb
    unfold World.cell? at g0
    rw [show w.heap[(⟨k, off, none⟩ : Addr).block]? = _ from hb] at g0
    match off, g0 with
    | 0, h => simp at h
    | 1, h => simp at h
    | n + 2, h => simp at h
  · obtain ⟨A, c, e1, e2, e3, e4, h5⟩ := h3.2 i hi
    have hn := hit _ (List.getElem_mem hi)
    refine ⟨A, c, e1, e2, e3, e4, h5.1, h5.2.1, h5.2.2.1, ?_⟩
    rw [hn]
    exact Cells.nil _ _
/-- A function's end whose results lie in a disk's box and a state's. -/
theorem ret26_cell {P : Program} {fn : Func} {R : Ending → World → Prop} {a : Act} {W : World} {v : Value} {k j : Nat} {p q x y z u s t : Value} (h2 : Bx W k #[p, q]) (hb : Bx W j #[x, y, z, u, s, t])
    (h : W.cell? ⟨k, 0, none⟩ = some p → W.cell? ⟨k, 1, none⟩ = some q → W.cell? ⟨j, 0, none⟩ = some x → W.cell? ⟨j, 1, none⟩ = some y → W.cell? ⟨j, 2, none⟩ = some z → W.cell? ⟨j, 3, none⟩ = some u → W.cell? ⟨j, 4, none⟩ = some s → W.cell? ⟨j, 5, none⟩ = some t → (results fn a.tmps).run P W = .ok v W) (hd : a.defers = []) (hR : R (.returned v) W) : bodyPost P fn R .ret a W := by
  obtain ⟨h0, h1, h2, h3, h4, h5⟩ := st_at6 hb
  exact bodyPost_ret (h (Bx.at ‹Bx W k _› 0 _ rfl) (Bx.at ‹Bx W k _› 1 _ rfl) h0 h1 h2 h3 h4 h5) hd hR
theorem bx_other2 {w : World} {k j : Nat} {cs : Array Value} (h : Bx w k cs) (hk : j ≠ k) (x y : Value) : Bx ((w.setCell ⟨j, 0, none⟩ x).setCell ⟨j, 1, none⟩ y) k cs :=
  (h.set_other (p := ⟨j, 0, none⟩) hk x).set_other (p := ⟨j, 1, none⟩) hk y
/-- Where what Do answers lies, ahead of its end. -/
structure DoK (w V : World) (k X : Nat) (x0 x1 x2 x3 x4 x5 : Value) (D1 D2 : Option Addr) (d1 d2 : Nat) (rb : List ByteArray) (rl : List Wr) (A1 A2 : Option Addr) (n1 c1 n2 c2 : Nat) (R : Option Addr) (n q : Nat) (l : List HC) : Prop where
  st : Bx V (k + 1) #[x0, x1, x2, x3, x4, x5]
  bx : Bx V X #[.slice D1 rb.length d1, .slice D2 rl.length d2]
  r2 : Bx V (k + 1 + 1) #[.slice A1 n1 c1, .slice A2 n2 c2]
  r3 : Bx V (k + 1 + 1 + 1) #[.slice none 0 0, .int .i64 0, .slice none 0 0, .slice none 0 0, .int .i64 0, .int .i64 0]
  s1 : Sl V D1 rb.length d1 (rb.map sv)
  s2 : Sl V D2 rl.length d2 (wvs rl)
  hc : HcSl V R n q l
  hx : Ext w V
  hX : k + 1 + 1 + 1 < X
  hk : w.heap.size = k
theorem DoK.ext {w V V' : World} {k X : Nat} {x0 x1 x2 x3 x4 x5 : Value} {D1 D2 : Option Addr} {d1 d2 : Nat} {rb : List ByteArray} {rl : List Wr} {A1 A2 : Option Addr} {n1 c1 n2 c2 : Nat} {R : Option Addr} {n q : Nat} {l : List HC} (h : DoK w V k X x0 x1 x2 x3 x4 x5 D1 D2 d1 d2 rb rl A1 A2 n1 c1 n2 c2 R n q l) (e : Ext V V') : DoK w V' k X x0 x1 x2 x3 x4 x5 D1 D2 d1 d2 rb rl A1 A2 n1 c1 n2 c2 R n q l :=
  ⟨h.st.ext e, h.bx.ext e, h.r2.ext e, h.r3.ext e, h.s1.ext e, h.s2.ext e, h.hc.ext e, h.hx.trans e, h.hX, h.hk⟩
theorem DoK.set {w V : World} {k X : Nat} {x0 x1 x2 x3 x4 x5 : Value} {D1 D2 : Option Addr} {d1 d2 : Nat} {rb : List ByteArray} {rl : List Wr} {A1 A2 : Option Addr} {n1 c1 n2 c2 : Nat} {R : Option Addr} {n q : Nat} {l : List HC} (hit : ∀ y ∈ l, y.it = []) (h : DoK w V k X x0 x1 x2 x3 x4 x5 D1 D2 d1 d2 rb rl A1 A2 n1 c1 n2 c2 R n q l) :
    DoK w ((V.setCell ⟨k + 1 + 1, 0, none⟩ (.slice D1 rb.length d1)).setCell ⟨k + 1 + 1, 1, none⟩ (.slice D2 rl.length d2)) k X x0 x1 x2 x3 x4 x5 D1 D2 d1 d2 rb rl D1 D2 rb.length d1 rl.length d2 R n q l :=
  ⟨bx_other2 h.st (by omega) _ _, bx_other2 h.bx (by have := h.hX; omega) _ _, h.r2.set2 _ _, bx_other2 h.r3 (by omega) _ _, h.s1.store2 (flat_svs _) h.r2 _ _, h.s2.store2 (flat_wvs _) h.r2 _ _, hcs_boxed22 hit h.hc h.r2 _ _, h.hx.store2 (by have := h.hk; omega) _ _, h.hX, h.hk⟩
theorem DoK.fin {w V : World} {k X : Nat} {x0 x1 x2 x3 x4 x5 : Value} {D1 D2 : Option Addr} {d1 d2 : Nat} {rb : List ByteArray} {rl : List Wr} {R : Option Addr} {n q : Nat} {l : List HC} (hit : ∀ y ∈ l, y.it = []) (h : DoK w V k X x0 x1 x2 x3 x4 x5 D1 D2 d1 d2 rb rl D1 D2 rb.length d1 rl.length d2 R n q l) {S : Option Addr} {d : Nat} (hS : HcSl V S n d l) (a b c e f g : Value) :
    Bx ((((((V.setCell ⟨k + 1 + 1 + 1, 0, none⟩ a).setCell ⟨k + 1 + 1 + 1, 1, none⟩ b).setCell ⟨k + 1 + 1 + 1, 2, none⟩ c).setCell ⟨k + 1 + 1 + 1, 3, none⟩ e).setCell ⟨k + 1 + 1 + 1, 4, none⟩ f).setCell ⟨k + 1 + 1 + 1, 5, none⟩ g) (k + 1 + 1) #[.slice D1 rb.length d1, .slice D2 rl.length d2] ∧
    Bx ((((((V.setCell ⟨k + 1 + 1 + 1, 0, none⟩ a).setCell ⟨k + 1 + 1 + 1, 1, none⟩ b).setCell ⟨k + 1 + 1 + 1, 2, none⟩ c).setCell ⟨k + 1 + 1 + 1, 3, none⟩ e).setCell ⟨k + 1 + 1 + 1, 4, none⟩ f).setCell ⟨k + 1 + 1 + 1, 5, none⟩ g) (k + 1 + 1 + 1) #[a, b, c, e, f, g] ∧
    IsDisk ((((((V.setCell ⟨k + 1 + 1 + 1, 0, none⟩ a).setCell ⟨k + 1 + 1 + 1, 1, none⟩ b).setCell ⟨k + 1 + 1 + 1, 2, none⟩ c).setCell ⟨k + 1 + 1 + 1, 3, none⟩ e).setCell ⟨k + 1 + 1 + 1, 4, none⟩ f).setCell ⟨k + 1 + 1 + 1, 5, none⟩ g) (.agg #[.slice D1 rb.length d1, .slice D2 rl.length d2]) rb rl ∧
    HcSl ((((((V.setCell ⟨k + 1 + 1 + 1, 0, none⟩ a).setCell ⟨k + 1 + 1 + 1, 1, none⟩ b).setCell ⟨k + 1 + 1 + 1, 2, none⟩ c).setCell ⟨k + 1 + 1 + 1, 3, none⟩ e).setCell ⟨k + 1 + 1 + 1, 4, none⟩ f).setCell ⟨k + 1 + 1 + 1, 5, none⟩ g) S n d l ∧
    Ext w ((((((V.setCell ⟨k + 1 + 1 + 1, 0, none⟩ a).setCell ⟨k + 1 + 1 + 1, 1, none⟩ b).setCell ⟨k + 1 + 1 + 1, 2, none⟩ c).setCell ⟨k + 1 + 1 + 1, 3, none⟩ e).setCell ⟨k + 1 + 1 + 1, 4, none⟩ f).setCell ⟨k + 1 + 1 + 1, 5, none⟩ g) :=
  ⟨bx_other6 h.r2 (by omega) _ _ _ _ _ _, st_set6 h.r3 _ _ _ _ _ _, ⟨D1, d1, D2, d2, rfl, h.s1.store6 svs_str h.r3 _ _ _ _ _ _, h.s2.store6 wvs_str h.r3 _ _ _ _ _ _⟩, hcs_boxed6 hit hS h.r3 _ _ _ _ _ _, ext_store6 h.hx (by have := h.hk; omega) _ _ _ _ _ _⟩
theorem bx2_held {V : World} {k X : Nat} {x0 x1 x2 x3 x4 x5 p q : Value} (h : Bx V k #[x0, x1, x2, x3, x4, x5]) (hx : Bx V X #[p, q]) : V.cell? ⟨k, 0, none⟩ = some x0 ∧ V.cell? ⟨k, 1, none⟩ = some x1 ∧ V.cell? ⟨k, 2, none⟩ = some x2 ∧ V.cell? ⟨k, 3, none⟩ = some x3 ∧ V.cell? ⟨k, 4, none⟩ = some x4 ∧ V.cell? ⟨k, 5, none⟩ = some x5 ∧ V.cell? ⟨X, 0, none⟩ = some p ∧ V.cell? ⟨X, 1, none⟩ = some q :=
  ⟨h.at 0 _ rfl, h.at 1 _ rfl, h.at 2 _ rfl, h.at 3 _ rfl, h.at 4 _ rfl, h.at 5 _ rfl, hx.at 0 _ rfl, hx.at 1 _ rfl⟩
theorem DoK.held {w V : World} {k X : Nat} {x0 x1 x2 x3 x4 x5 : Value} {D1 D2 : Option Addr} {d1 d2 : Nat} {rb : List ByteArray} {rl : List Wr} {A1 A2 : Option Addr} {n1 c1 n2 c2 : Nat} {R : Option Addr} {n q : Nat} {l : List HC} (h : DoK w V k X x0 x1 x2 x3 x4 x5 D1 D2 d1 d2 rb rl A1 A2 n1 c1 n2 c2 R n q l) : V.cell? ⟨k + 1, 0, none⟩ = some x0 ∧ V.cell? ⟨k + 1, 1, none⟩ = some x1 ∧ V.cell? ⟨k + 1, 2, none⟩ = some x2 ∧ V.cell? ⟨k + 1, 3, none⟩ = some x3 ∧ V.cell? ⟨k + 1, 4, none⟩ = some x4 ∧ V.cell? ⟨k + 1, 5, none⟩ = some x5 ∧ V.cell? ⟨X, 0, none⟩ = some (.slice D1 rb.length d1) ∧ V.cell? ⟨X, 1, none⟩ = some (.slice D2 rl.length d2) :=
  bx2_held h.st h.bx
theorem DoK.held6 {w V : World} {k X : Nat} {x0 x1 x2 x3 x4 x5 : Value} {D1 D2 : Option Addr} {d1 d2 : Nat} {rb : List ByteArray} {rl : List Wr} {A1 A2 : Option Addr} {n1 c1 n2 c2 : Nat} {R : Option Addr} {n q : Nat} {l : List HC} (h : DoK w V k X x0 x1 x2 x3 x4 x5 D1 D2 d1 d2 rb rl A1 A2 n1 c1 n2 c2 R n q l) (a b c e f g : Value) : ((((((V.setCell ⟨k + 1 + 1 + 1, 0, none⟩ a).setCell ⟨k + 1 + 1 + 1, 1, none⟩ b).setCell ⟨k + 1 + 1 + 1, 2, none⟩ c).setCell ⟨k + 1 + 1 + 1, 3, none⟩ e).setCell ⟨k + 1 + 1 + 1, 4, none⟩ f).setCell ⟨k + 1 + 1 + 1, 5, none⟩ g).cell? ⟨k + 1, 0, none⟩ = some x0 ∧ ((((((V.setCell ⟨k + 1 + 1 + 1, 0, none⟩ a).setCell ⟨k + 1 + 1 + 1, 1, none⟩ b).setCell ⟨k + 1 + 1 + 1, 2, none⟩ c).setCell ⟨k + 1 + 1 + 1, 3, none⟩ e).setCell ⟨k + 1 + 1 + 1, 4, none⟩ f).setCell ⟨k + 1 + 1 + 1, 5, none⟩ g).cell? ⟨k + 1, 1, none⟩ = some x1 ∧ ((((((V.setCell ⟨k + 1 + 1 + 1, 0, none⟩ a).setCell ⟨k + 1 + 1 + 1, 1, none⟩ b).setCell ⟨k + 1 + 1 + 1, 2, none⟩ c).setCell ⟨k + 1 + 1 + 1, 3, none⟩ e).setCell ⟨k + 1 + 1 + 1, 4, none⟩ f).setCell ⟨k + 1 + 1 + 1, 5, none⟩ g).cell? ⟨k + 1, 2, none⟩ = some x2 ∧ ((((((V.setCell ⟨k + 1 + 1 + 1, 0, none⟩ a).setCell ⟨k + 1 + 1 + 1, 1, none⟩ b).setCell ⟨k + 1 + 1 + 1, 2, none⟩ c).setCell ⟨k + 1 + 1 + 1, 3, none⟩ e).setCell ⟨k + 1 + 1 + 1, 4, none⟩ f).setCell ⟨k + 1 + 1 + 1, 5, none⟩ g).cell? ⟨k + 1, 3, none⟩ = some x3 ∧ ((((((V.setCell ⟨k + 1 + 1 + 1, 0, none⟩ a).setCell ⟨k + 1 + 1 + 1, 1, none⟩ b).setCell ⟨k + 1 + 1 + 1, 2, none⟩ c).setCell ⟨k + 1 + 1 + 1, 3, none⟩ e).setCell ⟨k + 1 + 1 + 1, 4, none⟩ f).setCell ⟨k + 1 + 1 + 1, 5, none⟩ g).cell? ⟨k + 1, 4, none⟩ = some x4 ∧ ((((((V.setCell ⟨k + 1 + 1 + 1, 0, none⟩ a).setCell ⟨k + 1 + 1 + 1, 1, none⟩ b).setCell ⟨k + 1 + 1 + 1, 2, none⟩ c).setCell ⟨k + 1 + 1 + 1, 3, none⟩ e).setCell ⟨k + 1 + 1 + 1, 4, none⟩ f).setCell ⟨k + 1 + 1 + 1, 5, none⟩ g).cell? ⟨k + 1, 5, none⟩ = some x5 ∧ ((((((V.setCell ⟨k + 1 + 1 + 1, 0, none⟩ a).setCell ⟨k + 1 + 1 + 1, 1, none⟩ b).setCell ⟨k + 1 + 1 + 1, 2, none⟩ c).setCell ⟨k + 1 + 1 + 1, 3, none⟩ e).setCell ⟨k + 1 + 1 + 1, 4, none⟩ f).setCell ⟨k + 1 + 1 + 1, 5, none⟩ g).cell? ⟨X, 0, none⟩ = some (.slice D1 rb.length d1) ∧ ((((((V.setCell ⟨k + 1 + 1 + 1, 0, none⟩ a).setCell ⟨k + 1 + 1 + 1, 1, none⟩ b).setCell ⟨k + 1 + 1 + 1, 2, none⟩ c).setCell ⟨k + 1 + 1 + 1, 3, none⟩ e).setCell ⟨k + 1 + 1 + 1, 4, none⟩ f).setCell ⟨k + 1 + 1 + 1, 5, none⟩ g).cell? ⟨X, 1, none⟩ = some (.slice D2 rl.length d2) :=
  bx2_held (bx_other6 h.st (by omega) _ _ _ _ _ _) (bx_other6 h.bx (by have := h.hX; omega) _ _ _ _ _ _)
theorem DoK.held6d {w V : World} {k X : Nat} {x0 x1 x2 x3 x4 x5 : Value} {D1 D2 : Option Addr} {d1 d2 : Nat} {rb : List ByteArray} {rl : List Wr} {A1 A2 : Option Addr} {n1 c1 n2 c2 : Nat} {R : Option Addr} {n q : Nat} {l : List HC} (h : DoK w V k X x0 x1 x2 x3 x4 x5 D1 D2 d1 d2 rb rl A1 A2 n1 c1 n2 c2 R n q l) (a b c e f g : Value) : ((((((V.setCell ⟨k + 1 + 1 + 1, 0, none⟩ a).setCell ⟨k + 1 + 1 + 1, 1, none⟩ b).setCell ⟨k + 1 + 1 + 1, 2, none⟩ c).setCell ⟨k + 1 + 1 + 1, 3, none⟩ e).setCell ⟨k + 1 + 1 + 1, 4, none⟩ f).setCell ⟨k + 1 + 1 + 1, 5, none⟩ g).drew.cell? ⟨k + 1, 0, none⟩ = some x0 ∧ ((((((V.setCell ⟨k + 1 + 1 + 1, 0, none⟩ a).setCell ⟨k + 1 + 1 + 1, 1, none⟩ b).setCell ⟨k + 1 + 1 + 1, 2, none⟩ c).setCell ⟨k + 1 + 1 + 1, 3, none⟩ e).setCell ⟨k + 1 + 1 + 1, 4, none⟩ f).setCell ⟨k + 1 + 1 + 1, 5, none⟩ g).drew.cell? ⟨k + 1, 1, none⟩ = some x1 ∧ ((((((V.setCell ⟨k + 1 + 1 + 1, 0, none⟩ a).setCell ⟨k + 1 + 1 + 1, 1, none⟩ b).setCell ⟨k + 1 + 1 + 1, 2, none⟩ c).setCell ⟨k + 1 + 1 + 1, 3, none⟩ e).setCell ⟨k + 1 + 1 + 1, 4, none⟩ f).setCell ⟨k + 1 + 1 + 1, 5, none⟩ g).drew.cell? ⟨k + 1, 2, none⟩ = some x2 ∧ ((((((V.setCell ⟨k + 1 + 1 + 1, 0, none⟩ a).setCell ⟨k + 1 + 1 + 1, 1, none⟩ b).setCell ⟨k + 1 + 1 + 1, 2, none⟩ c).setCell ⟨k + 1 + 1 + 1, 3, none⟩ e).setCell ⟨k + 1 + 1 + 1, 4, none⟩ f).setCell ⟨k + 1 + 1 + 1, 5, none⟩ g).drew.cell? ⟨k + 1, 3, none⟩ = some x3 ∧ ((((((V.setCell ⟨k + 1 + 1 + 1, 0, none⟩ a).setCell ⟨k + 1 + 1 + 1, 1, none⟩ b).setCell ⟨k + 1 + 1 + 1, 2, none⟩ c).setCell ⟨k + 1 + 1 + 1, 3, none⟩ e).setCell ⟨k + 1 + 1 + 1, 4, none⟩ f).setCell ⟨k + 1 + 1 + 1, 5, none⟩ g).drew.cell? ⟨k + 1, 4, none⟩ = some x4 ∧ ((((((V.setCell ⟨k + 1 + 1 + 1, 0, none⟩ a).setCell ⟨k + 1 + 1 + 1, 1, none⟩ b).setCell ⟨k + 1 + 1 + 1, 2, none⟩ c).setCell ⟨k + 1 + 1 + 1, 3, none⟩ e).setCell ⟨k + 1 + 1 + 1, 4, none⟩ f).setCell ⟨k + 1 + 1 + 1, 5, none⟩ g).drew.cell? ⟨k + 1, 5, none⟩ = some x5 ∧ ((((((V.setCell ⟨k + 1 + 1 + 1, 0, none⟩ a).setCell ⟨k + 1 + 1 + 1, 1, none⟩ b).setCell ⟨k + 1 + 1 + 1, 2, none⟩ c).setCell ⟨k + 1 + 1 + 1, 3, none⟩ e).setCell ⟨k + 1 + 1 + 1, 4, none⟩ f).setCell ⟨k + 1 + 1 + 1, 5, none⟩ g).drew.cell? ⟨X, 0, none⟩ = some (.slice D1 rb.length d1) ∧ ((((((V.setCell ⟨k + 1 + 1 + 1, 0, none⟩ a).setCell ⟨k + 1 + 1 + 1, 1, none⟩ b).setCell ⟨k + 1 + 1 + 1, 2, none⟩ c).setCell ⟨k + 1 + 1 + 1, 3, none⟩ e).setCell ⟨k + 1 + 1 + 1, 4, none⟩ f).setCell ⟨k + 1 + 1 + 1, 5, none⟩ g).drew.cell? ⟨X, 1, none⟩ = some (.slice D2 rl.length d2) :=
  bx2_held ((bx_other6 h.st (by omega) _ _ _ _ _ _).ext (Ext.refl _).drew) ((bx_other6 h.bx (by have := h.hX; omega) _ _ _ _ _ _).ext (Ext.refl _).drew)
theorem planLen_all (n : Nat) : planLen n (-1) = n := by unfold planLen; rw [if_neg (by omega)]
set_option maxRecDepth 100000 in
set_option maxHeartbeats 1600000 in
theorem ref15Do_new (A A' R : Option Addr) (b : List ByteArray) (dl PW : List Wr) (n q c c' next keep gen gg : Nat) (w : World) (hb0 : 1 ≤ b.length) (hb : b.length ≤ 4000) (hdl : dl.length ≤ 300000) (hin : dl.all (takesS b.length) = true) (hn : cellsP b.length = n) (hn2 : n ≤ 2000) (hnx : next < 4294967296) (hk : keep < 65536) (hgn : gen < 2147483647) (hgg : gen + 1 = gg) (hPW : planW b dl n keep next gen = PW) (hpl : PW.length ≤ 300000)
    (hA : Sl w A b.length c (b.map sv)) (hA' : Sl w A' dl.length c' (wvs dl)) (hR : HcSl w R n q (List.replicate n HC.none)) :
    Calls Tryz.prog 34 #[.agg #[.slice A b.length c, .slice A' dl.length c'], .agg #[.slice R n q, .int .i64 keep, .slice none 0 0, .slice none 0 0, .int .i64 next, .int .i64 gen], .int .i64 (-1)] w fun e w' => ∃ D S d, e = .returned (.tuple #[D, .agg #[.slice S n d, .int .i64 keep, .slice none 0 0, .slice none 0 0, .int .i64 next, .int .i64 (if (doS b dl PW).2 < PW.length then (gen : Int) else (gg : Int))], .int .i64 (if (doS b dl PW).2 < PW.length then 8 else 0)]) ∧ IsDisk w' D (doS b dl PW).1.1 (doS b dl PW).1.2 ∧ HcSl w' S n d (List.replicate n HC.none) ∧ Ext w w' := by
  have HIT := Lib.hid (show ∀ y ∈ List.replicate n HC.none, y.it = [] from by
    intro y hy; obtain ⟨_, rfl⟩ := List.mem_replicate.1 hy; rfl)
  have RP := Lib.hid (fun w' h1 h2 h3 => ref14Plan_new A A' R b dl n q c c' next keep gen w' hb (by unfold maxLen; omega) hn hn2 hnx hk hgn h1 h2 h3)
  rw [hPW] at RP
  have RD := Lib.hid (fun P cp w' h1 h2 h3 => doR_any A A' P b dl PW c c' cp (-1) w' (by omega) hb0 (by omega) (by omega) hin h1 h2 h3)
  rw [planLen_all, List.take_length] at RD
  have RS := Lib.hid (fun w' h => ref15Settled_new R n q next gen gg keep w' hn2 hgn hgg h)
  generalize List.replicate n HC.none = l at *
  generalize doS b dl PW = rr at *
  obtain ⟨⟨rb, rl⟩, rc⟩ := rr
  simp only at RD ⊢
  have hb1 := ((((Bx.new w #[.slice A b.length c, .slice A' dl.length c'] 25).ext ((Ext.refl _).alloc (.cells #[.slice R n q, .int .i64 keep, .slice none 0 0, .slice none 0 0, .int .i64 next, .int .i64 gen] 34))).ext ((Ext.refl _).alloc (.cells #[.slice none 0 0, .slice none 0 0] 25))).ext ((Ext.refl _).alloc (.cells #[.slice none 0 0, .int .i64 0, .slice none 0 0, .slice none 0 0, .int .i64 0, .int .i64 0] 34)))
  have hb2 := ((Bx.new (w.alloc (.cells #[.slice A b.length c, .slice A' dl.length c'] 25)) #[.slice R n q, .int .i64 keep, .slice none 0 0, .slice none 0 0, .int .i64 next, .int .i64 gen] 34).ext ((Ext.refl _).alloc (.cells #[.slice none 0 0, .slice none 0 0] 25))).ext ((Ext.refl _).alloc (.cells #[.slice none 0 0, .int .i64 0, .slice none 0 0, .slice none 0 0, .int .i64 0, .int .i64 0] 34))
  have hb3 := (Bx.new ((w.alloc (.cells #[.slice A b.length c, .slice A' dl.length c'] 25)).alloc (.cells #[.slice R n q, .int .i64 keep, .slice none 0 0, .slice none 0 0, .int .i64 next, .int .i64 gen] 34)) #[.slice none 0 0, .slice none 0 0] 25).ext ((Ext.refl _).alloc (.cells #[.slice none 0 0, .int .i64 0, .slice none 0 0, .slice none 0 0, .int .i64 0, .int .i64 0] 34))
  have hb4 := Bx.new (((w.alloc (.cells #[.slice A b.length c, .slice A' dl.length c'] 25)).alloc (.cells #[.slice R n q, .int .i64 keep, .slice none 0 0, .slice none 0 0, .int .i64 next, .int .i64 gen] 34)).alloc (.cells #[.slice none 0 0, .slice none 0 0] 25)) #[.slice none 0 0, .int .i64 0, .slice none 0 0, .slice none 0 0, .int .i64 0, .int .i64 0] 34
  simp only [World.size_alloc] at hb2 hb3 hb4
  have hx := ((((Ext.refl w).alloc (.cells #[.slice A b.length c, .slice A' dl.length c'] 25)).alloc (.cells #[.slice R n q, .int .i64 keep, .slice none 0 0, .slice none 0 0, .int .i64 next, .int .i64 gen] 34)).alloc (.cells #[.slice none 0 0, .slice none 0 0] 25)).alloc (.cells #[.slice none 0 0, .int .i64 0, .slice none 0 0, .slice none 0 0, .int .i64 0, .int .i64 0] 34)
  generalize hW : ((((w.alloc _).alloc _).alloc _).alloc _) = W1 at hb1 hb2 hb3 hb4 hx
  have HB1 := Lib.hid hb1
  have HB2 := Lib.hid hb2
  have HB3 := Lib.hid hb3
  have HB4 := Lib.hid hb4
  have HX := Lib.hid hx
  have HA := Lib.hid (hA.ext hx)
  have HA' := Lib.hid (hA'.ext hx)
  have HR := Lib.hid (hR.ext hx)
  have p0 := hb1.at 0 _ rfl
  have p1 := hb1.at 1 _ rfl
  obtain ⟨s0, s1, s2, s3, s4, s5⟩ := st_at6 hb2
  have HPL := Lib.hid (wvs_length PW)
  generalize PW.length = pn at *
  clear hb1 hb2 hb3 hb4 hx hR hA hA' hgg hPW hn hin hnx hk hgn hb0 hb hdl hn2
  go_enter Tryz.func34, Tryz.ntmps34
  go_wp2_with (first
    | (go_at_call 63
       with_reducible refine (RP.out _ ?_ ?_ ?_).mono ?_
       exact HA.out
       exact HA'.out
       exact HR.out
       rintro e w2 ⟨P, m, cp, rfl, ho, hx⟩
       have hm : m = pn := by have := ho.1; rw [HPL.out] at this; omega
       subst hm
       have X2 := Lib.hid hx
       have P2 := Lib.hid (own_sl ho)
       clear ho hx p0 p1 s0 s1 s2 s3 s4 s5
       have p0 := (HB1.out.ext X2.out).at 0 _ rfl
       have p1 := (HB1.out.ext X2.out).at 1 _ rfl
       obtain ⟨s0, s1, s2, s3, s4, s5⟩ := st_at6 (HB2.out.ext X2.out))
    | (go_at_call 64
       with_reducible refine (RD.out _ _ _ ?_ ?_ ?_).mono ?_
       exact HA.out.ext X2.out
       exact HA'.out.ext X2.out
       exact P2.out
       rintro e w3 ⟨D, rfl, ⟨D1, d1, D2, d2, rfl, hd1, hd2⟩, hx⟩
       have X3 := Lib.hid (X2.out.trans hx)
       have HD1 := Lib.hid hd1
       have HD2 := Lib.hid hd2
       clear hd1 hd2 hx p0 p1 s0 s1 s2 s3 s4 s5
       obtain ⟨s0, s1, s2, s3, s4, s5⟩ := st_at6 (HB2.out.ext X3.out)))
  all_goals (
    obtain ⟨W4, hW4⟩ : ∃ W, w3.alloc (.cells #[.slice D1 rb.length d1, .slice D2 rl.length d2] 25) = W := ⟨_, rfl⟩
    have E4 := Lib.hid (show Ext W1 W4 from by rw [← hW4]; exact X3.out.alloc _)
    have DK := Lib.hid (show DoK w W4 w.heap.size w3.heap.size _ _ _ _ _ _ D1 D2 d1 d2 rb rl none none 0 0 0 0 R n q l from
      ⟨HB2.out.ext E4.out, by rw [← hW4]; exact Bx.new _ _ _, HB3.out.ext E4.out, HB4.out.ext E4.out, by rw [← hW4]; exact HD1.out.ext ((Ext.refl _).alloc _), by rw [← hW4]; exact HD2.out.ext ((Ext.refl _).alloc _), HR.out.ext E4.out, HX.out.trans E4.out, by have := HB4.out.lt; have := X3.out.size; omega, rfl⟩)
    rw [hW4]
    clear hW4 s0 s1 s2 s3 s4 s5
    have DK2 := Lib.hid (DK.out.ext (Ext.refl W4).drew)
    have M0 := Lib.hid (DoK.set HIT.out DK.out)
    have M2 := Lib.hid (M0.out.ext (Ext.refl _).drew)
    obtain ⟨s0, s1, s2, s3, s4, s5, b0, b1⟩ := DoK.held DK.out
    obtain ⟨y0, y1, z2⟩ := DK.out.r2.read2
    obtain ⟨g0, g1⟩ := DK.out.r2.free2
    obtain ⟨f0, f1, f2, f3, f4, f5⟩ := st_free6 DK.out.r3
    obtain ⟨q0, q1, q2, q3, q4, q5⟩ := st_at6 DK.out.r3
    have z3 := DK.out.r3.lt)
  · have hrc : rc < m := by assumption
    go_region_held3 (fun w' => w'.cell? ⟨w.heap.size + 1, 0, none⟩ = some (.slice R n q) ∧ w'.cell? ⟨w.heap.size + 1, 1, none⟩ = some (.int .i64 keep) ∧ w'.cell? ⟨w.heap.size + 1, 2, none⟩ = some (.slice none 0 0) ∧ w'.cell? ⟨w.heap.size + 1, 3, none⟩ = some (.slice none 0 0) ∧ w'.cell? ⟨w.heap.size + 1, 4, none⟩ = some (.int .i64 next) ∧ w'.cell? ⟨w.heap.size + 1, 5, none⟩ = some (.int .i64 gen) ∧ w'.cell? ⟨w3.heap.size, 0, none⟩ = some (.slice D1 rb.length d1) ∧ w'.cell? ⟨w3.heap.size, 1, none⟩ = some (.slice D2 rl.length d2))
      (first | (with_reducible exact DoK.held6d M0.out _ _ _ _ _ _) | (with_reducible exact DoK.held DK2.out) | (with_reducible exact DoK.held M2.out) | (with_reducible exact DoK.held K5.out) | (with_reducible exact DoK.held M5.out) | (with_reducible exact DoK.held6 K5.out _ _ _ _ _ _) | (with_reducible exact DoK.held6 M5.out _ _ _ _ _ _))
      (first | (fail "no call"))
    all_goals
      go_wp2_with fail
      obtain ⟨F1, F2, F3, F4, F5⟩ := DoK.fin HIT.out M0.out M0.out.hc (.slice R n q) (.int .i64 keep) (.slice none 0 0) (.slice none 0 0) (.int .i64 next) (.int .i64 gen)
      refine ret26_cell (F1.ext (Ext.refl _).drew) (F2.ext (Ext.refl _).drew) (v := .tuple #[.agg #[.slice D1 rb.length d1, .slice D2 rl.length d2], .agg #[.slice R n q, .int .i64 keep, .slice none 0 0, .slice none 0 0, .int .i64 next, .int .i64 gen], .int .i64 8]) (fun r0 r1 r2 r3 r4 r5 r6 r7 => by simp [results, Tryz.results34, go_sem, r0, r1, r2, r3, r4, r5, r6, r7]) rfl ⟨_, R, q, rfl, F3.ext (Ext.refl _).drew, F4.ext (Ext.refl _).drew, F5.drew⟩
  · have hrc : ¬ rc < m := by assumption
    go_region_held3 (fun w' => w'.cell? ⟨w.heap.size + 1, 0, none⟩ = some (.slice R n q) ∧ w'.cell? ⟨w.heap.size + 1, 1, none⟩ = some (.int .i64 keep) ∧ w'.cell? ⟨w.heap.size + 1, 2, none⟩ = some (.slice none 0 0) ∧ w'.cell? ⟨w.heap.size + 1, 3, none⟩ = some (.slice none 0 0) ∧ w'.cell? ⟨w.heap.size + 1, 4, none⟩ = some (.int .i64 next) ∧ w'.cell? ⟨w.heap.size + 1, 5, none⟩ = some (.int .i64 gen) ∧ w'.cell? ⟨w3.heap.size, 0, none⟩ = some (.slice D1 rb.length d1) ∧ w'.cell? ⟨w3.heap.size, 1, none⟩ = some (.slice D2 rl.length d2))
      (first | (with_reducible exact DoK.held6 M5.out _ _ _ _ _ _) | (with_reducible exact DoK.held6 K5.out _ _ _ _ _ _) | (with_reducible exact DoK.held M5.out) | (with_reducible exact DoK.held K5.out) | (with_reducible exact DoK.held M2.out) | (with_reducible exact DoK.held DK2.out))
      (first
        | ((go_at_call 65
            with_reducible refine (RS.out _ ?_).mono ?_
            (first | exact M2.out.hc | exact DK2.out.hc)
            rintro e w5 ⟨S, d, rfl, hs, hx⟩
            (first | have K5 := Lib.hid (M2.out.ext hx) | have K5 := Lib.hid (DK2.out.ext hx))
            have M5 := Lib.hid (DoK.set HIT.out K5.out)
            have S5 := Lib.hid hs
            clear hs hx s0 s1 s2 s3 s4 s5 b0 b1 y0 y1 z2 g0 g1 f0 f1 f2 f3 f4 f5 q0 q1 q2 q3 q4 q5 z3
            obtain ⟨s0, s1, s2, s3, s4, s5, b0, b1⟩ := DoK.held K5.out
            obtain ⟨y0, y1, z2⟩ := K5.out.r2.read2
            obtain ⟨g0, g1⟩ := K5.out.r2.free2
            obtain ⟨f0, f1, f2, f3, f4, f5⟩ := st_free6 K5.out.r3
            obtain ⟨q0, q1, q2, q3, q4, q5⟩ := st_at6 K5.out.r3
            have z3 := K5.out.r3.lt)))
    all_goals
      go_wp2_with fail
      obtain ⟨F1, F2, F3, F4, F5⟩ := DoK.fin HIT.out M5.out (hcs_boxed22 HIT.out S5.out K5.out.r2 (.slice D1 rb.length d1) (.slice D2 rl.length d2)) (.slice S n d) (.int .i64 keep) (.slice none 0 0) (.slice none 0 0) (.int .i64 next) (.int .i64 gg)
      refine ret26_cell F1 F2 (v := .tuple #[.agg #[.slice D1 rb.length d1, .slice D2 rl.length d2], .agg #[.slice S n d, .int .i64 keep, .slice none 0 0, .slice none 0 0, .int .i64 next, .int .i64 gg], .int .i64 0]) (fun r0 r1 r2 r3 r4 r5 r6 r7 => by simp [results, Tryz.results34, go_sem, r0, r1, r2, r3, r4, r5, r6, r7]) rfl ⟨_, S, d, rfl, F3, F4, F5⟩
end Go.Proofs.YtjbfopnkeclfgaaGreat
namespace Go.Proofs.YtjbfopnkeclfgaaGreat
set_option maxRecDepth 20000
open Go.RowKit
attribute [local go_sem ↓] Go.wp_at_zero Go.wp_at_succ

/-- P15.2: may there be such a disk? -/
def fmtOk (blocks keep : Int) : Prop := (1 ≤ blocks ∧ blocks ≤ 4000) ∧ newOk (cellsP blocks.toNat : Nat) keep
instance (blocks keep : Int) : Decidable (fmtOk blocks keep) := by unfold fmtOk; infer_instance
def fmtP (blocks keep : Int) : List Wr := planW (newB blocks) [] (cellsP blocks.toNat) keep.toNat 1 0
def fmtR (blocks keep : Int) : (List ByteArray × List Wr) × Nat := doS (newB blocks) [] (fmtP blocks keep)
/-- What Format answers: blocks, writes, cells, Keep, Next, Gen, the error. -/
structure Fmt where
  b : List ByteArray
  l : List Wr
  n : Nat
  keep : Int
  next : Int
  gen : Int
  e : Int
def fmtS (blocks keep : Int) : Fmt :=
  if fmtOk blocks keep then
    ⟨(fmtR blocks keep).1.1, (fmtR blocks keep).1.2, cellsP blocks.toNat, keep, 1, if (fmtR blocks keep).2 < (fmtP blocks keep).length then 0 else 1, if (fmtR blocks keep).2 < (fmtP blocks keep).length then 8 else 0⟩
  else ⟨[], [], 0, 0, 0, 0, 1⟩
/-- What a call of Format leaves. -/
def FmtAns (f : Fmt) (w : World) (e : Ending) (w' : World) : Prop :=
  ∃ D S d, e = .returned (.tuple #[D, .agg #[.slice S f.n d, .int .i64 f.keep, .slice none 0 0, .slice none 0 0, .int .i64 f.next, .int .i64 f.gen], .int .i64 f.e]) ∧ IsDisk w' D f.b f.l ∧ HcSl w' S f.n d (List.replicate f.n HC.none) ∧ Ext w w'
theorem asks_le (b : List ByteArray) (dl : List Wr) (base : Nat) (L : List ByteArray) : ∀ k, (asks b dl base L k).length ≤ k
  | 0 => Nat.le_refl _
  | k + 1 => by
    have h := asks_le b dl base L k
    show (askW _ _ _ _ _).length ≤ _
    unfold askW
    split
    · omega
    · rw [List.length_append, List.length_singleton]; omega
theorem bookP_len (keep next n : Nat) : (bookP next keep (List.replicate n 0)).length = 11 + 2 * n := by
  rw [← bookR_end (refs := List.replicate n 0) (n := n) (by simp)]
  unfold bookR bookH
  simp [putL_length]
  omega
theorem planW_le (b : List ByteArray) (dl : List Wr) (n keep next gen : Nat) : (planW b dl n keep next gen).length ≤ 14 + 2 * n := by
  unfold planW
  simp only [List.length_append, List.length_singleton]
  have h := asks_le b dl (2 + (gen + 1) % 2 * areaP n) (chB (bookP next keep (List.replicate n 0))) (chB (bookP next keep (List.replicate n 0))).length
  have h2 := chunks_le (bookP next keep (List.replicate n 0))
  rw [bookP_len, ← chB_len] at h2
  omega
theorem zero_hit (n : Nat) : ∀ y ∈ List.replicate n HC.none, y.it = [] := by
  intro y hy; obtain ⟨_, rfl⟩ := List.mem_replicate.1 hy; rfl
/-- Both results are stored. -/
theorem fmt_fin {w V : World} {k n d : Nat} {b : List ByteArray} {l : List Wr} {D1 D2 S : Option Addr} {d1 d2 : Nat} (hk : w.heap.size ≤ k) (h2 : Bx V k #[.slice none 0 0, .slice none 0 0]) (h6 : Bx V (k + 1) #[.slice none 0 0, .int .i64 0, .slice none 0 0, .slice none 0 0, .int .i64 0, .int .i64 0])
    (s1 : Sl V D1 b.length d1 (b.map sv)) (s2 : Sl V D2 l.length d2 (wvs l)) (hc : HcSl V S n d (List.replicate n HC.none)) (hx : Ext w V) (x0 x1 x2 x3 x4 x5 : Value) :
    ∃ W, W = ((((((((V.setCell ⟨k, 0, none⟩ (.slice D1 b.length d1)).setCell ⟨k, 1, none⟩ (.slice D2 l.length d2)).setCell ⟨k + 1, 0, none⟩ x0).setCell ⟨k + 1, 1, none⟩ x1).setCell ⟨k + 1, 2, none⟩ x2).setCell ⟨k + 1, 3, none⟩ x3).setCell ⟨k + 1, 4, none⟩ x4).setCell ⟨k + 1, 5, none⟩ x5) ∧
      Bx W k #[.slice D1 b.length d1, .slice D2 l.length d2] ∧ Bx W (k + 1) #[x0, x1, x2, x3, x4, x5] ∧ IsDisk W (.agg #[.slice D1 b.length d1, .slice D2 l.length d2]) b l ∧ HcSl W S n d (List.replicate n HC.none) ∧ Ext w W :=
  ⟨_, rfl, bx_other6 (h2.set2 _ _) (by omega) _ _ _ _ _ _, st_set6 (bx_other2 h6 (by omega) _ _) _ _ _ _ _ _,
    ⟨D1, d1, D2, d2, rfl, (s1.store2 (flat_svs _) h2 _ _).store6 svs_str (bx_other2 h6 (by omega) _ _) _ _ _ _ _ _, (s2.store2 (flat_wvs _) h2 _ _).store6 wvs_str (bx_other2 h6 (by omega) _ _) _ _ _ _ _ _⟩,
    hcs_boxed6 (zero_hit n) (hcs_boxed22 (zero_hit n) hc h2 _ _) (bx_other2 h6 (by omega) _ _) _ _ _ _ _ _, ext_store6 (hx.store2 hk _ _) (by omega) _ _ _ _ _ _⟩
set_option maxRecDepth 100000 in
set_option maxHeartbeats 1600000 in
theorem ref15Format_any (blocks keep : Int) (w : World) :
    Calls Tryz.prog 13 #[.int .i64 blocks, .int .i64 keep] w (FmtAns (fmtS blocks keep) w) := by
  have hb1 := (Bx.new w #[.slice none 0 0, .slice none 0 0] 25).ext ((Ext.refl _).alloc (.cells #[.slice none 0 0, .int .i64 0, .slice none 0 0, .slice none 0 0, .int .i64 0, .int .i64 0] 34))
  have hb2 := Bx.new (w.alloc (.cells #[.slice none 0 0, .slice none 0 0] 25)) #[.slice none 0 0, .int .i64 0, .slice none 0 0, .slice none 0 0, .int .i64 0, .int .i64 0] 34
  rw [World.size_alloc] at hb2
  have hx := ((Ext.refl w).alloc (.cells #[.slice none 0 0, .slice none 0 0] 25)).alloc (.cells #[.slice none 0 0, .int .i64 0, .slice none 0 0, .slice none 0 0, .int .i64 0, .int .i64 0] 34)
  generalize hW : ((w.alloc _).alloc _) = W1 at hb1 hb2 hx
  have HB1 := Lib.hid hb1
  have HB2 := Lib.hid hb2
  have HX := Lib.hid hx
  clear hb1 hb2 hx
  have RN := Lib.hid (fun w' => newR_any blocks w')
  by_cases h1 : 1 ≤ blocks ∧ blocks ≤ 4000
  rotate_left
  · have HF := Lib.hid (show fmtS blocks keep = ⟨[], [], 0, 0, 0, 0, 1⟩ from by unfold fmtS; exact if_neg (fun h => h1 h.1))
    rw [show newE blocks = 1 by unfold newE; rw [if_neg h1], show newB blocks = [] by unfold newB; rw [if_neg h1]] at RN
    clear h1
    generalize fmtS blocks keep = F at *
    go_enter Tryz.func13, Tryz.ntmps13
    go_wp2_with (first
      | (go_at_call 9
         with_reducible refine (RN.out _).mono ?_
         rintro e w2 ⟨v, rfl, ⟨D1, d1, D2, d2, rfl, hd1, hd2⟩, hx⟩
         have X2 := Lib.hid hx
         have B1 := Lib.hid (HB1.out.ext X2.out)
         have B2 := Lib.hid (HB2.out.ext X2.out)
         obtain ⟨y0, y1, z2⟩ := B1.out.read2
         obtain ⟨g0, g1⟩ := B1.out.free2
         obtain ⟨f0, f1, f2, f3, f4, f5⟩ := st_free6 B2.out
         obtain ⟨q0, q1, q2, q3, q4, q5⟩ := st_at6 B2.out
         have z3 := B2.out.lt
         clear hd1 hd2 hx))
    obtain ⟨_, rfl, F1, F2, F3, F4, F5⟩ := fmt_fin (w := w) (k := w.heap.size) (n := 0) (d := 0) (b := []) (l := []) (D1 := none) (D2 := none) (S := none) (d1 := 0) (d2 := 0) (Nat.le_refl _) B1.out B2.out (Sl.nil _) (Sl.nil _) ⟨rfl, [], Sl.nil _, HcAt.nil _⟩ (HX.out.trans X2.out) (.slice none 0 0) (.int .i64 0) (.slice none 0 0) (.slice none 0 0) (.int .i64 0) (.int .i64 0)
    refine ret26_cell (k := w.heap.size) (j := w.heap.size + 1) (F1.ext ((Ext.refl _).alloc _)) (F2.ext ((Ext.refl _).alloc _)) (v := .tuple #[.agg #[.slice none 0 0, .slice none 0 0], .agg #[.slice none 0 0, .int .i64 0, .slice none 0 0, .slice none 0 0, .int .i64 0, .int .i64 0], .int .i64 1]) (fun r0 r1 r2 r3 r4 r5 r6 r7 => by simp [results, Tryz.results13, go_sem, r0, r1, r2, r3, r4, r5, r6, r7]) rfl ?_
    rw [HF.out]
    unfold FmtAns
    exact ⟨_, none, 0, rfl, F3.ext ((Ext.refl _).alloc _), F4.ext ((Ext.refl _).alloc _), F5.alloc _⟩
  · obtain ⟨m, rfl⟩ := Int.eq_ofNat_of_zero_le (show 0 ≤ blocks by omega)
    have hm : 1 ≤ m ∧ m ≤ 4000 := by omega
    have HBL := Lib.hid (show newB (m : Int) = List.replicate m zb from by unfold newB; rw [if_pos h1]; simp)
    rw [show newE (m : Int) = 0 by unfold newE; rw [if_pos h1]] at RN
    have RC := Lib.hid (fun w' => ref14Cells_any m w' (by omega))
    have hn2 : cellsP m ≤ 2000 := (cells_facts m).1
    have RS := Lib.hid (fun w' => ref12New_any (cellsP m : Nat) keep w')
    by_cases hok : newOk (cellsP m : Nat) keep
    rotate_left
    · have HF := Lib.hid (show fmtS m keep = ⟨[], [], 0, 0, 0, 0, 1⟩ from by unfold fmtS; exact if_neg (fun h => hok h.2))
      rw [show newHE (cellsP m : Nat) keep = 1 by unfold newHE; rw [if_neg hok], show newH (cellsP m : Nat) keep = ⟨[], 0⟩ by unfold newH; rw [if_neg hok]] at RS
      simp only [List.length_nil] at RS
      clear h1 hok hm
      generalize fmtS m keep = F at *
      generalize newB (m : Int) = b at *
      generalize hbl : b.length = bl at *
      generalize cellsP m = n at *
      go_enter Tryz.func13, Tryz.ntmps13
      go_wp2_with (first
      | (go_at_call 9
         with_reducible refine (RN.out _).mono ?_
         rintro e w2 ⟨v, rfl, ⟨D1, d1, D2, d2, rfl, hd1, hd2⟩, hx⟩
         have X2 := Lib.hid hx
         have B1 := Lib.hid (HB1.out.ext X2.out)
         have B2 := Lib.hid (HB2.out.ext X2.out)

         clear hd1 hd2 hx)
      | (go_at_call 33
         with_reducible refine (RC.out _).mono ?_
         rintro e w4 ⟨rfl, rfl⟩)
      | (go_at_call 32
         with_reducible refine (RS.out _).mono ?_
         rintro e w3 ⟨S, d, rfl, hs, hx⟩
         have X3 := Lib.hid ((X2.out.alloc _).trans hx)
         have B3 := Lib.hid (HB1.out.ext X3.out)
         have B4 := Lib.hid (HB2.out.ext X3.out)
         obtain ⟨y0, y1, z2⟩ := B3.out.read2
         obtain ⟨g0, g1⟩ := B3.out.free2
         obtain ⟨f0, f1, f2, f3, f4, f5⟩ := st_free6 B4.out
         obtain ⟨q0, q1, q2, q3, q4, q5⟩ := st_at6 B4.out
         have z3 := B4.out.lt
         clear hx))
      obtain ⟨_, rfl, F1, F2, F3, F4, F5⟩ := fmt_fin (w := w) (k := w.heap.size) (n := 0) (d := 0) (b := []) (l := []) (D1 := none) (D2 := none) (S := none) (d1 := 0) (d2 := 0) (Nat.le_refl _) B3.out B4.out (Sl.nil _) (Sl.nil _) ⟨rfl, [], Sl.nil _, HcAt.nil _⟩ (HX.out.trans X3.out) (.slice none 0 0) (.int .i64 0) (.slice none 0 0) (.slice none 0 0) (.int .i64 0) (.int .i64 0)
      refine ret26_cell (k := w.heap.size) (j := w.heap.size + 1) (F1.ext ((Ext.refl _).alloc _)) (F2.ext ((Ext.refl _).alloc _)) (v := .tuple #[.agg #[.slice none 0 0, .slice none 0 0], .agg #[.slice none 0 0, .int .i64 0, .slice none 0 0, .slice none 0 0, .int .i64 0, .int .i64 0], .int .i64 1]) (fun r0 r1 r2 r3 r4 r5 r6 r7 => by simp [results, Tryz.results13, go_sem, r0, r1, r2, r3, r4, r5, r6, r7]) rfl ?_
      rw [HF.out]
      unfold FmtAns
      exact ⟨_, none, 0, rfl, F3.ext ((Ext.refl _).alloc _), F4.ext ((Ext.refl _).alloc _), F5.alloc _⟩
    · obtain ⟨kp, rfl⟩ := Int.eq_ofNat_of_zero_le (show 0 ≤ keep from hok.2.1)
      have hkp : kp ≤ 2000 := by have := hok.2.2; omega
      have HF := Lib.hid (show fmtS m kp = ⟨(doS (newB (m : Int)) [] (planW (newB (m : Int)) [] (cellsP m) kp 1 0)).1.1, (doS (newB (m : Int)) [] (planW (newB (m : Int)) [] (cellsP m) kp 1 0)).1.2, cellsP m, kp, 1, if (doS (newB (m : Int)) [] (planW (newB (m : Int)) [] (cellsP m) kp 1 0)).2 < (planW (newB (m : Int)) [] (cellsP m) kp 1 0).length then 0 else 1, if (doS (newB (m : Int)) [] (planW (newB (m : Int)) [] (cellsP m) kp 1 0)).2 < (planW (newB (m : Int)) [] (cellsP m) kp 1 0).length then 8 else 0⟩ from by
        unfold fmtS; exact if_pos ⟨h1, hok⟩)
      rw [show newHE (cellsP m : Nat) kp = 0 by unfold newHE; rw [if_pos hok], show newH (cellsP m : Nat) kp = ⟨List.replicate (cellsP m) HC.none, kp⟩ by unfold newH; rw [if_pos hok, Int.toNat_natCast]] at RS
      simp only [List.length_replicate] at RS
      have hbl : (newB (m : Int)).length = m := by rw [HBL.out, List.length_replicate]
      have hpw := planW_le (newB (m : Int)) [] (cellsP m) kp 1 0
      generalize newB (m : Int) = b at *
      obtain ⟨PW, hPW⟩ : ∃ P, planW b [] (cellsP m) kp 1 0 = P := ⟨_, rfl⟩
      rw [hPW] at HF hpw
      have RD := Lib.hid (fun A c A' c' S d w' (hA : Sl w' A m c (b.map sv)) (hA' : Sl w' A' 0 c' (wvs [])) (hS : HcSl w' S (cellsP m) d (List.replicate (cellsP m) HC.none)) => (show Calls Tryz.prog 34 #[.agg #[.slice A m c, .slice A' 0 c'], .agg #[.slice S (cellsP m) d, .int .i64 kp, .slice none 0 0, .slice none 0 0, .int .i64 1, .int .i64 0], .int .i64 (-1)] w' fun e w'' => ∃ D S d, e = .returned (.tuple #[D, .agg #[.slice S (cellsP m) d, .int .i64 kp, .slice none 0 0, .slice none 0 0, .int .i64 1, .int .i64 (if (doS b [] PW).2 < PW.length then (0 : Int) else (1 : Int))], .int .i64 (if (doS b [] PW).2 < PW.length then 8 else 0)]) ∧ IsDisk w'' D (doS b [] PW).1.1 (doS b [] PW).1.2 ∧ HcSl w'' S (cellsP m) d (List.replicate (cellsP m) HC.none) ∧ Ext w' w'' from by
        have := ref15Do_new A A' S b [] PW (cellsP m) d c c' 1 kp 0 1 w' (by omega) (by omega) (by simp) rfl (by rw [hbl]) hn2 (by omega) (by omega) (by omega) rfl hPW (by omega) (by rw [hbl]; exact hA) hA' hS
        rw [hbl] at this
        exact this))
      generalize (if (doS b [] PW).2 < PW.length then (0 : Int) else 1) = gn at *
      generalize (if (doS b [] PW).2 < PW.length then (8 : Int) else 0) = er at *
      clear hPW HBL hpw
      generalize doS b [] PW = rr at *
      obtain ⟨⟨rb, rl⟩, rc⟩ := rr
      simp only at RD HF
      clear h1 hok hm hkp
      generalize fmtS m kp = F at *
      generalize cellsP m = n at *
      have HBN := Lib.hid hbl
      clear hbl
      go_enter Tryz.func13, Tryz.ntmps13
      go_wp2_with (first
      | (go_at_call 9
         with_reducible refine (RN.out _).mono ?_
         rintro e w2 ⟨v, rfl, ⟨D1, d1, D2, d2, rfl, hd1, hd2⟩, hx⟩
         rw [HBN.out] at hd1 ⊢
         have X2 := Lib.hid hx
         have B1 := Lib.hid (HB1.out.ext X2.out)
         have B2 := Lib.hid (HB2.out.ext X2.out)

         have T1 := Lib.hid hd1
         have T2 := Lib.hid hd2
         clear hd1 hd2 hx)
      | (go_at_call 33
         with_reducible refine (RC.out _).mono ?_
         rintro e w4 ⟨rfl, rfl⟩)
      | (go_at_call 32
         with_reducible refine (RS.out _).mono ?_
         rintro e w3 ⟨S, d, rfl, hs, hx⟩
         have X3 := Lib.hid ((X2.out.alloc _).trans hx)
         have U1 := Lib.hid (T1.out.ext (((Ext.refl _).alloc _).trans hx))
         have U2 := Lib.hid (T2.out.ext (((Ext.refl _).alloc _).trans hx))
         have S3 := Lib.hid hs
         have Y0 := Lib.hid (Bx.new w2 #[.slice D1 m d1, .slice D2 0 d2] 25)
         have Y1 := Lib.hid (Y0.out.ext hx)
         have t0 := Y1.out.at 0 _ rfl
         have t1 := Y1.out.at 1 _ rfl
         have t2 := Y1.out.lt
         clear hs hx)
      | (go_at_call 34
         with_reducible refine (RD.out _ _ _ _ _ _ _ ?_ ?_ ?_).mono ?_
         exact U1.out.ext ((Ext.refl _).alloc _)
         exact U2.out.ext ((Ext.refl _).alloc _)
         exact S3.out.ext ((Ext.refl _).alloc _)
         rintro e w5 ⟨D, S5, d5, rfl, ⟨E1, e1, E2, e2, rfl, he1, he2⟩, hs5, hx⟩
         have X5 := Lib.hid ((X3.out.alloc _).trans hx)
         have B3 := Lib.hid (HB1.out.ext X5.out)
         have B4 := Lib.hid (HB2.out.ext X5.out)
         have V1 := Lib.hid he1
         have V2 := Lib.hid he2
         have S5' := Lib.hid hs5
         clear he1 he2 hs5 hx t0 t1 t2
         obtain ⟨y0, y1, z2⟩ := B3.out.read2
         obtain ⟨g0, g1⟩ := B3.out.free2
         obtain ⟨f0, f1, f2, f3, f4, f5⟩ := st_free6 B4.out
         obtain ⟨q0, q1, q2, q3, q4, q5⟩ := st_at6 B4.out
         have z3 := B4.out.lt))

      obtain ⟨_, rfl, F1, F2, F3, F4, F5⟩ := fmt_fin (w := w) (k := w.heap.size) (Nat.le_refl _) B3.out B4.out V1.out V2.out S5'.out (HX.out.trans X5.out) (.slice S5 n d5) (.int .i64 kp) (.slice none 0 0) (.slice none 0 0) (.int .i64 1) (.int .i64 gn)
      refine ret26_cell (k := w.heap.size) (j := w.heap.size + 1) F1 F2 (v := .tuple #[.agg #[.slice E1 rb.length e1, .slice E2 rl.length e2], .agg #[.slice S5 n d5, .int .i64 kp, .slice none 0 0, .slice none 0 0, .int .i64 1, .int .i64 gn], .int .i64 er]) (fun r0 r1 r2 r3 r4 r5 r6 r7 => by simp [results, Tryz.results13, go_sem, r0, r1, r2, r3, r4, r5, r6, r7]) rfl ?_
      rw [HF.out]
      unfold FmtAns
      exact ⟨_, S5, d5, rfl, F3, F4, F5⟩
end Go.Proofs.YtjbfopnkeclfgaaGreat
namespace Go.Proofs.YtjbfopnkeclfgaaGreat
set_option maxRecDepth 20000
open Go.RowKit

theorem cm_takes {n : Nat} {x : Wr} (h : takesS n x = true) : x.2.size = 40 ∧ hasS n x.1 = true := by
  unfold takesS at h
  simp only [Bool.and_eq_true, beq_iff_eq] at h
  exact ⟨by have := h.2; omega, h.1⟩
theorem cm_write1 {b : List ByteArray} {x : Wr} (h : b.all okB = true) (hx : takesS b.length x = true) : (write1 b x).all okB = true := by
  unfold write1
  split
  · rw [List.all_eq_true] at *
    intro y hy
    rcases List.mem_or_eq_of_mem_set hy with h1 | h1
    · exact h y h1
    · subst h1
      unfold okB
      rw [(cm_takes hx).1]
      rfl
  · exact h
theorem cm_writeL : ∀ (l : List Wr) (b : List ByteArray), b.all okB = true → l.all (takesS b.length) = true → (writeL b l).all okB = true
  | [], b, h, _ => h
  | x :: l, b, h, hl => by
    simp only [List.all_cons, Bool.and_eq_true] at hl
    exact cm_writeL l (write1 b x) (cm_write1 h hl.1) (by rw [write1_length]; exact hl.2)
/-- A right disk stays one. -/
def DkR (n : Nat) (s : List ByteArray × List Wr) : Prop := s.1.length = n ∧ s.1.all okB = true ∧ s.2.all (takesS n) = true
theorem DkR.step {n : Nat} {b : List ByteArray} {l : List Wr} {x : Wr} {s : List ByteArray × List Wr} (h : DkR n (b, l)) (hs : step1 b l x = some s) : DkR n s := by
  obtain ⟨h1, h2, h3⟩ := h
  simp only at h1 h2 h3
  subst h1
  unfold step1 at hs
  split at hs
  · cases hs
    exact ⟨writeL_length _ _, cm_writeL l b h2 h3, rfl⟩
  · split at hs
    · cases hs
      refine ⟨rfl, h2, ?_⟩
      rename_i ht
      simp only [List.all_append, List.all_cons, List.all_nil, Bool.and_true, Bool.and_eq_true]
      exact ⟨h3, ht⟩
    · cases hs
theorem DkR.steps {n : Nat} : ∀ (p : List Wr) {b : List ByteArray} {l : List Wr}, DkR n (b, l) → DkR n (doS b l p).1
  | [], _, _, h => h
  | x :: p, b, l, h => by
    rw [doS]
    split
    · exact h
    · rename_i s hs
      exact (h.step hs).steps p
theorem zb_ok (m : Nat) : (List.replicate m zb).all okB = true := by
  rw [List.all_eq_true]
  intro y hy
  obtain ⟨_, rfl⟩ := List.mem_replicate.1 hy
  decide +kernel
end Go.Proofs.YtjbfopnkeclfgaaGreat
