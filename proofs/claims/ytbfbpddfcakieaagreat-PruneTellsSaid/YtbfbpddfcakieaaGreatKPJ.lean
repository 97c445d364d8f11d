/- The contract of Del of the reference of layer 10, whole. -/
import Derived.Test.YtbfbpddfcakieaaGreatK49
import Derived.Test.YtbfbpddfcakieaaGreatK33
namespace Go.Proofs.YtbfbpddfcakieaaGreat
open Go.RowKit

/-- P10.2, of the reference. -/
theorem ref10Del_any (R : Option Addr) (c : List HC) (n q : Nat) (keep root key most : Int) (w : World) (hmost : most ≤ 60) (hm : mayT ⟨c, keep⟩ root most = true) (hA : HcSl w R n q c) :
    Calls Tryz.prog 7 #[.agg #[.slice R n q, .int .i64 keep], .int .i64 root, .int .i64 key] w fun e w' => ∃ S d, e = .returned (.tuple #[.agg #[.slice S n d, .int .i64 keep], .int .i64 (delR ⟨c, keep⟩ root key).2.1, .int .i64 (delR ⟨c, keep⟩ root key).2.2]) ∧ HcSl w' S n d (delR ⟨c, keep⟩ root key).1 ∧ Ext w w' := by
  have hm' := hm
  unfold mayT at hm'
  rw [Bool.and_eq_true] at hm'
  obtain ⟨hM, hrr⟩ := hm'
  obtain ⟨m1, m2, m3⟩ := may_iff hM
  have hal := allR_of m3
  have hnc := hA.1
  have hn2 : c.length ≤ 2000 := (rightH_iff m3).1.1.2
  have hkp := (rightH_iff m3).1.2
  have hk : 0 ≤ keep ∧ keep ≤ 9223372036854775807 := ⟨hkp.1, by have := hkp.2; omega⟩
  unfold delR
  by_cases hg : getT c root key = none
  · rw [if_pos hg]
    exact del_walk_none R c n q keep root key w hal hn2 hrr hg hA
  rw [if_neg hg]
  by_cases hf : fitsH ⟨c, keep⟩ (highT c root) true = false
  · rw [if_pos hf]
    exact del_walk_full R c n q keep root key w hk hal hn2 hrr hg hf hA
  rw [if_neg hf]
  have hf' : fitsH ⟨c, keep⟩ (highT c root) true = true := by simpa using hf
  obtain ⟨-, hs, h0, h1, hb, hfr, hin⟩ := del_facts hm hg hf'
  obtain ⟨d1, d2, d3, d4, d5, d6⟩ := del_loose m3 hs h0 h1 hb hfr hin
  unfold delG
  have hAN := fun w' (hx : Ext w w') => ref10anew_any 20 c root key ((bel c 20 root).hi + 1) R n q w' (Nat.le_refl _) m3 hs h0 h1 hb (by omega) hin hfr (by omega) (hA.ext hx)
  by_cases hl : (delS 20 c root key).2.length = 0
  · rw [if_pos hl]
    simp only
    rw [hl] at hAN
    refine del_walk_empty R c n q keep root key w hk hal hn2 hrr hg hf' (delS 20 c root key).1 _ (looseE ⟨(delS 20 c root key).1, keep⟩ root) (fun w' hx => (hAN w' hx).mono ?_) (fun w' S d hS => ?_) hA
    · rintro e w2 ⟨S, d, O, z, rfl, g1, _, g3⟩
      exact ⟨S, d, O, z, rfl, g1, g3⟩
    · have h := ref05Loose_any (delS 20 c root key).1.length (c.length + 1) S (delS 20 c root key).1 n d keep root w' List.countP_le_length (by rw [d2]; omega) (by omega) (fun j hj => by have := d3 j hj; omega) hS
      exact h
  · rw [if_neg hl]
    obtain ⟨y, hy⟩ : ∃ y, (delS 20 c root key).2 = [y] := by
      match h : (delS 20 c root key).2, hl, d5 with
      | [y], _, _ => exact ⟨y, rfl⟩
    have hyg : ((delS 20 c root key).2.getD 0 (0, 0)) = y := by rw [hy]; rfl
    obtain ⟨y0, y1, y2, y3, y4, y5, y6, y7⟩ := d6 y hy
    rw [hyg]
    simp only
    rw [hy] at hAN
    refine del_walk_out R c n q keep root key w hk hal hn2 hrr hg hf' (delS 20 c root key).1 (lowS 20 (delS 20 c root key).1 y.2).1 _ y (looseE ⟨(lowS 20 (delS 20 c root key).1 y.2).1, keep⟩ root) (lowS 20 (delS 20 c root key).1 y.2).2 hAN (fun w' S d hS => ?_) (fun w' S d hS => ?_) hA
    · exact ref10Low_any 20 (delS 20 c root key).1 y.2 S n d keep w' d1 (fun j hj => by have := d3 j hj; omega) (by omega) (by rw [d2]; exact y1) (low_ends (keep := keep) 20 (delS 20 c root key).1 y.2 d1 (fun j hj => by have := d3 j hj; omega) (by omega) y0 (by rw [d2]; exact y1) y2 (by have := y3; omega)) hS
    · have h := ref05Loose_any (lowS 20 (delS 20 c root key).1 y.2).1.length (c.length + 1) S (lowS 20 (delS 20 c root key).1 y.2).1 n d keep root w' List.countP_le_length (by rw [y5]; omega) (by omega) (fun j hj => by have := y6 j hj; omega) hS
      exact h
/-- P10.1, of the reference. -/
theorem ref10Low_may (R : Option Addr) (c : List HC) (n q : Nat) (keep root most : Int) (w : World) (hm : mayT ⟨c, keep⟩ root most = true) (hA : HcSl w R n q c) :
    Calls Tryz.prog 9 #[.agg #[.slice R n q, .int .i64 keep], .int .i64 root] w fun e w' => ∃ S d, e = .returned (.tuple #[.agg #[.slice S n d, .int .i64 keep], .int .i64 (lowS 20 c root).2]) ∧ HcSl w' S n d (lowS 20 c root).1 ∧ Ext w w' := by
  unfold mayT at hm
  rw [Bool.and_eq_true] at hm
  obtain ⟨hM, hrr⟩ := hm
  obtain ⟨m1, m2, m3⟩ := may_iff hM
  rcases rightR_iff hrr with h | ⟨h0, h1, h2⟩
  · have hc1 : 1 ≤ c.length := (rightH_iff m3).1.1.1
    exact ref10Low_any 20 c root R n q keep w m3 (fun j hj => by have := (m2 j hj).2; omega) (by omega) (by omega) (.inl h) hA
  · have hbh := bel_high c 20 root
    exact ref10Low_any 20 c root R n q keep w m3 (fun j hj => by have := (m2 j hj).2; omega) (by omega) h1 (low_ends (keep := keep) 20 c root m3 (fun j hj => by have := (m2 j hj).2; omega) (by omega) h0 h1 h2 (by omega)) hA
end Go.Proofs.YtbfbpddfcakieaaGreat
