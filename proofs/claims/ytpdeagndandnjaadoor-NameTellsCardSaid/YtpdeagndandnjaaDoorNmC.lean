/- Walks of Path, Join and Within of the reference of layer 17: the plain part. -/
import Derived.Test.YtpdeagndandnjaaDoorNmB
namespace Go.Proofs.YtpdeagndandnjaaDoor
set_option maxRecDepth 20000
open Go.RowKit

def nsl (b : UInt8) : Bool := !isSl b
theorem drop_len {α : Type} (p : α → Bool) : ∀ (l : List α), (l.dropWhile p).length ≤ l.length
  | [] => by simp
  | a :: l => by
    rw [List.dropWhile_cons]
    split
    · have := drop_len p l; simp; omega
    · simp
theorem segs_fuel : ∀ (f g : Nat) (l : Bs), l.length ≤ f → l.length ≤ g → segs f l = segs g l
  | f, g, [], _, _ => by cases f <;> cases g <;> rfl
  | 0, _, _ :: _, h, _ => by simp at h
  | _ + 1, 0, _ :: _, _, h => by simp at h
  | f + 1, g + 1, c :: r, h1, h2 => by
    simp only [List.length_cons] at h1 h2
    have hd := drop_len (fun b => !isSl b) r
    rw [segs, segs, segs_fuel f g _ (by omega) (by omega)]
def sg (l : Bs) : Option (List Bs) := segs l.length l
theorem sg_nil : sg [] = some [] := rfl
theorem sg_cons (c : UInt8) (r : Bs) : sg (c :: r) = if isSl c then (sg (r.dropWhile nsl)).map (fun l => r.takeWhile nsl :: l) else none := by
  unfold sg
  rw [List.length_cons, segs]
  have hd := drop_len (fun b => !isSl b) r
  rw [segs_fuel r.length (r.dropWhile (fun b => !isSl b)).length _ hd (Nat.le_refl _)]
  rfl
theorem pathP_sg {l : Bs} (h1 : l ≠ [47]) (h2 : l ≠ []) : pathP l = match sg l with
    | none => none
    | some ns => if ns.all ofOk && decide (ns.length ≤ 20) then some (ns.map numL) else none := by
  unfold pathP
  rw [if_neg h1, if_neg h2]
  rfl
/-- So far: these names, and that is left. -/
structure Way (l : Bs) (at_ : Nat) (ms : List Bs) : Prop where
  le : at_ ≤ l.length
  told : sg l = (sg (l.drop at_)).map (fun x => ms ++ x)
  ok : ms.all ofOk = true
  few : ms.length ≤ 20
theorem Way.start (l : Bs) : Way l 0 [] := ⟨Nat.zero_le _, by simp, rfl, by simp⟩
theorem Way.done {l : Bs} {ms : List Bs} (h : Way l l.length ms) (h1 : l ≠ [47]) (h2 : l ≠ []) : pathP l = some (ms.map numL) := by
  rw [pathP_sg h1 h2, h.told, List.drop_length, sg_nil]
  simp [h.ok, h.few]
theorem Way.done' {l : Bs} {k : Nat} {ms : List Bs} (h : Way l k ms) (hk : l.length = k) (h1 : l ≠ [47]) (h2 : l ≠ []) : pathP l = some (ms.map numL) := by subst hk; exact h.done h1 h2
/-- How long the name is that begins there. -/
def tw (l : Bs) (at_ : Nat) : Nat := ((l.drop (at_ + 1)).takeWhile nsl).length
theorem tw_le (l : Bs) (at_ : Nat) (h : at_ < l.length) : at_ + 1 + tw l at_ ≤ l.length := by
  have h1 : ((l.drop (at_ + 1)).takeWhile nsl).length ≤ (l.drop (at_ + 1)).length := (List.takeWhile_sublist _).length_le
  rw [List.length_drop] at h1
  unfold tw
  omega
theorem tw_take : ∀ (l : Bs), l.take (l.takeWhile nsl).length = l.takeWhile nsl ∧ l.drop (l.takeWhile nsl).length = l.dropWhile nsl
  | [] => by simp
  | a :: l => by
    obtain ⟨h1, h2⟩ := tw_take l
    rw [List.takeWhile_cons, List.dropWhile_cons]
    split
    · simp [h1, h2]
    · simp
theorem tw_in : ∀ (l : Bs) (j : Nat) (h : j < l.length), (j < (l.takeWhile nsl).length → isSl l[j] = false) ∧ (j = (l.takeWhile nsl).length → isSl l[j] = true)
  | [], j, h => by simp at h
  | a :: l, 0, h => by
    rw [List.takeWhile_cons]
    unfold nsl
    cases ha : isSl a <;> simp [ha]
  | a :: l, j + 1, h => by
    obtain ⟨h1, h2⟩ := tw_in l j (by simpa using h)
    rw [List.takeWhile_cons]
    split
    · simp only [List.length_cons, List.getElem_cons_succ]
      exact ⟨fun h => h1 (by omega), fun h => h2 (by omega)⟩
    · simp
theorem tw_at {l : Bs} {at_ j : Nat} (h : at_ + 1 + j < l.length) : (j < tw l at_ → isSl l[at_ + 1 + j] = false) ∧ (j = tw l at_ → isSl l[at_ + 1 + j] = true) := by
  have h2 := tw_in (l.drop (at_ + 1)) j (by rw [List.length_drop]; omega)
  rw [List.getElem_drop] at h2
  exact h2
/-- The name that begins there. -/
def nameAt (l : Bs) (at_ : Nat) : Bs := (l.drop (at_ + 1)).take (tw l at_)
theorem Way.bad1 {l : Bs} {at_ : Nat} {ms : List Bs} (h : Way l at_ ms) (h1 : l ≠ [47]) (h2 : l ≠ []) (hl : at_ < l.length) (hc : isSl l[at_] = false) : pathP l = none := by
  rw [pathP_sg h1 h2, h.told, List.drop_eq_getElem_cons hl, sg_cons, hc]
  rfl
theorem Way.step {l : Bs} {at_ : Nat} {ms : List Bs} (h : Way l at_ ms) (hl : at_ < l.length) (hc : isSl l[at_] = true) : sg l = (sg (l.drop (at_ + 1 + tw l at_))).map (fun x => (ms ++ [nameAt l at_]) ++ x) := by
  obtain ⟨e1, e2⟩ := tw_take (l.drop (at_ + 1))
  rw [h.told, List.drop_eq_getElem_cons hl, sg_cons, hc, if_pos rfl, Option.map_map]
  have e3 : l.drop (at_ + 1 + tw l at_) = (l.drop (at_ + 1)).dropWhile nsl := by rw [← e2, List.drop_drop]; rfl
  have e4 : nameAt l at_ = (l.drop (at_ + 1)).takeWhile nsl := e1
  rw [e3, e4]
  congr 1
  funext x
  simp
theorem Way.bad2 {l : Bs} {at_ : Nat} {ms : List Bs} (h : Way l at_ ms) (h1 : l ≠ [47]) (h2 : l ≠ []) (hl : at_ < l.length) (hc : isSl l[at_] = true) (hb : ofOk (nameAt l at_) = false ∨ ms.length = 20) : pathP l = none := by
  rw [pathP_sg h1 h2, h.step hl hc]
  cases sg (l.drop (at_ + 1 + tw l at_)) with
  | none => rfl
  | some x =>
    simp only [Option.map_some]
    rcases hb with hb | hb
    · simp [hb]
    · have : ¬ (ms.length + (1 + x.length)) ≤ 20 := by omega
      simp
      intros
      omega
theorem Way.next {l : Bs} {at_ : Nat} {ms : List Bs} (h : Way l at_ ms) (hl : at_ < l.length) (hc : isSl l[at_] = true) (hn : ofOk (nameAt l at_) = true) (h20 : ms.length ≠ 20) : Way l (at_ + 1 + tw l at_) (ms ++ [nameAt l at_]) :=
  ⟨tw_le l at_ hl, h.step hl hc, by rw [List.all_append, h.ok]; simp [hn], by have := h.few; simp; omega⟩
theorem tx_extract (s : ByteArray) (a b : Nat) : tx (s.extract a b) = ((tx s).drop a).take (b - a) := by
  unfold tx
  rw [ByteArray.data_extract, Array.toList_extract, List.extract_eq_take_drop]
end Go.Proofs.YtpdeagndandnjaaDoor
