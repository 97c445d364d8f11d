/- Walks of the reference's Seal, and of Open. Walks of Open. Plain facts on the check sum: it is linear, and turned bits within 32 in a row are seen. What else holds of bytes, sums, and sealed blocks; rows of bytes that are the call's own. The contracts of bytes and sealed blocks, with lengths as numbers of their own. Put of the reference, its row owned (as Nu5 has it, for seats that hold NumW5). What came in, opened; and what came in reads behind the call as it did. -/
import Derived.Test.YtjbfopnkeclfgaaGreatK01
import Derived.Test.YtjbfopnkeclfgaaGreatK02
import Derived.Test.YtjbfopnkeclfgaaGreatK03
import Derived.Test.YtjbfopnkeclfgaaGreatRows
import Derived.ProofKit
import Derived.OpenShut
import Derived.ShutString
import Derived.ChangeOld
import Derived.Deep.Fields
import Derived.Lib.SmallJoins
namespace Go.Proofs.YtjbfopnkeclfgaaGreat
set_option maxRecDepth 20000
open Go.RowKit


theorem Cells.none_ {w : World} {A : Option Addr} {l : List UInt8} (h : Cells w A (l.map bv)) (hA : A = none) : l.length = 0 := by
  rcases Nat.eq_zero_or_pos l.length with h0 | h0
  · exact h0
  · obtain ⟨ad, h', _⟩ := h.some_ (by simpa using h0)
    rw [hA] at h'; cases h'
def slLen : Value → Nat | .slice _ n _ => n | _ => 0
theorem pad_step (b : List UInt8) (k : Nat) : (b ++ List.replicate k 0).map bv ++ [bv 0] = (b ++ List.replicate (k + 1) 0).map bv := by
  rw [List.replicate_succ']; simp

set_option maxHeartbeats 1000000 in
theorem ref01Seal_any (A : Option Addr) (l : List UInt8) (c : Nat) (w : World) (hl : l.length ≤ maxLen) (hn : A = none → c = 0) (hA : Cells w A (l.map bv)) :
    Calls Tryz.prog 133 #[.slice A l.length c] w fun e w' => e = .returned (sealV l) ∧ Below w.heap.size w w' := by
  unfold maxLen at hl
  by_cases h36 : l.length ≤ 36
  · have HV := Lib.hid (show sealV l = .tuple #[.string ⟨(sealL l).toArray⟩, .int .i64 0] by unfold sealV sealB sealE; rw [if_pos h36, if_pos h36])
    obtain ⟨i0, hi, hz0, hz1, hz2⟩ := info_parts info5
    go_enter Tryz.func133, Tryz.ntmps133
    go_wp2_with (at_builtin; refine stop_here ?_)
    refine stop_on ?_
    have h0 := World.ownsRow_lit (base := w.heap.size) (e := 5) (size := 1) w #[] 0 (Nat.le_refl _) (Nat.zero_le _) rfl
    have hA1 : Cells (w.alloc (.cells #[] 5)) A (l.map bv) := hA.below ((Below.refl _ _).alloc (Nat.le_refl _) _)
    refine wpList_app _ rfl _ _ 68 rfl w.heap.size 5 i0 (.int .u8 0) 1 1 Tryz.underlying68 hi hz0 hz1 hz2 rfl (by decide) _ 0 [] rfl h0 A l.length c (l.map bv) rfl (by simp) ?k1 hA1.at_ (bytes_oneCell _) (by unfold maxLen; omega) (by omega) (by simp) ?_
    case k1 => intro h; exact ⟨hA.none_ h, hn h⟩
    intro v1 w1 hown hgrow
    have HB := Lib.hid (show Below w.heap.size w w1 from ((Below.refl _ _).alloc (Nat.le_refl _) _).grown hgrow (by simp) (by intro k hk; cases hk; exact Nat.le_refl _))
    have HO := Lib.hid (show w1.ownsRow w.heap.size 5 1 v1 l.length ((l ++ List.replicate 0 0).map bv) by simpa using hown)
    clear hown hgrow hA1 h0
    obtain ⟨A1, cap1, hv1⟩ := own_shape HO.out
    subst hv1
    go_wp2
    go_loopw [4] (fun v wr => ∃ (k cap : Nat) (A : Option Addr), l.length + k ≤ 36 ∧ v = .slice A (l.length + k) cap ∧ wr.ownsRow w.heap.size 5 1 v (l.length + k) ((l ++ List.replicate k 0).map bv) ∧ Below w.heap.size w wr) (fun v _ => 36 - slLen v)
    case atStart => exact ⟨0, cap1, A1, by omega, rfl, HO.out, HB.out⟩
    case round =>
      obtain ⟨k, cap, A2, hk, rfl, ho, hb⟩ := hrel
      have HO2 := Lib.hid ho
      have HB2 := Lib.hid hb
      clear ho hb
      by_cases hlt : l.length + k < 36
      · go_wp2_with (at_builtin; refine stop_here ?_)
        refine stop_on ?_
        refine wpList_app _ rfl _ _ 68 rfl w.heap.size 5 i0 (.int .u8 0) 1 1 Tryz.underlying68 hi hz0 hz1 hz2 rfl (by decide) _ (l.length + k) _ rfl (HO2.out.alloc _) (some ⟨wr.heap.size, 0, none⟩) 1 1 [bv 0] rfl rfl (by intro h; cases h) (by intro ad h; cases h; exact cell_one_new _ _ _) (by intro u hu; simp at hu; subst hu; rfl) (by unfold maxLen; omega) (by omega) (by have := HB2.out.size; simp; omega) ?_
        intro v2 w2 hown hgrow
        rw [pad_step] at hown
        have HB3 := Lib.hid (show Below w.heap.size w w2 from (HB2.out.alloc HB2.out.size _).grown hgrow (by have := HB2.out.size; simp; omega) (fun q hq => (HO2.out.lt q hq).1))
        have HO3 := Lib.hid hown
        clear hown hgrow
        obtain ⟨A3, cap3, hv3⟩ := own_shape HO3.out
        subst hv3
        go_wp2
        go_roundw
        case rel => exact ⟨k + 1, cap3, A3, by omega, rfl, HO3.out, HB3.out⟩
        case measure => simp [slLen]; omega
      · have hk36 : l.length + k = 36 := by omega
        have HK := Lib.hid hk36
        have hpad : l ++ List.replicate k 0 = padL l := by unfold padL; rw [show k = 36 - l.length by omega]
        rw [hpad] at HO2
        rw [hk36] at HO2 ⊢
        clear hpad hk36 hk hlt
        have hlp := padL_length l h36
        have HL := Lib.hid hlp
        clear hlp
        generalize hp : padL l = p at *
        have HPL := Lib.hid hp; clear hp
        have hcl := crc_lt p
        have HSum : Calls Tryz.prog 135 #[.slice A2 36 cap] wr fun e w' => e = .returned (.int .i64 (crc p : Nat)) ∧ wr = w' := by
          have := ref01Sum_any A2 p cap wr (by rw [HL.out]; unfold maxLen; omega) (own_cells HO2.out)
          rw [HL.out] at this; exact this
        have HSum := Lib.hid HSum
        go_wp2_with (first | (at_builtin; refine stop_here ?_) | (go_at_call 135; refine HSum.out.mono ?_; rintro e w' ⟨rfl, rfl⟩) | (go_at_call 130; refine (ref01Put_any _ _ _ (by omega) (by omega)).mono ?_; rintro e w2 ⟨v, rfl, hgot, hb2⟩; have HG2 := Lib.hid hgot; have HB3 := Lib.hid hb2; clear hgot hb2))
        refine stop_on ?_
        have hgot := HG2.out
        rw [putS_crc] at hgot
        obtain ⟨A4, cap4, rfl, hc4, _, hnil, hcells⟩ := hgot
        have h4 := putL_length 4 (crc p)
        rw [h4] at hc4
        rw [h4]
        refine wpList_app _ rfl _ _ 68 rfl w.heap.size 5 i0 (.int .u8 0) 1 1 Tryz.underlying68 hi hz0 hz1 hz2 rfl (by decide) _ 36 (p.map bv) rfl (own_below HO2.out HB3.out) A4 4 cap4 ((putL (crc p) 4).map bv) rfl (by simp [h4]) (by intro h; have := hcells.none_ h; omega) hcells.at_ (bytes_oneCell _) (by unfold maxLen; omega) (by omega) (by have := HB2.out.size; have := HB3.out.size; omega) ?_
        intro v5 w5 hown hgrow
        rw [← List.map_append] at hown
        have hl40 : (p ++ putL (crc p) 4).length = 40 := by rw [List.length_append, HL.out, h4]
        obtain ⟨A5, cap5, rfl⟩ := own_shape hown
        have hcv := conv_str (c := cap5) (own_cells hown) (by rw [hl40]; omega)
        rw [hl40] at hcv
        have HB5 := Lib.hid (show Below w.heap.size w w5 from (HB2.out.trans (HB3.out.mono HB2.out.size)).grown hgrow (by have := HB2.out.size; have := HB3.out.size; omega) (fun q hq => (HO2.out.lt q hq).1))
        have HV2 := Lib.hid (show sealV l = .tuple #[.string ⟨(p ++ putL (crc p) 4).toArray⟩, .int .i64 0] by rw [HV.out]; unfold sealL; rw [HPL.out])
        clear hown hgrow hcells hnil HO HO2 HSum hl40 h4
        generalize (p ++ putL (crc p) 4).toArray = z at *
        go_wp2
        go_ret2
        exact ⟨congrArg Ending.returned HV2.out.symm, HB5.out⟩
  · have HV := Lib.hid (show sealV l = .tuple #[.string ⟨#[]⟩, .int .i64 1] by unfold sealV sealB sealE; rw [if_neg h36, if_neg h36])
    go_enter Tryz.func133, Tryz.ntmps133
    go_wp2
    go_ret2
    exact ⟨congrArg Ending.returned HV.out.symm, Below.refl _ _⟩

end Go.Proofs.YtjbfopnkeclfgaaGreat
namespace Go.Proofs.YtjbfopnkeclfgaaGreat
set_option maxRecDepth 20000
open Go.RowKit

/-- P1.3: what is in a sealed block. -/
def openS (s : List UInt8) : Option (List UInt8) := if s.length = 40 ∧ leNat ((s.drop 36).take 4) = crc (s.take 36) then some (s.take 36) else none
def openE (s : List UInt8) : Int := if (openS s).isSome then 0 else 2
def openL (s : List UInt8) : List UInt8 := (openS s).getD []

/-- A string made a slice of bytes. -/
theorem conv_bytes (s : ByteArray) (w : World) (hs : s.size ≤ maxLen) : ∃ cap W, (convert 9 68 (.string s)).run Tryz.prog w = .ok (.slice (some ⟨w.heap.size, 0, none⟩) s.size cap) W ∧
    Below w.heap.size w W ∧ s.size ≤ cap ∧ cap ≤ maxLen ∧ Cells W (some ⟨w.heap.size, 0, none⟩) (s.data.toList.map bv) := by
  refine ⟨_, _, run_bytes_of_string (P := Tryz.prog) w 9 68 5 s Tryz.underlying9 Tryz.underlying68 Tryz.underlying5, ((Below.refl _ _).drew).alloc (Nat.le_refl _) _, grownCap_ge _ _ _ _, grownCap_le_maxLen _ _ _ _ hs, fun _ => ⟨_, 0, rfl, ?_, fun j u hu => ?_⟩⟩
  · have : w.drew.heap.size = w.heap.size := rfl
    simp [this]
  · rw [Nat.zero_add]
    refine (World.cell?_alloc_mark w.drew _ 5 _ j).trans ?_
    have hj : j < s.data.size := by have := (List.getElem?_eq_some_iff.1 hu).1; simpa using this
    rw [bytesRow_at s _ j hj, ← hu]
    simp [bv, List.getElem?_map, Array.getElem?_toList, Array.getElem?_eq_getElem hj]

theorem extract36 (s : ByteArray) : (s.extract 0 36).data.toList = s.data.toList.take 36 := by
  simp

theorem open_yes {s : List UInt8} (h : s.length = 40) (hq : leNat ((s.drop 36).take 4) = crc (s.take 36)) : openE s = 0 ∧ openL s = s.take 36 := by
  have e : openS s = some (s.take 36) := by unfold openS; rw [if_pos ⟨h, hq⟩]
  unfold openE openL; rw [e]; exact ⟨rfl, rfl⟩
theorem open_no {s : List UInt8} (h : ¬ (s.length = 40 ∧ leNat ((s.drop 36).take 4) = crc (s.take 36))) : openE s = 2 ∧ openL s = [] := by
  have e : openS s = none := by unfold openS; rw [if_neg h]
  unfold openE openL; rw [e]; exact ⟨rfl, rfl⟩
theorem take36 (s : List UInt8) (h : s.length = 40) (z : Int) : takeV s 36 4 z = .tuple #[.int .i64 (leNat ((s.drop 36).take 4) : Nat), .int .i64 40, .int .i64 0] :=
  takeV_some (a := 36) (m := 4) (by omega) (by omega) (by omega)

set_option maxHeartbeats 1000000 in
theorem numOpen_any (s : ByteArray) (w : World) (hs : s.size ≤ maxLen) :
    Calls Tryz.prog 73 #[.string s] w fun e w' => ∃ v, e = .returned (.tuple #[v, .int .i64 (openE s.data.toList)]) ∧ Got w' v (openL s.data.toList) ∧ Below w.heap.size w w' := by
  by_cases h40 : s.size = 40
  · have t1 : ((s.size : Int) != 40) = false := by simp; omega
    have hl40 : s.data.toList.length = 40 := by simpa using h40
    have h36 : (s.extract 0 36).size = 36 := by rw [ByteArray.size_extract]; omega
    obtain ⟨c1, W1, e1, b1, hc1, hm1, g1⟩ := conv_bytes (s.extract 0 36) w (by rw [h36]; unfold maxLen; omega)
    obtain ⟨c2, W2, e2, b2, hc2, hm2, g2⟩ := conv_bytes s W1 hs
    rw [extract36] at g1
    rw [h36] at e1 hc1
    rw [h40] at e2
    have hT := numTake_any (some ⟨W1.heap.size, 0, none⟩) s.data.toList c2 36 4 W2 (by rw [hl40]; unfold maxLen; omega) g2 (by omega) (by omega)
    rw [take36 _ hl40, hl40] at hT
    have hS := numSum_any (some ⟨w.heap.size, 0, none⟩) (s.data.toList.take 36) c1 W2 (by simp; unfold maxLen; omega) (g1.below b2)
    have hl36 : (s.data.toList.take 36).length = 36 := by rw [List.length_take, hl40]; rfl
    rw [hl36] at hS
    have HG : Hid (Got W2 (.slice (some ⟨w.heap.size, 0, none⟩) 36 c1) (s.data.toList.take 36)) := ⟨_, c1, by rw [hl36], by rw [hl36]; exact hc1, hm1, (fun h => by cases h), g1.below b2⟩
    have HT := Lib.hid hT
    have HS := Lib.hid hS
    have HB := Lib.hid (b1.trans (b2.mono b1.size))
    have hge : 36 ≤ s.size := by omega
    have HL := Lib.hid hl40
    by_cases hq : leNat ((s.data.toList.drop 36).take 4) = crc (s.data.toList.take 36)
    · have HE := Lib.hid (open_yes hl40 hq)
      have t2 : ((leNat ((s.data.toList.drop 36).take 4) : Int) != (crc (s.data.toList.take 36) : Nat)) = false := by simp [hq]
      clear hq hl40 hl36 h40 hT hS g1 g2 b1 b2
      generalize leNat ((s.data.toList.drop 36).take 4) = x at *
      generalize crc (s.data.toList.take 36) = y at *
      go_enter Tryz.func73, Tryz.ntmps73
      go_wp2_with (first | (go_at_call 119; refine HT.out.mono ?_; rintro e w' ⟨rfl, rfl⟩) | (go_at_call 70; refine HS.out.mono ?_; rintro e w' ⟨rfl, rfl⟩))
      go_ret2
      refine ⟨.slice (some ⟨w.heap.size, 0, none⟩) 36 c1, ?_, ?_, HB.out⟩
      · rw [HE.out.1]; rfl
      · rw [HE.out.2]; exact HG.out
    · have HE := Lib.hid (open_no (s := s.data.toList) (fun h => hq h.2))
      have t2 : ((leNat ((s.data.toList.drop 36).take 4) : Int) != (crc (s.data.toList.take 36) : Nat)) = true := by simp; omega
      clear hq hl40 hl36 h40 hT hS g1 g2 b1 b2
      generalize leNat ((s.data.toList.drop 36).take 4) = x at *
      generalize crc (s.data.toList.take 36) = y at *
      go_enter Tryz.func73, Tryz.ntmps73
      go_wp2_with (first | (go_at_call 119; refine HT.out.mono ?_; rintro e w' ⟨rfl, rfl⟩) | (go_at_call 70; refine HS.out.mono ?_; rintro e w' ⟨rfl, rfl⟩))
      go_ret2
      refine ⟨.slice none 0 0, ?_, ?_, HB.out⟩
      · rw [HE.out.1]; rfl
      · rw [HE.out.2]; exact got_nil _
  · have t1 : ((s.size : Int) != 40) = true := by simp; omega
    have HE := Lib.hid (open_no (s := s.data.toList) (fun h => h40 (by simpa using h.1)))
    go_enter Tryz.func73, Tryz.ntmps73
    go_wp2
    go_ret2
    refine ⟨.slice none 0 0, ?_, ?_, Below.refl _ _⟩
    · rw [HE.out.1]; rfl
    · rw [HE.out.2]; exact got_nil w

theorem open_seal (b : List UInt8) (h : b.length ≤ 36) : openE (sealL b) = 0 ∧ openL (sealL b) = padL b := by
  have hp := padL_length b h
  have e1 : (sealL b).take 36 = padL b := by unfold sealL; rw [← hp]; exact List.take_left
  have e2 : (sealL b).drop 36 = putL (crc (padL b)) 4 := by unfold sealL; rw [← hp]; exact List.drop_left
  rw [← e1]
  refine open_yes (sealL_length b h) ?_
  rw [e1, e2, List.take_of_length_le (by rw [putL_length]; exact Nat.le_refl _), leNat_putL]
  exact Nat.mod_eq_of_lt (by have := crc_lt (padL b); omega)
end Go.Proofs.YtjbfopnkeclfgaaGreat
namespace Go.Proofs.YtjbfopnkeclfgaaGreat
set_option maxRecDepth 20000

theorem place (k : Nat) : 256 ^ (k / 8) * 2 ^ (k % 8) = 2 ^ k := by
  rw [show (256 : Nat) = 2 ^ 8 from rfl, ← Nat.pow_mul, ← Nat.pow_add]
  congr 1; omega
end Go.Proofs.YtjbfopnkeclfgaaGreat
namespace Go.Proofs.YtjbfopnkeclfgaaGreat
set_option maxRecDepth 20000
open Go.RowKit


theorem Cells.take {w : World} {A : Option Addr} {xs : List Value} (h : Cells w A xs) (k : Nat) : Cells w A (xs.take k) := fun hne => by
  obtain ⟨b, off, e, hlt, hc⟩ := h (by intro e; subst e; simp at hne)
  exact ⟨b, off, e, hlt, fun j u hu => hc j u (by
    rw [List.getElem?_take] at hu
    split at hu
    · exact hu
    · cases hu)⟩
/-- append of bytes onto a row of the call's own. -/
theorem app_bytes (w : World) {ops : Array Oper} {rest : List Oper} {o : Oper} {a : Act} {Q : Exit → Act → World → Prop} (hgd : o.guard = none) (s x : Operand)
    (ho : o.op = .call { callee := .builtin .append, args := #[s, x], argTypes := #[68, 68] })
    (B : Nat) (v : Value) (n : Nat) (l : List UInt8) (hs : a.eval s = v) (hown : w.ownsRow B 5 1 v n (l.map bv))
    (A : Option Addr) (m c : Nat) (k : List UInt8) (hx : a.eval x = .slice A m c) (hl : k.length = m) (hnil : A = none → c = 0) (hc : Cells w A (k.map bv))
    (hsz : n + m ≤ 100000) (hB : B ≤ w.heap.size)
    (h : ∀ A' c' w', w'.ownsRow B 5 1 (.slice A' (n + m) c') (n + m) ((l ++ k).map bv) → w.grownBy w' v.ownBlock → wpList Tryz.prog ops Q rest (a.put o.dst (.slice A' (n + m) c')) w') : wpList Tryz.prog ops Q (o :: rest) a w := by
  obtain ⟨i0, hi, hz0, hz1, hz2⟩ := info_parts info5
  subst hl
  refine wpList_app w hgd s x 68 ho B 5 i0 (.int .u8 0) 1 1 Tryz.underlying68 hi hz0 hz1 hz2 rfl (by decide) v n _ hs hown A k.length c (k.map bv) hx (by simp) (fun e => ⟨hc.none_ e, hnil e⟩) hc.at_ (bytes_oneCell _) (by unfold maxLen; omega) (by omega) hB ?_
  intro v' w' hown' hg
  rw [← List.map_append] at hown'
  obtain ⟨A', c', rfl⟩ := own_shape hown'
  exact h A' c' w' hown' hg

/-- Block g's first cells are the bytes l, and may be written. -/
def Mine (w : World) (g : Nat) (l : List UInt8) : Prop := ∃ cur t lo hi, w.heap[g]? = some (.cells cur t (lo, hi)) ∧ l.length ≤ lo ∧ ∀ j (hj : j < l.length), cur[j]? = some (bv l[j])
theorem Mine.lt {w : World} {g : Nat} {l : List UInt8} (h : Mine w g l) : g < w.heap.size := by
  obtain ⟨cur, t, lo, hi, h1, _⟩ := h
  exact (Array.getElem?_eq_some_iff.1 h1).1
theorem Mine.cell {w : World} {g : Nat} {l : List UInt8} (h : Mine w g l) (j : Nat) (hj : j < l.length) : w.cell? ⟨g, j, none⟩ = some (.int .u8 (l[j].toNat : Int)) := by
  obtain ⟨cur, t, lo, hi, h1, _, h2⟩ := h
  rw [cell_of_row w g j cur t (lo, hi) h1, h2 j hj]; rfl
theorem Mine.free {w : World} {g : Nat} {l : List UInt8} (h : Mine w g l) (j : Nat) (hj : j < l.length) : w.frozen? ⟨g, j, none⟩ = false := by
  obtain ⟨cur, t, lo, hi, h1, h3, _⟩ := h
  simp [World.frozen?, h1]
  omega
theorem Mine.set {w : World} {g : Nat} {l : List UInt8} (h : Mine w g l) (j : Nat) (u : UInt8) : Mine (w.setCell ⟨g, j, none⟩ (bv u)) g (l.set j u) := by
  obtain ⟨cur, t, lo, hi, h1, h3, h2⟩ := h
  refine ⟨cur.setIfInBounds j (bv u), t, lo, hi, ?_, by simpa using h3, fun i hi => ?_⟩
  · simp [World.setCell, Array.getElem?_modify, h1]
  · have hi' : i < l.length := by simpa using hi
    rw [Array.getElem?_setIfInBounds]
    by_cases e : j = i
    · subst e
      have hlt : j < cur.size := (Array.getElem?_eq_some_iff.1 (h2 j hi')).1
      simp [hlt]
    · rw [if_neg e, h2 i hi']
      simp [e]
theorem Mine.cells {w : World} {g : Nat} {l : List UInt8} (h : Mine w g l) : Cells w (some ⟨g, 0, none⟩) (l.map bv) := fun _ =>
  ⟨g, 0, rfl, h.lt, fun j u hu => by
    have hj : j < l.length := by have := (List.getElem?_eq_some_iff.1 hu).1; simpa using this
    rw [Nat.zero_add, h.cell j hj, ← hu]
    simp [bv, hj]⟩
/-- What is sealed, opened: b with noughts behind, or nothing. -/
def unsealed (b : List UInt8) : List UInt8 := if b.length ≤ 36 then padL b else []
theorem open_sealB (b : List UInt8) : openL (sealB b).data.toList = unsealed b ∧ openE (sealB b).data.toList = (if b.length ≤ 36 then 0 else 2) ∧ (sealB b).size = (if b.length ≤ 36 then 40 else 0) := by
  unfold sealB unsealed
  by_cases h : b.length ≤ 36
  · simp only [if_pos h]
    have := open_seal b h
    exact ⟨this.2, this.1, sealL_length b h⟩
  · simp only [if_neg h]
    have := open_no (s := ([] : List UInt8)) (by simp)
    exact ⟨this.2, this.1, rfl⟩
end Go.Proofs.YtjbfopnkeclfgaaGreat
namespace Go.Proofs.YtjbfopnkeclfgaaGreat
set_option maxRecDepth 20000
open Go.RowKit

theorem openL_len {s : List UInt8} (h : openE s = 0) : (openL s).length = 36 := by
  unfold openE at h
  unfold openL
  cases hs : openS s with
  | none => rw [hs] at h; simp at h
  | some l =>
    unfold openS at hs
    split at hs
    · rename_i hh
      cases hs
      simp [hh.1]
    · cases hs
theorem openL_none {s : List UInt8} (h : openE s ≠ 0) : openL s = [] ∧ openE s = 2 := by
  unfold openE at h ⊢
  unfold openL
  cases hs : openS s with
  | none => simp
  | some l => rw [hs] at h; simp at h
theorem Got.sl {w : World} {v : Value} {l : List UInt8} (h : Got w v l) {n : Nat} (hn : l.length = n) : ∃ A cap, v = .slice A n cap ∧ Sl w A n cap (l.map bv) := by
  obtain ⟨A, cap, rfl, h1, h2, h3, h4⟩ := h
  subst hn
  exact ⟨A, cap, rfl, h3, h1, h2, h4⟩
theorem putS_four {g : Int} (h0 : 0 ≤ g) (h1 : g < 4294967296) : putS g 4 = putL g.toNat 4 := by
  have e : (256 : Int) ^ (4 : Int).toNat = 4294967296 := by decide
  unfold putS; rw [if_pos ⟨by omega, by omega, h0, by rw [e]; exact h1⟩]; rfl

section
variable (g : Int) (w : World) (h0 : 0 ≤ g) (h1 : g < 4294967296)
include h0 h1
theorem numPut_n : Calls Tryz.prog 121 #[.int .i64 g, .int .i64 4] w fun e w' => ∃ A cap, e = .returned (.slice A 4 cap) ∧ Sl w' A 4 cap ((putL g.toNat 4).map bv) ∧ Ext w w' := by
  refine (numPut_any g 4 w (by omega) (by omega)).mono ?_
  rintro e w' ⟨v, rfl, h, hb⟩
  rw [putS_four h0 h1] at h
  obtain ⟨A, cap, rfl, hs⟩ := h.sl (putL_length 4 _)
  exact ⟨A, cap, rfl, hs, hb⟩
theorem ref01Put_n : Calls Tryz.prog 130 #[.int .i64 g, .int .i64 4] w fun e w' => ∃ A cap, e = .returned (.slice A 4 cap) ∧ Sl w' A 4 cap ((putL g.toNat 4).map bv) ∧ Ext w w' := by
  refine (ref01Put_any g 4 w (by omega) (by omega)).mono ?_
  rintro e w' ⟨v, rfl, h, hb⟩
  rw [putS_four h0 h1] at h
  obtain ⟨A, cap, rfl, hs⟩ := h.sl (putL_length 4 _)
  exact ⟨A, cap, rfl, hs, hb⟩
end
theorem takeV_four {l : List UInt8} {at_ : Int} {k : Nat} (hk : at_ = (k : Int)) (h : k + 4 ≤ l.length) (z : Int) : takeV l at_ 4 z = .tuple #[.int .i64 (leNat ((l.drop k).take 4) : Nat), .int .i64 (at_ + 4), .int .i64 0] := by
  subst hk
  unfold takeV takeS
  rw [if_pos (by omega)]
  rfl
section
variable (A : Option Addr) (l : List UInt8) (n c : Nat) (at_ : Int) (k : Nat) (w : World) (hn : n = l.length) (hk : at_ = (k : Int)) (h : k + 4 ≤ n) (hS : Sl w A n c (l.map bv))
include hn hk h hS
theorem numTake_n : Calls Tryz.prog 119 #[.slice A n c, .int .i64 at_, .int .i64 4] w fun e w' => e = .returned (.tuple #[.int .i64 (leNat ((l.drop k).take 4) : Nat), .int .i64 (at_ + 4), .int .i64 0]) ∧ w = w' := by
  subst hn
  have hl := hS.len
  rw [← takeV_four hk h 2]
  exact numTake_any A l c at_ 4 w hl hS.cells (by omega) (by unfold maxLen at hl; omega)
end
section
variable (s : ByteArray) (w : World) (hs : s.size ≤ maxLen)
include hs
theorem numOpen_y (h : openE s.data.toList = 0) : Calls Tryz.prog 73 #[.string s] w fun e w' => ∃ A cap, e = .returned (.tuple #[.slice A 36 cap, .int .i64 0]) ∧ Sl w' A 36 cap ((openL s.data.toList).map bv) ∧ Ext w w' := by
  refine (numOpen_any s w hs).mono ?_
  rintro e w' ⟨v, rfl, hg, hb⟩
  obtain ⟨A, cap, rfl, hS⟩ := hg.sl (openL_len h)
  exact ⟨A, cap, by rw [h], hS, hb⟩
theorem numOpen_n (h : openE s.data.toList ≠ 0) : Calls Tryz.prog 73 #[.string s] w fun e w' => ∃ A cap, e = .returned (.tuple #[.slice A 0 cap, .int .i64 2]) ∧ Ext w w' := by
  refine (numOpen_any s w hs).mono ?_
  rintro e w' ⟨v, rfl, hg, hb⟩
  obtain ⟨h1, h2⟩ := openL_none h
  obtain ⟨A, cap, rfl, _⟩ := hg.sl (n := 0) (by rw [h1]; rfl)
  exact ⟨A, cap, by rw [h2], hb⟩
end
theorem sealV_short {l : List UInt8} (h : l.length ≤ 36) : sealV l = .tuple #[.string (sealB l), .int .i64 0] := by
  unfold sealV sealE; rw [if_pos h]
section
variable (A : Option Addr) (l : List UInt8) (n c : Nat) (w : World) (hn : n = l.length) (h : n ≤ 36) (hS : Sl w A n c (l.map bv))
include hn h hS
theorem numSeal_n : Calls Tryz.prog 122 #[.slice A n c] w fun e w' => e = .returned (.tuple #[.string (sealB l), .int .i64 0]) ∧ Ext w w' := by
  subst hn
  rw [← sealV_short h]
  exact numSeal_any A l c w hS.len hS.cells
theorem ref01Seal_n : Calls Tryz.prog 133 #[.slice A n c] w fun e w' => e = .returned (.tuple #[.string (sealB l), .int .i64 0]) ∧ Ext w w' := by
  subst hn
  rw [← sealV_short h]
  exact ref01Seal_any A l c w hS.len hS.1 hS.cells
end
section
variable (A : Option Addr) (l : List UInt8) (n c : Nat) (w : World) (hn : n = l.length) (hS : Sl w A n c (l.map bv))
include hn hS
theorem numSum_n : Calls Tryz.prog 70 #[.slice A n c] w fun e w' => e = .returned (.int .i64 (crc l : Nat)) ∧ w = w' := by
  subst hn; exact numSum_any A l c w hS.len hS.cells
theorem ref01Sum_n : Calls Tryz.prog 135 #[.slice A n c] w fun e w' => e = .returned (.int .i64 (crc l : Nat)) ∧ w = w' := by
  subst hn; exact ref01Sum_any A l c w hS.len hS.cells
end
end Go.Proofs.YtjbfopnkeclfgaaGreat
namespace Go.Proofs.YtjbfopnkeclfgaaGreat
set_option maxRecDepth 20000
open Go.RowKit

theorem own_nil (w : World) : w.ownsRow w.heap.size 5 1 (.slice none 0 0) ([] : List UInt8).length (([] : List UInt8).map bv) := ⟨rfl, .inl ⟨rfl, rfl⟩⟩
set_option maxRecDepth 20000 in
set_option maxHeartbeats 1000000 in
theorem ref01Put_own (n w_ : Int) (w : World) (hn1 : -9223372036854775808 ≤ n) (hn2 : n ≤ 9223372036854775807) :
    Calls Tryz.prog 130 #[.int .i64 n, .int .i64 w_] w fun e w' => ∃ v, e = .returned v ∧ w'.ownsRow w.heap.size 5 1 v (putS n w_).length ((putS n w_).map bv) ∧ Below w.heap.size w w' := by
  by_cases hw : 1 ≤ w_
  · by_cases hw2 : w_ ≤ 4
    · by_cases h0 : 0 ≤ n
      · obtain ⟨m, rfl⟩ := Int.eq_ofNat_of_zero_le (show 0 ≤ w_ by omega)
        obtain ⟨n, rfl⟩ := Int.eq_ofNat_of_zero_le h0
        have hl := lim_pow m
        have hl2 : lim m = ((256 ^ m : Nat) : Int) := by rw [hl]; simp
        by_cases hlt : n < 256 ^ m
        · have t2 : (n : Int) < lim m := by rw [hl2]; omega
          have HP := Lib.hid (putS_some (n := n) (m := m) (by omega) (by omega) hlt)
          clear hlt hl hl2
          obtain ⟨i0, hi, hz0, hz1, hz2⟩ := info_parts info5
          go_enter Tryz.func130, Tryz.ntmps130
          go_wp2_with (go_at_call 147; refine (ref01Limit_any _ (by omega) _).mono ?_; rintro e w' ⟨rfl, rfl⟩)
          go_loopw [0, 5, 6] (fun z v i wr => ∃ k : Nat, k ≤ m ∧ i = .int .i64 k ∧ z = .int .i64 (n / 256 ^ k : Nat) ∧ wr.ownsRow w.heap.size 5 1 v k ((putL n k).map bv) ∧ Below w.heap.size w wr) (fun _ _ i _ => m - (intOf i).toNat)
          case atStart => exact ⟨0, Nat.zero_le _, rfl, by simp, World.ownsRow_nil _ _ _ _, Below.refl _ _⟩
          case round =>
            obtain ⟨k, hk, rfl, rfl, ho, hb⟩ := hrel
            have HB := Lib.hid hb
            have HO := Lib.hid ho
            clear hb ho
            have hle : n / 256 ^ k ≤ n := Nat.div_le_self _ _
            have hzz : n / 256 ^ k / 256 = n / 256 ^ (k + 1) := by rw [Nat.div_div_eq_div_mul, Nat.pow_succ]
            have HZ := Lib.hid hzz
            have HN := Lib.hid (putL_snoc k n)
            clear hzz
            generalize n / 256 ^ k = z at *
            by_cases hlt : k < m
            · go_wp2_with (at_builtin; refine wpList_append_own _ rfl _ _ 68 rfl w.heap.size 5 i0 (.int .u8 0) 1 1 Tryz.underlying68 hi hz0 hz1 hz2 rfl (by decide) _ _ _ rfl (HO.out.alloc _) ⟨wr.heap.size, 0, none⟩ 1 1 [bv (UInt8.ofNat z)] rfl rfl ?c1 ?c2 ?c3 ?c4 ?c5 ?_)
              case c1 => rw [bv_ofNat]; exact cell_one_new _ _ _
              case c2 => intro u hu; simp at hu; subst hu; rfl
              case c3 => unfold maxLen; omega
              case c4 => omega
              case c5 => have := HB.out.size; simp; omega
              intro v' w2 hown hgrow _
              have R : w2.ownsRow w.heap.size 5 1 v' (k + 1) ((putL n (k + 1)).map bv) ∧ Below w.heap.size w w2 :=
                ⟨by rw [HN.out, List.map_append]; exact hown, (HB.out.alloc HB.out.size _).grown hgrow (by have := HB.out.size; simp; omega) (fun q hq => (HO.out.lt q hq).1)⟩
              have HR := Lib.hid R
              clear R hown hgrow
              go_wp2
              rw [show (z : Int) / 256 = ((n / 256 ^ (k + 1) : Nat) : Int) by rw [← HZ.out]; rfl]
              go_roundw
              case rel => exact ⟨k + 1, by omega, by go_num, rfl, HR.out.1, HR.out.2⟩
              case measure => simp [intOf]; omega
            · obtain rfl : k = m := by omega
              go_wp2
              go_ret
              refine ⟨_, rfl, ?_, HB.out⟩
              rw [HP.out, putL_length]
              exact HO.out
        · have t2 : ¬ (n : Int) < lim m := by rw [hl2]; omega
          have HP := Lib.hid (putS_none (n := n) (w := m) (by
            rintro ⟨_, _, _, h⟩
            apply t2
            rw [hl2]; rw [Int.toNat_natCast] at h; simpa using h))
          clear hl hl2
          go_enter Tryz.func130, Tryz.ntmps130
          go_wp2_with (go_at_call 147; refine (ref01Limit_any _ (by omega) _).mono ?_; rintro e w' ⟨rfl, rfl⟩)
          go_ret
          exact ⟨_, rfl, HP.out ▸ own_nil w, Below.refl _ _⟩
      · have HP := Lib.hid (putS_none (n := n) (w := w_) (by omega))
        go_enter Tryz.func130, Tryz.ntmps130
        go_wp2
        go_ret
        exact ⟨_, rfl, HP.out ▸ own_nil w, Below.refl _ _⟩
    · have HP := Lib.hid (putS_none (n := n) (w := w_) (by omega))
      go_enter Tryz.func130, Tryz.ntmps130
      go_wp2
      go_ret
      exact ⟨_, rfl, HP.out ▸ own_nil w, Below.refl _ _⟩
  · have HP := Lib.hid (putS_none (n := n) (w := w_) (by omega))
    go_enter Tryz.func130, Tryz.ntmps130
    go_wp2
    go_ret
    exact ⟨_, rfl, HP.out ▸ own_nil w, Below.refl _ _⟩
end Go.Proofs.YtjbfopnkeclfgaaGreat
namespace Go.Proofs.YtjbfopnkeclfgaaGreat
set_option maxRecDepth 20000
open Go.ChangeShapes Go.WideShapes Go.ChangeAt Go.RowKit Go.Deep
open Go.ChangeMaps (open_string shut_string)

theorem own : ownKnob Tryz.prog.godebug = none := by kernel_rfl
theorem laidOut : laidOutB Tryz.prog = true := by kernel_rfl

section
variable {H : Type} {enc : TypeId × Value → H} {w : World} {fuel : Nat} {cs : List Value} {x : DataW H × List MemPlace}

theorem wf_u8 {n : Int} (h : (Lit.int .u8 n).wf = true) : 0 ≤ n ∧ n < 256 := by
  have h1 : IntKind.u8.min = 0 := rfl
  have h2 : IntKind.u8.max = 255 := rfl
  simp only [Lit.wf, Bool.and_eq_true, decide_eq_true_eq, h1, h2] at h
  omega
theorem wf_i64 {n : Int} (h : (Lit.int .i64 n).wf = true) : -9223372036854775808 ≤ n ∧ n ≤ 9223372036854775807 := by
  have h1 : IntKind.i64.min = -9223372036854775808 := rfl
  have h2 : IntKind.i64.max = 9223372036854775807 := rfl
  simp only [Lit.wf, Bool.and_eq_true, decide_eq_true_eq, h1, h2] at h
  omega

end

theorem trodAll_below {H : Type} {enc : TypeId × Value → H} {W W' : World} (hb : Below W.heap.size W W') : ∀ (ts : List TypeId) (vs : List Value) (ds : List (DataW H)) (ps : List MemPlace),
    (∀ t ∈ ts, Tryz.prog.readableRec t = true ∧ t < Tryz.prog.types.size) →
    DataW.TrodAll enc Tryz.prog W 0 (fun _ => true) true ts vs ds ps → DataW.TrodAll enc Tryz.prog W' 0 (fun b => decide (b < W.heap.size)) true ts vs ds ps := by
  intro ts
  induction ts with
  | nil =>
    intro vs ds ps _ h
    obtain ⟨rfl, rfl, rfl⟩ := trodAll_nil h
    exact trodAll_mk0
  | cons t ts ih =>
    intro vs ds ps hr h
    obtain ⟨v0, vs0, d0, ds0, p0, q0, rfl, rfl, rfl, h0, r0⟩ := trodAll_cons h
    have hlt : ∀ x ∈ p0, x.block < W.heap.size := by obtain ⟨m, hm⟩ := h0; exact DataW.trod_lt m _ _ _ hm
    have ht := hr t (by simp)
    exact trodAll_cons_mk (Below.trod laidOut ht.1 ht.2 h0 hb hlt) (ih _ _ _ (fun t' ht' => hr t' (by simp [ht'])) r0)
end Go.Proofs.YtjbfopnkeclfgaaGreat
