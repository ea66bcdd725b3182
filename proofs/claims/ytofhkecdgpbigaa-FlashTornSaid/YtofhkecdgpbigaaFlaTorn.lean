/-
  A torn programming, and a torn erasing: plain facts.
-/
import Derived.Test.YtofhkecdgpbigaaFlaZip
import Derived.Test.YtofhkecdgpbigaaFlaBytes
namespace Go.Proofs.Ytofhkecdgpbigaa
namespace Fla
open Go.RowKit Mem
set_option linter.unusedVariables false

theorem u8_ext {a b : UInt8} (h : ∀ i, i < 8 → a.toBitVec.getLsbD i = b.toBitVec.getLsbD i) : a = b := by
  apply UInt8.eq_of_toBitVec_eq
  exact BitVec.eq_of_getLsbD_eq h
/-- Has b each bit that a has? -/
def sub8 (a b : UInt8) : Prop := a &&& ~~~b = 0
theorem sub_and (r y : UInt8) : sub8 (r &&& y) r := by
  refine u8_ext fun i hi => ?_
  simp [hi]
  intro h1 _; exact h1
theorem sub_refl (r : UInt8) : sub8 r r := by
  refine u8_ext fun i hi => ?_
  simp [hi]
theorem sub_torn (r x : UInt8) (m : Int) : sub8 (r &&& x) (tornB r x m) := by
  unfold tornB
  refine u8_ext fun i hi => ?_
  simp [hi]
  intro h1 h2
  exact ⟨h1, fun h => by rw [h2] at h; cases h⟩
theorem torn_again (r x : UInt8) (m : Int) : tornB r x m &&& x = r &&& x := by
  unfold tornB
  refine u8_ext fun i hi => ?_
  simp [hi]
  cases hr : r.toBitVec[i] <;> cases hx : x.toBitVec[i] <;> cases hm : (UInt8.ofNat m.toNat).toBitVec[i] <;> rfl
theorem and_again (r x : UInt8) : r &&& x &&& x = r &&& x := by
  refine u8_ext fun i hi => ?_
  simp [hi]
theorem andNot_sub {a b : UInt8} (h : sub8 a b) : bits .andNot .u8 (a.toNat : Int) (b.toNat : Int) = 0 := by
  have h1 := a.toNat_lt
  have h2 := b.toNat_lt
  rw [u8_andNot_nat _ _ (by omega) (by omega)]
  have e : (a &&& ~~~b).toNat = a.toNat &&& (255 - b.toNat) := by
    rw [UInt8.toNat_and, UInt8.toNat_not]
    rfl
  rw [← e, h]
  rfl

/-- What comes of the law's operations: the flash that is programmed, and the one that is erased. -/
structure TL (R : List UInt8) (k : Nat) (x : List UInt8) (a : Nat) (m : Int) (s s0 s1 s3 g0 g1 : Fl) : Prop where
  b : s.bs = R
  o : s.ops = 0
  c1 : s.cut (a : Int) m = s0
  o0 : s0.ops = 0
  p : s0.program (k : Int) x = (s1, 7)
  n1 : s1.on = false
  o1 : s1.start.ops ≤ 500
  p3 : s1.start.program (k : Int) x = (s3, 0)
  c2 : s.cut 0 m = g0
  og : g0.ops = 0
  e0 : g0.eraseC ((k / 1024 : Nat) : Int) = 7
  e : g0.erase ((k / 1024 : Nat) : Int) = g1
  ng : g1.on = false
  wg : g1.worn ((k / 1024 : Nat) : Int) = 1
  l1 : s1.bs.length = 2048
  l3 : s3.bs.length = 2048
  lg : g1.bs.length = 2048
  u1 : ∀ i, bits .andNot .u8 (byt s1.bs i) (byt R i) = 0
  u2 : ∀ i, bits .andNot .u8 (byt s3.bs i) (byt s1.bs i) = 0
  v1 : ∀ i, k ≤ i → i < k + x.length → bits .and .u8 (byt R i) (byt x (i - k)) = byt s3.bs i
  v2 : ∀ i, ¬ (k ≤ i ∧ i < k + x.length) → byt R i = byt s3.bs i
  d0 : ∀ i, i < 2048 → ¬ i / 1024 = k / 1024 → byt g1.bs i = byt R i
  d1 : ∀ i, i < 2048 → i / 1024 = k / 1024 → i < k / 1024 * 1024 + m.toNat % 1025 → byt g1.bs i = 255
  d2 : ∀ i, i < 2048 → i / 1024 = k / 1024 → ¬ i < k / 1024 * 1024 + m.toNat % 1025 → byt g1.bs i = byt R i
theorem ones_getD' {bs : List UInt8} {a m i : Nat} (h : a + m ≤ bs.length) (hi : i < bs.length) : (ones bs a m).getD i 0 = if a ≤ i ∧ i < a + m then 255 else bs.getD i 0 := by
  have hl : (ones bs a m).length = bs.length := ones_length h
  rw [List.getD_eq_getElem?_getD, List.getD_eq_getElem?_getD, List.getElem?_eq_getElem (by omega), List.getElem?_eq_getElem hi]
  simp only [Option.getD_some]
  simp only [ones, List.append_assoc, List.getElem_append, List.length_take, List.length_replicate, List.getElem_replicate, List.getElem_take, List.getElem_drop]
  have hm : min a bs.length = a := by omega
  simp only [hm]
  by_cases h1 : i < a
  · rw [dif_pos h1, if_neg (by omega)]
  · rw [dif_neg h1]
    by_cases h2 : i - a < m
    · rw [dif_pos h2, if_pos (by omega)]
    · rw [dif_neg h2, if_neg (by omega)]
      congr 1
      omega
theorem tl_of (R : List UInt8) (k : Nat) (x : List UInt8) (a : Nat) (m : Int) (hR : R.length = 2048) (hk : k + x.length ≤ 2048) (hk2 : k < 2048) (hx : x.length ≤ 500) (ha : a < x.length) (m0 : 0 ≤ m) :
    ∃ s0 s1 s3 g0 g1, TL R k x a m (Fl.new R 5) s0 s1 s3 g0 g1 := by
  have hlen : ∀ s : Fl, s.bs.length = 2048 → s.inside (k : Int) (x.length : Int) = true := fun s e => by unfold Fl.inside; rw [e]; simp; omega
  have hc1 : (Fl.new R 5).cut (a : Int) m = { (Fl.new R 5) with pl := true, ahead := (a : Int), mask := m } := if_neg (by omega)
  generalize hs0 : ({ (Fl.new R 5) with pl := true, ahead := (a : Int), mask := m } : Fl) = s0 at hc1
  have z1 : (zipA R k (x.take a)).length = 2048 := by rw [zipA_len, hR]
  have hp : s0.program (k : Int) x = ({ s0 with bs := (zipA R k (x.take a)).set (k + a) (tornB ((zipA R k (x.take a)).getD (k + a) 0) (x.getD a 0) m), on := false, pl := false, ahead := 0, mask := 0, ops := (a : Int) }, 7) := by
    unfold Fl.program
    rw [if_pos (by rw [reach_on _ _ (by rw [← hs0]; rfl), hlen _ (by rw [← hs0]; exact hR)]; rfl), Int.toNat_natCast, prog_cut a x s0 k (by rw [← hs0]) (by rw [← hs0]) ha, ← hs0]
    simp [Fl.new]
  generalize hs1 : ({ s0 with bs := (zipA R k (x.take a)).set (k + a) (tornB ((zipA R k (x.take a)).getD (k + a) 0) (x.getD a 0) m), on := false, pl := false, ahead := 0, mask := 0, ops := (a : Int) } : Fl) = s1 at hp
  have b1 : s1.bs = (zipA R k (x.take a)).set (k + a) (tornB ((zipA R k (x.take a)).getD (k + a) 0) (x.getD a 0) m) := by rw [← hs1]
  have l1 : s1.bs.length = 2048 := by rw [b1, List.length_set, z1]
  have hp3 : s1.start.program (k : Int) x = ({ s1.start with bs := zipA s1.bs k x, ops := s1.start.ops + x.length }, 0) := by
    unfold Fl.program
    rw [if_pos (by rw [reach_on _ _ rfl, hlen s1.start l1]; rfl), Int.toNat_natCast, prog_plain _ _ _ (by rw [← hs1]; rfl)]
    rfl
  generalize hs3 : ({ s1.start with bs := zipA s1.bs k x, ops := s1.start.ops + x.length } : Fl) = s3 at hp3
  have b3 : s3.bs = zipA s1.bs k x := by rw [← hs3]
  have l3 : s3.bs.length = 2048 := by rw [b3, zipA_len, l1]
  -- the bytes
  have hz := zipA_at (x.take a) R k
  have htl : (x.take a).length = a := by simp; omega
  rw [htl] at hz
  have hzk : (zipA R k (x.take a)).getD (k + a) 0 = R.getD (k + a) 0 := by rw [hz _ (by omega), if_neg (by omega)]
  have h1 : ∀ i, s1.bs.getD i 0 = if i = k + a then tornB (R.getD i 0) (x.getD (i - k) 0) m else if k ≤ i ∧ i < k + a then R.getD i 0 &&& x.getD (i - k) 0 else R.getD i 0 := fun i => by
    rw [b1, getD_set _ _ _ _ (by omega), hzk]
    by_cases e : i = k + a
    · subst e
      rw [if_pos rfl, if_pos rfl, Nat.add_sub_cancel_left]
    · rw [if_neg e, if_neg e, hz i (by omega)]
      by_cases e2 : k ≤ i ∧ i < k + a
      · rw [if_pos e2, if_pos e2]
        congr 1
        simp only [List.getD_eq_getElem?_getD, List.getElem?_take]
        rw [if_pos (by omega)]
      · rw [if_neg e2, if_neg e2]
  have h3 : ∀ i, s3.bs.getD i 0 = if k ≤ i ∧ i < k + x.length then R.getD i 0 &&& x.getD (i - k) 0 else R.getD i 0 := fun i => by
    rw [b3, zipA_at _ _ _ _ (by omega), h1]
    by_cases e : k ≤ i ∧ i < k + x.length
    · rw [if_pos e, if_pos e]
      by_cases e1 : i = k + a
      · rw [if_pos e1, torn_again]
      · rw [if_neg e1]
        by_cases e2 : k ≤ i ∧ i < k + a
        · rw [if_pos e2, and_again]
        · rw [if_neg e2]
    · rw [if_neg e, if_neg e, if_neg (by omega), if_neg (by omega)]
  have q2 : k / 1024 < 2 := by omega
  -- the erasing
  have hc2 : (Fl.new R 5).cut 0 m = { (Fl.new R 5) with pl := true, ahead := 0, mask := m } := if_neg (by omega)
  generalize hg0 : ({ (Fl.new R 5) with pl := true, ahead := 0, mask := m } : Fl) = g0 at hc2
  have gl : g0.bs.length = 2048 := by rw [← hg0]; exact hR
  have gb : g0.bs = R := by rw [← hg0]; rfl
  have gm : g0.mask = m := by rw [← hg0]
  have hh : g0.has ((k / 1024 : Nat) : Int) = true := by unfold Fl.has; rw [gl]; simp; omega
  have hw : ∀ j, g0.wearAt j = 0 := fun j => by
    rw [← hg0]; unfold Fl.wearAt Fl.new
    simp only [List.getD_eq_getElem?_getD, List.getElem?_replicate]
    split <;> rfl
  have hleft : ¬ g0.left ((k / 1024 : Nat) : Int) = 0 := by unfold Fl.left; rw [hh, if_pos rfl, hw, ← hg0]; show ¬ (5 : Int) - 0 = 0; decide
  obtain ⟨e2, e1⟩ := erase_go (by rw [← hg0]; rfl) hh hleft
  have hcut : g0.cuts = true := by rw [← hg0]; rfl
  have hcut2 : (g0.wearUp (k / 1024)).cuts = true := hcut
  rw [hcut, if_pos rfl] at e2
  rw [Int.toNat_natCast, hcut2, if_pos rfl] at e1
  generalize hg1 : g0.erase ((k / 1024 : Nat) : Int) = g1 at e1
  have c1' : g1.bs = ones R (k / 1024 * 1024) (m.toNat % 1025) := by rw [e1]; show ones g0.bs _ (g0.mask.toNat % 1025) = _; rw [gb, gm]
  have hkk : m.toNat % 1025 ≤ 1024 := by omega
  have lg : g1.bs.length = 2048 := by rw [c1', ones_length (by omega), hR]
  have w8 : g0.wear.length = 8 := by rw [← hg0]; rfl
  have bw : g1.wearAt (k / 1024) = 1 := by
    have := wear_set g0 (k / 1024) (by omega) (k / 1024)
    rw [hw, if_pos rfl] at this
    rw [show g1.wearAt (k / 1024) = (g0.wearUp (k / 1024)).wearAt (k / 1024) by rw [e1]; rfl, this]
    rfl
  have hog := fun i (hi : i < 2048) => ones_getD' (bs := R) (a := k / 1024 * 1024) (m := m.toNat % 1025) (i := i) (by omega) (by omega)
  refine ⟨s0, s1, s3, g0, g1, ⟨rfl, rfl, hc1, by rw [← hs0]; rfl, hp, by rw [← hs1], ?_, hp3, hc2, by rw [← hg0]; rfl, e2, hg1, by rw [e1]; rfl, ?_, l1, l3, lg, fun i => ?_, fun i => ?_, fun i i1 i2 => ?_, fun i i1 => ?_, fun i i1 i2 => ?_, fun i i1 i2 i3 => ?_, fun i i1 i2 i3 => ?_⟩⟩
  · rw [← hs1]; show (a : Int) ≤ 500; omega
  · unfold Fl.worn
    rw [show g1.has ((k / 1024 : Nat) : Int) = true by unfold Fl.has; rw [lg]; simp; omega, if_pos rfl, Int.toNat_natCast, bw]
  · unfold byt
    apply andNot_sub
    rw [h1]
    split
    · exact sub_and _ _
    · split
      · exact sub_and _ _
      · exact sub_refl _
  · unfold byt
    apply andNot_sub
    rw [h1, h3]
    by_cases e : k ≤ i ∧ i < k + x.length
    · rw [if_pos e]
      by_cases e1 : i = k + a
      · rw [if_pos e1]; exact sub_torn _ _ _
      · rw [if_neg e1]
        by_cases e2 : k ≤ i ∧ i < k + a
        · rw [if_pos e2]; exact sub_refl _
        · rw [if_neg e2]; exact sub_and _ _
    · rw [if_neg e, if_neg (by omega), if_neg (by omega)]; exact sub_refl _
  · unfold byt
    rw [and_byte, h3, if_pos ⟨i1, i2⟩]
  · unfold byt
    rw [h3, if_neg i1]
  · unfold byt
    rw [c1', hog i i1, if_neg (by omega)]
  · unfold byt
    rw [c1', hog i i1, if_pos (by omega)]
    rfl
  · unfold byt
    rw [c1', hog i i1, if_neg (by omega)]
end Fla
end Go.Proofs.Ytofhkecdgpbigaa
