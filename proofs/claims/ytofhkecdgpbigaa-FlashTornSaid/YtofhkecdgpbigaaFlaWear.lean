/-
  What a round of erasings makes of a flash, as plain facts.
-/
import Derived.Test.YtofhkecdgpbigaaFlaKnown
namespace Go.Proofs.Ytofhkecdgpbigaa
namespace Fla
open Go.RowKit Mem
set_option linter.unusedVariables false

structure WI (n : Int) (k : Nat) (s : Fl) : Prop where
  on : s.on = true
  pl : s.pl = false
  len : s.bs.length = 3072
  most : s.most = n
  ops : s.ops ≤ 2 * (k : Int)
section
variable {n : Int} {k q : Nat} {s : Fl}
theorem cuts_no (h : s.pl = false) : s.cuts = false := by unfold Fl.cuts; rw [h]; rfl
theorem past_no (h : s.pl = false) : s.past = { s with ops := s.ops + 1 } := by unfold Fl.past; rw [h]; rfl
theorem has_q (h : s.bs.length = 3072) (hq : q < 3) : s.has q = true := by unfold Fl.has; rw [h]; simp; omega
theorem ones_at {bs : List UInt8} {a m : Nat} (h : a + m ≤ bs.length) (hm : 0 < m) : ((ones bs a m).drop a).take 1 = [255] := by
  have e : (bs.take a).length = a := by simp; omega
  unfold ones
  rw [List.append_assoc, List.drop_append_of_le_length (by omega), List.drop_eq_nil_of_le (by omega), List.nil_append]
  cases m with
  | zero => omega
  | succ m => simp [List.replicate_succ]
theorem set_read {bs : List UInt8} {a : Nat} {x : UInt8} (h : a < bs.length) : ((bs.set a x).drop a).take 1 = [x] := by
  rw [List.drop_eq_getElem_cons (by simpa using h)]
  simp
theorem wear_set (s : Fl) (q : Nat) (h : q < s.wear.length) (j : Nat) : (s.wearUp q).wearAt j = if j = q then s.wearAt q + 1 else s.wearAt j := by
  unfold Fl.wearUp Fl.wearAt
  simp only [List.getD_eq_getElem?_getD, List.getElem?_set]
  by_cases e : j = q
  · subst e; rw [if_pos rfl, if_pos rfl, if_pos h]; rfl
  · rw [if_neg (fun h => e h.symm), if_neg e]
/-- A round: a byte is programmed, the sector is erased, or refused. -/
structure WR (n : Int) (k q : Nat) (s s1 s2 : Fl) : Prop where
  p : s.program (1024 * (q : Int)) [0] = (s1, 0)
  e : s1.erase q = s2
  i : WI n (k + 1) s2
  o : s1.ops ≤ 2 * (k : Int) + 1
  c : (s.wearAt q < n ∧ s1.eraseC q = 0 ∧ (∀ j, s2.wearAt j = if j = q then s.wearAt q + 1 else s.wearAt j) ∧ s2.read (1024 * (q : Int)) 1 = ([255], 0) ∧ s2.worn q = s.wearAt q + 1 ∧ s2.left q = n - (s.wearAt q + 1)) ∨
      (s.wearAt q = n ∧ s1.eraseC q = 10 ∧ (∀ j, s2.wearAt j = s.wearAt j) ∧ s2.read (1024 * (q : Int)) 1 = ([0], 0) ∧ s2.worn q = s.wearAt q ∧ s2.left q = n - s.wearAt q)
theorem WI.round (h : WI n k s) (ok : s.Ok) (hq : q < 3) : ∃ s1 s2, WR n k q s s1 s2 := by
  have hl := h.len
  have hT : (1024 * (q : Int)).toNat = 1024 * q := by omega
  have hin : s.inside (1024 * (q : Int)) 1 = true := by unfold Fl.inside; rw [hl]; simp; omega
  have hp : s.program (1024 * (q : Int)) [0] = ({ (s.with_ (s.bs.set (1024 * q) 0)) with ops := s.ops + 1 }, 0) := by
    unfold Fl.program
    rw [if_pos (by rw [reach_on _ _ h.on]; show (if s.inside (1024 * (q : Int)) 1 = true then (0 : Int) else 9) = 0; rw [hin]; rfl), hT]
    unfold Fl.prog Fl.prog Fl.put1
    rw [cuts_no h.pl, if_neg (by decide), if_neg (by decide), past_no (s := s.with_ (s.bs.set (1024 * q) (s.bs.getD (1024 * q) 0 &&& 0))) h.pl]
    simp [Fl.with_]
  generalize hs1 : ({ (s.with_ (s.bs.set (1024 * q) 0)) with ops := s.ops + 1 } : Fl) = s1 at hp
  have a1 : s1.bs = s.bs.set (1024 * q) 0 := by rw [← hs1]; rfl
  have a2 : s1.wear = s.wear := by rw [← hs1]; rfl
  have a3 : s1.on = true := by rw [← hs1]; exact h.on
  have a4 : s1.pl = false := by rw [← hs1]; exact h.pl
  have a5 : s1.most = n := by rw [← hs1]; exact h.most
  have a6 : s1.ops = s.ops + 1 := by rw [← hs1]
  have a7 : s1.bs.length = 3072 := by rw [a1, List.length_set]; exact hl
  have aw : ∀ j, s1.wearAt j = s.wearAt j := fun j => by unfold Fl.wearAt; rw [a2]
  have hh := has_q a7 hq
  have hb := ok.wear_bd q (by omega)
  have hw8 := ok.w8
  have ho := h.ops
  rw [h.most] at hb
  have hleft : s1.left q = n - s.wearAt q := by unfold Fl.left; rw [hh, if_pos rfl, a5, Int.toNat_natCast, aw]
  by_cases hn : s.wearAt q = n
  · obtain ⟨e1, e2⟩ := erase_worn a3 hh (by rw [hleft]; omega)
    refine ⟨s1, s1, hp, e1, ⟨a3, a4, a7, a5, by rw [a6]; omega⟩, by rw [a6]; omega, .inr ⟨hn, e2, aw, ?_, ?_, hleft⟩⟩
    · have hin' : s1.inside (1024 * (q : Int)) 1 = true := by unfold Fl.inside; rw [a7]; simp; omega
      unfold Fl.read
      rw [reach_on _ _ a3, hin', if_pos rfl, if_pos rfl, hT, a1]
      congr 1
      exact set_read (by omega)
    · unfold Fl.worn; rw [hh, if_pos rfl, Int.toNat_natCast, aw]
  · obtain ⟨e2, e1⟩ := erase_go a3 hh (by rw [hleft]; omega)
    have hup : (s1.wearUp q).pl = false := a4
    rw [Int.toNat_natCast, cuts_no hup, if_neg (by decide)] at e1
    rw [cuts_no a4, if_neg (by decide)] at e2
    have hlo : (ones s1.bs (q * 1024) 1024).length = 3072 := by rw [ones_length (by omega)]; exact a7
    rw [past_no (by exact hup)] at e1
    generalize hs2 : s1.erase q = s2 at e1
    have b1 : s2.bs = ones s1.bs (q * 1024) 1024 := by rw [e1]; rfl
    have b3 : s2.on = true := by rw [e1]; exact a3
    have b4 : s2.pl = false := by rw [e1]; exact hup
    have b5 : s2.most = n := by rw [e1]; exact a5
    have b6 : s2.ops = s1.ops + 1 := by rw [e1]; rfl
    have b7 : s2.bs.length = 3072 := by rw [b1]; exact hlo
    have bw : ∀ j, s2.wearAt j = if j = q then s.wearAt q + 1 else s.wearAt j := fun j => by
      have := wear_set s1 q (by rw [a2]; omega) j
      rw [aw, aw] at this
      rw [← this, e1]
      rfl
    have hh2 := has_q b7 hq
    have hin' : s2.inside (1024 * (q : Int)) 1 = true := by unfold Fl.inside; rw [b7]; simp; omega
    refine ⟨s1, s2, hp, hs2, ⟨b3, b4, b7, b5, by rw [b6, a6]; omega⟩, by rw [a6]; omega, .inl ⟨by omega, e2, bw, ?_, ?_, ?_⟩⟩
    · unfold Fl.read
      rw [reach_on _ _ b3, hin', if_pos rfl, if_pos rfl, hT, b1, Nat.mul_comm q 1024]
      congr 1
      exact ones_at (by omega) (by decide)
    · unfold Fl.worn; rw [hh2, if_pos rfl, Int.toNat_natCast, bw, if_pos rfl]
    · unfold Fl.left; rw [hh2, if_pos rfl, Int.toNat_natCast, bw, if_pos rfl, b5]
end
end Fla
end Go.Proofs.Ytofhkecdgpbigaa
