/-
  What stands between two signs, read: one function of the text.
-/
import Derived.Test.YtlibolkkklfdoaaDoorTypKnown
namespace Go.Proofs.YtlibolkkklfdoaaDoor
open Go.RowKit Mem
set_option linter.unusedVariables false

def unqB (bh : Bool) : List UInt8 → Option (List UInt8)
  | [] => if bh then none else some []
  | c :: r => if c = 92 ∧ bh = false then unqB true r else if escB (c.toNat : Int) = bh then (unqB false r).map (fun l => c :: l) else none
def unqA (l : List UInt8) : Option (List UInt8) :=
  if Lib.hasPrefix l [34] && Lib.hasSuffix (Lib.trimPrefix l [34]) [34] then unqB false (Lib.trimSuffix (Lib.trimPrefix l [34]) [34]) else none
theorem suffix_one (r : List UInt8) : (∃ B, r = B ++ [34] ∧ Lib.hasSuffix r [34] = true ∧ Lib.trimSuffix r [34] = B) ∨ (Lib.hasSuffix r [34] = false ∧ ∀ B, r ≠ B ++ [34]) := by
  by_cases h : Lib.hasSuffix r [34] = true
  · left
    have h' : [34] <:+ r := by simpa [Lib.hasSuffix] using h
    obtain ⟨B, hB⟩ := h'
    refine ⟨B, hB.symm, h, ?_⟩
    unfold Lib.trimSuffix
    rw [if_pos h, ← hB]
    simp
  · right
    refine ⟨by simpa using h, fun B e => h ?_⟩
    rw [e]
    simp [Lib.hasSuffix]
theorem unq_shape (l : List UInt8) : (∃ B, l = 34 :: (B ++ [34]) ∧ unqA l = unqB false B ∧ Lib.hasPrefix l [34] = true ∧ Lib.trimPrefix l [34] = B ++ [34] ∧ Lib.hasSuffix (B ++ [34]) [34] = true ∧ Lib.trimSuffix (B ++ [34]) [34] = B) ∨
    (unqA l = none ∧ (Lib.hasPrefix l [34] = false ∨ (Lib.hasPrefix l [34] = true ∧ Lib.hasSuffix (Lib.trimPrefix l [34]) [34] = false)) ∧ ∀ B, l ≠ 34 :: (B ++ [34])) := by
  cases l with
  | nil => right; exact ⟨rfl, .inl rfl, fun B => by simp⟩
  | cons c r =>
    by_cases h : c = 34
    · subst h
      have hp : Lib.hasPrefix (34 :: r) [34] = true := by simp [Lib.hasPrefix, List.isPrefixOf]
      have ht : Lib.trimPrefix (34 :: r) [34] = r := by simp [Lib.trimPrefix, hp]
      rcases suffix_one r with ⟨B, hB, h1, h2⟩ | ⟨h1, h2⟩
      · left
        refine ⟨B, by rw [hB], ?_, hp, by rw [ht, hB], by rw [← hB]; exact h1, by rw [← hB]; exact h2⟩
        unfold unqA
        rw [hp, ht, h1, h2]
        rfl
      · right
        refine ⟨?_, .inr ⟨hp, by rw [ht]; exact h1⟩, fun B e => h2 B (by cases e; rfl)⟩
        unfold unqA
        rw [hp, ht, h1]
        rfl
    · have h0 : Lib.hasPrefix (c :: r) [34] = false := by simp [Lib.hasPrefix, List.isPrefixOf]; exact fun e => h e.symm
      right
      refine ⟨?_, .inl h0, fun B e => h (by cases e; rfl)⟩
      unfold unqA
      rw [h0]
      rfl
/-- Behind k bytes: 'out' is read, and the last was a sign ahead of a byte or not. -/
def UI (W : List UInt8) (k : Nat) (out : List UInt8) (bh : Bool) : Prop := unqB false W = (unqB bh (W.drop k)).map (fun l => out ++ l)
theorem UI.start (W : List UInt8) : UI W 0 [] false := by unfold UI; simp
theorem byt_x {W : List UInt8} {k : Nat} (h : k < W.length) : byt W k = ((W[k].toNat : Nat) : Int) := by simp [byt, h]
theorem UI.sign {W : List UInt8} {k : Nat} {out : List UInt8} (I : UI W k out false) (h : k < W.length) (hc : byt W k = 92) : UI W (k + 1) out true := by
  unfold UI at I ⊢
  rw [List.drop_eq_getElem_cons h] at I
  have e : W[k] = 92 := UInt8.toNat_inj.1 (by rw [byt_x h] at hc; exact Int.ofNat_inj.1 hc)
  rw [I, unqB, e]
  simp
theorem UI.stop {W : List UInt8} {k : Nat} {out : List UInt8} {bh : Bool} (I : UI W k out bh) (h : k < W.length) (hn : ¬ (byt W k = 92 ∧ bh = false)) (hc : escB (byt W k) = !bh) : unqB false W = none := by
  unfold UI at I
  rw [List.drop_eq_getElem_cons h] at I
  rw [I, unqB, if_neg, if_neg]
  · rfl
  · rw [← byt_x h, hc]; cases bh <;> decide
  · intro e
    exact hn ⟨by rw [byt_x h, e.1]; rfl, e.2⟩
theorem UI.take {W : List UInt8} {k : Nat} {out : List UInt8} {bh : Bool} (I : UI W k out bh) (h : k < W.length) (hn : ¬ (byt W k = 92 ∧ bh = false)) (hc : escB (byt W k) = bh) : UI W (k + 1) (out ++ [W[k]]) false := by
  unfold UI at I ⊢
  rw [List.drop_eq_getElem_cons h] at I
  rw [I, unqB, if_neg, if_pos]
  · cases unqB false (W.drop (k + 1)) <;> simp
  · rw [← byt_x h, hc]
  · intro e
    exact hn ⟨by rw [byt_x h, e.1]; rfl, e.2⟩
theorem UI.end_ {W : List UInt8} {out : List UInt8} {bh : Bool} (I : UI W W.length out bh) : unqB false W = if bh then none else some out := by
  unfold UI at I
  rw [List.drop_length] at I
  rw [I, unqB]
  cases bh <;> simp
end Go.Proofs.YtlibolkkklfdoaaDoor
