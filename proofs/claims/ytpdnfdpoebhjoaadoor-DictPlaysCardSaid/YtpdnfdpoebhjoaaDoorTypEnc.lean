/-
  A number in bytes, here and in the document.
-/
import Derived.Test.YtpdnfdpoebhjoaaDoorTypFns
import Derived.Test.YtpdnfdpoebhjoaaDoorTypRef
import Derived.Test.YtpdnfdpoebhjoaaDoorOctAns
import Derived.Test.YtpdnfdpoebhjoaaDoorOctRefInts
namespace Go.Proofs.YtpdnfdpoebhjoaaDoor
open Go.RowKit Mem
set_option linter.unusedVariables false

def encA (t n : Int) : List UInt8 × Int :=
  if Typ.isNum t = false then ([], 15) else if inLim t n = false then ([], 9) else (Oct.bytes n (Typ.size t).toNat, 0)
theorem ans_nil {w W : World} {T : TypeId} {c : Int} (hb : Below w.heap.size w W) : Ans T w ([], c) (.returned (.tuple #[.slice none 0 0, .int .i64 c])) W :=
  ⟨_, rfl, Own.nil _ _ _, hb⟩
theorem ans_up {w W : World} {T : TypeId} {a : List UInt8 × Int} {e : Ending} {w' : World} (hb : Below w.heap.size w W) (h : Ans T W a e w') : Ans T w a e w' := by
  obtain ⟨v, h1, h2, h3⟩ := h
  exact ⟨v, h1, h2.lower hb.size, hb.trans (h3.mono hb.size)⟩
theorem size_facts (t : Int) (h : Typ.isNum t = true) : 1 ≤ Typ.size t ∧ Typ.size t ≤ 8 ∧ ¬ (Typ.size t < 1 ∨ 8 < Typ.size t) := by
  rcases (Typ.num_facts t h).1 with e | e | e | e <;> rw [e] <;> decide
/-- A number within the limits: its bytes as octet lays them. -/
theorem enc_signed (t n : Int) (h : Typ.isNum t = true) (hs : Typ.signed t = true) (hl : inLim t n = true) : Oct.putIntA [] (Typ.size t) n = (Oct.bytes n (Typ.size t).toNat, 0) := by
  obtain ⟨s1, s2, s3⟩ := size_facts t h
  obtain ⟨h1, _, h2⟩ := Typ.num_facts t h
  have hl' : Typ.low t ≤ n ∧ n ≤ Typ.high t := by simpa [inLim] using hl
  unfold Oct.putIntA
  rw [if_neg s3, if_pos, List.nil_append]
  rcases h2 with ⟨_, e1, e2⟩ | ⟨e, _⟩ | ⟨_, e, _⟩
  · rw [e1, e2] at hl'
    rcases h1 with e | e | e | e <;> rw [e] at hl' ⊢ <;> simp at hl' ⊢ <;> omega
  · rw [hs] at e; cases e
  · rw [hs] at e; cases e
theorem enc_plain (t n : Int) (h : Typ.isNum t = true) (hs : Typ.signed t = false) (hl : inLim t n = true) : 0 ≤ n ∧ n ≤ 4294967295 ∧ Oct.putA [] (Typ.size t) n = (Oct.bytes n (Typ.size t).toNat, 0) := by
  obtain ⟨s1, s2, s3⟩ := size_facts t h
  obtain ⟨h1, _, h2⟩ := Typ.num_facts t h
  have hl' : Typ.low t ≤ n ∧ n ≤ Typ.high t := by simpa [inLim] using hl
  have key : 0 ≤ n ∧ n ≤ 4294967295 ∧ n < 256 ^ (Typ.size t).toNat := by
    rcases h2 with ⟨e, _⟩ | ⟨_, e1, _, e2, e3⟩ | ⟨_, _, e1, e2, e3⟩
    · rw [hs] at e; cases e
    · rw [e1, e2] at hl'
      rcases h1 with e | e | e | e <;> rw [e] at hl' e3 ⊢ <;> simp at hl' ⊢ <;> omega
    · rw [e1, e2] at hl'
      rw [e3]
      simp
      omega
  refine ⟨key.1, key.2.1, ?_⟩
  unfold Oct.putA
  rw [if_neg s3, if_neg (by have := key.2.2; omega), List.nil_append]
theorem enc_ref (t n : Int) (h : Typ.isNum t = true) : Oct.putA [] (Typ.size t) (Oct.low (IntKind.u64.wrap n) (8 * Typ.size t)) = (Oct.bytes n (Typ.size t).toNat, 0) := by
  obtain ⟨s1, s2, s3⟩ := size_facts t h
  have hk : ((Typ.size t).toNat : Int) = Typ.size t := by omega
  have h1 := Oct.low_lt (IntKind.u64.wrap n) (Typ.size t).toNat
  rw [hk] at h1
  unfold Oct.putA
  rw [if_neg s3, if_neg (by omega), List.nil_append]
  have e : Oct.low (IntKind.u64.wrap n) (8 * Typ.size t) = IntKind.u64.wrap n % 256 ^ (Typ.size t).toNat := by
    unfold Oct.low
    rw [Oct.pow_256]
    congr 2
    omega
  rw [e, Oct.bytes_mod, Oct.bytes_wrap' n _ (by omega)]
theorem tmul8 (s : Int) (h1 : 1 ≤ s) (h2 : s ≤ 8) : 1 ≤ 8 * s ∧ 8 * s ≤ 64 := by omega

end Go.Proofs.YtpdnfdpoebhjoaaDoor
