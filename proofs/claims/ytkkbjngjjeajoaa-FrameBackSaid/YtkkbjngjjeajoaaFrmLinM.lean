/-
  Lines of frames as values. No program is named here but for the types of what the cut says.
-/
import Derived.Test.YtkkbjngjjeajoaaFrmRead
namespace Go.Proofs.Ytkkbjngjjeajoaa
namespace Frm
open Go.RowKit Mem
set_option maxRecDepth 100000

/-- The first error. -/
def bad : List Fr → Int
  | [] => 0
  | f :: r => if f.err = 0 then bad r else f.err
def lineT (f : Fr) : List UInt8 := f.text ++ [10]
def joined (l : List Fr) : List UInt8 := (l.map lineT).flatten
def textA (l : List Fr) : List UInt8 × Int := if bad l = 0 then (joined l, 0) else ([], bad l)
/-- What a text says line by line: the frames, the error, the line. -/
def lines : Nat → List UInt8 → List Fr → List Fr × Int × Nat
  | 0, _, acc => (acc, 0, 0)
  | n + 1, l, acc => if l = [] then (acc, 0, 0) else if l.contains 10 = false then ([], 4, acc.length) else
      if (parseA (cutL l 10)).2 = 0 then lines n (cutR l 10) (acc ++ [(parseA (cutL l 10)).1]) else ([], (parseA (cutL l 10)).2, acc.length)
def linesA (l : List UInt8) : List Fr × Int × Nat := lines l.length l []

theorem bad_append (a b : List Fr) (h : bad a = 0) : bad (a ++ b) = bad b := by
  induction a with
  | nil => rfl
  | cons f r ih =>
    unfold bad at h
    split at h
    · rename_i hf
      simp only [List.cons_append, bad, if_pos hf]
      exact ih h
    · rename_i hf
      exact absurd h hf
theorem bad_take {l : List Fr} {k : Nat} (hk : k < l.length) (h : bad (l.take k) = 0) {f : Fr} (hf : l[k] = f) : (f.err = 0 → bad (l.take (k + 1)) = 0) ∧ (f.err ≠ 0 → bad l = f.err) := by
  constructor
  · intro h0
    rw [List.take_succ_eq_append_getElem hk, bad_append _ _ h, hf]
    simp [bad, h0]
  · intro h0
    rw [← List.take_append_drop k l, bad_append _ _ h, List.drop_eq_getElem_cons hk, hf]
    simp [bad, h0]
theorem joined_take {l : List Fr} {k : Nat} (hk : k < l.length) {f : Fr} (hf : l[k] = f) : joined (l.take (k + 1)) = joined (l.take k) ++ f.text ++ [10] := by
  unfold joined
  rw [List.take_succ_eq_append_getElem hk, List.map_append, List.flatten_append, hf]
  simp [lineT]
theorem text_le {f : Fr} (h : f.err = 0) : f.text.length ≤ 21 := by
  have h1 := (err_ok (show Frm.err f.id f.r f.d.length = 0 from h)).2.2.1
  have h2 := tail_length f.r f.d
  unfold Fr.text
  rw [text_length]
  omega
theorem joined_le : ∀ (l : List Fr), bad l = 0 → (joined l).length ≤ 22 * l.length := by
  intro l
  induction l with
  | nil => intro _; simp [joined]
  | cons f r ih =>
    intro h
    unfold bad at h
    split at h
    · rename_i hf
      have h1 := ih h
      have h2 := text_le hf
      unfold joined at *
      simp only [List.map_cons, List.flatten_cons, List.length_append, List.length_cons, lineT, List.length_nil]
      omega
    · rename_i hf
      exact absurd h hf
theorem bad_ge (l : List Fr) : bad l = 0 ∨ bad l = 9 ∨ bad l = 3 ∨ bad l = 4 := by
  induction l with
  | nil => exact .inl rfl
  | cons f r ih =>
    unfold bad
    split
    · exact ih
    · exact err_cases f.id f.r f.d.length
theorem hexd_ne (n : Nat) (h : n < 16) : Oct.hexd n ≠ 10 := by
  have : ∀ n : Fin 16, Oct.hexd n.val ≠ 10 := by decide
  exact this ⟨n, h⟩
theorem hex_ne10 (d : List UInt8) : ∀ x ∈ Oct.hex d, x ≠ 10 := by
  induction d with
  | nil => simp [Oct.hex]
  | cons y r ih =>
    intro x hx
    simp only [Oct.hex, List.mem_cons] at hx
    rcases hx with rfl | rfl | hx
    · exact hexd_ne _ (by have := y.toNat_lt; omega)
    · exact hexd_ne _ (by omega)
    · exact ih x hx
theorem text_ne10 {f : Fr} (h : f.err = 0) : ∀ x ∈ f.text, x ≠ 10 := by
  obtain ⟨h1, h2, _, _⟩ := err_ok (show Frm.err f.id f.r f.d.length = 0 from h)
  intro x hx
  unfold Fr.text Frm.text idL Frm.tail at hx
  simp only [List.cons_append, List.nil_append, List.mem_cons] at hx
  rcases hx with rfl | rfl | rfl | rfl | hx
  · exact hexd_ne _ (by omega)
  · exact hexd_ne _ (by omega)
  · exact hexd_ne _ (by omega)
  · decide
  · split at hx
    · simp at hx
      subst hx
      decide
    · exact hex_ne10 _ x hx
/-- Lines of Text are the frames. -/
theorem lines_joined : ∀ (fs : List Fr) (n : Nat) (acc : List Fr), bad fs = 0 → (joined fs).length ≤ n → lines n (joined fs) acc = (acc ++ fs, 0, 0) := by
  intro fs
  induction fs with
  | nil =>
    intro n acc _ _
    cases n <;> simp [lines, joined]
  | cons f r ih =>
    intro n acc h hn
    unfold bad at h
    split at h
    · rename_i hf
      have e : joined (f :: r) = f.text ++ 10 :: joined r := by simp [joined, lineT]
      obtain ⟨c1, c2, c3⟩ := cutL_append f.text 10 (joined r) (text_ne10 hf)
      rw [e] at hn ⊢
      cases n with
      | zero => simp at hn
      | succ n =>
        unfold lines
        have hp : parseA f.text = (f, 0) := parse_text (id := f.id) (r := f.r) (d := f.d) hf
        rw [if_neg (by simp), c3, if_neg (by decide), c1, c2, hp, if_pos rfl, ih n _ h (by simp at hn; omega)]
        simp
    · rename_i hf
      exact absurd h hf
theorem lines_text {fs : List Fr} (h : bad fs = 0) : linesA (joined fs) = (fs, 0, 0) := by
  have := lines_joined fs (joined fs).length [] h (Nat.le_refl _)
  simpa [linesA] using this
theorem cutR_le (l : List UInt8) (c : UInt8) (h : l.contains c = true) : (cutR l c).length < l.length := by
  have := congrArg List.length (cut_split l c h)
  simp at this
  omega
theorem cutL_le (l : List UInt8) (c : UInt8) : (cutL l c).length ≤ l.length := (List.takeWhile_prefix (fun x : UInt8 => x != c) (l := l)).length_le
theorem lines_done (n : Nat) (acc : List Fr) : lines n [] acc = (acc, 0, 0) := by cases n <;> simp [lines]
theorem lines_open {n : Nat} {l : List UInt8} (acc : List Fr) (h : l ≠ []) (hn : l.length ≤ n) (hc : l.contains 10 = false) : lines n l acc = ([], 4, acc.length) := by
  cases n with
  | zero => exact absurd (List.eq_nil_of_length_eq_zero (by omega)) h
  | succ n => unfold lines; rw [if_neg h, if_pos hc]
theorem lines_bad {n : Nat} {l : List UInt8} (acc : List Fr) (h : l ≠ []) (hn : l.length ≤ n) (hc : l.contains 10 = true) (hp : (parseA (cutL l 10)).2 ≠ 0) : lines n l acc = ([], (parseA (cutL l 10)).2, acc.length) := by
  cases n with
  | zero => exact absurd (List.eq_nil_of_length_eq_zero (by omega)) h
  | succ n => unfold lines; rw [if_neg h, hc, if_neg (by decide), if_neg hp]
theorem lines_more {n : Nat} {l : List UInt8} (acc : List Fr) (h : l ≠ []) (hn : l.length ≤ n) (hc : l.contains 10 = true) {f : Fr} (hp : parseA (cutL l 10) = (f, 0)) : ∃ m, lines n l acc = lines m (cutR l 10) (acc ++ [f]) ∧ (cutR l 10).length ≤ m := by
  cases n with
  | zero => exact absurd (List.eq_nil_of_length_eq_zero (by omega)) h
  | succ n =>
    refine ⟨n, ?_, by have := cutR_le l 10 hc; omega⟩
    conv => lhs; unfold lines
    rw [if_neg h, hc, if_neg (by decide), hp, if_pos rfl]
theorem lines_le : ∀ (n : Nat) (l : List UInt8) (acc : List Fr), (lines n l acc).1.length ≤ acc.length + l.length := by
  intro n
  induction n with
  | zero => intro l acc; simp [lines]
  | succ n ih =>
    intro l acc
    unfold lines
    split
    · simp
    · split
      · simp
      · rename_i h
        split
        · have h1 := ih (cutR l 10) (acc ++ [(parseA (cutL l 10)).1])
          have h2 := cutR_le l 10 (by simpa using h)
          simp only [List.length_append, List.length_cons, List.length_nil] at h1
          omega
        · simp
theorem linesA_le (l : List UInt8) : (linesA l).1.length ≤ l.length := by
  have := lines_le l.length l []
  simpa [linesA] using this
end Frm
end Go.Proofs.Ytkkbjngjjeajoaa
