/-
  Frames as values: what is wrong of one, its text, what a text says. No program is named here.
-/
import Derived.Test.YtlojomeofgnfjaaOctMath
namespace Go.Proofs.Ytlojomeofgnfjaa
namespace Frm
open Go.RowKit Mem
set_option maxRecDepth 100000

/-- A frame: its Id, is it Remote, its bytes. -/
structure Fr where
  id : Int
  r : Bool
  d : List UInt8
def Fr.zero : Fr := ⟨0, false, []⟩
/-- What is wrong of a frame. -/
def err (id : Int) (r : Bool) (l : Nat) : Int := if id < 0 ∨ 2047 < id then 9 else if 8 < l then 3 else if r = true ∧ 0 < l then 4 else 0
def Fr.err (f : Fr) : Int := Frm.err f.id f.r f.d.length
def idL (n : Nat) : List UInt8 := [Oct.hexd (n / 256), Oct.hexd (n / 16 % 16), Oct.hexd (n % 16)]
def tail (r : Bool) (d : List UInt8) : List UInt8 := if r then [82] else Oct.hex d
def text (id : Int) (r : Bool) (d : List UInt8) : List UInt8 := idL id.toNat ++ 35 :: tail r d
def Fr.text (f : Fr) : List UInt8 := Frm.text f.id f.r f.d
def showA (id : Int) (r : Bool) (d : List UInt8) : List UInt8 × Int := if err id r d.length = 0 then (text id r d, 0) else ([], err id r d.length)
/-- Three digits. -/
def isId (l : List UInt8) : Bool := decide (l.length = 3) && (Oct.digB (byt l 0) && (Oct.digB (byt l 1) && Oct.digB (byt l 2)))
def idV (l : List UInt8) : Int := 256 * Oct.digV (byt l 0) + 16 * Oct.digV (byt l 1) + Oct.digV (byt l 2)
def isHead (l : List UInt8) : Bool := decide (4 ≤ l.length) && (byt l 3 == 35 && isId (l.take 3))
/-- What a text says by its form alone. -/
def readA (l : List UInt8) : Fr × Int :=
  if isHead l = true then
    if l.drop 4 = [82] then (⟨idV l, true, []⟩, 0)
    else match Oct.unhex (l.drop 4) with
      | some bs => (⟨idV l, false, bs⟩, 0)
      | none => (Fr.zero, 4)
  else (Fr.zero, 4)
def parseA (l : List UInt8) : Fr × Int := if (readA l).2 = 0 then (if (readA l).1.err = 0 then ((readA l).1, 0) else (Fr.zero, (readA l).1.err)) else (Fr.zero, (readA l).2)

theorem isHead_yes {l : List UInt8} (h : isHead l = true) : 4 ≤ l.length ∧ byt l 3 = 35 ∧ isId (l.take 3) = true := by
  unfold isHead at h
  simpa using h
theorem isId_yes {l : List UInt8} (h : isId l = true) : l.length = 3 ∧ Oct.digB (byt l 0) = true ∧ Oct.digB (byt l 1) = true ∧ Oct.digB (byt l 2) = true := by
  unfold isId at h
  simpa using h
theorem byt_take {l : List UInt8} {k j : Nat} (h : j < k) : byt (l.take k) j = byt l j := by
  simp [byt, h]
theorem idV_take (l : List UInt8) : idV (l.take 3) = idV l := by
  unfold idV
  rw [byt_take (by omega), byt_take (by omega), byt_take (by omega)]
theorem idV_bd {l : List UInt8} (h : isId l = true) : 0 ≤ idV l ∧ idV l ≤ 4095 := by
  obtain ⟨_, h0, h1, h2⟩ := isId_yes h
  have := Oct.digV_bd h0
  have := Oct.digV_bd h1
  have := Oct.digV_bd h2
  unfold idV
  omega
theorem err_ok {id : Int} {r : Bool} {l : Nat} (h : err id r l = 0) : 0 ≤ id ∧ id ≤ 2047 ∧ l ≤ 8 ∧ (r = true → l = 0) := by
  unfold err at h
  split at h
  · omega
  · split at h
    · omega
    · split at h
      · omega
      · rename_i h1 h2 h3
        refine ⟨by omega, by omega, by omega, fun hr => ?_⟩
        by_cases hl : l = 0
        · exact hl
        · exact absurd ⟨hr, by omega⟩ h3
theorem err_cases (id : Int) (r : Bool) (l : Nat) : err id r l = 0 ∨ err id r l = 9 ∨ err id r l = 3 ∨ err id r l = 4 := by
  unfold err
  split
  · omega
  · split
    · omega
    · split <;> omega
theorem idL_length (n : Nat) : (idL n).length = 3 := rfl
theorem text_length (id : Int) (r : Bool) (d : List UInt8) : (text id r d).length = 4 + (tail r d).length := by
  simp [text, idL_length]
  omega
theorem tail_length (r : Bool) (d : List UInt8) : (tail r d).length ≤ 2 * d.length + 1 := by
  unfold tail
  split
  · simp
  · rw [Oct.hex_length]; omega
theorem byt_hexd (l : List UInt8) (j n : Nat) (h : l[j]? = some (Oct.hexd n)) (hn : n < 16) : Oct.digB (byt l j) = true ∧ Oct.digV (byt l j) = n := by
  have e : byt l j = ((Oct.hexd n).toNat : Int) := by simp [byt, List.getD_eq_getElem?_getD, h]
  rw [e]
  exact Oct.dig_hexd n hn
theorem text_head (id : Int) (r : Bool) (d : List UInt8) (h : 0 ≤ id ∧ id ≤ 2047) : isHead (text id r d) = true ∧ idV (text id r d) = id := by
  obtain ⟨n, rfl⟩ : ∃ n : Nat, id = n := ⟨id.toNat, by omega⟩
  have hn : n ≤ 2047 := by omega
  have e0 : (text n r d)[0]? = some (Oct.hexd (n / 256)) := by simp [text, idL]
  have e1 : (text n r d)[1]? = some (Oct.hexd (n / 16 % 16)) := by simp [text, idL]
  have e2 : (text n r d)[2]? = some (Oct.hexd (n % 16)) := by simp [text, idL]
  have e3 : byt (text n r d) 3 = 35 := by simp [byt, text, idL]
  have b0 := byt_hexd _ _ _ e0 (by omega)
  have b1 := byt_hexd _ _ _ e1 (by omega)
  have b2 := byt_hexd _ _ _ e2 (by omega)
  constructor
  · unfold isHead isId
    rw [byt_take (by omega), byt_take (by omega), byt_take (by omega), b0.1, b1.1, b2.1, e3, text_length]
    simp [text_length]
    omega
  · unfold idV
    rw [b0.2, b1.2, b2.2]
    omega
theorem text_drop (id : Int) (r : Bool) (d : List UInt8) : (text id r d).drop 4 = tail r d := by simp [text, idL]
theorem hex_ne (d : List UInt8) : Oct.hex d ≠ [82] := by
  intro h
  have := congrArg List.length h
  rw [Oct.hex_length] at this
  simp at this
  omega
theorem read_text {id : Int} {r : Bool} {d : List UInt8} (h : 0 ≤ id ∧ id ≤ 2047) (hr : r = true → d.length = 0) : readA (text id r d) = (⟨id, r, d⟩, 0) := by
  obtain ⟨h1, h2⟩ := text_head id r d h
  unfold readA
  rw [if_pos h1, text_drop, h2]
  cases r with
  | true =>
    obtain rfl : d = [] := List.eq_nil_of_length_eq_zero (hr rfl)
    rw [if_pos (show tail true [] = [82] from rfl)]
  | false =>
    show (if Oct.hex d = [82] then _ else _) = _
    rw [if_neg (hex_ne d)]
    show (match Oct.unhex (Oct.hex d) with | some bs => _ | none => _) = _
    rw [Oct.unhex_hex]
/-- Parse of Show is the frame. -/
theorem parse_text {id : Int} {r : Bool} {d : List UInt8} (h : err id r d.length = 0) : parseA (text id r d) = (⟨id, r, d⟩, 0) := by
  obtain ⟨h1, h2, h3, h4⟩ := err_ok h
  unfold parseA
  rw [read_text ⟨h1, h2⟩ h4, if_pos rfl]
  exact if_pos h
theorem hexd_byt {l : List UInt8} {j : Nat} (hj : j < l.length) (h : Oct.digB (byt l j) = true) {n : Nat} (hn : (n : Int) = Oct.digV (byt l j)) : Oct.hexd n = l[j] := by
  have h1 := Oct.hexd_dig h
  rw [show (Oct.digV (byt l j)).toNat = n by omega] at h1
  have e : byt l j = ((l[j]).toNat : Int) := by simp [byt, hj]
  rw [e] at h1
  exact UInt8.toNat_inj.1 (by omega)
/-- A text with a head is the Id's digits, the sign, and what follows. -/
theorem head_text {l : List UInt8} (h : isHead l = true) : idL (idV l).toNat ++ 35 :: l.drop 4 = l := by
  obtain ⟨h4, h3, hi⟩ := isHead_yes h
  have hb := idV_bd hi
  rw [idV_take] at hb
  obtain ⟨_, d0, d1, d2⟩ := isId_yes hi
  rw [byt_take (by omega)] at d0 d1 d2
  have b0 := Oct.digV_bd d0
  have b1 := Oct.digV_bd d1
  have b2 := Oct.digV_bd d2
  obtain ⟨n, hn⟩ : ∃ n : Nat, idV l = n := ⟨(idV l).toNat, by omega⟩
  have hv : (n : Int) = 256 * Oct.digV (byt l 0) + 16 * Oct.digV (byt l 1) + Oct.digV (byt l 2) := hn.symm
  rw [hn, Int.toNat_natCast]
  unfold idL
  rw [hexd_byt (by omega) d0 (n := n / 256) (by omega), hexd_byt (by omega) d1 (n := n / 16 % 16) (by omega), hexd_byt (by omega) d2 (n := n % 16) (by omega)]
  match l, h4, h3 with
  | a :: b :: c :: e :: r, _, h3 =>
    have : e = 35 := UInt8.toNat_inj.1 (show e.toNat = 35 by simp [byt] at h3; omega)
    subst this
    rfl
theorem read_ok {l : List UInt8} (h : (readA l).2 = 0) : text (readA l).1.id (readA l).1.r (readA l).1.d = l ∧ 0 ≤ (readA l).1.id ∧ ((readA l).1.r = true → (readA l).1.d.length = 0) := by
  unfold readA at *
  split at h
  · rename_i hh
    have ht := head_text hh
    have hb := idV_bd (isHead_yes hh).2.2
    rw [idV_take] at hb
    rw [if_pos hh]
    split at h
    · rename_i h82
      rw [if_pos h82]
      refine ⟨?_, hb.1, fun _ => rfl⟩
      rw [h82] at ht
      exact ht
    · rename_i h82
      rw [if_neg h82]
      cases hu : Oct.unhex (l.drop 4) with
      | none => rw [hu] at h; simp at h
      | some bs =>
        refine ⟨?_, hb.1, fun hr => by cases hr⟩
        have := Oct.hex_unhex _ _ hu
        rw [← this] at ht
        exact ht
  · simp at h
/-- Show of Parse is the text. -/
theorem text_parse {l : List UInt8} (h : (parseA l).2 = 0) : (parseA l).1.err = 0 ∧ text (parseA l).1.id (parseA l).1.r (parseA l).1.d = l := by
  unfold parseA at *
  split at h
  · rename_i h1
    split at h
    · rename_i h2
      rw [if_pos h1, if_pos h2]
      exact ⟨h2, (read_ok h1).1⟩
    · rename_i h2
      exact absurd h h2
  · rename_i h1
    exact absurd h h1
theorem readA_cases (l : List UInt8) : (readA l).2 = 0 ∨ (readA l).2 = 4 := by
  unfold readA
  split
  · split
    · exact .inl rfl
    · split
      · exact .inl rfl
      · exact .inr rfl
  · exact .inr rfl
theorem read_len (l : List UInt8) : (readA l).1.d.length ≤ l.length := by
  unfold readA
  split
  · split
    · simp
    · split
      · rename_i bs hu
        have := Oct.unhex_length _ _ hu
        simp at this
        simp
        omega
      · simp [Fr.zero]
  · simp [Fr.zero]
theorem parse_len (l : List UInt8) : (parseA l).1.d.length ≤ 8 := by
  unfold parseA
  split
  · split
    · rename_i h
      exact (err_ok h).2.2.1
    · simp [Fr.zero]
  · simp [Fr.zero]
end Frm
end Go.Proofs.Ytlojomeofgnfjaa
