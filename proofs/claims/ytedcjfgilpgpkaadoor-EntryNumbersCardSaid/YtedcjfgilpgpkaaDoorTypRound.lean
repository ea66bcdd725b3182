/-
  There and back: numbers and their bytes.
-/
import Derived.Test.YtedcjfgilpgpkaaDoorTypDec
namespace Go.Proofs.YtedcjfgilpgpkaaDoor
open Go.RowKit Mem
set_option linter.unusedVariables false

theorem num_byte (bs : List UInt8) : ∀ (j a k : Nat), j < k → Oct.num bs a k / 256 ^ j % 256 = byt bs (a + j) := by
  intro j
  induction j with
  | zero =>
    intro a k hk
    obtain ⟨m, rfl⟩ : ∃ m, k = m + 1 := ⟨k - 1, by omega⟩
    rw [Oct.num_front]
    have := byt_bd bs a
    simp
    omega
  | succ j ih =>
    intro a k hk
    obtain ⟨m, rfl⟩ : ∃ m, k = m + 1 := ⟨k - 1, by omega⟩
    rw [Oct.num_front]
    have hb := byt_bd bs a
    have e1 : (256 * Oct.num bs (a + 1) m + byt bs a) / 256 ^ (j + 1) = Oct.num bs (a + 1) m / 256 ^ j := by
      rw [Int.pow_succ, Int.mul_comm (256 ^ j) 256, ← Int.ediv_ediv_of_nonneg (by omega)]
      congr 1
      omega
    rw [e1, ih (a + 1) m (by omega)]
    congr 1
    omega
theorem bytes_num {bs : List UInt8} {k : Nat} (h : bs.length = k) : Oct.bytes (Oct.num bs 0 k) k = bs := by
  subst h
  refine List.ext_getElem (by rw [Oct.bytes_length]) fun j h1 h2 => ?_
  have hj : j < bs.length := h2
  have e := num_byte bs j 0 bs.length hj
  rw [Nat.zero_add] at e
  simp only [Oct.bytes, List.getElem_map, List.getElem_range, e]
  simp [byt, hj]
theorem lim_fits (t n : Int) (h : Typ.isNum t = true) (hs : Typ.signed t = true) : inLim t n = true ↔ Oct.fits n (Typ.size t) := by
  obtain ⟨h1, _, h2⟩ := Typ.num_facts t h
  unfold inLim Oct.fits
  rw [decide_eq_true_iff]
  rcases h2 with ⟨_, e1, e2⟩ | ⟨e, _⟩ | ⟨_, e, _⟩
  · rw [e1, e2]
    rcases h1 with e | e | e | e <;> rw [e] <;> simp <;> omega
  · rw [hs] at e; cases e
  · rw [hs] at e; cases e
theorem enc_dec (t n : Int) (h : Typ.isNum t = true) (hl : inLim t n = true) : decA t (Oct.bytes n (Typ.size t).toNat) = (n, 0) := by
  obtain ⟨s1, s2, s3⟩ := size_facts t h
  have hk : ((Typ.size t).toNat : Int) = Typ.size t := by omega
  have hlen := Oct.bytes_length n (Typ.size t).toNat
  unfold decA
  rw [if_neg (by rw [h]; decide), if_neg (by rw [hlen]; omega), if_neg (by rw [hlen]; omega)]
  cases hs : Typ.signed t with
  | true =>
    rw [if_pos rfl]
    have hf := (lim_fits t n h hs).1 hl
    rw [← hk] at hf
    have := Oct.num_fits (n := n) (k := (Typ.size t).toNat) (by omega) (by omega) hf
    rw [hk] at this
    unfold nm
    rw [this]
  | false =>
    rw [if_neg (by decide)]
    obtain ⟨p0, p1, p2⟩ := enc_plain t n h hs hl
    have hb := Oct.num_bytes n [] [] (Typ.size t).toNat (Typ.size t).toNat (Nat.le_refl _)
    rw [List.nil_append, List.append_nil, List.length_nil] at hb
    have hlt : n < 2 ^ (8 * (Typ.size t).toNat) := by
      obtain ⟨h1, _, h2⟩ := Typ.num_facts t h
      have hl' : Typ.low t ≤ n ∧ n ≤ Typ.high t := by simpa [inLim] using hl
      rw [← Oct.pow_256]
      rcases h2 with ⟨e, _⟩ | ⟨_, e1, _, e2, e3⟩ | ⟨_, _, e1, e2, e3⟩
      · rw [hs] at e; cases e
      · rw [e2] at hl'; omega
      · rw [e2] at hl'; rw [e3]; simp; omega
    rw [Int.emod_eq_of_lt p0 hlt] at hb
    unfold nm
    rw [hb, if_neg]
    rintro ⟨e1, e2⟩
    have hl' : Typ.low t ≤ n ∧ n ≤ Typ.high t := by simpa [inLim] using hl
    subst e1
    rw [show Typ.high 1 = 1 from rfl] at hl'
    omega
theorem dec_enc (t m : Int) (bs : List UInt8) (h : decA t bs = (m, 0)) : encA t m = (bs, 0) ∧ Typ.isNum t = true := by
  cases hn : Typ.isNum t with
  | false => unfold decA at h; rw [if_pos hn] at h; cases h
  | true =>
    refine ⟨?_, rfl⟩
    obtain ⟨s1, s2, s3⟩ := size_facts t hn
    have hk : ((Typ.size t).toNat : Int) = Typ.size t := by omega
    unfold decA at h
    rw [if_neg (by rw [hn]; decide)] at h
    by_cases a1 : (bs.length : Int) < Typ.size t
    · rw [if_pos a1] at h; cases h
    · rw [if_neg a1] at h
      by_cases a2 : Typ.size t < bs.length
      · rw [if_pos a2] at h; cases h
      · rw [if_neg a2] at h
        have hlen : bs.length = (Typ.size t).toNat := by omega
        have hbn := bytes_num hlen
        have hbd := Oct.num_bd bs 0 (Typ.size t).toNat
        cases hs : Typ.signed t with
        | true =>
          rw [if_pos hs] at h
          have hm : m = Oct.sgn (nm t bs) (8 * Typ.size t) := (congrArg Prod.fst h).symm
          have hf := Oct.fits_sgn (nm t bs) (Typ.size t).toNat
          rw [hk, ← hm] at hf
          have hl := (lim_fits t m hn hs).2 hf
          unfold encA
          rw [if_neg (by rw [hn]; decide), if_neg (by rw [hl]; decide)]
          have hb := Oct.bytes_sgn (nm t bs) (Typ.size t).toNat
          rw [hk, ← hm] at hb
          rw [hb]
          have hlow : Oct.low (nm t bs) (8 * Typ.size t) = nm t bs := by
            unfold Oct.low nm
            rw [show (8 * Typ.size t).toNat = 8 * (Typ.size t).toNat by omega]
            exact Int.emod_eq_of_lt hbd.1 hbd.2
          rw [hlow]
          unfold nm
          rw [hbn]
        | false =>
          rw [if_neg (by rw [hs]; decide)] at h
          obtain ⟨p0, p1, p2⟩ := dec_bd t bs hn hs
          by_cases a3 : t = 1 ∧ 1 < nm t bs
          · rw [if_pos a3] at h; cases h
          · rw [if_neg a3] at h
            have hm : m = nm t bs := (congrArg Prod.fst h).symm
            rw [decide_eq_false a3] at p2
            unfold encA
            rw [if_neg (by rw [hn]; decide), hm, if_neg (by rw [p2]; decide)]
            unfold nm
            rw [hbn]
end Go.Proofs.YtedcjfgilpgpkaaDoor
