/-
  There and back: bytes and their texts, as plain facts.
-/
import Derived.Test.YtlibolkkklfdoaaDoorTypShow
import Derived.Test.YtlibolkkklfdoaaDoorTypRound
namespace Go.Proofs.YtlibolkkklfdoaaDoor
open Go.RowKit Mem
set_option linter.unusedVariables false

namespace Dec
theorem dig_mk {d : Nat} (h : d < 10) : isD (UInt8.ofNat (48 + d)) = true ∧ (UInt8.ofNat (48 + d)).toNat - 48 = d ∧ ((UInt8.ofNat (48 + d)).toNat = 48 ↔ d = 0) := by
  have e : (UInt8.ofNat (48 + d)).toNat = 48 + d := by rw [UInt8.toNat_ofNat', Nat.mod_eq_of_lt (by omega)]
  unfold isD
  rw [e]
  refine ⟨by simp; omega, by omega, by omega⟩
theorem digits_step (N : Nat) (h : ¬ N < 10) : Lib.decDigits N = Lib.decDigits (N / 10) ++ [UInt8.ofNat (48 + N % 10)] := by rw [Lib.decDigits, dif_neg h]
theorem digits_facts : ∀ (k N : Nat), N ≤ k → val 0 (Lib.decDigits N) = N ∧ (∀ c ∈ Lib.decDigits N, isD c = true) ∧ (0 < N → ∃ c r, Lib.decDigits N = c :: r ∧ c.toNat ≠ 48) := by
  intro k
  induction k with
  | zero =>
    intro N h
    obtain rfl : N = 0 := by omega
    rw [Lib.decDigits_one (by omega)]
    exact ⟨by rw [val_cons, val_nil]; rfl, fun c hc => by simp at hc; subst hc; rfl, fun h => by omega⟩
  | succ k ih =>
    intro N h
    by_cases h10 : N < 10
    · rw [Lib.decDigits_one h10]
      obtain ⟨d1, d2, d3⟩ := dig_mk h10
      refine ⟨by rw [val_cons, val_nil, d2]; omega, fun c hc => by rw [List.mem_singleton] at hc; rw [hc]; exact d1, fun hp => ⟨_, [], rfl, fun e => by have := d3.1 e; omega⟩⟩
    · obtain ⟨i1, i2, i3⟩ := ih (N / 10) (by omega)
      obtain ⟨d1, d2, d3⟩ := dig_mk (show N % 10 < 10 by omega)
      obtain ⟨c, r, hcr, hc0⟩ := i3 (by omega)
      rw [digits_step N h10]
      refine ⟨by rw [val_snoc, i1, d2]; omega, fun x hx => ?_, fun _ => ⟨c, r ++ [UInt8.ofNat (48 + N % 10)], by rw [hcr]; rfl, hc0⟩⟩
      rcases List.mem_append.1 hx with hx | hx
      · exact i2 x hx
      · rw [List.mem_singleton] at hx; rw [hx]; exact d1
theorem form_go' {neg : Bool} {c : UInt8} {r : List UInt8} (h1 : c.toNat ≠ 48) (h2 : ∀ x ∈ c :: r, isD x = true) : form neg (c :: r) = true := by
  unfold form
  have hne : ¬ c :: r = [48] := fun e => by injection e with e1 e2; exact h1 (by rw [e1]; rfl)
  rw [if_neg hne]
  simp only [Bool.and_eq_true]
  exact ⟨by simpa using h1, List.all_eq_true.2 h2⟩
theorem itoa_form (n : Int) (h0 : -9223372036854775808 ≤ n) (h1 : n ≤ 9223372036854775807) : decB (Lib.itoa n) = true ∧ numB (Lib.itoa n) = some n := by
  by_cases hz : n = 0
  · subst hz
    have e : Lib.itoa 0 = [48] := by unfold Lib.itoa; rw [if_neg (by decide)]; exact Lib.decDigits_one (by decide)
    rw [e]
    decide
  · by_cases hn : n < 0
    · obtain ⟨N, rfl⟩ : ∃ N : Nat, n = -(N : Int) := ⟨n.natAbs, by omega⟩
      obtain ⟨i1, i2, i3⟩ := digits_facts N N (Nat.le_refl _)
      obtain ⟨c, r, hcr, hc⟩ := i3 (by omega)
      rw [Lib.itoa_neg N (by omega)]
      have hs : splitNeg (45 :: Lib.decDigits N) = (true, Lib.decDigits N) := rfl
      unfold decB numB
      rw [hs]
      refine ⟨?_, ?_⟩
      · simp only; rw [hcr] at i2 ⊢; exact form_go' hc i2
      · simp only; rw [if_pos trivial, i1, if_pos (by omega)]
    · obtain ⟨N, rfl⟩ : ∃ N : Nat, n = (N : Int) := ⟨n.natAbs, by omega⟩
      obtain ⟨i1, i2, i3⟩ := digits_facts N N (Nat.le_refl _)
      obtain ⟨c, r, hcr, hc⟩ := i3 (by omega)
      rw [Lib.itoa_nonneg N]
      have hs : splitNeg (Lib.decDigits N) = (false, Lib.decDigits N) := by
        rw [hcr]
        rcases split_neg (c :: r) with ⟨r', e, _⟩ | ⟨e, _⟩
        · injection e with e1 e2
          have hd := i2 c (by rw [hcr]; simp)
          rw [e1] at hd
          exact absurd hd (by decide)
        · exact e
      unfold decB numB
      rw [hs]
      refine ⟨?_, ?_⟩
      · simp only; rw [hcr] at i2 ⊢; exact form_go' hc i2
      · simp only; rw [if_neg (by decide), i1, if_pos (by omega)]
/-- Digits that do not begin with 0 are those of their number. -/
theorem digits_back (k : Nat) : ∀ (l : List UInt8), l.length ≤ k → ∀ (c : UInt8) (r : List UInt8), l = c :: r → c.toNat ≠ 48 → (∀ x ∈ l, isD x = true) → 0 < val 0 l ∧ Lib.decDigits (val 0 l) = l := by
  induction k with
  | zero => intro l h c r e; subst e; simp at h
  | succ k ih =>
    intro l h c r e h1 h2
    rcases List.eq_nil_or_concat l with rfl | ⟨l', d, hd⟩
    · cases e
    · rw [List.concat_eq_append] at hd
      have hdd : 48 ≤ d.toNat ∧ d.toNat ≤ 57 := by simpa [isD] using h2 d (by rw [hd]; simp)
      cases l' with
      | nil =>
        rw [hd] at e
        injection e with e1 e2
        subst e1
        rw [hd]
        simp only [List.nil_append]
        rw [val_cons, val_nil]
        have hn : 0 * 10 + (d.toNat - 48) < 10 := by omega
        refine ⟨by omega, ?_⟩
        rw [Lib.decDigits_one hn]
        congr 1
        apply UInt8.toNat_inj.1
        rw [UInt8.toNat_ofNat', Nat.mod_eq_of_lt (by omega)]
        omega
      | cons c' r' =>
        have ec : c' = c := by rw [hd] at e; injection e with e1 e2
        subst ec
        obtain ⟨i1, i2⟩ := ih (c' :: r') (by rw [hd] at h; simp at h ⊢; omega) c' r' rfl h1 (fun x hx => h2 x (by rw [hd]; exact List.mem_append_left _ hx))
        rw [hd, val_snoc]
        refine ⟨by omega, ?_⟩
        rw [digits_step _ (by omega), show (val 0 (c' :: r') * 10 + (d.toNat - 48)) / 10 = val 0 (c' :: r') by omega, i2]
        congr 2
        apply UInt8.toNat_inj.1
        rw [UInt8.toNat_ofNat', Nat.mod_eq_of_lt (by omega)]
        omega
theorem itoa_back {l : List UInt8} {n : Int} (h : decB l = true) (hn : numB l = some n) : Lib.itoa n = l := by
  unfold decB at h
  unfold numB at hn
  rcases split_neg l with ⟨r, rfl, hs⟩ | ⟨hs, hne⟩
  · rw [hs] at h hn
    simp only at h hn
    obtain ⟨hnil, hd⟩ := form_digits h
    rw [if_pos trivial] at hn
    cases r with
    | nil => exact absurd rfl hnil
    | cons c r =>
      have hc : c.toNat ≠ 48 := by
        unfold form at h
        by_cases h0 : c :: r = [48]
        · rw [if_pos h0] at h; cases h
        · rw [if_neg h0] at h
          simp only [Bool.and_eq_true] at h
          simpa using h.1
      obtain ⟨v1, v2⟩ := digits_back _ (c :: r) (Nat.le_refl _) c r rfl hc hd
      split at hn
      · cases hn
        rw [Lib.itoa_neg _ (by omega), v2]
      · cases hn
  · rw [hs] at h hn
    simp only at h hn
    obtain ⟨hnil, hd⟩ := form_digits h
    rw [if_neg (by decide)] at hn
    split at hn
    · cases hn
      rw [Lib.itoa_nonneg]
      unfold form at h
      by_cases h0 : l = [48]
      · subst h0
        exact Lib.decDigits_one (by decide)
      · rw [if_neg h0] at h
        cases l with
        | nil => exact absurd rfl hnil
        | cons c r =>
          simp only [Bool.and_eq_true] at h
          have hc : c.toNat ≠ 48 := by simpa using h.1
          exact (digits_back _ (c :: r) (Nat.le_refl _) c r rfl hc hd).2
    · cases hn
end Dec

theorem unqB_qBody (bs : List UInt8) : unqB false (qBody bs) = some bs := by
  induction bs with
  | nil => rfl
  | cons c r ih =>
    have e : qBody (c :: r) = qStep c ++ qBody r := by simp [qBody]
    rw [e]
    unfold qStep
    cases he : escB (c.toNat : Int) with
    | true =>
      rw [if_pos rfl]
      simp only [List.cons_append, List.nil_append]
      rw [unqB, if_pos (by decide), unqB, if_neg (by simp), if_pos he, ih]
      rfl
    | false =>
      rw [if_neg (by decide)]
      simp only [List.cons_append, List.nil_append]
      have hc : ¬ (c = 92 ∧ false = false) := fun h => by rw [h.1] at he; cases he
      rw [unqB, if_neg hc, if_pos he, ih]
      rfl
theorem qBody_unqB : ∀ (l b : List UInt8), (unqB false l = some b → qBody b = l) ∧ (unqB true l = some b → qBody b = 92 :: l) := by
  intro l
  induction l with
  | nil => intro b; exact ⟨fun h => by simp [unqB] at h; subst h; rfl, fun h => by simp [unqB] at h⟩
  | cons c r ih =>
    intro b
    refine ⟨fun h => ?_, fun h => ?_⟩
    · rw [unqB] at h
      by_cases h1 : c = 92 ∧ false = false
      · rw [if_pos h1] at h
        rw [(ih b).2 h, h1.1]
      · rw [if_neg h1] at h
        by_cases h2 : escB (c.toNat : Int) = false
        · rw [if_pos h2] at h
          obtain ⟨b', hb, rfl⟩ := Option.map_eq_some_iff.1 h
          have e : qBody (c :: b') = qStep c ++ qBody b' := by simp [qBody]
          rw [e, (ih b').1 hb]
          unfold qStep
          rw [h2]
          rfl
        · rw [if_neg h2] at h; cases h
    · rw [unqB, if_neg (by simp)] at h
      by_cases h2 : escB (c.toNat : Int) = true
      · rw [if_pos h2] at h
        obtain ⟨b', hb, rfl⟩ := Option.map_eq_some_iff.1 h
        have e : qBody (c :: b') = qStep c ++ qBody b' := by simp [qBody]
        rw [e, (ih b').1 hb]
        unfold qStep
        rw [h2]
        rfl
      · rw [if_neg h2] at h; cases h

theorem num_known {t : Int} (h : Typ.isNum t = true) : Typ.known t = true := (Typ.num_facts t h).2.1
theorem parse_show {t : Int} {bs : List UInt8} (h : chkA t 256 bs = 0) : prsA t (wrA t bs) = (bs, 0) := by
  obtain ⟨f1, f2, f3⟩ := chk_facts h
  unfold prsA wrA
  rw [if_neg (by rw [f1]; decide)]
  cases hn : Typ.isNum t with
  | true =>
    rw [if_pos rfl, if_pos rfl]
    obtain ⟨d0, d1⟩ := dec_in t bs
    obtain ⟨i1, i2⟩ := Dec.itoa_form _ d0 d1
    unfold parA
    rw [if_neg (by rw [i1]; decide), i2]
    exact (dec_enc t _ bs (by rw [← f2 hn])).1
  | false =>
    rw [if_neg (by decide), if_neg (by decide)]
    unfold bodyB
    by_cases h9 : t = 9
    · rw [if_pos h9, if_pos h9]
      rcases unq_shape (qAll bs) with ⟨B, hB, hu, _⟩ | ⟨_, _, hB⟩
      · have e : B = qBody bs := by
          unfold qAll at hB
          simp only [List.cons_append, List.nil_append] at hB
          injection hB with e1 e2
          exact (List.append_inj_left' e2 rfl).symm
        rw [hu, e, unqB_qBody]
        exact finA_ok h
      · exact absurd rfl (hB (qBody bs))
    · rw [if_neg h9, if_neg h9]
      show finA t (Oct.unhex (Oct.hex bs)) = _
      rw [Oct.unhex_hex]
      exact finA_ok h
theorem show_parse {t : Int} {l b : List UInt8} (h : prsA t l = (b, 0)) : chkA t 256 b = 0 ∧ wrA t b = l := by
  unfold prsA at h
  cases hk : Typ.known t with
  | false => rw [if_pos hk] at h; cases h
  | true =>
    rw [if_neg (by rw [hk]; decide)] at h
    cases hn : Typ.isNum t with
    | true =>
      rw [if_pos hn] at h
      unfold parA at h
      cases hd : Dec.decB l with
      | false => rw [if_pos hd] at h; cases h
      | true =>
        rw [if_neg (by rw [hd]; decide)] at h
        cases hm : Dec.numB l with
        | none => rw [hm] at h; cases h
        | some n =>
          rw [hm] at h
          simp only at h
          unfold encA at h
          rw [if_neg (by rw [hn]; decide)] at h
          cases hl : inLim t n with
          | false => rw [if_pos hl] at h; cases h
          | true =>
            rw [if_neg (by rw [hl]; decide)] at h
            injection h with h1 h2
            have e := enc_dec t n hn hl
            rw [h1] at e
            refine ⟨?_, ?_⟩
            · unfold chkA
              rw [if_neg (by rw [hk]; decide), if_pos hn, e]
            · unfold wrA
              rw [if_pos hn, e]
              exact Dec.itoa_back hd hm
    | false =>
      rw [if_neg (by rw [hn]; decide)] at h
      cases hb : bodyB t l with
      | none => rw [hb] at h; cases h
      | some b' =>
        rw [hb] at h
        by_cases hc : chkA t 256 b' = 0
        · rw [finA_ok hc] at h
          injection h with h1 h2
          subst h1
          refine ⟨hc, ?_⟩
          unfold wrA
          rw [if_neg (by rw [hn]; decide)]
          unfold bodyB at hb
          by_cases h9 : t = 9
          · rw [if_pos h9] at hb ⊢
            rcases unq_shape l with ⟨B, hl, hu, _⟩ | ⟨hu, _⟩
            · rw [hu] at hb
              unfold qAll
              rw [(qBody_unqB B b').1 hb, hl]
              rfl
            · rw [hu] at hb; cases hb
          · rw [if_neg h9] at hb ⊢
            rcases unh_cases l with ⟨r, hl, hu, _⟩ | ⟨hu, _⟩
            · rw [hu] at hb
              rw [Oct.hex_unhex r b' hb, hl]
            · rw [hu] at hb; cases hb
        · rw [finA_bad rfl hc] at h
          injection h with h1 h2
          exact absurd h2 hc
end Go.Proofs.YtlibolkkklfdoaaDoor
