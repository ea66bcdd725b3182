/-
  TypesBack: its walk.
-/
import Derived.Test.YthmlbggckdnfhaaDoorTypKnown
import Derived.Test.YthmlbggckdnfhaaDoorTypRound
namespace Go.Proofs.YthmlbggckdnfhaaDoor
open Go.RowKit Mem
set_option linter.unusedVariables false

theorem bstr_ne (a : ByteArray) : (a != a) = false := by
  have h : (a == a) = (a.data == a.data) := by cases a; rfl
  rw [bne, h, beq_self_eq_true]; rfl

theorem dec_m (t : Int) (bs : List UInt8) : ((decA t bs).2 = 0 ∨ ((decA t bs).2 == 0) = false) ∧ -9223372036854775808 ≤ (decA t bs).1 ∧ (decA t bs).1 ≤ 9223372036854775807 := by
  refine ⟨?_, ?_⟩
  · by_cases h : (decA t bs).2 = 0
    · exact .inl h
    · exact .inr (by simpa using h)
  · unfold decA
    by_cases hn : Typ.isNum t = false
    · rw [if_pos hn]; simp
    · have hn' : Typ.isNum t = true := by cases h : Typ.isNum t <;> simp_all
      obtain ⟨s1, s2, s3⟩ := size_facts t hn'
      rw [if_neg hn]
      by_cases a1 : (bs.length : Int) < Typ.size t
      · rw [if_pos a1]; simp
      · rw [if_neg a1]
        by_cases a2 : Typ.size t < bs.length
        · rw [if_pos a2]; simp
        · rw [if_neg a2]
          cases hs : Typ.signed t with
          | true =>
            rw [if_pos rfl]
            have hb := Oct.sgn_bd (nm t bs) (8 * Typ.size t)
            have hp := Oct.pow_64 (b := 8 * Typ.size t) (by omega)
            simp only
            omega
          | false =>
            rw [if_neg (by decide)]
            obtain ⟨p0, p1, p2⟩ := dec_bd t bs hn' hs
            by_cases a3 : t = 1 ∧ 1 < nm t bs
            · rw [if_pos a3]; simp
            · rw [if_neg a3]; simp only; omega
theorem enc_first (t n : Int) : (((encA t n).2 == 0) = false) ∨ ((encA t n).2 = 0 ∧ Typ.isNum t = true ∧ decA t (encA t n).1 = (n, 0) ∧ ((encA t n).1.length : Int) = Typ.size t ∧ (encA t n).1.length ≤ 8 ∧ Typ.low t ≤ n ∧ n ≤ Typ.high t) := by
  unfold encA
  by_cases hn : Typ.isNum t = false
  · left; rw [if_pos hn]; rfl
  · have hn' : Typ.isNum t = true := by cases h : Typ.isNum t <;> simp_all
    rw [if_neg hn]
    by_cases hl : inLim t n = false
    · left; rw [if_pos hl]; rfl
    · have hl' : inLim t n = true := by cases h : inLim t n <;> simp_all
      right
      rw [if_neg hl]
      obtain ⟨s1, s2, s3⟩ := size_facts t hn'
      have hlb := Oct.bytes_length n (Typ.size t).toNat
      have hlim : Typ.low t ≤ n ∧ n ≤ Typ.high t := by simpa [inLim] using hl'
      exact ⟨rfl, hn', enc_dec t n hn' hl', by rw [hlb]; omega, by rw [hlb]; omega, hlim.1, hlim.2⟩

set_option maxRecDepth 100000 in
set_option maxHeartbeats 8000000 in
theorem tback_law (t n : Int) (A : Option Addr) (c : Nat) (bs : List UInt8) (w : World) (h0 : -9223372036854775808 ≤ t) (h1 : t ≤ 9223372036854775807) (n0 : -9223372036854775808 ≤ n) (n1 : n ≤ 9223372036854775807) (hr : Rd w w.heap.size A bs) (hm : bs.length ≤ maxLen) (hg : TG w) :
    Calls Tryd.prog 7 #[.int .i64 t, .int .i64 n, .slice A bs.length c] w fun e w' => e = .returned (.bool true) ∧ Below w.heap.size w w' := by
  have S := Lib.hid (TS.start hg)
  have KN := Lib.hid (fun W (S : TS w W) => S.call (fixed_any W S.g))
  have hlen : (bs.length : Int) ≤ 9223372036854775807 := by unfold maxLen at hm; omega
  clear hm
  by_cases hbig : 10000 < (bs.length : Int)
  · clear hg hr
    generalize bs.length = m at *
    go_enter Tryd.func7, Tryd.ntmps7
    go_wp2_with fail
    refine (KN.out _ S.out).mono ?_
    clear S
    rintro e w1 ⟨rfl, S⟩
    have S := Lib.hid S
    go_wp2_with fail
    go_ret
    exact ⟨rfl, S.out.b⟩
  · have K1 := Lib.hid (fun W (S : TS w W) => S.ans (encode_any t n n0 n1 W S.g))
    have K3 := Lib.hid (fun W (S : TS w W) => S.call (decode_any A bs.length c bs t W ((hr.below S.b).mono S.b.size) rfl (by omega) S.g))
    have K4 := Lib.hid (fun W (S : TS w W) => S.call (tlimits_any t W S.g))
    have K5 := Lib.hid (fun W (S : TS w W) => S.call (tsize_any t W S.g))
    have HR := Lib.hid hr
    have HD := Lib.hid (fun m (h : decA t bs = (m, 0)) => (dec_enc t m bs h).1)
    clear hg hr
    have hcase := enc_first t n
    obtain ⟨hg0, hm0, hm1⟩ := dec_m t bs
    obtain ⟨⟨EA, EC⟩, hE⟩ : ∃ x, encA t n = x := ⟨_, rfl⟩
    obtain ⟨⟨m, g⟩, hDM⟩ : ∃ x, decA t bs = x := ⟨_, rfl⟩
    rw [hE] at hcase
    rw [hDM] at hg0 hm0 hm1
    simp only at hcase hg0 hm0 hm1
    have K6 := Lib.hid (fun W (S : TS w W) => S.ans (encode_any t m hm0 hm1 W S.g))
    rw [hE] at K1
    rw [hDM] at K3
    have HD' : Hid (g = 0 → encA t m = (bs, 0)) := Lib.hid (fun h => HD.out m (by rw [hDM, h]))
    clear HD hE hDM
    have K7 := Lib.hid (fun W (S : TS w W) (A1 : Option Addr) (c1 : Nat) (h : Rd W W.heap.size A1 EA) (h8 : EA.length ≤ 8) => S.call (decode_any A1 EA.length c1 EA t W h rfl (by omega) S.g))
    have HRW := Lib.hid (fun W (S : TS w W) => HR.out.below S.b)
    -- the second half, from whatever world
    rcases hcase with hc0 | ⟨rfl, hi, hd, hl, h8, l0, l1⟩
    · rcases hg0 with rfl | hg0
      · have K6' := K6
        rw [HD'.out rfl] at K6'
        go_enter Tryd.func7, Tryd.ntmps7
        go_wp2_with fail
        refine (K1.out _ S.out).mono ?_
        clear S K1
        rintro e w1 ⟨A1, c1, rfl, r1, S⟩
        have S := Lib.hid S
        clear r1
        go_wp2_with fail
        refine (K3.out _ S.out).mono ?_
        clear S K3
        rintro e w2 ⟨rfl, S⟩
        have S := Lib.hid S
        go_wp2_with fail
        refine (K6'.out _ S.out).mono ?_
        clear S K6 K6'
        rintro e w3 ⟨A2, c2, rfl, r2, S⟩
        have s1 := run_str r2 bs.length c2 rfl 31 5 9 Tryd.underlying31 Tryd.underlying5 Tryd.underlying9
        have s2 := run_str (HRW.out _ S) bs.length c rfl 31 5 9 Tryd.underlying31 Tryd.underlying5 Tryd.underlying9
        have S := Lib.hid S
        clear r2
        generalize (⟨bs.toArray⟩ : ByteArray) = Z at *
        go_wp2_with fail
        refine (KN.out _ S.out).mono ?_
        clear S
        rintro e w4 ⟨rfl, S⟩
        have S := Lib.hid S
        go_wp2_with fail
        go_ret
        exact ⟨rfl, S.out.b⟩
      · go_enter Tryd.func7, Tryd.ntmps7
        go_wp2_with fail
        refine (K1.out _ S.out).mono ?_
        clear S K1
        rintro e w1 ⟨A1, c1, rfl, r1, S⟩
        have S := Lib.hid S
        clear r1
        go_wp2_with fail
        refine (K3.out _ S.out).mono ?_
        clear S K3
        rintro e w2 ⟨rfl, S⟩
        have S := Lib.hid S
        go_wp2_with fail
        refine (KN.out _ S.out).mono ?_
        clear S
        rintro e w4 ⟨rfl, S⟩
        have S := Lib.hid S
        go_wp2_with fail
        go_ret
        exact ⟨rfl, S.out.b⟩
    · rw [hi] at K4
      rw [hd] at K7
      have d0 : decide (n < Typ.low t) = false := by simp; omega
      have d1 : decide (Typ.high t < n) = false := by simp; omega
      have HL := Lib.hid hl
      have hle : (EA.length : Int) ≤ 8 := by omega
      clear hi hd hl l0 l1
      generalize Typ.low t = lo at *
      generalize Typ.high t = hi at *
      have e8 : ((EA.length : Int) != Typ.size t) = false := by rw [HL.out]; simp
      generalize Typ.size t = sz at *
      rcases hg0 with rfl | hg0
      · have K6' := K6
        rw [HD'.out rfl] at K6'
        go_enter Tryd.func7, Tryd.ntmps7
        go_wp2_with fail
        refine (K1.out _ S.out).mono ?_
        clear S K1
        rintro e w1 ⟨A1, c1, rfl, r1, S⟩
        have S := Lib.hid S
        have R1 := Lib.hid r1
        clear r1
        go_wp2_with fail
        refine (K7.out _ S.out A1 c1 R1.out h8).mono ?_
        clear S R1 K7
        rintro e w2 ⟨rfl, S⟩
        have S := Lib.hid S
        go_wp2_with fail
        refine (K4.out _ S.out).mono ?_
        clear S K4
        rintro e w3 ⟨rfl, S⟩
        have S := Lib.hid S
        go_wp2_with fail
        refine (K5.out _ S.out).mono ?_
        clear S K5
        rintro e w4 ⟨rfl, S⟩
        have S := Lib.hid S
        go_wp2_with fail
        refine (K3.out _ S.out).mono ?_
        clear S K3
        rintro e w5 ⟨rfl, S⟩
        have S := Lib.hid S
        go_wp2_with fail
        refine (K6'.out _ S.out).mono ?_
        clear S K6 K6'
        rintro e w6 ⟨A2, c2, rfl, r2, S⟩
        have s1 := run_str r2 bs.length c2 rfl 31 5 9 Tryd.underlying31 Tryd.underlying5 Tryd.underlying9
        have s2 := run_str (HRW.out _ S) bs.length c rfl 31 5 9 Tryd.underlying31 Tryd.underlying5 Tryd.underlying9
        have S := Lib.hid S
        clear r2
        generalize (⟨bs.toArray⟩ : ByteArray) = Z at *
        go_wp2_with fail
        refine (KN.out _ S.out).mono ?_
        clear S
        rintro e w7 ⟨rfl, S⟩
        have S := Lib.hid S
        go_wp2_with fail
        go_ret
        exact ⟨rfl, S.out.b⟩
      · go_enter Tryd.func7, Tryd.ntmps7
        go_wp2_with fail
        refine (K1.out _ S.out).mono ?_
        clear S K1
        rintro e w1 ⟨A1, c1, rfl, r1, S⟩
        have S := Lib.hid S
        have R1 := Lib.hid r1
        clear r1
        go_wp2_with fail
        refine (K7.out _ S.out A1 c1 R1.out h8).mono ?_
        clear S R1 K7
        rintro e w2 ⟨rfl, S⟩
        have S := Lib.hid S
        go_wp2_with fail
        refine (K4.out _ S.out).mono ?_
        clear S K4
        rintro e w3 ⟨rfl, S⟩
        have S := Lib.hid S
        go_wp2_with fail
        refine (K5.out _ S.out).mono ?_
        clear S K5
        rintro e w4 ⟨rfl, S⟩
        have S := Lib.hid S
        go_wp2_with fail
        refine (K3.out _ S.out).mono ?_
        clear S K3
        rintro e w5 ⟨rfl, S⟩
        have S := Lib.hid S
        go_wp2_with fail
        refine (KN.out _ S.out).mono ?_
        clear S
        rintro e w6 ⟨rfl, S⟩
        have S := Lib.hid S
        go_wp2_with fail
        go_ret
        exact ⟨rfl, S.out.b⟩
end Go.Proofs.YthmlbggckdnfhaaDoor
