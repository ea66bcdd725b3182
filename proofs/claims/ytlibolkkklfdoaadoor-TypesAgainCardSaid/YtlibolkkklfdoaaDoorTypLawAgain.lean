/-
  TypesAgain: its walk.
-/
import Derived.Test.YtlibolkkklfdoaaDoorTypAgain
namespace Go.Proofs.YtlibolkkklfdoaaDoor
open Go.RowKit Mem
set_option linter.unusedVariables false

theorem wr_le {t : Int} {bs : List UInt8} (h : chkA t 256 bs = 0) : (wrA t bs).length ≤ 1000 := by
  obtain ⟨f1, f2, f3⟩ := chk_facts h
  unfold wrA
  cases hn : Typ.isNum t with
  | true =>
    rw [if_pos rfl]
    obtain ⟨d0, d1⟩ := dec_in t bs
    have := Lib.itoa_length_le _ d0 d1
    omega
  | false =>
    rw [if_neg (by decide)]
    have hb := (f3 hn).1
    by_cases h9 : t = 9
    · rw [if_pos h9]
      have := qBody_le bs
      unfold qAll
      simp
      omega
    · rw [if_neg h9]
      have := Oct.hex_length bs
      simp
      omega
theorem prs_le2 (t : Int) (l : List UInt8) : (prsA t l).1.length ≤ l.length + 8 := by
  unfold prsA
  split
  · simp
  · split
    · unfold parA
      split
      · simp
      · cases Dec.numB l with
        | none => simp
        | some v =>
          simp only
          unfold encA
          split
          · simp
          · split
            · simp
            · have hn : Typ.isNum t = true := by assumption
              obtain ⟨s1, s2, s3⟩ := size_facts t hn
              simp only [Oct.bytes_length]
              omega
    · cases hb : bodyB t l with
      | none => simp [finA]
      | some b =>
        have := bodyB_le hb
        unfold finA
        simp only
        split
        · simp only; omega
        · simp

set_option maxRecDepth 100000 in
set_option maxHeartbeats 8000000 in
theorem tagain_law (t : Int) (A : Option Addr) (c : Nat) (bs : List UInt8) (s : ByteArray) (w : World) (h0 : -9223372036854775808 ≤ t) (h1 : t ≤ 9223372036854775807) (hr : Rd w w.heap.size A bs) (hm : bs.length ≤ maxLen) (hs : s.size ≤ maxLen) (hg : TG w) :
    Calls Tryd.prog 8 #[.int .i64 t, .slice A bs.length c, .string s] w fun e w' => e = .returned (.bool true) ∧ Below w.heap.size w w' := by
  have S := Lib.hid (TS.start hg)
  have KN := Lib.hid (fun W (S : TS w W) => S.call (fixed_any W S.g))
  have hlen : (bs.length : Int) ≤ 9223372036854775807 := by unfold maxLen at hm; omega
  have hslen : (s.size : Int) ≤ 9223372036854775807 := by unfold maxLen at hs; omega
  clear hm hs
  by_cases hbig : 10000 < (bs.length : Int) ∨ 2000 < (s.size : Int)
  · clear hg hr
    generalize bs.length = m at *
    rcases hbig with hbig | hbig
    · go_enter Tryd.func8, Tryd.ntmps8
      go_wp2_with fail
      refine (KN.out _ S.out).mono ?_
      clear S
      rintro e w1 ⟨rfl, S⟩
      have S := Lib.hid S
      go_wp2_with fail
      go_ret
      exact ⟨rfl, S.out.b⟩
    · by_cases hb2 : 10000 < (m : Int)
      all_goals
        go_enter Tryd.func8, Tryd.ntmps8
        go_wp2_with fail
        refine (KN.out _ S.out).mono ?_
        clear S
        rintro e w1 ⟨rfl, S⟩
        have S := Lib.hid S
        go_wp2_with fail
        go_ret
        exact ⟨rfl, S.out.b⟩
  · obtain ⟨l, rfl⟩ : ∃ l : List UInt8, s = ⟨l.toArray⟩ := ⟨s.data.toList, by cases s; simp⟩
    have hl : l.length ≤ 2000 := by
      have : (⟨l.toArray⟩ : ByteArray).size = l.length := by simp [ByteArray.size]
      omega
    have hb1 : (bs.length : Int) ≤ 10000 := by omega
    have hb2 : ((⟨l.toArray⟩ : ByteArray).size : Int) ≤ 2000 := by omega
    have HR := Lib.hid hr
    have K1 := Lib.hid (fun W (S : TS w W) => S.call (show_any t A bs.length c bs h0 h1 W ((hr.below S.b).mono S.b.size) rfl (by omega) S.g))
    have K3 := Lib.hid (fun W (S : TS w W) => S.ans (parse_any t l W (by omega) S.g))
    have hpl := prs_le2 t l
    clear hg hr hbig
    have hsec : ((prsA t l).2 = 0 ∧ chkA t 256 (prsA t l).1 = 0 ∧ wrA t (prsA t l).1 = l) ∨ ((prsA t l).2 == 0) = false := by
      by_cases h : (prsA t l).2 = 0
      · have := show_parse (t := t) (l := l) (b := (prsA t l).1) (by rw [← h])
        exact .inl ⟨h, this⟩
      · exact .inr (by simpa using h)
    obtain ⟨⟨P, G⟩, hP⟩ : ∃ p, prsA t l = p := ⟨_, rfl⟩
    rw [hP] at K3 hpl hsec
    simp only at hpl hsec
    clear hP
    have K4 := Lib.hid (fun W (S : TS w W) A3 c3 (h : Rd W W.heap.size A3 P) => show_any t A3 P.length c3 P h0 h1 W h rfl (by omega) S.g)
    have K5 := Lib.hid (fun W (S : TS w W) A3 c3 (h : Rd W W.heap.size A3 P) => check_any A3 P.length c3 P t 256 (by omega) (by omega) W h rfl (by omega) S.g)
    by_cases hc : chkA t 256 bs = 0
    · have e1 : shA t bs = (wrA t bs, 0) := if_pos hc
      rw [e1] at K1
      have hwl := wr_le hc
      have K2 := Lib.hid (fun W (S : TS w W) => S.ans (parse_any t (wrA t bs) W (by omega) S.g))
      rw [parse_show hc] at K2
      generalize (⟨(wrA t bs).toArray⟩ : ByteArray) = XS at *
      clear e1 hwl hc
      rcases hsec with ⟨rfl, hc2, hw2⟩ | hG
      · have e2 : shA t P = (l, 0) := by unfold shA; rw [if_pos hc2, hw2]
        rw [e2] at K4
        rw [hc2] at K5
        clear hc2 hw2 e2
        generalize (⟨l.toArray⟩ : ByteArray) = sl at *
        go_enter Tryd.func8, Tryd.ntmps8
        go_wp2_with fail
        refine (K1.out _ S.out).mono ?_
        clear S
        rintro e w1 ⟨rfl, S⟩
        have S := Lib.hid S
        go_wp2_with fail
        refine (K2.out _ S.out).mono ?_
        clear S
        rintro e w2 ⟨A2, c2, rfl, r2, S⟩
        have s2 := run_str r2 bs.length c2 rfl 31 5 9 Tryd.underlying31 Tryd.underlying5 Tryd.underlying9
        have s3 := run_str (HR.out.below S.b) bs.length c rfl 31 5 9 Tryd.underlying31 Tryd.underlying5 Tryd.underlying9
        have S := Lib.hid S
        clear r2
        generalize (⟨bs.toArray⟩ : ByteArray) = BS at *
        go_wp2_with fail
        clear s2 s3
        refine (K3.out _ S.out).mono ?_
        clear S
        rintro e w3 ⟨A3, c3, rfl, r3, S⟩
        have S := Lib.hid S
        have R3 := Lib.hid r3
        clear r3
        go_wp2_with fail
        refine (K4.out _ S.out A3 c3 R3.out).mono ?_
        rintro e w4 ⟨rfl, b4⟩
        have S4 := Lib.hid (S.out.next b4)
        have R4 := Lib.hid ((R3.out.below b4).mono b4.size)
        clear S R3 b4
        go_wp2_with fail
        refine (K5.out _ S4.out A3 c3 R4.out).mono ?_
        rintro e w5 ⟨rfl, b5⟩
        have S := Lib.hid (S4.out.next b5)
        clear S4 R4 b5
        go_wp2_with fail
        refine (KN.out _ S.out).mono ?_
        clear S
        rintro e w6 ⟨rfl, S⟩
        have S := Lib.hid S
        go_wp2_with fail
        go_ret
        exact ⟨rfl, S.out.b⟩
      · generalize (⟨l.toArray⟩ : ByteArray) = sl at *
        go_enter Tryd.func8, Tryd.ntmps8
        go_wp2_with fail
        refine (K1.out _ S.out).mono ?_
        clear S
        rintro e w1 ⟨rfl, S⟩
        have S := Lib.hid S
        go_wp2_with fail
        refine (K2.out _ S.out).mono ?_
        clear S
        rintro e w2 ⟨A2, c2, rfl, r2, S⟩
        have s2 := run_str r2 bs.length c2 rfl 31 5 9 Tryd.underlying31 Tryd.underlying5 Tryd.underlying9
        have s3 := run_str (HR.out.below S.b) bs.length c rfl 31 5 9 Tryd.underlying31 Tryd.underlying5 Tryd.underlying9
        have S := Lib.hid S
        clear r2
        generalize (⟨bs.toArray⟩ : ByteArray) = BS at *
        go_wp2_with fail
        clear s2 s3
        refine (K3.out _ S.out).mono ?_
        clear S
        rintro e w3 ⟨A3, c3, rfl, r3, S⟩
        have S := Lib.hid S
        clear r3
        go_wp2_with fail
        refine (KN.out _ S.out).mono ?_
        clear S
        rintro e w6 ⟨rfl, S⟩
        have S := Lib.hid S
        go_wp2_with fail
        go_ret
        exact ⟨rfl, S.out.b⟩
    · have e1 : shA t bs = ([], chkA t 256 bs) := if_neg hc
      rw [e1] at K1
      have hE : (chkA t 256 bs == 0) = false := by simpa using hc
      generalize chkA t 256 bs = EE at *
      clear e1 hc
      rcases hsec with ⟨rfl, hc2, hw2⟩ | hG
      · have e2 : shA t P = (l, 0) := by unfold shA; rw [if_pos hc2, hw2]
        rw [e2] at K4
        rw [hc2] at K5
        clear hc2 hw2 e2
        generalize (⟨l.toArray⟩ : ByteArray) = sl at *
        go_enter Tryd.func8, Tryd.ntmps8
        go_wp2_with fail
        refine (K1.out _ S.out).mono ?_
        clear S
        rintro e w2 ⟨rfl, S⟩
        have S := Lib.hid S
        go_wp2_with fail
        refine (K3.out _ S.out).mono ?_
        clear S
        rintro e w3 ⟨A3, c3, rfl, r3, S⟩
        have S := Lib.hid S
        have R3 := Lib.hid r3
        clear r3
        go_wp2_with fail
        refine (K4.out _ S.out A3 c3 R3.out).mono ?_
        rintro e w4 ⟨rfl, b4⟩
        have S4 := Lib.hid (S.out.next b4)
        have R4 := Lib.hid ((R3.out.below b4).mono b4.size)
        clear S R3 b4
        go_wp2_with fail
        refine (K5.out _ S4.out A3 c3 R4.out).mono ?_
        rintro e w5 ⟨rfl, b5⟩
        have S := Lib.hid (S4.out.next b5)
        clear S4 R4 b5
        go_wp2_with fail
        refine (KN.out _ S.out).mono ?_
        clear S
        rintro e w6 ⟨rfl, S⟩
        have S := Lib.hid S
        go_wp2_with fail
        go_ret
        exact ⟨rfl, S.out.b⟩
      · generalize (⟨l.toArray⟩ : ByteArray) = sl at *
        go_enter Tryd.func8, Tryd.ntmps8
        go_wp2_with fail
        refine (K1.out _ S.out).mono ?_
        clear S
        rintro e w2 ⟨rfl, S⟩
        have S := Lib.hid S
        go_wp2_with fail
        refine (K3.out _ S.out).mono ?_
        clear S
        rintro e w3 ⟨A3, c3, rfl, r3, S⟩
        have S := Lib.hid S
        clear r3
        go_wp2_with fail
        refine (KN.out _ S.out).mono ?_
        clear S
        rintro e w6 ⟨rfl, S⟩
        have S := Lib.hid S
        go_wp2_with fail
        go_ret
        exact ⟨rfl, S.out.b⟩
end Go.Proofs.YtlibolkkklfdoaaDoor
