/-
  TypesTexts: its walk.
-/
import Derived.Test.YtlibolkkklfdoaaDoorTypShow
import Derived.Test.YtlibolkkklfdoaaDoorOctAux
namespace Go.Proofs.YtlibolkkklfdoaaDoor
open Go.RowKit Mem
set_option linter.unusedVariables false

theorem ne_blk {w1 w2 : World} {b1 b2 : Nat} {t : TypeId} {v1 v2 : Value} {x1 x2 : List UInt8} (h1 : Own w1 b1 t v1 x1) (h2 : Own w2 b2 t v2 x2) (hb : w1.heap.size ≤ b2) : v2.ownBlock = none ∨ v2.ownBlock ≠ v1.ownBlock := by
  cases e2 : v2.ownBlock with
  | none => exact .inl rfl
  | some k =>
    refine .inr fun e => ?_
    have a := (h1.lt k e.symm).2
    have b := (h2.lt k e2).1
    omega
theorem TS.of {w W : World} (hg : TG w) (hb : Below w.heap.size w W) : TS w W := ⟨hb, hg.below hb (Nat.le_refl _)⟩
theorem prs_le (t : Int) (l : List UInt8) : (prsA t l).1.length ≤ l.length + 8 := by
  unfold prsA
  split
  · simp
  · split
    · unfold parA
      split
      · simp
      · cases Dec.numB l with
        | none => simp
        | some v =>
          simp only
          unfold encA
          split
          · simp
          · split
            · simp
            · rename_i h1 _ h3 _
              have hn : Typ.isNum t = true := by assumption
              obtain ⟨s1, s2, s3⟩ := size_facts t hn
              simp only [Oct.bytes_length]
              omega
    · cases hb : bodyB t l with
      | none => simp [finA]
      | some b =>
        have := bodyB_le hb
        unfold finA
        simp only
        split
        · simp only; omega
        · simp

set_option maxRecDepth 100000 in
set_option maxHeartbeats 8000000 in
theorem ttexts_law (t : Int) (A : Option Addr) (c : Nat) (bs : List UInt8) (s : ByteArray) (w : World) (h0 : -9223372036854775808 ≤ t) (h1 : t ≤ 9223372036854775807) (hr : Rd w w.heap.size A bs) (hm : bs.length ≤ maxLen) (hc : bs.length ≤ c ∧ c ≤ maxLen) (hs : s.size ≤ maxLen) (hg : TG w) :
    Calls Tryd.prog 6 #[.int .i64 t, .slice A bs.length c, .string s] w fun e w' => e = .returned (.bool true) ∧ Below w.heap.size w w' := by
  have S := Lib.hid (TS.start hg)
  have KN := Lib.hid (fun W (S : TS w W) => S.call (fixed_any W S.g))
  have HG := Lib.hid hg
  have hlen : (bs.length : Int) ≤ 9223372036854775807 := by unfold maxLen at hm; omega
  have hslen : (s.size : Int) ≤ 9223372036854775807 := by unfold maxLen at hs; omega
  clear hm hs
  by_cases hbig : 10000 < (bs.length : Int) ∨ 2000 < (s.size : Int)
  · clear hg hr hc
    generalize bs.length = m at *
    rcases hbig with hbig | hbig
    · go_enter Tryd.func6, Tryd.ntmps6
      go_wp2_with fail
      refine (KN.out _ S.out).mono ?_
      clear S
      rintro e w1 ⟨rfl, S⟩
      have S := Lib.hid S
      go_wp2_with fail
      go_ret
      exact ⟨rfl, S.out.b⟩
    · by_cases hb2 : 10000 < (m : Int)
      all_goals
        go_enter Tryd.func6, Tryd.ntmps6
        go_wp2_with fail
        refine (KN.out _ S.out).mono ?_
        clear S
        rintro e w1 ⟨rfl, S⟩
        have S := Lib.hid S
        go_wp2_with fail
        go_ret
        exact ⟨rfl, S.out.b⟩
  · obtain ⟨l, rfl⟩ : ∃ l : List UInt8, s = ⟨l.toArray⟩ := ⟨s.data.toList, by cases s; simp⟩
    have hl : l.length ≤ 2000 := by
      have : (⟨l.toArray⟩ : ByteArray).size = l.length := by simp [ByteArray.size]
      omega
    have hb1 : (bs.length : Int) ≤ 10000 := by omega
    have hb2 : ((⟨l.toArray⟩ : ByteArray).size : Int) ≤ 2000 := by omega
    have K1 := Lib.hid (lent_any A bs.length c bs w hr rfl (by omega))
    have K2 := Lib.hid (fun W (S : TS w W) (g cap : Nat) (h : LentAt W w.heap.size 5 g cap bs) => (show_any t (some ⟨g, 0, none⟩) bs.length cap bs h0 h1 W h.rd rfl (by omega) S.g))
    have K3 := Lib.hid (fun W (S : TS w W) => (rshow_any t A bs.length c bs h0 h1 W ((hr.below S.b).mono S.b.size) rfl (by omega) hc.1 hc.2))
    have K4 := Lib.hid (fun W (S : TS w W) (g cap : Nat) (h : LentAt W w.heap.size 5 g cap bs) => (kept_yes A bs.length c w.heap.size w.heap.size g cap bs W h (hr.below S.b) rfl (by omega)))
    have K5 := Lib.hid (fun W (S : TS w W) => (parse_any t l W (by omega) S.g))
    have K6 := Lib.hid (fun W (S : TS w W) => (rparse_any t l W (by omega)))
    have hpl := prs_le t l
    obtain ⟨⟨X, E⟩, hX⟩ : ∃ p, shA t bs = p := ⟨_, rfl⟩
    obtain ⟨⟨P, G⟩, hP⟩ : ∃ p, prsA t l = p := ⟨_, rfl⟩
    rw [hX] at K2 K3
    rw [hP] at K5 K6 hpl
    simp only at hpl
    clear hX hP hg hr hbig hc
    generalize (⟨l.toArray⟩ : ByteArray) = sl at *
    generalize (⟨X.toArray⟩ : ByteArray) = XS at *
    have hPl : P.length ≤ 1099511627776 := by omega
    have K7 := Lib.hid (fun W v base (h : Own W base 5 v P) (hb : base ≤ W.heap.size) => spoil_any v base P W h hb hPl)
    go_enter Tryd.func6, Tryd.ntmps6
    go_wp2_with fail
    refine K1.out.mono ?_
    clear K1
    rintro e w1 ⟨g, cap, he, hla, b1⟩
    have S1 := Lib.hid (S.out.next b1)
    have L1 := Lib.hid hla
    clear S hla b1
    subst he
    go_wp2_with fail
    refine (K2.out _ S1.out g cap L1.out).mono ?_
    rintro e w2 ⟨rfl, b2⟩
    have S := Lib.hid (S1.out.next b2)
    have L := Lib.hid (L1.out.below b2 (Nat.le_refl _))
    clear S1 L1 b2 K2
    go_wp2_with fail
    refine (K3.out _ S.out).mono ?_
    rintro e w3 ⟨rfl, b3⟩
    have S1 := Lib.hid (S.out.next b3)
    have L1 := Lib.hid (L.out.below b3 (Nat.le_refl _))
    clear S L b3 K3
    go_wp2_with fail
    refine (K5.out _ S1.out).mono ?_
    rintro e w4 ⟨v4, rfl, o4, b4⟩
    have S := Lib.hid (S1.out.next b4)
    have L := Lib.hid (L1.out.below b4 (Nat.le_refl _))
    have O4 := Lib.hid o4
    have HZ3 : Hid (w.heap.size ≤ w3.heap.size ∧ w3.heap.size ≤ w4.heap.size) := Lib.hid ⟨S1.out.b.size, b4.size⟩
    clear S1 L1 b4 o4
    go_wp2_with fail
    refine (K6.out _ S.out).mono ?_
    rintro e w5 ⟨v5, rfl, o5, b5⟩
    have S1 := Lib.hid (S.out.next b5)
    have L1 := Lib.hid (L.out.below b5 (Nat.le_refl _))
    have NB := Lib.hid (ne_blk O4.out o5 (Nat.le_refl _))
    have O4b := Lib.hid (O4.out.below b5 (Nat.le_refl _))
    have O5 := Lib.hid o5
    have hz4 : Hid (w3.heap.size ≤ w5.heap.size ∧ w.heap.size ≤ w3.heap.size) := Lib.hid ⟨Nat.le_trans HZ3.out.2 b5.size, HZ3.out.1⟩
    clear S L b5 o5 O4 HZ3
    obtain ⟨A4, c4, hv4, r4⟩ := O4b.out.form
    obtain ⟨A5, c5, hv5, r5⟩ := O5.out.form
    have s4 := run_str r4 P.length c4 rfl 31 5 9 Tryd.underlying31 Tryd.underlying5 Tryd.underlying9
    have s5 := run_str r5 P.length c5 rfl 31 5 9 Tryd.underlying31 Tryd.underlying5 Tryd.underlying9
    subst hv4
    subst hv5
    clear r4 r5
    generalize (⟨P.toArray⟩ : ByteArray) = PS at *
    go_wp2_with fail
    refine (K4.out _ S1.out g cap L1.out).mono ?_
    rintro e w6 ⟨rfl, rfl⟩
    clear L1 K4
    go_wp2_with fail
    clear s4 s5
    refine (K7.out _ _ _ O4b.out hz4.out.1).mono ?_
    rintro e w6 ⟨rfl, b6, g6⟩
    have S6 : Hid (TS w w6) := Lib.hid (TS.of HG.out (S1.out.b.trans (b6.mono hz4.out.2)))
    have O6 : Hid (Own w6 _ 5 (.slice A5 P.length c5) P) := Lib.hid (World.ownsRow.kept O5.out g6 NB.out)
    clear b6 g6 S1 O5 NB O4b hz4
    go_wp2_with fail
    refine (K5.out _ S6.out).mono ?_
    rintro e w7 ⟨v7, rfl, o7, b7⟩
    have S7 := Lib.hid (S6.out.next b7)
    have O7 := Lib.hid (O6.out.below b7 (Nat.le_refl _))
    obtain ⟨A7, c7, hv7, r7⟩ := o7.form
    obtain ⟨A8, c8, hv8, r8⟩ := O7.out.form
    injection hv8 with e1 e2 e3
    subst e1 e3
    have s4 := run_str r7 P.length c7 rfl 31 5 9 Tryd.underlying31 Tryd.underlying5 Tryd.underlying9
    have s5 := run_str r8 P.length c5 rfl 31 5 9 Tryd.underlying31 Tryd.underlying5 Tryd.underlying9
    subst hv7
    clear r7 r8 o7 b7 S6 O6 O7 e2
    generalize (⟨P.toArray⟩ : ByteArray) = PS2 at *
    go_wp2_with fail
    clear s4 s5
    refine (KN.out _ S7.out).mono ?_
    clear S7
    rintro e w8 ⟨rfl, S⟩
    have S := Lib.hid S
    go_wp2_with fail
    go_ret
    exact ⟨rfl, S.out.b⟩
end Go.Proofs.YtlibolkkklfdoaaDoor
