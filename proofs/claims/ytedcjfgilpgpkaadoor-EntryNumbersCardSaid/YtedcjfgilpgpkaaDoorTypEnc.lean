/-
  A number in bytes, here and in the document.
-/
import Derived.Test.YtedcjfgilpgpkaaDoorTypFns
import Derived.Test.YtedcjfgilpgpkaaDoorTypRef2
import Derived.Test.YtedcjfgilpgpkaaDoorOctAns
import Derived.Test.YtedcjfgilpgpkaaDoorOctRefInts
namespace Go.Proofs.YtedcjfgilpgpkaaDoor
open Go.RowKit Mem
set_option linter.unusedVariables false

def encA (t n : Int) : List UInt8 × Int :=
  if Typ.isNum t = false then ([], 15) else if inLim t n = false then ([], 9) else (Oct.bytes n (Typ.size t).toNat, 0)
theorem ans_nil {w W : World} {T : TypeId} {c : Int} (hb : Below w.heap.size w W) : Ans T w ([], c) (.returned (.tuple #[.slice none 0 0, .int .i64 c])) W :=
  ⟨_, rfl, Own.nil _ _ _, hb⟩
theorem ans_up {w W : World} {T : TypeId} {a : List UInt8 × Int} {e : Ending} {w' : World} (hb : Below w.heap.size w W) (h : Ans T W a e w') : Ans T w a e w' := by
  obtain ⟨v, h1, h2, h3⟩ := h
  exact ⟨v, h1, h2.lower hb.size, hb.trans (h3.mono hb.size)⟩
theorem size_facts (t : Int) (h : Typ.isNum t = true) : 1 ≤ Typ.size t ∧ Typ.size t ≤ 8 ∧ ¬ (Typ.size t < 1 ∨ 8 < Typ.size t) := by
  rcases (Typ.num_facts t h).1 with e | e | e | e <;> rw [e] <;> decide
/-- A number within the limits: its bytes as octet lays them. -/
theorem enc_signed (t n : Int) (h : Typ.isNum t = true) (hs : Typ.signed t = true) (hl : inLim t n = true) : Oct.putIntA [] (Typ.size t) n = (Oct.bytes n (Typ.size t).toNat, 0) := by
  obtain ⟨s1, s2, s3⟩ := size_facts t h
  obtain ⟨h1, _, h2⟩ := Typ.num_facts t h
  have hl' : Typ.low t ≤ n ∧ n ≤ Typ.high t := by simpa [inLim] using hl
  unfold Oct.putIntA
  rw [if_neg s3, if_pos, List.nil_append]
  rcases h2 with ⟨_, e1, e2⟩ | ⟨e, _⟩ | ⟨_, e, _⟩
  · rw [e1, e2] at hl'
    rcases h1 with e | e | e | e <;> rw [e] at hl' ⊢ <;> simp at hl' ⊢ <;> omega
  · rw [hs] at e; cases e
  · rw [hs] at e; cases e
theorem enc_plain (t n : Int) (h : Typ.isNum t = true) (hs : Typ.signed t = false) (hl : inLim t n = true) : 0 ≤ n ∧ n ≤ 4294967295 ∧ Oct.putA [] (Typ.size t) n = (Oct.bytes n (Typ.size t).toNat, 0) := by
  obtain ⟨s1, s2, s3⟩ := size_facts t h
  obtain ⟨h1, _, h2⟩ := Typ.num_facts t h
  have hl' : Typ.low t ≤ n ∧ n ≤ Typ.high t := by simpa [inLim] using hl
  have key : 0 ≤ n ∧ n ≤ 4294967295 ∧ n < 256 ^ (Typ.size t).toNat := by
    rcases h2 with ⟨e, _⟩ | ⟨_, e1, _, e2, e3⟩ | ⟨_, _, e1, e2, e3⟩
    · rw [hs] at e; cases e
    · rw [e1, e2] at hl'
      rcases h1 with e | e | e | e <;> rw [e] at hl' e3 ⊢ <;> simp at hl' ⊢ <;> omega
    · rw [e1, e2] at hl'
      rw [e3]
      simp
      omega
  refine ⟨key.1, key.2.1, ?_⟩
  unfold Oct.putA
  rw [if_neg s3, if_neg (by have := key.2.2; omega), List.nil_append]
theorem enc_ref (t n : Int) (h : Typ.isNum t = true) : Oct.putA [] (Typ.size t) (Oct.low (IntKind.u64.wrap n) (8 * Typ.size t)) = (Oct.bytes n (Typ.size t).toNat, 0) := by
  obtain ⟨s1, s2, s3⟩ := size_facts t h
  have hk : ((Typ.size t).toNat : Int) = Typ.size t := by omega
  have h1 := Oct.low_lt (IntKind.u64.wrap n) (Typ.size t).toNat
  rw [hk] at h1
  unfold Oct.putA
  rw [if_neg s3, if_neg (by omega), List.nil_append]
  have e : Oct.low (IntKind.u64.wrap n) (8 * Typ.size t) = IntKind.u64.wrap n % 256 ^ (Typ.size t).toNat := by
    unfold Oct.low
    rw [Oct.pow_256]
    congr 2
    omega
  rw [e, Oct.bytes_mod, Oct.bytes_wrap' n _ (by omega)]
theorem tmul8 (s : Int) (h1 : 1 ≤ s) (h2 : s ≤ 8) : 1 ≤ 8 * s ∧ 8 * s ≤ 64 := by omega

set_option maxRecDepth 100000 in
set_option maxHeartbeats 4000000 in
theorem encode_any (t n : Int) (h0 : -9223372036854775808 ≤ n) (h1 : n ≤ 9223372036854775807) (w : World) (hg : TG w) :
    Calls Tryd.prog 29 #[.int .i64 t, .int .i64 n] w (Ans 5 w (encA t n)) := by
  have H1 := Lib.hid (about_x t w hg)
  have H2 := Lib.hid (fun W => knum_x t W)
  have H3 := Lib.hid (fun W => kholds_x t n W)
  have H4 := Lib.hid (fun W => ksign_x t W)
  have HG := Lib.hid hg
  clear hg
  cases hn : Typ.isNum t with
  | false =>
    have HE : Hid (encA t n = ([], 15)) := Lib.hid (by unfold encA; rw [if_pos hn])
    rw [hn] at H2
    rw [HE.out]
    clear hn
    go_enter Tryd.func29, Tryd.ntmps29
    go_wp2_with fail
    refine H1.out.mono ?_
    rintro e w1 ⟨rfl, b1⟩
    have S := KS.new t HG.out b1
    have b1 := Lib.hid b1
    obtain ⟨q0, q1, q2, q3, q4⟩ := S.cells
    have S := Lib.hid S
    go_wp2_with fail
    refine (S.out.call (H2.out _)).mono ?_
    clear S q0 q1 q2 q3 q4
    rintro e w2 ⟨rfl, S⟩
    have S := Lib.hid S
    go_wp2_with fail
    go_ret2
    exact ans_nil S.out.b_
  | true =>
    obtain ⟨s1, s2, s3⟩ := size_facts t hn
    rw [hn] at H2
    have HN := Lib.hid hn
    clear hn
    cases hl : inLim t n with
    | false =>
      have HE : Hid (encA t n = ([], 9)) := Lib.hid (by unfold encA; rw [if_neg (by rw [HN.out]; decide), if_pos hl])
      rw [hl] at H3
      rw [HE.out]
      clear hl
      go_enter Tryd.func29, Tryd.ntmps29
      go_wp2_with fail
      refine H1.out.mono ?_
      rintro e w1 ⟨rfl, b1⟩
      have S := KS.new t HG.out b1
      have b1 := Lib.hid b1
      obtain ⟨q0, q1, q2, q3, q4⟩ := S.cells
      have S := Lib.hid S
      go_wp2_with fail
      refine (S.out.call (H2.out _)).mono ?_
      clear S q0 q1 q2 q3 q4
      rintro e w2 ⟨rfl, S⟩
      obtain ⟨q0, q1, q2, q3, q4⟩ := S.cells
      have S := Lib.hid S
      go_wp2_with fail
      refine (S.out.call (H3.out _)).mono ?_
      clear S q0 q1 q2 q3 q4
      rintro e w3 ⟨rfl, S⟩
      have S := Lib.hid S
      go_wp2_with fail
      go_ret2
      exact ans_nil S.out.b_
    | true =>
      have HE : Hid (encA t n = (Oct.bytes n (Typ.size t).toNat, 0)) := Lib.hid (by unfold encA; rw [if_neg (by rw [HN.out]; decide), if_neg (by rw [hl]; decide)])
      rw [hl] at H3
      have HL := Lib.hid hl
      clear hl
      cases hs : Typ.signed t with
      | true =>
        rw [hs] at H4
        have HP := Lib.hid (fun W => putInt_all none 0 0 [] (Typ.size t) n W Rd.nil rfl (by omega) h0 h1)
        rw [enc_signed t n HN.out hs HL.out, ← HE.out] at HP
        clear hs
        go_enter Tryd.func29, Tryd.ntmps29
        go_wp2_with fail
        refine H1.out.mono ?_
        rintro e w1 ⟨rfl, b1⟩
        have S := KS.new t HG.out b1
        have b1 := Lib.hid b1
        obtain ⟨q0, q1, q2, q3, q4⟩ := S.cells
        have S := Lib.hid S
        go_wp2_with fail
        refine (S.out.call (H2.out _)).mono ?_
        clear S q0 q1 q2 q3 q4
        rintro e w2 ⟨rfl, S⟩
        obtain ⟨q0, q1, q2, q3, q4⟩ := S.cells
        have S := Lib.hid S
        go_wp2_with fail
        refine (S.out.call (H3.out _)).mono ?_
        clear S q0 q1 q2 q3 q4
        rintro e w3 ⟨rfl, S⟩
        obtain ⟨q0, q1, q2, q3, q4⟩ := S.cells
        have S := Lib.hid S
        go_wp2_with fail
        refine (S.out.call (H4.out _)).mono ?_
        clear S q0 q1 q2 q3 q4
        rintro e w4 ⟨rfl, S⟩
        obtain ⟨q0, q1, q2, q3, q4⟩ := S.cells
        have S := Lib.hid S
        go_wp2_with fail
        refine (HP.out _).mono ?_
        rintro e w5 ⟨v, rfl, o5, b5⟩
        have A5 := Lib.hid (ans_up S.out.b_ ⟨v, rfl, o5, b5⟩)
        clear o5 b5 q0 q1 q2 q3 q4
        go_wp2_with fail
        go_ret2
        exact A5.out
      | false =>
        rw [hs] at H4
        obtain ⟨p0, p1, p2⟩ := enc_plain t n HN.out hs HL.out
        have HP := Lib.hid (fun W => put_all none 0 0 [] (Typ.size t) n W Rd.nil rfl (by omega) p0 (by omega))
        rw [p2, ← HE.out] at HP
        have hw : IntKind.u64.wrap n = n := Oct.wraps64 n p0 (by omega)
        clear hs p2
        go_enter Tryd.func29, Tryd.ntmps29
        go_wp2_with fail
        refine H1.out.mono ?_
        rintro e w1 ⟨rfl, b1⟩
        have S := KS.new t HG.out b1
        have b1 := Lib.hid b1
        obtain ⟨q0, q1, q2, q3, q4⟩ := S.cells
        have S := Lib.hid S
        go_wp2_with fail
        refine (S.out.call (H2.out _)).mono ?_
        clear S q0 q1 q2 q3 q4
        rintro e w2 ⟨rfl, S⟩
        obtain ⟨q0, q1, q2, q3, q4⟩ := S.cells
        have S := Lib.hid S
        go_wp2_with fail
        refine (S.out.call (H3.out _)).mono ?_
        clear S q0 q1 q2 q3 q4
        rintro e w3 ⟨rfl, S⟩
        obtain ⟨q0, q1, q2, q3, q4⟩ := S.cells
        have S := Lib.hid S
        go_wp2_with fail
        refine (S.out.call (H4.out _)).mono ?_
        clear S q0 q1 q2 q3 q4
        rintro e w4 ⟨rfl, S⟩
        obtain ⟨q0, q1, q2, q3, q4⟩ := S.cells
        have S := Lib.hid S
        go_wp2_with fail
        refine (HP.out _).mono ?_
        rintro e w5 ⟨v, rfl, o5, b5⟩
        have A5 := Lib.hid (ans_up S.out.b_ ⟨v, rfl, o5, b5⟩)
        clear o5 b5 q0 q1 q2 q3 q4
        go_wp2_with fail
        go_ret2
        exact A5.out

end Go.Proofs.YtedcjfgilpgpkaaDoor
