/-
  Bytes as a number, here and in the document.
-/
import Derived.Test.YtpdnfdpoebhjoaaDoorTypEnc
namespace Go.Proofs.YtpdnfdpoebhjoaaDoor
open Go.RowKit Mem
set_option linter.unusedVariables false

def nm (t : Int) (bs : List UInt8) : Int := Oct.num bs 0 (Typ.size t).toNat
def decA (t : Int) (bs : List UInt8) : Int × Int :=
  if Typ.isNum t = false then (0, 15) else if (bs.length : Int) < Typ.size t then (0, 2) else if Typ.size t < bs.length then (0, 3)
  else if Typ.signed t = true then (Oct.sgn (nm t bs) (8 * Typ.size t), 0) else if t = 1 ∧ 1 < nm t bs then (0, 9) else (nm t bs, 0)
theorem dec_get (t : Int) (bs : List UInt8) (h : Typ.isNum t = true) (hl : (bs.length : Int) = Typ.size t) : Oct.getA bs 0 (Typ.size t) = (nm t bs, 0) ∧ Oct.getIntA bs 0 (Typ.size t) = (Oct.sgn (nm t bs) (8 * Typ.size t), 0) := by
  obtain ⟨s1, s2, s3⟩ := size_facts t h
  unfold Oct.getA Oct.getIntA nm
  rw [if_neg (by omega), if_neg (by omega), if_neg (by omega), if_neg (by omega)]
  exact ⟨rfl, rfl⟩
theorem dec_bd (t : Int) (bs : List UInt8) (h : Typ.isNum t = true) (hs : Typ.signed t = false) : 0 ≤ nm t bs ∧ nm t bs ≤ 4294967295 ∧ inLim t (nm t bs) = !decide (t = 1 ∧ 1 < nm t bs) := by
  obtain ⟨h1, _, h2⟩ := Typ.num_facts t h
  have hb := Oct.num_bd bs 0 (Typ.size t).toNat
  rw [← Oct.pow_256] at hb
  unfold nm inLim
  generalize Oct.num bs 0 (Typ.size t).toNat = x at *
  rcases h2 with ⟨e, _⟩ | ⟨_, e1, e0, e2, e3⟩ | ⟨e0, _, e1, e2, e3⟩
  · rw [hs] at e; cases e
  · have hx : x ≤ 4294967295 := by
      have h4 := hb.2
      rcases h1 with e | e | e | e <;> rw [e] at h4 e3 <;> simp at h4 <;> omega
    refine ⟨hb.1, hx, ?_⟩
    rw [e1, e2, decide_eq_true (by omega), decide_eq_false (by omega)]
    rfl
  · rw [e3] at hb
    simp at hb
    refine ⟨hb.1, by omega, ?_⟩
    rw [e1, e2]
    by_cases h5 : 1 < x
    · rw [decide_eq_false (by omega), decide_eq_true (by omega)]; rfl
    · rw [decide_eq_true (by omega), decide_eq_false (by omega)]; rfl

set_option maxRecDepth 100000 in
set_option maxHeartbeats 4000000 in
theorem decode_any (A : Option Addr) (n c : Nat) (bs : List UInt8) (t : Int) (w : World) (hr : Rd w w.heap.size A bs) (hn : n = bs.length) (hle : n ≤ 1099511627776) (hg : TG w) :
    Calls Tryd.prog 82 #[.int .i64 t, .slice A n c] w fun e w' => e = .returned (.tuple #[.int .i64 (decA t bs).1, .int .i64 (decA t bs).2]) ∧ Below w.heap.size w w' := by
  have H1 := Lib.hid (about_x t w hg)
  have H2 := Lib.hid (fun W => knum_x t W)
  have H3 := Lib.hid (fun x W => kholds_x t x W)
  have H4 := Lib.hid (fun W => ksign_x t W)
  have HG := Lib.hid hg
  have HR := Lib.hid hr
  clear hg hr
  cases hnum : Typ.isNum t with
  | false =>
    have HE : Hid (decA t bs = (0, 15)) := Lib.hid (by unfold decA; rw [if_pos hnum])
    rw [hnum] at H2
    rw [HE.out]
    clear hnum hn
    go_enter Tryd.func82, Tryd.ntmps82
    go_wp2_with fail
    refine H1.out.mono ?_
    rintro e w1 ⟨rfl, b1⟩
    have S := KS.new t HG.out b1
    have b1 := Lib.hid b1
    obtain ⟨q0, q1, q2, q3, q4⟩ := S.cells
    have S := Lib.hid S
    go_wp2_with fail
    refine (S.out.call (H2.out _)).mono ?_
    clear S q0 q1 q2 q3 q4
    rintro e w2 ⟨rfl, S⟩
    have S := Lib.hid S
    go_wp2_with fail
    go_ret2
    exact ⟨rfl, S.out.b_⟩
  | true =>
    obtain ⟨s1, s2, s3⟩ := size_facts t hnum
    rw [hnum] at H2
    have HN := Lib.hid hnum
    have hlen : (n : Int) = (bs.length : Int) := by rw [hn]
    rcases (by omega : (n : Int) < Typ.size t ∨ (¬ (n : Int) < Typ.size t ∧ Typ.size t < (n : Int)) ∨ (n : Int) = Typ.size t) with hl | ⟨hl, hl'⟩ | hl
    · have HE : Hid (decA t bs = (0, 2)) := Lib.hid (by unfold decA; rw [if_neg (by rw [hnum]; decide), if_pos (by omega)])
      rw [HE.out]
      have d0 : decide ((n : Int) < Typ.size t) = true := by simpa using hl
      clear hnum hn hlen hl s3
      go_enter Tryd.func82, Tryd.ntmps82
      go_wp2_with fail
      refine H1.out.mono ?_
      rintro e w1 ⟨rfl, b1⟩
      have S := KS.new t HG.out b1
      have b1 := Lib.hid b1
      obtain ⟨q0, q1, q2, q3, q4⟩ := S.cells
      have S := Lib.hid S
      go_wp2_with fail
      refine (S.out.call (H2.out _)).mono ?_
      clear S q0 q1 q2 q3 q4
      rintro e w2 ⟨rfl, S⟩
      obtain ⟨q0, q1, q2, q3, q4⟩ := S.cells
      have S := Lib.hid S
      go_wp2_with fail
      go_ret2
      exact ⟨rfl, S.out.b_⟩
    · have HE : Hid (decA t bs = (0, 3)) := Lib.hid (by unfold decA; rw [if_neg (by rw [hnum]; decide), if_neg (by omega), if_pos (by omega)])
      rw [HE.out]
      have d0 : decide ((n : Int) < Typ.size t) = false := by simpa using hl
      have d1 : decide (Typ.size t < (n : Int)) = true := by simpa using hl'
      clear hnum hn hlen hl hl' s3
      go_enter Tryd.func82, Tryd.ntmps82
      go_wp2_with fail
      refine H1.out.mono ?_
      rintro e w1 ⟨rfl, b1⟩
      have S := KS.new t HG.out b1
      have b1 := Lib.hid b1
      obtain ⟨q0, q1, q2, q3, q4⟩ := S.cells
      have S := Lib.hid S
      go_wp2_with fail
      refine (S.out.call (H2.out _)).mono ?_
      clear S q0 q1 q2 q3 q4
      rintro e w2 ⟨rfl, S⟩
      obtain ⟨q0, q1, q2, q3, q4⟩ := S.cells
      have S := Lib.hid S
      go_wp2_with fail
      go_ret2
      exact ⟨rfl, S.out.b_⟩
    · have d0 : decide ((n : Int) < Typ.size t) = false := by simp; omega
      have d1 : decide (Typ.size t < (n : Int)) = false := by simp; omega
      obtain ⟨g1, g2⟩ := dec_get t bs hnum (by omega)
      cases hs : Typ.signed t with
      | true =>
        have HE : Hid (decA t bs = (Oct.sgn (nm t bs) (8 * Typ.size t), 0)) := Lib.hid (by unfold decA; rw [if_neg (by rw [hnum]; decide), if_neg (by omega), if_neg (by omega), if_pos hs])
        rw [HE.out]
        rw [hs] at H4
        have HI := Lib.hid (fun W (hW : Rd W w.heap.size A bs) => getInt_all A n c w.heap.size bs 0 (Typ.size t) W hW hn hle)
        rw [g2] at HI
        clear hnum hn hlen hl s3 g1 g2 hs
        generalize Oct.sgn (nm t bs) (8 * Typ.size t) = X at *
        go_enter Tryd.func82, Tryd.ntmps82
        go_wp2_with fail
        refine H1.out.mono ?_
        rintro e w1 ⟨rfl, b1⟩
        have S := KS.new t HG.out b1
        have b1 := Lib.hid b1
        obtain ⟨q0, q1, q2, q3, q4⟩ := S.cells
        have S := Lib.hid S
        go_wp2_with fail
        refine (S.out.call (H2.out _)).mono ?_
        clear S q0 q1 q2 q3 q4
        rintro e w2 ⟨rfl, S⟩
        obtain ⟨q0, q1, q2, q3, q4⟩ := S.cells
        have S := Lib.hid S
        go_wp2_with fail
        refine (S.out.call (H4.out _)).mono ?_
        clear S q0 q1 q2 q3 q4
        rintro e w3 ⟨rfl, S⟩
        obtain ⟨q0, q1, q2, q3, q4⟩ := S.cells
        have S := Lib.hid S
        go_wp2_with fail
        refine (HI.out _ (HR.out.below S.out.b_)).mono ?_
        rintro e w4 ⟨rfl, rfl⟩
        go_wp2_with fail
        go_ret2
        exact ⟨rfl, S.out.b_⟩
      | false =>
        obtain ⟨p0, p1, p2⟩ := dec_bd t bs hnum hs
        have HE : Hid (decA t bs = if t = 1 ∧ 1 < nm t bs then (0, 9) else (nm t bs, 0)) := Lib.hid (by unfold decA; rw [if_neg (by rw [hnum]; decide), if_neg (by omega), if_neg (by omega), if_neg (by rw [hs]; decide)])
        rw [HE.out]
        rw [hs] at H4
        have HI := Lib.hid (fun W (hW : Rd W w.heap.size A bs) => get_all A n c w.heap.size bs 0 (Typ.size t) W hW hn hle)
        rw [g1] at HI
        have H3' := Lib.hid (H3.out (nm t bs))
        clear hnum hn hlen hl s3 g1 g2 hs H3
        have hw1 : wrap64 (nm t bs) = nm t bs := by unfold wrap64; omega
        have hw2 : IntKind.i64.wrap (nm t bs) = nm t bs := IntWalk.i64_in _ (by omega)
        have HW := Lib.hid (And.intro hw1 hw2)
        clear hw1 hw2
        by_cases hc : t = 1 ∧ 1 < nm t bs
        · rw [if_pos hc]
          rw [decide_eq_true hc] at p2
          rw [p2] at H3'
          clear p2 hc
          generalize nm t bs = X at *
          obtain ⟨hw1, hw2⟩ := HW.out
          go_enter Tryd.func82, Tryd.ntmps82
          go_wp2_with fail
          refine H1.out.mono ?_
          rintro e w1 ⟨rfl, b1⟩
          have S := KS.new t HG.out b1
          have b1 := Lib.hid b1
          obtain ⟨q0, q1, q2, q3, q4⟩ := S.cells
          have S := Lib.hid S
          go_wp2_with fail
          refine (S.out.call (H2.out _)).mono ?_
          clear S q0 q1 q2 q3 q4
          rintro e w2 ⟨rfl, S⟩
          obtain ⟨q0, q1, q2, q3, q4⟩ := S.cells
          have S := Lib.hid S
          go_wp2_with fail
          refine (S.out.call (H4.out _)).mono ?_
          clear S q0 q1 q2 q3 q4
          rintro e w3 ⟨rfl, S⟩
          obtain ⟨q0, q1, q2, q3, q4⟩ := S.cells
          have S := Lib.hid S
          go_wp2_with fail
          refine (HI.out _ (HR.out.below S.out.b_)).mono ?_
          rintro e w4 ⟨rfl, rfl⟩
          go_wp2_with fail
          refine (S.out.call (H3'.out _)).mono ?_
          clear S q0 q1 q2 q3 q4
          rintro e w5 ⟨rfl, S⟩
          have S := Lib.hid S
          go_wp2_with fail
          go_ret2
          exact ⟨rfl, S.out.b_⟩
        · rw [if_neg hc]
          rw [decide_eq_false hc] at p2
          rw [p2] at H3'
          clear p2 hc
          generalize nm t bs = X at *
          obtain ⟨hw1, hw2⟩ := HW.out
          go_enter Tryd.func82, Tryd.ntmps82
          go_wp2_with fail
          refine H1.out.mono ?_
          rintro e w1 ⟨rfl, b1⟩
          have S := KS.new t HG.out b1
          have b1 := Lib.hid b1
          obtain ⟨q0, q1, q2, q3, q4⟩ := S.cells
          have S := Lib.hid S
          go_wp2_with fail
          refine (S.out.call (H2.out _)).mono ?_
          clear S q0 q1 q2 q3 q4
          rintro e w2 ⟨rfl, S⟩
          obtain ⟨q0, q1, q2, q3, q4⟩ := S.cells
          have S := Lib.hid S
          go_wp2_with fail
          refine (S.out.call (H4.out _)).mono ?_
          clear S q0 q1 q2 q3 q4
          rintro e w3 ⟨rfl, S⟩
          obtain ⟨q0, q1, q2, q3, q4⟩ := S.cells
          have S := Lib.hid S
          go_wp2_with fail
          refine (HI.out _ (HR.out.below S.out.b_)).mono ?_
          rintro e w4 ⟨rfl, rfl⟩
          go_wp2_with fail
          refine (S.out.call (H3'.out _)).mono ?_
          clear S q0 q1 q2 q3 q4
          rintro e w5 ⟨rfl, S⟩
          have S := Lib.hid S
          go_wp2_with fail
          go_ret2
          exact ⟨rfl, S.out.b_⟩

set_option maxRecDepth 100000 in
set_option maxHeartbeats 4000000 in
theorem rdecode_any (A : Option Addr) (n c B : Nat) (bs : List UInt8) (t : Int) (w : World) (hr : Rd w B A bs) (hn : n = bs.length) (hle : n ≤ 1099511627776) :
    Calls Tryd.prog 77 #[.int .i64 t, .slice A n c] w fun e w' => e = .returned (.tuple #[.int .i64 (decA t bs).1, .int .i64 (decA t bs).2]) ∧ w = w' := by
  have H1 := Lib.hid (fun W => rbits_any t W)
  have H2 := Lib.hid (fun W => rsize_any t W)
  have H3 := Lib.hid (fun W => rsigned_any t W)
  cases hnum : Typ.isNum t with
  | false =>
    have HE : Hid (decA t bs = (0, 15)) := Lib.hid (by unfold decA; rw [if_pos hnum])
    have hb := (Typ.not_num t hnum).1
    rw [hb] at H1
    rw [HE.out]
    clear hnum hn hb
    go_enter Tryd.func77, Tryd.ntmps77
    go_wp2_with (go_at_call 74; refine (H1.out _).mono ?_; rintro e w1 ⟨rfl, rfl⟩)
    go_ret2
    exact ⟨rfl, rfl⟩
  | true =>
    obtain ⟨s1, s2, s3⟩ := size_facts t hnum
    have hb0 : (Typ.bits t == 0) = false := by
      have : 0 < Typ.bits t := by simpa [Typ.isNum] using hnum
      simp; omega
    have hlen : (n : Int) = (bs.length : Int) := by rw [hn]
    have hwd : (t == 1) = decide (t = 1) := by by_cases h : t = 1 <;> simp [h]
    obtain ⟨X, hX⟩ : ∃ X, decA t bs = X := ⟨_, rfl⟩
    have key : ((n : Int) < Typ.size t ∧ X = (0, 2)) ∨ (¬ (n : Int) < Typ.size t ∧ Typ.size t < (n : Int) ∧ X = (0, 3)) ∨ ((n : Int) = Typ.size t ∧ Typ.signed t = true ∧ X = (Oct.sgn (nm t bs) (8 * Typ.size t), 0)) ∨
        ((n : Int) = Typ.size t ∧ Typ.signed t = false ∧ t ≠ 1 ∧ X = (nm t bs, 0)) ∨ ((n : Int) = Typ.size t ∧ Typ.signed t = false ∧ t = 1 ∧ nm t bs ≤ 1 ∧ X = (nm t bs, 0)) ∨ ((n : Int) = Typ.size t ∧ Typ.signed t = false ∧ t = 1 ∧ 1 < nm t bs ∧ X = (0, 9)) := by
      rw [← hX]
      unfold decA
      rw [if_neg (by rw [hnum]; decide)]
      by_cases a1 : (n : Int) < Typ.size t
      · left; exact ⟨a1, by rw [if_pos (by omega)]⟩
      · right
        rw [if_neg (by omega)]
        by_cases a2 : Typ.size t < (n : Int)
        · left; exact ⟨a1, a2, by rw [if_pos (by omega)]⟩
        · right
          rw [if_neg (by omega)]
          have a3 : (n : Int) = Typ.size t := by omega
          cases hs : Typ.signed t with
          | true => left; exact ⟨a3, rfl, if_pos rfl⟩
          | false =>
            right
            rw [if_neg (by decide)]
            by_cases a4 : t = 1
            · right
              by_cases a5 : 1 < nm t bs
              · right; exact ⟨a3, rfl, a4, a5, if_pos ⟨a4, a5⟩⟩
              · left; exact ⟨a3, rfl, a4, by omega, if_neg (fun h => a5 h.2)⟩
            · left; exact ⟨a3, rfl, a4, if_neg (fun h => a4 h.1)⟩
    rw [hX]
    have HI := Lib.hid (fun (h : (n : Int) = Typ.size t) W (hW : Rd W B A bs) => rgetInt_all A n c B bs 0 (Typ.size t) W hW hn hle)
    have HJ := Lib.hid (fun (h : (n : Int) = Typ.size t) W (hW : Rd W B A bs) => rget_all A n c B bs 0 (Typ.size t) W hW hn hle)
    have HD := Lib.hid (fun (h : (n : Int) = Typ.size t) => dec_get t bs hnum (by omega))
    have HB := Lib.hid (fun (h : Typ.signed t = false) => dec_bd t bs hnum h)
    have HR := Lib.hid hr
    clear hnum hn hlen hX hr s3
    rcases key with ⟨k1, rfl⟩ | ⟨k1, k2, rfl⟩ | ⟨k1, k2, rfl⟩ | ⟨k1, k2, k3, rfl⟩ | ⟨k1, k2, k3, k4, rfl⟩ | ⟨k1, k2, k3, k4, rfl⟩
    · have d0 : decide ((n : Int) < Typ.size t) = true := by simpa using k1
      clear k1
      go_enter Tryd.func77, Tryd.ntmps77
      go_wp2_with (first | (go_at_call 74; refine (H1.out _).mono ?_; rintro e w1 ⟨rfl, rfl⟩) | (go_at_call 84; refine (H2.out _).mono ?_; rintro e w1 ⟨rfl, rfl⟩))
      go_ret2
      exact ⟨rfl, rfl⟩
    · have d0 : decide ((n : Int) < Typ.size t) = false := by simpa using k1
      have d1 : decide (Typ.size t < (n : Int)) = true := by simpa using k2
      clear k1 k2
      go_enter Tryd.func77, Tryd.ntmps77
      go_wp2_with (first | (go_at_call 74; refine (H1.out _).mono ?_; rintro e w1 ⟨rfl, rfl⟩) | (go_at_call 84; refine (H2.out _).mono ?_; rintro e w1 ⟨rfl, rfl⟩))
      go_ret2
      exact ⟨rfl, rfl⟩
    · have d0 : decide ((n : Int) < Typ.size t) = false := by simp; omega
      have d1 : decide (Typ.size t < (n : Int)) = false := by simp; omega
      have HG := Lib.hid (HI.out k1)
      rw [(HD.out k1).2] at HG
      rw [k2] at H3
      clear k1 k2 HI HJ HD
      generalize Oct.sgn (nm t bs) (8 * Typ.size t) = Y at *
      go_enter Tryd.func77, Tryd.ntmps77
      go_wp2_with (first | (go_at_call 74; refine (H1.out _).mono ?_; rintro e w1 ⟨rfl, rfl⟩) | (go_at_call 84; refine (H2.out _).mono ?_; rintro e w1 ⟨rfl, rfl⟩) | (go_at_call 75; refine (H3.out _).mono ?_; rintro e w1 ⟨rfl, rfl⟩) | (go_at_call 85; refine (HG.out _ HR.out).mono ?_; rintro e w1 ⟨rfl, rfl⟩))
      go_ret2
      exact ⟨rfl, rfl⟩
    all_goals
      have d0 : decide ((n : Int) < Typ.size t) = false := by simp; omega
      have d1 : decide (Typ.size t < (n : Int)) = false := by simp; omega
      have HG := Lib.hid (HJ.out k1)
      rw [(HD.out k1).1] at HG
      obtain ⟨p0, p1, p2⟩ := HB.out k2
      rw [k2] at H3
      clear k1 k2 HI HJ HD p2 HB
      have hw1 : wrap64 (nm t bs) = nm t bs := by unfold wrap64; omega
      have hw2 : IntKind.i64.wrap (nm t bs) = nm t bs := IntWalk.i64_in _ (by omega)
      have HW := Lib.hid (And.intro hw1 hw2)
      clear hw1 hw2
      have e1 : (t == 1) = false ∨ ((t == 1) = true ∧ (decide (1 < nm t bs) = true ∨ decide (1 < nm t bs) = false)) := by
        by_cases h : t = 1
        · right; exact ⟨by simp [h], by by_cases h' : 1 < nm t bs <;> simp [h']⟩
        · left; simp [h]
      have HT := Lib.hid k3
      clear k3 hwd
      generalize nm t bs = Y at *
      obtain ⟨hw1, hw2⟩ := HW.out
    · rw [show (t == 1) = false by simpa using HT.out] at e1
      have e2 : (t == 1) = false := by simpa using HT.out
      clear e1
      go_enter Tryd.func77, Tryd.ntmps77
      go_wp2_with (first | (go_at_call 74; refine (H1.out _).mono ?_; rintro e w1 ⟨rfl, rfl⟩) | (go_at_call 84; refine (H2.out _).mono ?_; rintro e w1 ⟨rfl, rfl⟩) | (go_at_call 75; refine (H3.out _).mono ?_; rintro e w1 ⟨rfl, rfl⟩) | (go_at_call 86; refine (HG.out _ HR.out).mono ?_; rintro e w1 ⟨rfl, rfl⟩))
      go_ret2
      exact ⟨rfl, rfl⟩
    · have e2 : (t == 1) = true := by simpa using HT.out
      have e3 : decide (1 < Y) = false := by simpa using k4
      clear e1 k4
      go_enter Tryd.func77, Tryd.ntmps77
      go_wp2_with (first | (go_at_call 74; refine (H1.out _).mono ?_; rintro e w1 ⟨rfl, rfl⟩) | (go_at_call 84; refine (H2.out _).mono ?_; rintro e w1 ⟨rfl, rfl⟩) | (go_at_call 75; refine (H3.out _).mono ?_; rintro e w1 ⟨rfl, rfl⟩) | (go_at_call 86; refine (HG.out _ HR.out).mono ?_; rintro e w1 ⟨rfl, rfl⟩))
      go_ret2
      exact ⟨rfl, rfl⟩
    · have e2 : (t == 1) = true := by simpa using HT.out
      have e3 : decide (1 < Y) = true := by simpa using k4
      clear e1 k4
      go_enter Tryd.func77, Tryd.ntmps77
      go_wp2_with (first | (go_at_call 74; refine (H1.out _).mono ?_; rintro e w1 ⟨rfl, rfl⟩) | (go_at_call 84; refine (H2.out _).mono ?_; rintro e w1 ⟨rfl, rfl⟩) | (go_at_call 75; refine (H3.out _).mono ?_; rintro e w1 ⟨rfl, rfl⟩) | (go_at_call 86; refine (HG.out _ HR.out).mono ?_; rintro e w1 ⟨rfl, rfl⟩))
      go_ret2
      exact ⟨rfl, rfl⟩
end Go.Proofs.YtpdnfdpoebhjoaaDoor
