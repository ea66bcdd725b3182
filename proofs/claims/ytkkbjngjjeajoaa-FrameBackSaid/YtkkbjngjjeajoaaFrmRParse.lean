/-
  What the document's Parse does.
-/
import Derived.Test.YtkkbjngjjeajoaaFrmRead
import Derived.RegionTactic
import Derived.ChangeAlike
namespace Go.Proofs.Ytkkbjngjjeajoaa
namespace Frm
open Go.RowKit Mem
set_option linter.unusedVariables false
set_option linter.unusedSimpArgs false
set_option maxRecDepth 100000

theorem head_hex {l : List UInt8} (h4 : 4 ≤ l.length) : (isId (l.take 3) = true → ∃ x y : UInt8, Oct.unhexA (48 :: l.take 3) = ([x, y], 0) ∧ 256 * (x.toNat : Int) + (y.toNat : Int) = idV l) ∧ (isId (l.take 3) = false → Oct.unhexA (48 :: l.take 3) = ([], 4)) := by
  match l, h4 with
  | a :: b :: c :: e :: r, _ =>
    have q0 : byt (a :: b :: c :: e :: r) 0 = (a.toNat : Int) := rfl
    have q1 : byt (a :: b :: c :: e :: r) 1 = (b.toNat : Int) := rfl
    have q2 : byt (a :: b :: c :: e :: r) 2 = (c.toNat : Int) := rfl
    have t3 : (a :: b :: c :: e :: r).take 3 = [a, b, c] := rfl
    have hi : isId [a, b, c] = (Oct.digB (a.toNat : Int) && (Oct.digB (b.toNat : Int) && Oct.digB (c.toNat : Int))) := by unfold isId; rfl
    rw [t3, hi]
    have hx : Oct.unhexA [48, a, b, c] = if Oct.digB (a.toNat : Int) && (Oct.digB (b.toNat : Int) && Oct.digB (c.toNat : Int)) then ([UInt8.ofNat (16 * Oct.digV 48 + Oct.digV (a.toNat : Int)).toNat, UInt8.ofNat (16 * Oct.digV (b.toNat : Int) + Oct.digV (c.toNat : Int)).toNat], 0) else ([], 4) := by
      unfold Oct.unhexA Oct.unhex Oct.unhex Oct.unhex
      have h48 : Oct.digB (((48 : UInt8).toNat : Nat) : Int) = true := by decide
      rw [h48]
      cases Oct.digB (a.toNat : Int) <;> cases Oct.digB (b.toNat : Int) <;> cases Oct.digB (c.toNat : Int) <;> rfl
    constructor
    · intro h
      rw [if_pos h] at hx
      refine ⟨_, _, hx, ?_⟩
      simp only [Bool.and_eq_true] at h
      have v0 := Oct.digV_bd h.1
      have v1 := Oct.digV_bd h.2.1
      have v2 := Oct.digV_bd h.2.2
      have h48 : Oct.digV 48 = 0 := by decide
      unfold idV
      rw [q0, q1, q2, h48, UInt8.toNat_ofNat', UInt8.toNat_ofNat', Nat.mod_eq_of_lt (by omega), Nat.mod_eq_of_lt (by omega)]
      omega
    · intro h
      rw [if_neg (by rw [h]; decide)] at hx
      exact hx
theorem Row.drew {w W : World} {g : Nat} {x y z : Value} (h : Row w W g x y z) : Row w W.drew g x y z := ⟨h.r, h.b.drew, h.l⟩
theorem Row.other {w W : World} {g k j : Nat} {x y z u : Value} (h : Row w W g x y z) (hk : g ≠ k) (hw : w.heap.size ≤ k) : Row w (W.setCell ⟨k, j, none⟩ u) g x y z :=
  ⟨(heap_setCell_other W ⟨k, j, none⟩ g u hk).trans h.r, h.b.setCell hw _, h.l⟩
theorem Row.data {w W : World} {g : Nat} {x y z : Value} (h : Row w W g x y z) (u : Value) : Row w (W.setCell ⟨g, 2, none⟩ u) g x y u :=
  ⟨heap_setCell_same _ g 2 _ _ _ h.r, h.b.setCell h.l _, h.l⟩
theorem ownSet {W : World} {b g j : Nat} {e : TypeId} {v u : Value} {d : List UInt8} (o : Own W b e v d) (h : g < b) {b' : Nat} (hb : b' ≤ b) : Own (W.setCell ⟨g, j, none⟩ u) b' e v d := by
  refine ⟨o.1, ?_⟩
  rcases o.2 with h1 | ⟨g1, cap, cur, hu, hg1, hh, hr⟩
  · exact .inl h1
  · exact .inr ⟨g1, cap, cur, hu, by omega, (heap_setCell_other W ⟨g, j, none⟩ g1 u (by show g1 ≠ g; omega)).trans hh, hr⟩
theorem parseA_four {l : List UInt8} (h : isHead l = false) : parseA l = (Fr.zero, 4) := by
  have := readA_not h
  rw [parseA_form (by rw [this]; decide), this]
theorem isHead_mk (l : List UInt8) : isHead l = (decide (4 ≤ l.length) && (byt l 3 == 35 && isId (l.take 3))) := rfl

set_option maxHeartbeats 1000000 in
theorem rparse_four (l : List UInt8) (w : World) (hle : l.length ≤ 1099511627776) (hh : isHead l = false) :
    Calls Try.prog 31 #[.string ⟨l.toArray⟩] w (ParseEnds w (parseA l)) := by
  rw [parseA_four hh]
  have RN := Lib.hid (Row.new w (.int .i64 0) (.bool false) (.slice none 0 0))
  have hs : (⟨l.toArray⟩ : ByteArray).size = l.length := by simp [ByteArray.size]
  by_cases h4 : 4 ≤ l.length
  · have k3 : 3 < (⟨l.toArray⟩ : ByteArray).size := by omega
    by_cases h3 : byt l 3 = 35
    · have hi : isId (l.take 3) = false := by
        rw [isHead_mk, h3] at hh
        simpa [h4] using hh
      have UX := Lib.hid (fun W => runhex_any (48 :: l.take 3) W (by simp; omega))
      have HX := Lib.hid ((head_hex h4).2 hi)
      have f1 : ∀ W, (Instr.slice 9 (.string ⟨l.toArray⟩) none (some (.int .i64 3)) none).run Try.prog W = .ok (.string ⟨(l.take 3).toArray⟩) W := by
        intro W
        rw [run_slice_string_to_if (P := Try.prog) W 9 _ .i64 _ Try.underlying9, if_pos ⟨by omega, by omega⟩]
        congr 2
        simp [ByteArray.ext_iff]
      have f2 : ∀ W, (Op.stringOp .add ⟨#[48]⟩ ⟨(l.take 3).toArray⟩).run Try.prog W = .ok (.string ⟨(48 :: l.take 3).toArray⟩) W := by
        intro W
        rw [run_string_add_sum (P := Try.prog) W _ _ (by simp [ByteArray.size]; omega)]
        congr 2
      have E3 := Lib.hid h3
      have hx3 : ((((⟨l.toArray⟩ : ByteArray)[3]'k3).toNat : Nat) : Int) = 35 := by rw [str_at]; exact E3.out
      have ht3 : ((((⟨l.toArray⟩ : ByteArray)[3]'k3).toNat : Int) != 35) = false := by rw [hx3]; rfl
      clear hh h3 hi hx3 hs
      generalize 48 :: l.take 3 = T at *
      go_enter Try.func31, Try.ntmps31
      go_wp2_with fail
      refine (UX.out _).mono ?_
      rintro e w1 hans
      obtain ⟨v1, rfl, o1, b1⟩ := undone_ans hans
      have R2 := Lib.hid (RN.out.below b1)
      have q0 := cellof R2.out.r 0
      have q1 := cellof R2.out.r 1
      have q2 := cellof R2.out.r 2
      have g0 := fro _ _ 0 _ _ R2.out.r
      have g1 := fro _ _ 1 _ _ R2.out.r
      have g2 := fro _ _ 2 _ _ R2.out.r
      rw [HX.out] at o1 ⊢
      obtain ⟨A1, c1, rfl, _⟩ := o1.form
      clear hans o1 b1
      go_wp2_with fail
      refine bodyPost_ret (results_row2 rfl _ _ w.heap.size _ #[.int .i64 0, .bool false, .slice none 0 0] _ _ rfl (R2.out.put _ _ _).r Try.underlying50 rfl size_frm) rfl ?_
      exact ⟨.slice none 0 0, rfl, Own.nil _ _ _, (R2.out.put _ _ _).b⟩
    · have hx3 : ((((⟨l.toArray⟩ : ByteArray)[3]'k3).toNat : Int) != 35) = true := by rw [str_at]; simpa using h3
      clear hh h3
      go_enter Try.func31, Try.ntmps31
      go_wp2_with fail
      refine bodyPost_ret (results_row2 rfl _ _ w.heap.size _ #[.int .i64 0, .bool false, .slice none 0 0] _ _ rfl RN.out.r Try.underlying50 rfl size_frm) rfl ?_
      exact ⟨.slice none 0 0, rfl, Own.nil _ _ _, RN.out.b⟩
  · have d4 : decide ((l.length : Int) < 4) = true := by simp; omega
    clear hh hs
    go_enter Try.func31, Try.ntmps31
    go_wp2_with fail
    refine bodyPost_ret (results_row2 rfl _ _ w.heap.size _ #[.int .i64 0, .bool false, .slice none 0 0] _ _ rfl RN.out.r Try.underlying50 rfl size_frm) rfl ?_
    exact ⟨.slice none 0 0, rfl, Own.nil _ _ _, RN.out.b⟩

set_option maxHeartbeats 1000000 in
theorem rparse_rem (l : List UInt8) (w : World) (hle : l.length ≤ 1099511627776) (hh : isHead l = true) (h82 : l.drop 4 = [82]) :
    Calls Try.prog 31 #[.string ⟨l.toArray⟩] w (ParseEnds w (parseA l)) := by
  have RN := Lib.hid (Row.new w (.int .i64 0) (.bool false) (.slice none 0 0))
  have hs : (⟨l.toArray⟩ : ByteArray).size = l.length := by simp [ByteArray.size]
  obtain ⟨h4, h3, hi⟩ := isHead_yes hh
  have hb := idV_bd hi
  rw [idV_take] at hb
  have RA := Lib.hid (readA_rem hh h82)
  have k3 : 3 < (⟨l.toArray⟩ : ByteArray).size := by omega
  have UX := Lib.hid (fun W => runhex_any (48 :: l.take 3) W (by simp; omega))
  obtain ⟨x, y, hxy, hv⟩ := (head_hex h4).1 hi
  have HX := Lib.hid hxy
  have HV := Lib.hid hv
  have f1 : ∀ W, (Instr.slice 9 (.string ⟨l.toArray⟩) none (some (.int .i64 3)) none).run Try.prog W = .ok (.string ⟨(l.take 3).toArray⟩) W := by
    intro W
    rw [run_slice_string_to_if (P := Try.prog) W 9 _ .i64 _ Try.underlying9, if_pos ⟨by omega, by omega⟩]
    congr 2
    simp [ByteArray.ext_iff]
  have f3 : ∀ W, (Instr.slice 9 (.string ⟨l.toArray⟩) (some (.int .i64 4)) none none).run Try.prog W = .ok (.string ⟨#[82]⟩) W := by
    intro W
    rw [run_slice_string_from_if (P := Try.prog) W 9 _ .i64 _ Try.underlying9, if_pos ⟨by omega, by omega⟩]
    congr 2
    have := congrArg List.toArray h82
    simp [ByteArray.ext_iff, hs]
    rw [List.take_of_length_le (by simp)]
    exact h82
  have f2 : ∀ W, (Op.stringOp .add ⟨#[48]⟩ ⟨(l.take 3).toArray⟩).run Try.prog W = .ok (.string ⟨(48 :: l.take 3).toArray⟩) W := by
    intro W
    rw [run_string_add_sum (P := Try.prog) W _ _ (by simp [ByteArray.size]; omega)]
    congr 2
  have hx3 : ((((⟨l.toArray⟩ : ByteArray)[3]'k3).toNat : Nat) : Int) = 35 := by rw [str_at]; exact h3
  have ht3 : ((((⟨l.toArray⟩ : ByteArray)[3]'k3).toNat : Int) != 35) = false := by rw [hx3]; rfl
  have F1 := Lib.hid f1
  have F2 := Lib.hid f2
  have F3 := Lib.hid f3
  clear hh h3 hi hx3 hs h82 hv f3 hxy
  generalize 48 :: l.take 3 = T at *
  go_enter Try.func31, Try.ntmps31
  go_wp2_with fail
  refine (UX.out _).mono ?_
  rintro e w1 hans
  obtain ⟨v1, rfl, o1, b1⟩ := undone_ans hans
  rw [HX.out] at o1 ⊢
  have R2 := Lib.hid (RN.out.below b1)
  obtain ⟨g, cap, rfl, hg1, hg2, hc1, hc2⟩ := o1.some_ (by simp)
  have c0 := o1.cell rfl (j := 0) (by simp)
  have c1 := o1.cell rfl (j := 1) (by simp)
  rw [show byt [x, y] 0 = (x.toNat : Int) from rfl] at c0
  rw [show byt [x, y] 1 = (y.toNat : Int) from rfl] at c1
  have hx255 := x.toNat_lt
  have hy255 := y.toNat_lt
  clear hans o1 b1 f1 f2
  go_wp2_with fail
  go_region
  rw [HV.out]
  have f3 := F3.out
  have CK := Lib.hid (fun W => rcheck_any (idV l) true none 0 0 W (by omega) (by omega) (by omega))
  have HLT := Lib.hid R2.out.lt
  have R3 := Lib.hid (R2.out.below (one_below w1 (.cells #[.int .i64 (idV l), .bool true, .slice none 0 0] 50))).drew
  have RF := Lib.hid (Row.new w1 (.int .i64 (idV l)) (.bool true) (.slice none 0 0)).drew
  clear c0 c1 UX HX F1 F2
  go_wp2_with fail
  refine (CK.out _).mono ?_
  rintro e w2 ⟨rfl, b2⟩
  have R4 := Lib.hid (R3.out.below b2)
  have RF4 := Lib.hid (RF.out.below b2)
  have q0 := cellof R4.out.r 0
  have q1 := cellof R4.out.r 1
  have q2 := cellof R4.out.r 2
  have g0 := fro _ _ 0 _ _ R4.out.r
  have g1 := fro _ _ 1 _ _ R4.out.r
  have g2 := fro _ _ 2 _ _ R4.out.r
  have u0 := cellof RF4.out.r 0
  have u1 := cellof RF4.out.r 1
  have u2 := cellof RF4.out.r 2
  clear b2 f3 F3
  by_cases he : err (idV l) true 0 = 0
  · have Y := Lib.hid (parseA_ok (l := l) (by rw [RA.out]) (by rw [RA.out]) he)
    rw [he]
    clear he
    go_wp2_with fail
    refine bodyPost_ret (results_row2 rfl _ _ w.heap.size _ #[.int .i64 (idV l), .bool true, .slice none 0 0] _ _ rfl (R4.out.put _ _ _).r Try.underlying50 rfl size_frm) rfl ?_
    rw [Y.out]
    exact ⟨.slice none 0 0, rfl, Own.nil _ _ _, (R4.out.put _ _ _).b⟩
  · have Y := Lib.hid (parseA_err (l := l) (by rw [RA.out]) (by rw [RA.out]) he)
    rw [show ([] : List UInt8).length = 0 from rfl] at Y
    have he' : (err (idV l) true 0 != 0) = true := by simp [he]
    generalize err (idV l) true 0 = E at *
    clear he
    go_wp2_with fail
    refine bodyPost_ret (results_row2 rfl _ _ w.heap.size _ #[.int .i64 0, .bool false, .slice none 0 0] _ _ rfl (R4.out.put _ _ _).r Try.underlying50 rfl size_frm) rfl ?_
    rw [Y.out]
    exact ⟨.slice none 0 0, rfl, Own.nil _ _ _, (R4.out.put _ _ _).b⟩

set_option maxHeartbeats 1000000 in
theorem rparse_dat (l : List UInt8) (w : World) (hle : l.length ≤ 1099511627776) (hh : isHead l = true) (h82 : l.drop 4 ≠ [82]) :
    Calls Try.prog 31 #[.string ⟨l.toArray⟩] w (ParseEnds w (parseA l)) := by
  have RN := Lib.hid (Row.new w (.int .i64 0) (.bool false) (.slice none 0 0))
  have hs : (⟨l.toArray⟩ : ByteArray).size = l.length := by simp [ByteArray.size]
  obtain ⟨h4, h3, hi⟩ := isHead_yes hh
  have hb := idV_bd hi
  rw [idV_take] at hb
  obtain ⟨d1, d2⟩ := readA_dat hh h82
  have D1 := Lib.hid d1
  have D2 := Lib.hid d2
  have hd4 : (l.drop 4).length ≤ 1099511627776 := by simp; omega
  have UY := Lib.hid (fun W => runhex_any (l.drop 4) W hd4)
  have hne : (l.drop 4 == [82]) = false := by simpa using h82
  have k3 : 3 < (⟨l.toArray⟩ : ByteArray).size := by omega
  have UX := Lib.hid (fun W => runhex_any (48 :: l.take 3) W (by simp; omega))
  obtain ⟨x, y, hxy, hv⟩ := (head_hex h4).1 hi
  have HX := Lib.hid hxy
  have HV := Lib.hid hv
  have f1 : ∀ W, (Instr.slice 9 (.string ⟨l.toArray⟩) none (some (.int .i64 3)) none).run Try.prog W = .ok (.string ⟨(l.take 3).toArray⟩) W := by
    intro W
    rw [run_slice_string_to_if (P := Try.prog) W 9 _ .i64 _ Try.underlying9, if_pos ⟨by omega, by omega⟩]
    congr 2
    simp [ByteArray.ext_iff]
  have f3 : ∀ W, (Instr.slice 9 (.string ⟨l.toArray⟩) (some (.int .i64 4)) none none).run Try.prog W = .ok (.string ⟨(l.drop 4).toArray⟩) W := by
    intro W
    rw [run_slice_string_from_if (P := Try.prog) W 9 _ .i64 _ Try.underlying9, if_pos ⟨by omega, by omega⟩]
    congr 2
    simp [ByteArray.ext_iff, hs]
    rw [List.take_of_length_le (by simp)]
  have f2 : ∀ W, (Op.stringOp .add ⟨#[48]⟩ ⟨(l.take 3).toArray⟩).run Try.prog W = .ok (.string ⟨(48 :: l.take 3).toArray⟩) W := by
    intro W
    rw [run_string_add_sum (P := Try.prog) W _ _ (by simp [ByteArray.size]; omega)]
    congr 2
  have hx3 : ((((⟨l.toArray⟩ : ByteArray)[3]'k3).toNat : Nat) : Int) = 35 := by rw [str_at]; exact h3
  have ht3 : ((((⟨l.toArray⟩ : ByteArray)[3]'k3).toNat : Int) != 35) = false := by rw [hx3]; rfl
  have F1 := Lib.hid f1
  have F2 := Lib.hid f2
  have F3 := Lib.hid f3
  have CY := Lib.hid (show ∀ X, Oct.unhexA (l.drop 4) = X → X.2 = 0 ∨ X.2 = 4 from fun X hX => by rw [← hX, ← d1]; exact readA_cases l)
  have CL := Lib.hid (show (Oct.unhexA (l.drop 4)).1.length ≤ 1099511627776 by
    unfold Oct.unhexA
    cases hu : Oct.unhex (l.drop 4) with
    | none => simp
    | some bs => exact Nat.le_trans (Oct.unhex_length _ _ hu) hd4)
  clear hh h3 hi hx3 hs h82 hv f3 hxy d1 d2
  generalize 48 :: l.take 3 = T at *
  generalize l.drop 4 = D at *
  go_enter Try.func31, Try.ntmps31
  go_wp2_with fail
  refine (UX.out _).mono ?_
  rintro e w1 hans
  obtain ⟨v1, rfl, o1, b1⟩ := undone_ans hans
  rw [HX.out] at o1 ⊢
  have R2 := Lib.hid (RN.out.below b1)
  obtain ⟨g, cap, rfl, hg1, hg2, hc1, hc2⟩ := o1.some_ (by simp)
  have c0 := o1.cell rfl (j := 0) (by simp)
  have c1 := o1.cell rfl (j := 1) (by simp)
  rw [show byt [x, y] 0 = (x.toNat : Int) from rfl] at c0
  rw [show byt [x, y] 1 = (y.toNat : Int) from rfl] at c1
  have hx255 := x.toNat_lt
  have hy255 := y.toNat_lt
  clear hans o1 b1 f1 f2
  go_wp2_with fail
  go_region
  rw [HV.out]
  have f3 := F3.out
  have R3 := Lib.hid (R2.out.below (one_below w1 (.cells #[.int .i64 (idV l), .bool false, .slice none 0 0] 50))).drew
  have RF := Lib.hid (Row.new w1 (.int .i64 (idV l)) (.bool false) (.slice none 0 0)).drew
  clear c0 c1 UX HX F1 F2
  go_wp2_with fail
  refine (UY.out _).mono ?_
  rintro e w2 hans
  obtain ⟨v2, rfl, o2, b2⟩ := undone_ans hans
  have R4 := Lib.hid (R3.out.below b2)
  have RF4 := Lib.hid (RF.out.below b2)
  have HB2 := Lib.hid (show w1.heap.size < (w1.alloc (Obj.cells #[Value.int .i64 (idV l), Value.bool false, Value.slice none 0 0] 50)).drew.heap.size by simp)
  have HB1 := Lib.hid (show w.heap.size < w1.heap.size from R2.out.lt)
  have q0 := cellof R4.out.r 0
  have q1 := cellof R4.out.r 1
  have q2 := cellof R4.out.r 2
  have g0 := fro _ _ 0 _ _ R4.out.r
  have g1 := fro _ _ 1 _ _ R4.out.r
  have g2 := fro _ _ 2 _ _ R4.out.r
  clear hans f3 F3 b2
  generalize Oct.unhexA D = X at *
  obtain ⟨X, z⟩ := X
  rcases CY.out _ rfl with hz | hz
  · obtain rfl : z = 0 := hz
    obtain ⟨A2, c2, hv2, _⟩ := o2.form
    subst hv2
    have O2 := Lib.hid o2
    have Hd := Lib.hid (show (readA l).2 = 0 from D1.out)
    have Hf := Lib.hid (D2.out Hd.out)
    have u0 := cellof RF4.out.r 0
    have u1 := cellof RF4.out.r 1
    have u2 := cellof RF4.out.r 2
    have h0 := fro _ _ 0 _ _ RF4.out.r
    have h1 := fro _ _ 1 _ _ RF4.out.r
    have h2 := fro _ _ 2 _ _ RF4.out.r
    have CK := Lib.hid (fun W => rcheck_any (idV l) false A2 X.length c2 W (by omega) (by omega) (by have := CL.out; simp at this; omega))
    have KN := Lib.hid (fun h2 => parseA_err (l := l) Hd.out Hf.out h2)
    have KY := Lib.hid (fun h2 => parseA_ok (l := l) Hd.out Hf.out h2)
    have hsz : (w1.alloc (Obj.cells #[Value.int .i64 (idV l), Value.bool false, Value.slice none 0 0] 50)).drew.heap.size = w1.heap.size + 1 := by simp
    have HB0 := Lib.hid (show w.heap.size ≤ w1.heap.size + 1 by have := HB1.out; omega)
    have R5 := Lib.hid (R4.out.other (k := w1.heap.size) (j := 2) (u := .slice A2 X.length c2) (by have := HB1.out; omega) (by have := HB1.out; omega))
    have RF5 := Lib.hid (RF4.out.data (.slice A2 X.length c2))
    have O5 := Lib.hid (ownSet (g := w1.heap.size) (j := 2) (u := .slice A2 X.length c2) O2.out HB2.out (show w1.heap.size + 1 ≤ _ by rw [hsz]; exact Nat.le_refl _))
    clear o2 hsz
    go_wp2_with fail
    clear q0 q1 q2 g0 g1 g2 u0 u1 u2 h0 h1 h2
    generalize w2.setCell ⟨w1.heap.size, 2, none⟩ (.slice A2 X.length c2) = W5 at *
    refine (CK.out _).mono ?_
    rintro e w3 ⟨rfl, b3⟩
    have R6 := Lib.hid (R5.out.below b3)
    have RF6 := Lib.hid (RF5.out.below b3)
    have O6 := Lib.hid (O5.out.below b3 (Nat.le_refl _))
    have q0 := cellof R6.out.r 0
    have q1 := cellof R6.out.r 1
    have q2 := cellof R6.out.r 2
    have g0 := fro _ _ 0 _ _ R6.out.r
    have g1 := fro _ _ 1 _ _ R6.out.r
    have g2 := fro _ _ 2 _ _ R6.out.r
    have u0 := cellof RF6.out.r 0
    have u1 := cellof RF6.out.r 1
    have u2 := cellof RF6.out.r 2
    clear b3 CK UY
    by_cases he : err (idV l) false X.length = 0
    · have Y := Lib.hid (KY.out he)
      rw [he]
      clear he KY KN
      go_wp2_with fail
      refine bodyPost_ret (results_row2 rfl _ _ w.heap.size _ #[.int .i64 (idV l), .bool false, .slice A2 X.length c2] _ _ rfl (R6.out.put _ _ _).r Try.underlying50 rfl size_frm) rfl ?_
      rw [Y.out]
      exact ⟨.slice A2 X.length c2, rfl, ownPut O6.out (by have := HB1.out; omega) HB0.out _ _ _, (R6.out.put _ _ _).b⟩
    · have Y := Lib.hid (KN.out he)
      clear KY KN
      rw [show (X, (0 : Int)).1.length = X.length from rfl] at Y
      have he' : (err (idV l) false X.length != 0) = true := by simp [he]
      generalize err (idV l) false X.length = E at *
      clear he
      go_wp2_with fail
      refine bodyPost_ret (results_row2 rfl _ _ w.heap.size _ #[.int .i64 0, .bool false, .slice none 0 0] _ _ rfl (R6.out.put _ _ _).r Try.underlying50 rfl size_frm) rfl ?_
      rw [Y.out]
      exact ⟨.slice none 0 0, rfl, Own.nil _ _ _, (R6.out.put _ _ _).b⟩
  · obtain rfl : z = 4 := hz
    have Y := Lib.hid (parseA_form (l := l) (by rw [D1.out]; simp))
    have Y2 := Lib.hid (show (readA l).2 = 4 from D1.out)
    obtain ⟨A2, c2, rfl, _⟩ := o2.form
    clear o2
    go_wp2_with fail
    refine bodyPost_ret (results_row2 rfl _ _ w.heap.size _ #[.int .i64 0, .bool false, .slice none 0 0] _ _ rfl (R4.out.put _ _ _).r Try.underlying50 rfl size_frm) rfl ?_
    rw [Y.out, Y2.out]
    exact ⟨.slice none 0 0, rfl, Own.nil _ _ _, (R4.out.put _ _ _).b⟩

theorem rparse_any (l : List UInt8) (w : World) (hle : l.length ≤ 1099511627776) :
    Calls Try.prog 31 #[.string ⟨l.toArray⟩] w (ParseEnds w (parseA l)) := by
  by_cases hh : isHead l = true
  · by_cases h82 : l.drop 4 = [82]
    · exact rparse_rem l w hle hh h82
    · exact rparse_dat l w hle hh h82
  · exact rparse_four l w hle (by simpa using hh)
end Frm
end Go.Proofs.Ytkkbjngjjeajoaa
