/-
  Right of package entry, and what it calls.
-/
import Derived.Test.YtpdnfdpoebhjoaaDoorEntVal
namespace Go.Proofs.YtpdnfdpoebhjoaaDoor
namespace Ent
open Go.RowKit Mem
set_option linter.unusedVariables false
set_option linter.unusedSimpArgs false
set_option maxRecDepth 100000

theorem isPlace_any (ix sub : Int) (nm : List UInt8) (ty ac : Int) (mp st : Bool) (mx lo hi : Int) (v : Value) (w : World) :
    Calls Tryd.prog 46 #[ent ix sub nm ty ac mp st mx lo hi v] w fun e w' => e = .returned (.bool (placeB ix sub)) ∧ Below w.heap.size w w' := by
  have B := Lib.hid (one_b w)
  have H : Hid (placeB ix sub = (decide (1 ≤ ix) && decide (ix ≤ 65535) && decide (0 ≤ sub) && decide (sub ≤ 255))) := Lib.hid rfl
  rcases (by omega : ¬ 1 ≤ ix ∨ (1 ≤ ix ∧ ¬ ix ≤ 65535) ∨ (1 ≤ ix ∧ ix ≤ 65535 ∧ ¬ 0 ≤ sub) ∨ (1 ≤ ix ∧ ix ≤ 65535 ∧ 0 ≤ sub)) with h | ⟨h, h1⟩ | ⟨h, h1, h2⟩ | ⟨h, h1, h2⟩
  · have d : decide (1 ≤ ix) = false := by simpa using h
    have HP : Hid (placeB ix sub = false) := Lib.hid (by rw [H.out, d]; rfl)
    rw [HP.out]
    go_enter Tryd.func46, Tryd.ntmps46
    go_wp2_with fail
    go_ret
    exact ⟨rfl, B.out _⟩
  · have d : decide (1 ≤ ix) = true := by simpa using h
    have d1 : decide (ix ≤ 65535) = false := by simpa using h1
    have HP : Hid (placeB ix sub = false) := Lib.hid (by rw [H.out, d, d1]; rfl)
    rw [HP.out]
    go_enter Tryd.func46, Tryd.ntmps46
    go_wp2_with fail
    go_ret
    exact ⟨rfl, B.out _⟩
  · have d : decide (1 ≤ ix) = true := by simpa using h
    have d1 : decide (ix ≤ 65535) = true := by simpa using h1
    have d2 : decide (0 ≤ sub) = false := by simpa using h2
    have HP : Hid (placeB ix sub = false) := Lib.hid (by rw [H.out, d, d1, d2]; rfl)
    rw [HP.out]
    go_enter Tryd.func46, Tryd.ntmps46
    go_wp2_with fail
    go_ret
    exact ⟨rfl, B.out _⟩
  · have d : decide (1 ≤ ix) = true := by simpa using h
    have d1 : decide (ix ≤ 65535) = true := by simpa using h1
    have d2 : decide (0 ≤ sub) = true := by simpa using h2
    have HP : Hid (placeB ix sub = decide (sub ≤ 255)) := Lib.hid (by rw [H.out, d, d1, d2]; rfl)
    rw [HP.out]
    go_enter Tryd.func46, Tryd.ntmps46
    go_wp2_with fail
    go_ret
    exact ⟨rfl, B.out _⟩

theorem allows_any (ix sub : Int) (nm : List UInt8) (ty ac : Int) (mp st : Bool) (mx lo hi : Int) (v : Value) (w : World) :
    Calls Tryd.prog 49 #[ent ix sub nm ty ac mp st mx lo hi v] w fun e w' => e = .returned (.bool (allowB ac mp st)) ∧ Below w.heap.size w w' := by
  have B := Lib.hid (one_b w)
  have H : Hid (allowB ac mp st = if ac = 1 then !mp && !st else if ac = 2 then !st else decide (ac = 3 ∨ ac = 4)) := Lib.hid rfl
  rcases (by omega : ac = 1 ∨ ac = 2 ∨ ac = 3 ∨ ac = 4 ∨ (ac ≠ 1 ∧ ac ≠ 2 ∧ ac ≠ 3 ∧ ac ≠ 4)) with rfl | rfl | rfl | rfl | ⟨h1, h2, h3, h4⟩
  · cases mp with
    | true =>
      have HP : Hid (allowB 1 true st = false) := Lib.hid (by rw [H.out]; rfl)
      rw [HP.out]
      go_enter Tryd.func49, Tryd.ntmps49
      go_wp2_with fail
      go_ret
      exact ⟨rfl, B.out _⟩
    | false =>
      have HP : Hid (allowB 1 false st = !st) := Lib.hid (by rw [H.out]; rfl)
      rw [HP.out]
      go_enter Tryd.func49, Tryd.ntmps49
      go_wp2_with fail
      go_ret
      exact ⟨rfl, B.out _⟩
  · have HP : Hid (allowB 2 mp st = !st) := Lib.hid (by rw [H.out]; rfl)
    rw [HP.out]
    go_enter Tryd.func49, Tryd.ntmps49
    go_wp2_with fail
    go_ret
    exact ⟨rfl, B.out _⟩
  · have HP : Hid (allowB 3 mp st = true) := Lib.hid (by rw [H.out]; rfl)
    rw [HP.out]
    go_enter Tryd.func49, Tryd.ntmps49
    go_wp2_with fail
    go_ret
    exact ⟨rfl, B.out _⟩
  · have HP : Hid (allowB 4 mp st = true) := Lib.hid (by rw [H.out]; rfl)
    rw [HP.out]
    go_enter Tryd.func49, Tryd.ntmps49
    go_wp2_with fail
    go_ret
    exact ⟨rfl, B.out _⟩
  · have HP : Hid (allowB ac mp st = false) := Lib.hid (by rw [H.out, if_neg h1, if_neg h2]; simp; omega)
    rw [HP.out]
    go_enter Tryd.func49, Tryd.ntmps49
    go_wp2_with fail
    go_ret
    exact ⟨rfl, B.out _⟩

theorem bound_num {t mx lo hi : Int} {mp : Bool} (h : Typ.isNum t = true) : boundB t mx lo hi mp = decide (mx = 0 ∧ Typ.low t ≤ lo ∧ lo ≤ hi ∧ hi ≤ Typ.high t) := if_pos h
theorem bound_oth {t mx lo hi : Int} {mp : Bool} (h : Typ.isNum t = false) : boundB t mx lo hi mp = (decide (lo = 0 ∧ hi = 0 ∧ 1 ≤ mx ∧ mx ≤ 256) && !mp) := if_neg (by rw [h]; decide)

set_option maxHeartbeats 1000000 in
theorem isBounded_any (ix sub : Int) (nm : List UInt8) (ty ac : Int) (mp st : Bool) (mx lo hi : Int) (v : Value) (w : World) (hg : TG w) :
    Calls Tryd.prog 50 #[ent ix sub nm ty ac mp st mx lo hi v] w fun e w' => e = .returned (.bool (boundB ty mx lo hi mp)) ∧ Below w.heap.size w w' := by
  have S := Lib.hid (ES.new (row ix sub nm ty ac mp st mx lo hi v) hg)
  have K := Lib.hid (fun W (hG : TG W) => tlimits_any ty W hG)
  have HW : ∃ X, boundB ty mx lo hi mp = X ∧ ((Typ.isNum ty = true ∧ ((mx ≠ 0 ∧ X = false) ∨ (mx = 0 ∧ ¬ Typ.low ty ≤ lo ∧ X = false) ∨ (mx = 0 ∧ Typ.low ty ≤ lo ∧ ¬ lo ≤ hi ∧ X = false) ∨ (mx = 0 ∧ Typ.low ty ≤ lo ∧ lo ≤ hi ∧ X = decide (hi ≤ Typ.high ty)))) ∨
      (Typ.isNum ty = false ∧ ((lo ≠ 0 ∧ X = false) ∨ (lo = 0 ∧ hi ≠ 0 ∧ X = false) ∨ (lo = 0 ∧ hi = 0 ∧ ¬ 1 ≤ mx ∧ X = false) ∨ (lo = 0 ∧ hi = 0 ∧ 1 ≤ mx ∧ ¬ mx ≤ 256 ∧ X = false) ∨ (lo = 0 ∧ hi = 0 ∧ 1 ≤ mx ∧ mx ≤ 256 ∧ X = !mp)))) := by
    refine ⟨_, rfl, ?_⟩
    cases h : Typ.isNum ty with
    | true =>
      left
      refine ⟨rfl, ?_⟩
      rw [bound_num h]
      by_cases h1 : mx = 0
      · by_cases h2 : Typ.low ty ≤ lo
        · by_cases h3 : lo ≤ hi
          · right; right; right; exact ⟨h1, h2, h3, by simp [h1, h2, h3]⟩
          · right; right; left; exact ⟨h1, h2, h3, by simp [h3]⟩
        · right; left; exact ⟨h1, h2, by simp [h2]⟩
      · left; exact ⟨h1, by simp [h1]⟩
    | false =>
      right
      refine ⟨rfl, ?_⟩
      rw [bound_oth h]
      by_cases h1 : lo = 0
      · by_cases h2 : hi = 0
        · by_cases h3 : 1 ≤ mx
          · by_cases h4 : mx ≤ 256
            · right; right; right; right; exact ⟨h1, h2, h3, h4, by simp [h1, h2, h3, h4]⟩
            · right; right; right; left; exact ⟨h1, h2, h3, h4, by simp [h4]⟩
          · right; right; left; exact ⟨h1, h2, h3, by simp [h3]⟩
        · right; left; exact ⟨h1, h2, by simp [h2]⟩
      · left; exact ⟨h1, by simp [h1]⟩
  obtain ⟨X, hX, HW⟩ := HW
  rw [hX]
  clear hX hg
  generalize Typ.low ty = low at *
  generalize Typ.high ty = high at *
  rcases HW with ⟨h0, ⟨h1, rfl⟩ | ⟨rfl, h2, rfl⟩ | ⟨rfl, h2, h3, rfl⟩ | ⟨rfl, h2, h3, rfl⟩⟩ | ⟨h0, ⟨h1, rfl⟩ | ⟨rfl, h2, rfl⟩ | ⟨rfl, rfl, h3, rfl⟩ | ⟨rfl, rfl, h3, h4, rfl⟩ | ⟨rfl, rfl, h3, h4, rfl⟩⟩
  all_goals
    rw [h0] at K
    clear h0
    go_enter Tryd.func50, Tryd.ntmps50
    go_wp2_with fail
    refine (K.out _ S.out.g).mono ?_
    rintro e w1 ⟨rfl, b1⟩
    have S1 := Lib.hid (S.out.next b1)
    clear S b1
    obtain ⟨q0, q1, q2, q3, q4, q5, q6, q7, q8, q9, q10⟩ := S1.out.cells
    go_wp2_with fail
    go_ret
    exact ⟨rfl, S1.out.b_⟩

/-- Right, by the ways that the program takes. -/
theorem right_prog (ix sub : Int) (nm : List UInt8) (t ac : Int) (mp st : Bool) (mx lo hi : Int) (d : List UInt8) :
    (placeB ix sub = false ∧ rightN ix sub nm t ac mp st mx lo hi d = 9) ∨
    (placeB ix sub = true ∧ nameB nm = false ∧ rightN ix sub nm t ac mp st mx lo hi d = 14) ∨
    (placeB ix sub = true ∧ nameB nm = true ∧ Typ.known t = false ∧ rightN ix sub nm t ac mp st mx lo hi d = 15) ∨
    (placeB ix sub = true ∧ nameB nm = true ∧ Typ.known t = true ∧ allowB ac mp st = false ∧ rightN ix sub nm t ac mp st mx lo hi d = 1) ∨
    (placeB ix sub = true ∧ nameB nm = true ∧ Typ.known t = true ∧ allowB ac mp st = true ∧ boundB t mx lo hi mp = false ∧ rightN ix sub nm t ac mp st mx lo hi d = 1) ∨
    (placeB ix sub = true ∧ nameB nm = true ∧ Typ.known t = true ∧ allowB ac mp st = true ∧ boundB t mx lo hi mp = true ∧ valN t mx lo hi d ≠ 0 ∧ rightN ix sub nm t ac mp st mx lo hi d = 4) ∨
    (placeB ix sub = true ∧ nameB nm = true ∧ Typ.known t = true ∧ allowB ac mp st = true ∧ boundB t mx lo hi mp = true ∧ valN t mx lo hi d = 0 ∧ rightN ix sub nm t ac mp st mx lo hi d = 0) := by
  unfold rightN
  cases h1 : placeB ix sub with
  | false => left; simp
  | true =>
    cases h2 : nameB nm with
    | false => right; left; simp
    | true =>
      cases h3 : Typ.known t with
      | false => right; right; left; simp
      | true =>
        cases h4 : allowB ac mp st with
        | false => right; right; right; left; simp
        | true =>
          cases h5 : boundB t mx lo hi mp with
          | false => right; right; right; right; left; simp
          | true =>
            by_cases h6 : valN t mx lo hi d = 0
            · right; right; right; right; right; right; simp [h6]
            · right; right; right; right; right; left; simp [h6]

set_option maxHeartbeats 2000000 in
theorem right_any (ix sub : Int) (nm : List UInt8) (ty ac : Int) (mp st : Bool) (mx lo hi : Int) (A : Option Addr) (n c : Nat) (bs : List UInt8) (w : World) (hl : nm.length ≤ 1099511627776) (hm0 : -9223372036854775808 ≤ mx) (hm1 : mx ≤ 9223372036854775807)
    (hr : Rd w w.heap.size A bs) (hn : n = bs.length) (hle : n ≤ 1099511627776) (hg : TG w) :
    Calls Tryd.prog 21 #[ent ix sub nm ty ac mp st mx lo hi (.slice A n c)] w fun e w' => e = .returned (.int .i64 (rightN ix sub nm ty ac mp st mx lo hi bs)) ∧ Below w.heap.size w w' := by
  have S := Lib.hid (ES.new (row ix sub nm ty ac mp st mx lo hi (.slice A n c)) hg)
  have R := Lib.hid (rd_al hr (.cells (row ix sub nm ty ac mp st mx lo hi (.slice A n c)) 38))
  have K1 := Lib.hid (fun W => isPlace_any ix sub nm ty ac mp st mx lo hi (.slice A n c) W)
  have K2 := Lib.hid (fun W => name_any nm W hl)
  have K3 := Lib.hid (fun W (hG : TG W) => tknown_any ty W hG)
  have K4 := Lib.hid (fun W => allows_any ix sub nm ty ac mp st mx lo hi (.slice A n c) W)
  have K5 := Lib.hid (fun W (hG : TG W) => isBounded_any ix sub nm ty ac mp st mx lo hi (.slice A n c) W hG)
  have K6 := Lib.hid (fun W (hR : Rd W W.heap.size A bs) (hG : TG W) => value_any ix sub nm ty ac mp st mx lo hi (.slice A n c) A n c bs W hm0 hm1 hR hn hle hG)
  have HW := right_prog ix sub nm ty ac mp st mx lo hi bs
  have hi0 := ent_info
  clear hr hg hn hle hm0 hm1 hl
  generalize rightN ix sub nm ty ac mp st mx lo hi bs = X at *
  generalize placeB ix sub = b1 at *
  generalize nameB nm = b2 at *
  generalize Typ.known ty = b3 at *
  generalize allowB ac mp st = b4 at *
  generalize boundB ty mx lo hi mp = b5 at *
  generalize valN ty mx lo hi bs = vl at *
  rcases HW with ⟨rfl, rfl⟩ | ⟨rfl, rfl, rfl⟩ | ⟨rfl, rfl, rfl, rfl⟩ | ⟨rfl, rfl, rfl, rfl, rfl⟩ | ⟨rfl, rfl, rfl, rfl, rfl, rfl⟩ | ⟨rfl, rfl, rfl, rfl, rfl, h, rfl⟩ | ⟨rfl, rfl, rfl, rfl, rfl, rfl, rfl⟩
  all_goals
    go_enter Tryd.func21, Tryd.ntmps21
    go_wp2_with (refine wpList_load_row rfl 38 _ rfl _ rfl _ _ (0, 0) _ S.out.r Tryd.underlying38 rfl hi0 ?_)
    refine (K1.out _).mono ?_
    rintro e w1 ⟨rfl, b⟩
    have R1 := Lib.hid ((R.out.below b).mono b.size)
    have S1 := Lib.hid (S.out.next b)
    clear S b R
    obtain ⟨q0, q1, q2, q3, q4, q5, q6, q7, q8, q9, q10⟩ := S1.out.cells
    go_wp2_with fail
  · go_ret
    exact ⟨rfl, S1.out.b_⟩
  all_goals
    refine (K2.out _).mono ?_
    rintro e w2 ⟨rfl, rfl⟩
    go_wp2_with fail
  · go_ret
    exact ⟨rfl, S1.out.b_⟩
  all_goals
    refine (K3.out _ S1.out.g).mono ?_
    rintro e w2 ⟨rfl, b⟩
    have R2 := Lib.hid ((R1.out.below b).mono b.size)
    have S2 := Lib.hid (S1.out.next b)
    clear S1 b R1 q0 q1 q2 q3 q4 q5 q6 q7 q8 q9 q10
  · go_wp2_with fail
    go_ret
    exact ⟨rfl, S2.out.b_⟩
  all_goals
    go_wp2_with (refine wpList_load_row rfl 38 _ rfl _ rfl _ _ (0, 0) _ S2.out.r Tryd.underlying38 rfl hi0 ?_)
    refine (K4.out _).mono ?_
    rintro e w3 ⟨rfl, b⟩
    have R3 := Lib.hid ((R2.out.below b).mono b.size)
    have S3 := Lib.hid (S2.out.next b)
    clear S2 b R2
  · go_wp2_with fail
    go_ret
    exact ⟨rfl, S3.out.b_⟩
  all_goals
    obtain ⟨q0, q1, q2, q3, q4, q5, q6, q7, q8, q9, q10⟩ := S3.out.cells
    go_wp2_with fail
    refine (K5.out _ S3.out.g).mono ?_
    rintro e w4 ⟨rfl, b⟩
    have R4 := Lib.hid ((R3.out.below b).mono b.size)
    have S4 := Lib.hid (S3.out.next b)
    clear S3 b R3 q0 q1 q2 q3 q4 q5 q6 q7 q8 q9 q10
  · go_wp2_with fail
    go_ret
    exact ⟨rfl, S4.out.b_⟩
  all_goals
    obtain ⟨q0, q1, q2, q3, q4, q5, q6, q7, q8, q9, q10⟩ := S4.out.cells
    go_wp2_with (refine wpList_load_row rfl 38 _ rfl _ rfl _ _ (0, 0) _ S4.out.r Tryd.underlying38 rfl hi0 ?_)
    refine (K6.out _ R4.out S4.out.g).mono ?_
    rintro e w5 ⟨rfl, b⟩
    have S5 := Lib.hid (S4.out.next b)
    clear S4 b R4 q0 q1 q2 q3 q4 q5 q6 q7 q8 q9 q10
    go_wp2_with fail
    go_ret
    exact ⟨rfl, S5.out.b_⟩
end Ent
end Go.Proofs.YtpdnfdpoebhjoaaDoor
