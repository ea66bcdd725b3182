/-
  Right of the document.
-/
import Derived.Test.YtpdnfdpoebhjoaaDoorEntVal
namespace Go.Proofs.YtpdnfdpoebhjoaaDoor
namespace Ent
open Go.RowKit Mem
set_option linter.unusedVariables false
set_option linter.unusedSimpArgs false
set_option maxRecDepth 100000

/-- What is wrong of the bounds and rights of an entry whose place, name, type are right and whose rights are known. -/
theorem right_rest {ix sub : Int} {nm : List UInt8} {t ac : Int} {mp st : Bool} {mx lo hi : Int} {d : List UInt8} (h1 : placeB ix sub = true) (h2 : nameB nm = true) (h3 : Typ.known t = true) :
    rightN ix sub nm t ac mp st mx lo hi d = if allowB ac mp st = false ∨ boundB t mx lo hi mp = false then 1 else if valN t mx lo hi d ≠ 0 then 4 else 0 := by
  unfold rightN
  rw [if_neg (by rw [h1]; decide), if_neg (by rw [h2]; decide), if_neg (by rw [h3]; decide)]
theorem place_in {ix sub : Int} (h0 : ¬ ix < 1) (h1 : ¬ 65535 < ix) (h2 : ¬ sub < 0) (h3 : ¬ 255 < sub) : placeB ix sub = true := by
  unfold placeB
  rw [decide_eq_true (by omega : 1 ≤ ix), decide_eq_true (by omega : ix ≤ 65535), decide_eq_true (by omega : 0 ≤ sub), decide_eq_true (by omega : sub ≤ 255)]
  rfl
theorem place_out {ix sub : Int} (h : ix < 1 ∨ 65535 < ix ∨ sub < 0 ∨ 255 < sub) : placeB ix sub = false := by
  unfold placeB
  by_cases h1 : 1 ≤ ix
  · by_cases h2 : ix ≤ 65535
    · by_cases h3 : 0 ≤ sub
      · rw [decide_eq_false (by omega : ¬ sub ≤ 255)]; simp
      · rw [decide_eq_false h3]; simp
    · rw [decide_eq_false h2]; simp
  · rw [decide_eq_false h1]; simp
theorem allow_out {ac : Int} {mp st : Bool} (h : ac < 1 ∨ 4 < ac ∨ (st = true ∧ ac < 3) ∨ (mp = true ∧ ac = 1)) : allowB ac mp st = false := by
  unfold allowB
  by_cases h1 : ac = 1
  · rw [if_pos h1]
    rcases h with h | h | ⟨rfl, _⟩ | ⟨rfl, _⟩
    · omega
    · omega
    · simp
    · simp
  · rw [if_neg h1]
    by_cases h2 : ac = 2
    · rw [if_pos h2]
      rcases h with h | h | ⟨rfl, _⟩ | ⟨rfl, h⟩
      · omega
      · omega
      · rfl
      · omega
    · rw [if_neg h2]
      rcases h with h | h | ⟨rfl, h⟩ | ⟨rfl, h⟩ <;> (apply decide_eq_false; omega)
theorem allow_in {ac : Int} {mp st : Bool} (h0 : ¬ ac < 1) (h1 : ¬ 4 < ac) (h2 : st = true → ¬ ac < 3) (h3 : mp = true → ac ≠ 1) : allowB ac mp st = true := by
  unfold allowB
  by_cases e1 : ac = 1
  · rw [if_pos e1]
    cases mp with
    | true => exact absurd e1 (h3 rfl)
    | false =>
      cases st with
      | true => have := h2 rfl; omega
      | false => rfl
  · rw [if_neg e1]
    by_cases e2 : ac = 2
    · rw [if_pos e2]
      cases st with
      | true => have := h2 rfl; omega
      | false => rfl
    · rw [if_neg e2]
      apply decide_eq_true
      omega
theorem bound_yes {t mx lo hi : Int} {mp : Bool} (h : Typ.isNum t = true) (h1 : mx = 0) (h2 : ¬ lo < Typ.low t) (h3 : ¬ Typ.high t < hi) (h4 : ¬ hi < lo) : boundB t mx lo hi mp = true := by
  unfold boundB
  rw [if_pos h]
  apply decide_eq_true
  omega
theorem bound_no {t mx lo hi : Int} {mp : Bool} (h : Typ.isNum t = true) (h1 : mx ≠ 0 ∨ lo < Typ.low t ∨ Typ.high t < hi ∨ hi < lo) : boundB t mx lo hi mp = false := by
  unfold boundB
  rw [if_pos h]
  apply decide_eq_false
  omega
theorem bound_yes' {t mx lo hi : Int} {mp : Bool} (h : Typ.isNum t = false) (h1 : lo = 0) (h2 : hi = 0) (h3 : ¬ mx < 1) (h4 : ¬ 256 < mx) (h5 : mp = false) : boundB t mx lo hi mp = true := by
  unfold boundB
  rw [if_neg (by rw [h]; decide), decide_eq_true (by omega), h5]
  rfl
theorem bound_no' {t mx lo hi : Int} {mp : Bool} (h : Typ.isNum t = false) (h1 : lo ≠ 0 ∨ hi ≠ 0 ∨ mx < 1 ∨ 256 < mx ∨ mp = true) : boundB t mx lo hi mp = false := by
  unfold boundB
  rw [if_neg (by rw [h]; decide)]
  by_cases h2 : lo = 0 ∧ hi = 0 ∧ 1 ≤ mx ∧ mx ≤ 256
  · rcases h1 with h1 | h1 | h1 | h1 | h1
    · omega
    · omega
    · omega
    · omega
    · rw [h1]; simp
  · rw [decide_eq_false h2]; rfl
theorem rest_allow {a b : Bool} {v : Int} (h : a = false) : (if a = false ∨ b = false then (1 : Int) else if v ≠ 0 then 4 else 0) = 1 := if_pos (.inl h)
theorem rest_bound {a b : Bool} {v : Int} (h : b = false) : (if a = false ∨ b = false then (1 : Int) else if v ≠ 0 then 4 else 0) = 1 := if_pos (.inr h)
theorem rest_val {a b : Bool} {v : Int} (h : a = true) (h1 : b = true) (h2 : v ≠ 0) : (if a = false ∨ b = false then (1 : Int) else if v ≠ 0 then 4 else 0) = 4 := by rw [h, h1]; simp [h2]
theorem rest_ok {a b : Bool} {v : Int} (h : a = true) (h1 : b = true) (h2 : v = 0) : (if a = false ∨ b = false then (1 : Int) else if v ≠ 0 then 4 else 0) = 0 := by rw [h, h1]; simp [h2]

set_option maxHeartbeats 4000000 in
theorem rright_a (ix sub : Int) (nm : List UInt8) (ty ac : Int) (mp st : Bool) (mx lo hi : Int) (A : Option Addr) (n c B : Nat) (bs : List UInt8) (w : World) (hl : nm.length ≤ 1099511627776) (hm0 : -9223372036854775808 ≤ mx) (hm1 : mx ≤ 9223372036854775807)
    (hB : B ≤ w.heap.size) (hr : Rd w B A bs) (hn : n = bs.length) (hle : n ≤ 1099511627776) (hw : (ix < 1 ∨ 65535 < ix ∨ sub < 0 ∨ 255 < sub) ∨ nameB nm = false ∨ Typ.known ty = false ∨ ac < 1 ∨ 4 < ac) :
    Calls Tryd.prog 24 #[ent ix sub nm ty ac mp st mx lo hi (.slice A n c)] w fun e w' => e = .returned (.int .i64 (rightN ix sub nm ty ac mp st mx lo hi bs)) ∧ Below w.heap.size w w' := by
  have Bl := Lib.hid (one_b w (.cells (row ix sub nm ty ac mp st mx lo hi (.slice A n c)) 38))
  have R := Lib.hid (hr.below ((one_b w (.cells (row ix sub nm ty ac mp st mx lo hi (.slice A n c)) 38)).mono hB))
  have K1 := Lib.hid (fun W => rlimits_any ty W)
  have K2 := Lib.hid (fun W => rname_any nm W hl)
  have K3 := Lib.hid (fun W => rknown_any ty W)
  have K4 := Lib.hid (fun W (hB : B ≤ W.heap.size) (hR : Rd W B A bs) => rvalue_any ix sub nm ty ac mp st mx lo hi (.slice A n c) A n c B bs W hm0 hm1 hB hR hn hle)
  have hi0 := ent_info
  have HB := Lib.hid hB
  have HW : ∃ X, rightN ix sub nm ty ac mp st mx lo hi bs = X ∧ ((ix < 1 ∧ X = 9) ∨ (¬ ix < 1 ∧ 65535 < ix ∧ X = 9) ∨ (¬ ix < 1 ∧ ¬ 65535 < ix ∧ sub < 0 ∧ X = 9) ∨ (¬ ix < 1 ∧ ¬ 65535 < ix ∧ ¬ sub < 0 ∧ 255 < sub ∧ X = 9) ∨
      (¬ ix < 1 ∧ ¬ 65535 < ix ∧ ¬ sub < 0 ∧ ¬ 255 < sub ∧ ((nameB nm = false ∧ X = 14) ∨ (nameB nm = true ∧ Typ.known ty = false ∧ X = 15) ∨ (nameB nm = true ∧ Typ.known ty = true ∧ ac < 1 ∧ X = 1) ∨ (nameB nm = true ∧ Typ.known ty = true ∧ ¬ ac < 1 ∧ 4 < ac ∧ X = 1)))) := by
    refine ⟨_, rfl, ?_⟩
    by_cases h : ix < 1 ∨ 65535 < ix ∨ sub < 0 ∨ 255 < sub
    · have : rightN ix sub nm ty ac mp st mx lo hi bs = 9 := if_pos (place_out h)
      rw [this]
      omega
    · have hp := place_in (ix := ix) (sub := sub) (by omega) (by omega) (by omega) (by omega)
      right; right; right; right
      refine ⟨by omega, by omega, by omega, by omega, ?_⟩
      cases h2 : nameB nm with
      | false => left; exact ⟨rfl, by unfold rightN; rw [if_neg (by rw [hp]; decide), if_pos h2]⟩
      | true =>
        right
        cases h3 : Typ.known ty with
        | false => left; exact ⟨rfl, rfl, by unfold rightN; rw [if_neg (by rw [hp]; decide), if_neg (by rw [h2]; decide), if_pos h3]⟩
        | true =>
          right
          have h4 : ac < 1 ∨ 4 < ac := by
            rcases hw with h' | h' | h' | h' | h'
            · exact absurd h' h
            · rw [h2] at h'; cases h'
            · rw [h3] at h'; cases h'
            · exact .inl h'
            · exact .inr h'
          have e : rightN ix sub nm ty ac mp st mx lo hi bs = 1 := by rw [right_rest hp h2 h3, rest_allow (allow_out (by omega))]
          by_cases h5 : ac < 1
          · left; exact ⟨rfl, rfl, h5, e⟩
          · right; exact ⟨rfl, rfl, h5, by omega, e⟩
  obtain ⟨X, hX, HW⟩ := HW
  rw [hX]
  clear hX hr hn hle hm0 hm1 hl hw hB
  generalize nameB nm = b2 at *
  generalize Typ.known ty = b3 at *
  generalize Typ.isNum ty = nu at *
  rcases HW with ⟨h, rfl⟩ | ⟨h, h1, rfl⟩ | ⟨h, h1, h2, rfl⟩ | ⟨h, h1, h2, h3, rfl⟩ | ⟨h, h1, h2, h3, ⟨rfl, rfl⟩ | ⟨rfl, rfl, rfl⟩ | ⟨rfl, rfl, h4, rfl⟩ | ⟨rfl, rfl, h4, h5, rfl⟩⟩
  iterate 4
    go_enter Tryd.func24, Tryd.ntmps24
    go_wp2_with fail
    refine (K1.out _).mono ?_
    rintro e w1 ⟨rfl, rfl⟩
    go_wp2_with fail
    go_ret
    exact ⟨rfl, Bl.out⟩
  ·
    go_enter Tryd.func24, Tryd.ntmps24
    go_wp2_with fail
    refine (K1.out _).mono ?_
    rintro e w1 ⟨rfl, rfl⟩
    go_wp2_with fail
    refine (K2.out _).mono ?_
    rintro e w1 ⟨rfl, rfl⟩
    go_wp2_with fail
    go_ret
    exact ⟨rfl, Bl.out⟩
  all_goals
    go_enter Tryd.func24, Tryd.ntmps24
    go_wp2_with fail
    refine (K1.out _).mono ?_
    rintro e w1 ⟨rfl, rfl⟩
    go_wp2_with fail
    refine (K2.out _).mono ?_
    rintro e w1 ⟨rfl, rfl⟩
    go_wp2_with fail
    refine (K3.out _).mono ?_
    rintro e w1 ⟨rfl, rfl⟩
    go_wp2_with fail
    go_ret
    exact ⟨rfl, Bl.out⟩

end Ent
end Go.Proofs.YtpdnfdpoebhjoaaDoor
