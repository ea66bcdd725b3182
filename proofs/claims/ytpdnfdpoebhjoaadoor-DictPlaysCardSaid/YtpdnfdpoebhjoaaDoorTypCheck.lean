/-
  What is wrong of bytes, here and in the document.
-/
import Derived.Test.YtpdnfdpoebhjoaaDoorTypDec
namespace Go.Proofs.YtpdnfdpoebhjoaaDoor
open Go.RowKit Mem
set_option linter.unusedVariables false

def okAt (bs : List UInt8) (j : Nat) : Prop := 32 ≤ byt bs j ∧ byt bs j ≤ 126
def plainB (bs : List UInt8) : Bool := (List.range bs.length).all fun j => decide (32 ≤ byt bs j) && decide (byt bs j ≤ 126)
theorem plain_yes {bs : List UInt8} (h : ∀ j, j < bs.length → okAt bs j) : plainB bs = true := by
  unfold plainB
  rw [List.all_eq_true]
  intro j hj
  have := h j (List.mem_range.1 hj)
  simp [this.1, this.2]
theorem plain_no {bs : List UInt8} {j : Nat} (hj : j < bs.length) (h : ¬ okAt bs j) : plainB bs = false := by
  cases hp : plainB bs with
  | false => rfl
  | true =>
    exfalso
    have := List.all_eq_true.1 hp j (List.mem_range.2 hj)
    simp only [Bool.and_eq_true, decide_eq_true_eq] at this
    exact h this

set_option maxRecDepth 100000 in
set_option maxHeartbeats 1000000 in
theorem isPlain_any (A : Option Addr) (n c B : Nat) (bs : List UInt8) (w : World) (hr : Rd w B A bs) (hn : n = bs.length) (hle : n ≤ 1099511627776) :
    Calls Tryd.prog 83 #[.slice A n c] w fun e w' => e = .returned (.bool (plainB bs)) ∧ w = w' := by
  have HY := Lib.hid (fun h => plain_yes (bs := bs) h)
  have HX := Lib.hid (fun j (hj : j < bs.length) h => plain_no (bs := bs) hj h)
  have HN := Lib.hid hn
  have HR := Lib.hid hr
  clear hn hr
  go_enter Tryd.func83, Tryd.ntmps83
  go_wp2_with fail
  go_loop [7] (fun i => ∃ k : Nat, k ≤ n ∧ i = .int .i64 (k : Int) ∧ ∀ j, j < k → okAt bs j) (fun i => n - (intOf i).toNat)
  case atStart => exact ⟨0, by omega, rfl, fun j hj => by omega⟩
  case round =>
    obtain ⟨k, hk, rfl, hok⟩ := hrel
    have HOK := Lib.hid hok
    clear hok
    by_cases hlt : k < n
    · obtain ⟨g, off, rfl, hgB, hc⟩ := HR.out.at_ (k := k) (by rw [← HN.out]; exact hlt)
      have hk0 : (0 : Int) ≤ (k : Int) := by omega
      have hk1 : (k : Int) < (n : Int) := by omega
      have HP : Hid (okAt bs k ↔ (32 ≤ byt bs k ∧ byt bs k ≤ 126)) := Lib.hid Iff.rfl
      have hbd := byt_bd bs k
      obtain ⟨b0, b1⟩ := hbd
      generalize byt bs k = x at *
      rcases (by omega : x < 32 ∨ (32 ≤ x ∧ 126 < x) ∨ (32 ≤ x ∧ x ≤ 126)) with h | ⟨h, h'⟩ | ⟨h, h'⟩
      · have d0 : decide (x < 32) = true := by simpa using h
        have HF := Lib.hid (HX.out k (by rw [← HN.out]; exact hlt) (fun ho => by have := HP.out.1 ho; omega))
        go_wp2_with fail
        go_ret
        exact ⟨by rw [HF.out]; rfl, rfl⟩
      · have d0 : decide (x < 32) = false := by simp; omega
        have d1 : decide (126 < x) = true := by simpa using h'
        have HF := Lib.hid (HX.out k (by rw [← HN.out]; exact hlt) (fun ho => by have := HP.out.1 ho; omega))
        go_wp2_with fail
        go_ret
        exact ⟨by rw [HF.out]; rfl, rfl⟩
      · have d0 : decide (x < 32) = false := by simp; omega
        have d1 : decide (126 < x) = false := by simp; omega
        go_wp2_with fail
        go_round
        case rel => exact ⟨k + 1, by omega, by go_num, fun j hj => by
          rcases Nat.lt_or_ge j k with h2 | h2
          · exact HOK.out j h2
          · obtain rfl : j = k := by omega
            exact HP.out.2 ⟨h, h'⟩⟩
        case measure => simp [intOf]; omega
    · have HF := Lib.hid (HY.out (fun j hj => HOK.out j (by have := HN.out; omega)))
      go_wp2_with fail
      go_ret
      exact ⟨by rw [HF.out]; rfl, rfl⟩

def chkA (t most : Int) (bs : List UInt8) : Int :=
  if Typ.known t = false then 15 else if Typ.isNum t = true then (decA t bs).2 else if most < bs.length ∨ 256 < bs.length then 3 else if t = 9 ∧ plainB bs = false then 4 else 0

set_option maxRecDepth 100000 in
set_option maxHeartbeats 4000000 in
theorem check_any (A : Option Addr) (n c : Nat) (bs : List UInt8) (t most : Int) (hm0 : -9223372036854775808 ≤ most) (hm1 : most ≤ 9223372036854775807) (w : World) (hr : Rd w w.heap.size A bs) (hn : n = bs.length) (hle : n ≤ 1099511627776) (hg : TG w) :
    Calls Tryd.prog 72 #[.int .i64 t, .int .i64 most, .slice A n c] w fun e w' => e = .returned (.int .i64 (chkA t most bs)) ∧ Below w.heap.size w w' := by
  have H1 := Lib.hid (about_x t w hg)
  have H2 := Lib.hid (fun W => kknown_x t W)
  have H3 := Lib.hid (fun W => knum_x t W)
  have H4 := Lib.hid (fun W (hW : Rd W W.heap.size A bs) (hG : TG W) => decode_any A n c bs t W hW hn hle hG)
  have H5 := Lib.hid (fun W (hW : Rd W w.heap.size A bs) => isPlain_any A n c w.heap.size bs W hW hn hle)
  have HG := Lib.hid hg
  have HR := Lib.hid hr
  obtain ⟨X, hX⟩ : ∃ X, chkA t most bs = X := ⟨_, rfl⟩
  have hlen : (n : Int) = (bs.length : Int) := by rw [hn]
  have key : (Typ.known t = false ∧ X = 15) ∨ (Typ.known t = true ∧ Typ.isNum t = true ∧ X = (decA t bs).2) ∨ (Typ.known t = true ∧ Typ.isNum t = false ∧ (most < n ∨ 256 < (n : Int)) ∧ X = 3) ∨
      (Typ.known t = true ∧ Typ.isNum t = false ∧ ¬ (most < n ∨ 256 < (n : Int)) ∧ t = 9 ∧ plainB bs = false ∧ X = 4) ∨ (Typ.known t = true ∧ Typ.isNum t = false ∧ ¬ (most < n ∨ 256 < (n : Int)) ∧ t = 9 ∧ plainB bs = true ∧ X = 0) ∨
      (Typ.known t = true ∧ Typ.isNum t = false ∧ ¬ (most < n ∨ 256 < (n : Int)) ∧ t ≠ 9 ∧ X = 0) := by
    rw [← hX]
    unfold chkA
    cases hk : Typ.known t with
    | false => left; exact ⟨rfl, if_pos rfl⟩
    | true =>
      right
      rw [if_neg (by decide)]
      cases hi : Typ.isNum t with
      | true => left; exact ⟨rfl, rfl, if_pos rfl⟩
      | false =>
        right
        rw [if_neg (by decide)]
        by_cases hb : most < n ∨ 256 < (n : Int)
        · left; exact ⟨rfl, rfl, hb, if_pos (by omega)⟩
        · right
          rw [if_neg (by omega)]
          by_cases h9 : t = 9
          · cases hp : plainB bs with
            | false => left; exact ⟨rfl, rfl, hb, h9, rfl, if_pos ⟨h9, rfl⟩⟩
            | true => right; left; exact ⟨rfl, rfl, hb, h9, rfl, if_neg (fun h => by cases h.2)⟩
          · right; right; exact ⟨rfl, rfl, hb, h9, if_neg (fun h => h9 h.1)⟩
  rw [hX]
  clear hX hlen hn hr hg
  rcases key with ⟨k1, rfl⟩ | ⟨k1, k2, rfl⟩ | ⟨k1, k2, k3, rfl⟩ | ⟨k1, k2, k3, k4, k5, rfl⟩ | ⟨k1, k2, k3, k4, k5, rfl⟩ | ⟨k1, k2, k3, k4, rfl⟩
  all_goals rw [k1] at H2
  · clear k1
    go_enter Tryd.func72, Tryd.ntmps72
    go_wp2_with fail
    refine H1.out.mono ?_
    rintro e w1 ⟨rfl, b1⟩
    have S := KS.new t HG.out b1
    have b1 := Lib.hid b1
    obtain ⟨q0, q1, q2, q3, q4⟩ := S.cells
    have S := Lib.hid S
    go_wp2_with fail
    refine (S.out.call (H2.out _)).mono ?_
    clear S q0 q1 q2 q3 q4
    rintro e w2 ⟨rfl, S⟩
    have S := Lib.hid S
    go_wp2_with fail
    go_ret
    exact ⟨rfl, S.out.b_⟩
  · rw [k2] at H3
    clear k1 k2
    generalize decA t bs = D at *
    go_enter Tryd.func72, Tryd.ntmps72
    go_wp2_with fail
    refine H1.out.mono ?_
    rintro e w1 ⟨rfl, b1⟩
    have S := KS.new t HG.out b1
    have b1 := Lib.hid b1
    obtain ⟨q0, q1, q2, q3, q4⟩ := S.cells
    have S := Lib.hid S
    go_wp2_with fail
    refine (S.out.call (H2.out _)).mono ?_
    clear S q0 q1 q2 q3 q4
    rintro e w2 ⟨rfl, S⟩
    obtain ⟨q0, q1, q2, q3, q4⟩ := S.cells
    have S := Lib.hid S
    go_wp2_with fail
    refine (S.out.call (H3.out _)).mono ?_
    clear S q0 q1 q2 q3 q4
    rintro e w3 ⟨rfl, S⟩
    have S := Lib.hid S
    go_wp2_with fail
    refine (S.out.call (H4.out _ ((HR.out.below S.out.b_).mono S.out.b_.size) S.out.g)).mono ?_
    clear S
    rintro e w4 ⟨rfl, S⟩
    have S := Lib.hid S
    go_wp2_with fail
    go_ret
    exact ⟨rfl, S.out.b_⟩
  all_goals
    rw [k2] at H3
    clear k1 k2
  · go_enter Tryd.func72, Tryd.ntmps72
    go_wp2_with fail
    refine H1.out.mono ?_
    rintro e w1 ⟨rfl, b1⟩
    have S := KS.new t HG.out b1
    have b1 := Lib.hid b1
    obtain ⟨q0, q1, q2, q3, q4⟩ := S.cells
    have S := Lib.hid S
    go_wp2_with fail
    refine (S.out.call (H2.out _)).mono ?_
    clear S q0 q1 q2 q3 q4
    rintro e w2 ⟨rfl, S⟩
    obtain ⟨q0, q1, q2, q3, q4⟩ := S.cells
    have S := Lib.hid S
    go_wp2_with fail
    refine (S.out.call (H3.out _)).mono ?_
    clear S q0 q1 q2 q3 q4
    rintro e w3 ⟨rfl, S⟩
    have S := Lib.hid S
    obtain ⟨mn, hmn⟩ : ∃ m : Int, (if 256 < most then (256 : Int) else most) = m := ⟨_, rfl⟩
    have d0 : decide (mn < (n : Int)) = true := by rw [← hmn]; split <;> simp <;> omega
    have K3 := Lib.hid k3
    clear k3
    go_wp2_with fail
    all_goals
      go_ret
      exact ⟨rfl, S.out.b_⟩
  · have e9 : (t == 9) = true := by simpa using k4
    obtain ⟨mn, hmn⟩ : ∃ m : Int, (if 256 < most then (256 : Int) else most) = m := ⟨_, rfl⟩
    have d0 : decide (mn < (n : Int)) = false := by rw [← hmn]; split <;> simp <;> omega
    have K3 := Lib.hid k3
    rw [k5] at H5
    clear k3 k4 k5
    go_enter Tryd.func72, Tryd.ntmps72
    go_wp2_with fail
    refine H1.out.mono ?_
    rintro e w1 ⟨rfl, b1⟩
    have S := KS.new t HG.out b1
    have b1 := Lib.hid b1
    obtain ⟨q0, q1, q2, q3, q4⟩ := S.cells
    have S := Lib.hid S
    go_wp2_with fail
    refine (S.out.call (H2.out _)).mono ?_
    clear S q0 q1 q2 q3 q4
    rintro e w2 ⟨rfl, S⟩
    obtain ⟨q0, q1, q2, q3, q4⟩ := S.cells
    have S := Lib.hid S
    go_wp2_with fail
    refine (S.out.call (H3.out _)).mono ?_
    clear S q0 q1 q2 q3 q4
    rintro e w3 ⟨rfl, S⟩
    have S := Lib.hid S
    go_wp2_with (go_at_call 83; refine (H5.out _ (HR.out.below S.out.b_)).mono ?_; rintro e w4 ⟨rfl, rfl⟩)
    all_goals
      go_ret
      exact ⟨rfl, S.out.b_⟩
  · have e9 : (t == 9) = true := by simpa using k4
    obtain ⟨mn, hmn⟩ : ∃ m : Int, (if 256 < most then (256 : Int) else most) = m := ⟨_, rfl⟩
    have d0 : decide (mn < (n : Int)) = false := by rw [← hmn]; split <;> simp <;> omega
    have K3 := Lib.hid k3
    rw [k5] at H5
    clear k3 k4 k5
    go_enter Tryd.func72, Tryd.ntmps72
    go_wp2_with fail
    refine H1.out.mono ?_
    rintro e w1 ⟨rfl, b1⟩
    have S := KS.new t HG.out b1
    have b1 := Lib.hid b1
    obtain ⟨q0, q1, q2, q3, q4⟩ := S.cells
    have S := Lib.hid S
    go_wp2_with fail
    refine (S.out.call (H2.out _)).mono ?_
    clear S q0 q1 q2 q3 q4
    rintro e w2 ⟨rfl, S⟩
    obtain ⟨q0, q1, q2, q3, q4⟩ := S.cells
    have S := Lib.hid S
    go_wp2_with fail
    refine (S.out.call (H3.out _)).mono ?_
    clear S q0 q1 q2 q3 q4
    rintro e w3 ⟨rfl, S⟩
    have S := Lib.hid S
    go_wp2_with (go_at_call 83; refine (H5.out _ (HR.out.below S.out.b_)).mono ?_; rintro e w4 ⟨rfl, rfl⟩)
    all_goals
      go_ret
      exact ⟨rfl, S.out.b_⟩
  · have e9 : (t == 9) = false := by simpa using k4
    obtain ⟨mn, hmn⟩ : ∃ m : Int, (if 256 < most then (256 : Int) else most) = m := ⟨_, rfl⟩
    have d0 : decide (mn < (n : Int)) = false := by rw [← hmn]; split <;> simp <;> omega
    have K3 := Lib.hid k3
    clear k3 k4
    go_enter Tryd.func72, Tryd.ntmps72
    go_wp2_with fail
    refine H1.out.mono ?_
    rintro e w1 ⟨rfl, b1⟩
    have S := KS.new t HG.out b1
    have b1 := Lib.hid b1
    obtain ⟨q0, q1, q2, q3, q4⟩ := S.cells
    have S := Lib.hid S
    go_wp2_with fail
    refine (S.out.call (H2.out _)).mono ?_
    clear S q0 q1 q2 q3 q4
    rintro e w2 ⟨rfl, S⟩
    obtain ⟨q0, q1, q2, q3, q4⟩ := S.cells
    have S := Lib.hid S
    go_wp2_with fail
    refine (S.out.call (H3.out _)).mono ?_
    clear S q0 q1 q2 q3 q4
    rintro e w3 ⟨rfl, S⟩
    have S := Lib.hid S
    go_wp2_with fail
    all_goals
      go_ret
      exact ⟨rfl, S.out.b_⟩

set_option maxRecDepth 100000 in
set_option maxHeartbeats 4000000 in
theorem rcheck_any (A : Option Addr) (n c B : Nat) (bs : List UInt8) (t most : Int) (hm0 : -9223372036854775808 ≤ most) (hm1 : most ≤ 9223372036854775807) (w : World) (hr : Rd w B A bs) (hn : n = bs.length) (hle : n ≤ 1099511627776) :
    Calls Tryd.prog 78 #[.int .i64 t, .int .i64 most, .slice A n c] w fun e w' => e = .returned (.int .i64 (chkA t most bs)) ∧ w = w' := by
  have H1 := Lib.hid (fun W => rknown_any t W)
  have H2 := Lib.hid (fun W => rbits_any t W)
  have H4 := Lib.hid (fun W (hW : Rd W B A bs) => rdecode_any A n c B bs t W hW hn hle)
  have HR := Lib.hid hr
  have HN := Lib.hid hn
  have HPY := Lib.hid (fun h => plain_yes (bs := bs) h)
  have HPX := Lib.hid (fun j (hj : j < bs.length) h => plain_no (bs := bs) hj h)
  have hbit : decide (0 < Typ.bits t) = Typ.isNum t := rfl
  obtain ⟨X, hX⟩ : ∃ X, chkA t most bs = X := ⟨_, rfl⟩
  have hlen : (n : Int) = (bs.length : Int) := by rw [hn]
  have key : (Typ.known t = false ∧ X = 15) ∨ (Typ.known t = true ∧ Typ.isNum t = true ∧ X = (decA t bs).2) ∨ (Typ.known t = true ∧ Typ.isNum t = false ∧ (most < n ∨ 256 < (n : Int)) ∧ X = 3) ∨
      (Typ.known t = true ∧ Typ.isNum t = false ∧ ¬ (most < n ∨ 256 < (n : Int)) ∧ t = 9 ∧ X = if plainB bs = false then 4 else 0) ∨
      (Typ.known t = true ∧ Typ.isNum t = false ∧ ¬ (most < n ∨ 256 < (n : Int)) ∧ t ≠ 9 ∧ X = 0) := by
    rw [← hX]
    unfold chkA
    cases hk : Typ.known t with
    | false => left; exact ⟨rfl, if_pos rfl⟩
    | true =>
      right
      rw [if_neg (by decide)]
      cases hi : Typ.isNum t with
      | true => left; exact ⟨rfl, rfl, if_pos rfl⟩
      | false =>
        right
        rw [if_neg (by decide)]
        by_cases hb : most < n ∨ 256 < (n : Int)
        · left; exact ⟨rfl, rfl, hb, if_pos (by omega)⟩
        · right
          rw [if_neg (by omega)]
          by_cases h9 : t = 9
          · left
            refine ⟨rfl, rfl, hb, h9, ?_⟩
            cases hp : plainB bs with
            | false => rw [if_pos ⟨h9, rfl⟩, if_pos rfl]
            | true => rw [if_neg (fun h => by cases h.2), if_neg (by decide)]
          · right; exact ⟨rfl, rfl, hb, h9, if_neg (fun h => h9 h.1)⟩
  rw [hX]
  clear hX hlen hn hr
  rcases key with ⟨k1, rfl⟩ | ⟨k1, k2, rfl⟩ | ⟨k1, k2, k3, rfl⟩ | ⟨k1, k2, k3, k4, k5⟩ | ⟨k1, k2, k3, k4, rfl⟩
  all_goals rw [k1] at H1
  · clear k1 hbit
    go_enter Tryd.func78, Tryd.ntmps78
    go_wp2_with (go_at_call 54; refine (H1.out _).mono ?_; rintro e w1 ⟨rfl, rfl⟩)
    go_ret
    exact ⟨rfl, rfl⟩
  · rw [k2] at hbit
    clear k1 k2
    generalize decA t bs = D at *
    generalize Typ.bits t = BT at *
    go_enter Tryd.func78, Tryd.ntmps78
    go_wp2_with (first | (go_at_call 54; refine (H1.out _).mono ?_; rintro e w1 ⟨rfl, rfl⟩) | (go_at_call 74; refine (H2.out _).mono ?_; rintro e w1 ⟨rfl, rfl⟩) | (go_at_call 77; refine (H4.out _ HR.out).mono ?_; rintro e w1 ⟨rfl, rfl⟩))
    go_ret
    exact ⟨rfl, rfl⟩
  all_goals
    rw [k2] at hbit
    clear k1 k2 H4
    generalize Typ.bits t = BT at *
  · have hd : (decide (most < (n : Int)) = true) ∨ (decide (most < (n : Int)) = false ∧ decide (256 < (n : Int)) = true) := by
      by_cases h : most < (n : Int)
      · left; simpa using h
      · right; constructor
        · simpa using h
        · simp; omega
    clear k3
    rcases hd with d0 | ⟨d0, d1⟩
    all_goals
      go_enter Tryd.func78, Tryd.ntmps78
      go_wp2_with (first | (go_at_call 54; refine (H1.out _).mono ?_; rintro e w1 ⟨rfl, rfl⟩) | (go_at_call 74; refine (H2.out _).mono ?_; rintro e w1 ⟨rfl, rfl⟩))
      go_ret
      exact ⟨rfl, rfl⟩
  · have d0 : decide (most < (n : Int)) = false := by simp; omega
    have d1 : decide (256 < (n : Int)) = false := by simp; omega
    have e9 : (t == 9) = true := by simpa using k4
    have HXE := Lib.hid k5
    clear k3 k4 k5
    go_enter Tryd.func78, Tryd.ntmps78
    go_wp2_with (first | (go_at_call 54; refine (H1.out _).mono ?_; rintro e w1 ⟨rfl, rfl⟩) | (go_at_call 74; refine (H2.out _).mono ?_; rintro e w1 ⟨rfl, rfl⟩))
    go_loop [9] (fun i => ∃ k : Nat, k ≤ n ∧ i = .int .i64 (k : Int) ∧ ∀ j, j < k → okAt bs j) (fun i => n - (intOf i).toNat)
    case atStart => exact ⟨0, by omega, rfl, fun j hj => by omega⟩
    case round =>
      obtain ⟨k, hk, rfl, hok⟩ := hrel
      have HOK := Lib.hid hok
      clear hok
      by_cases hlt : k < n
      · obtain ⟨g, off, rfl, hgB, hc⟩ := HR.out.at_ (k := k) (by rw [← HN.out]; exact hlt)
        have hk0 : (0 : Int) ≤ (k : Int) := by omega
        have hk1 : (k : Int) < (n : Int) := by omega
        have HP : Hid (okAt bs k ↔ (32 ≤ byt bs k ∧ byt bs k ≤ 126)) := Lib.hid Iff.rfl
        have hbd := byt_bd bs k
        obtain ⟨b0, b1⟩ := hbd
        generalize byt bs k = x at *
        rcases (by omega : x < 32 ∨ (32 ≤ x ∧ 126 < x) ∨ (32 ≤ x ∧ x ≤ 126)) with h | ⟨h, h'⟩ | ⟨h, h'⟩
        · have d2 : decide (x < 32) = true := by simpa using h
          have HF := Lib.hid (HPX.out k (by rw [← HN.out]; exact hlt) (fun ho => by have := HP.out.1 ho; omega))
          go_wp2_with fail
          go_ret
          exact ⟨by rw [HXE.out, HF.out]; rfl, rfl⟩
        · have d2 : decide (x < 32) = false := by simp; omega
          have d3 : decide (126 < x) = true := by simpa using h'
          have HF := Lib.hid (HPX.out k (by rw [← HN.out]; exact hlt) (fun ho => by have := HP.out.1 ho; omega))
          go_wp2_with fail
          go_ret
          exact ⟨by rw [HXE.out, HF.out]; rfl, rfl⟩
        · have d2 : decide (x < 32) = false := by simp; omega
          have d3 : decide (126 < x) = false := by simp; omega
          go_wp2_with fail
          go_round
          case rel => exact ⟨k + 1, by omega, by go_num, fun j hj => by
            rcases Nat.lt_or_ge j k with h2 | h2
            · exact HOK.out j h2
            · obtain rfl : j = k := by omega
              exact HP.out.2 ⟨h, h'⟩⟩
          case measure => simp [intOf]; omega
      · have HF := Lib.hid (HPY.out (fun j hj => HOK.out j (by have := HN.out; omega)))
        go_wp2_with fail
        go_ret
        exact ⟨by rw [HXE.out, HF.out]; rfl, rfl⟩
  · have d0 : decide (most < (n : Int)) = false := by simp; omega
    have d1 : decide (256 < (n : Int)) = false := by simp; omega
    have e9 : (t == 9) = false := by simpa using k4
    clear k3 k4
    go_enter Tryd.func78, Tryd.ntmps78
    go_wp2_with (first | (go_at_call 54; refine (H1.out _).mono ?_; rintro e w1 ⟨rfl, rfl⟩) | (go_at_call 74; refine (H2.out _).mono ?_; rintro e w1 ⟨rfl, rfl⟩))
    go_loop [9] (fun i => ∃ k : Nat, k ≤ n ∧ i = .int .i64 (k : Int)) (fun i => n - (intOf i).toNat)
    case atStart => exact ⟨0, by omega, rfl⟩
    case round =>
      obtain ⟨k, hk, rfl⟩ := hrel
      by_cases hlt : k < n
      · go_wp2_with fail
        go_round
        case rel => exact ⟨k + 1, by omega, by go_num⟩
        case measure => simp [intOf]; omega
      · go_wp2_with fail
        go_ret
        exact ⟨rfl, rfl⟩
end Go.Proofs.YtpdnfdpoebhjoaaDoor
