/-
  Name, here and in the document.
-/
import Derived.Test.YtcbffoablononaaDoorEntMath
namespace Go.Proofs.YtcbffoablononaaDoor
namespace Ent
open Go.RowKit Mem
set_option linter.unusedVariables false
set_option linter.unusedSimpArgs false

theorem isLetter_any (x : Int) (w : World) : Calls Tryd.prog 79 #[.int .u8 x] w fun e w' => e = .returned (.bool (letB x)) ∧ w = w' := by
  obtain ⟨B, hB⟩ : ∃ B, letB x = B := ⟨_, rfl⟩
  rw [hB]
  have HB : Hid (letB x = B) := Lib.hid hB
  clear hB
  by_cases h : 97 ≤ x
  · have d : decide (97 ≤ x) = true := by simpa using h
    go_enter Tryd.func79, Tryd.ntmps79
    go_wp2_with fail
    go_ret
    exact ⟨by rw [← HB.out]; unfold letB; simp [d], rfl⟩
  · have d : decide (97 ≤ x) = false := by simpa using h
    go_enter Tryd.func79, Tryd.ntmps79
    go_wp2_with fail
    go_ret
    exact ⟨by rw [← HB.out]; unfold letB; simp [d], rfl⟩
theorem isDigit_any (x : Int) (w : World) : Calls Tryd.prog 80 #[.int .u8 x] w fun e w' => e = .returned (.bool (digB x)) ∧ w = w' := by
  obtain ⟨B, hB⟩ : ∃ B, digB x = B := ⟨_, rfl⟩
  rw [hB]
  have HB : Hid (digB x = B) := Lib.hid hB
  clear hB
  by_cases h : 48 ≤ x
  · have d : decide (48 ≤ x) = true := by simpa using h
    go_enter Tryd.func80, Tryd.ntmps80
    go_wp2_with fail
    go_ret
    exact ⟨by rw [← HB.out]; unfold digB; simp [d], rfl⟩
  · have d : decide (48 ≤ x) = false := by simpa using h
    go_enter Tryd.func80, Tryd.ntmps80
    go_wp2_with fail
    go_ret
    exact ⟨by rw [← HB.out]; unfold digB; simp [d], rfl⟩

theorem siz (l : List UInt8) : (⟨l.toArray⟩ : ByteArray).size = l.length := by simp [ByteArray.size]

set_option maxRecDepth 100000 in
set_option maxHeartbeats 1000000 in
theorem name_any (l : List UInt8) (w : World) (hle : l.length ≤ 1099511627776) :
    Calls Tryd.prog 60 #[.string ⟨l.toArray⟩] w fun e w' => e = .returned (.bool (nameB l)) ∧ w = w' := by
  have HS := siz l
  have KL := Lib.hid (fun x W => isLetter_any x W)
  have KD := Lib.hid (fun x W => isDigit_any x W)
  rcases Nat.eq_zero_or_pos l.length with h0 | h0
  · obtain rfl : l = [] := List.length_eq_zero_iff.1 h0
    have HN := Lib.hid (name_len (l := []) (by simp))
    clear HS
    go_enter Tryd.func60, Tryd.ntmps60
    go_wp2_with fail
    go_ret
    exact ⟨by rw [HN.out]; rfl, rfl⟩
  have hne : (l == []) = false := by cases l with
    | nil => simp at h0
    | cons a r => rfl
  by_cases h16 : 16 < l.length
  · have HN := Lib.hid (name_len (l := l) (by omega))
    go_enter Tryd.func60, Tryd.ntmps60
    go_wp2_with fail
    go_ret
    exact ⟨by rw [HN.out]; rfl, rfl⟩
  have g0 : 0 < (⟨l.toArray⟩ : ByteArray).size := by rw [HS]; exact h0
  have e0 : ((((⟨l.toArray⟩ : ByteArray)[0]'g0).toNat : Nat) : Int) = byt l 0 := str_at l 0 g0
  cases hF : letB (byt l 0) with
  | false =>
    have HN := Lib.hid (name_first hF)
    have KL := Lib.hid (KL.out (byt l 0))
    rw [hF] at KL
    clear hF
    generalize byt l 0 = x at *
    go_enter Tryd.func60, Tryd.ntmps60
    go_wp2_with fail
    refine (KL.out _).mono ?_
    rintro e w' ⟨rfl, rfl⟩
    go_wp2_with fail
    go_ret
    exact ⟨by rw [HN.out]; rfl, rfl⟩
  | true =>
    have HF := Lib.hid hF
    have KF := Lib.hid (KL.out (byt l 0))
    rw [hF] at KF
    clear hF
    have HN := Lib.hid (fun h => name_yes (l := l) ⟨h0, by omega⟩ HF.out h)
    have HX := Lib.hid (fun j (hj : j < l.length) h => name_no (l := l) hj h)
    obtain ⟨x0, hx0⟩ : ∃ x, byt l 0 = x := ⟨_, rfl⟩
    rw [hx0] at KF e0
    clear hx0
    go_enter Tryd.func60, Tryd.ntmps60
    go_wp2_with fail
    refine (KF.out _).mono ?_
    rintro e w' ⟨rfl, rfl⟩
    clear e0 KF
    go_wp2_with fail
    go_loop [3, 19] (fun _ i => ∃ k : Nat, k ≤ l.length ∧ i = .int .i64 (k : Int) ∧ ∀ j, j < k → chB (byt l j) = true) (fun _ i => l.length - (intOf i).toNat)
    case atStart => exact ⟨0, by omega, rfl, fun j hj => by omega⟩
    case round =>
      obtain ⟨k, hk, rfl, hok⟩ := hrel
      have HOK := Lib.hid hok
      clear hok
      by_cases hlt : k < l.length
      · have gk : k < (⟨l.toArray⟩ : ByteArray).size := by rw [HS]; exact hlt
        have ek : ((((⟨l.toArray⟩ : ByteArray)[k]'gk).toNat : Nat) : Int) = byt l k := str_at l k gk
        have hC : chB (byt l k) = (letB (byt l k) || digB (byt l k) || byt l k == 95) := rfl
        have HXk := Lib.hid (HX.out k hlt)
        have HOK' : Hid (chB (byt l k) = true → ∀ j, j < k + 1 → chB (byt l j) = true) := Lib.hid (fun h j hj => by
          rcases Nat.lt_or_ge j k with h2 | h2
          · exact HOK.out j h2
          · obtain rfl : j = k := by omega
            exact h)
        clear HOK
        obtain ⟨x, hx⟩ : ∃ x, byt l k = x := ⟨_, rfl⟩
        rw [hx] at ek hC HXk HOK'
        clear hx
        have KLx := Lib.hid (KL.out x)
        have KDx := Lib.hid (KD.out x)
        clear KL KD
        cases hl : letB x with
        | true =>
          rw [hl] at KLx
          have HO := Lib.hid (HOK'.out (by rw [hC, hl]; rfl))
          clear hC HOK' HXk hl
          go_wp2_with fail
          refine (KLx.out _).mono ?_
          rintro e w' ⟨rfl, rfl⟩
          go_wp2_with fail
          go_round
          case rel => exact ⟨k + 1, by omega, by go_num, HO.out⟩
          case measure => simp [intOf]; omega
        | false =>
          rw [hl] at KLx
          cases hd : digB x with
          | true =>
            rw [hd] at KDx
            have HO := Lib.hid (HOK'.out (by rw [hC, hl, hd]; rfl))
            clear hC HOK' HXk hl hd
            go_wp2_with fail
            refine (KLx.out _).mono ?_
            rintro e w' ⟨rfl, rfl⟩
            go_wp2_with fail
            refine (KDx.out _).mono ?_
            rintro e w' ⟨rfl, rfl⟩
            go_wp2_with fail
            go_round
            case rel => exact ⟨k + 1, by omega, by go_num, HO.out⟩
            case measure => simp [intOf]; omega
          | false =>
            rw [hd] at KDx
            by_cases h9 : x = 95
            · subst h9
              have HO := Lib.hid (HOK'.out (by rw [hC]; rfl))
              clear hC HOK' HXk hl hd
              go_wp2_with fail
              refine (KLx.out _).mono ?_
              rintro e w' ⟨rfl, rfl⟩
              go_wp2_with fail
              refine (KDx.out _).mono ?_
              rintro e w' ⟨rfl, rfl⟩
              go_wp2_with fail
              go_round
              case rel => exact ⟨k + 1, by omega, by go_num, HO.out⟩
              case measure => simp [intOf]; omega
            · have h9' : (x == 95) = false := by simpa using h9
              have HNk := Lib.hid (HXk.out (by rw [hC, hl, hd, h9']; rfl))
              clear hC HOK' HXk hl hd
              go_wp2_with fail
              refine (KLx.out _).mono ?_
              rintro e w' ⟨rfl, rfl⟩
              go_wp2_with fail
              refine (KDx.out _).mono ?_
              rintro e w' ⟨rfl, rfl⟩
              go_wp2_with fail
              go_ret
              exact ⟨by rw [HNk.out]; rfl, rfl⟩
      · have HNk := Lib.hid (HN.out (fun j hj => HOK.out j (by omega)))
        go_wp2_with fail
        go_ret
        exact ⟨by rw [HNk.out]; rfl, rfl⟩

set_option maxRecDepth 100000 in
set_option maxHeartbeats 1000000 in
theorem rname_any (l : List UInt8) (w : World) (hle : l.length ≤ 1099511627776) :
    Calls Tryd.prog 65 #[.string ⟨l.toArray⟩] w fun e w' => e = .returned (.bool (nameB l)) ∧ w = w' := by
  have HS := siz l
  by_cases hL : 1 ≤ l.length ∧ l.length ≤ 16
  · obtain ⟨h0, h16⟩ := hL
    have g0 : 0 < (⟨l.toArray⟩ : ByteArray).size := by rw [HS]; exact h0
    have e0 : ((((⟨l.toArray⟩ : ByteArray)[0]'g0).toNat : Nat) : Int) = byt l 0 := str_at l 0 g0
    have hB : letB (byt l 0) = (decide (97 ≤ byt l 0) && decide (byt l 0 ≤ 122)) := rfl
    have HNF := Lib.hid (fun h => name_first (l := l) h)
    have HNY := Lib.hid (fun h1 h => name_yes (l := l) ⟨h0, h16⟩ h1 h)
    have HX := Lib.hid (fun j (hj : j < l.length) h => name_no (l := l) hj h)
    obtain ⟨x0, hx0⟩ : ∃ x, byt l 0 = x := ⟨_, rfl⟩
    rw [hx0] at e0 hB HNF HNY
    clear hx0
    rcases (by omega : x0 < 97 ∨ (97 ≤ x0 ∧ 122 < x0) ∨ (97 ≤ x0 ∧ x0 ≤ 122)) with h | ⟨h, h'⟩ | ⟨h, h'⟩
    · have HN := Lib.hid (HNF.out (by rw [hB]; simp; omega))
      have d : decide (x0 < 97) = true := by simpa using h
      clear hB HNF HNY HX
      go_enter Tryd.func65, Tryd.ntmps65
      go_wp2_with fail
      go_ret
      exact ⟨by rw [HN.out]; rfl, rfl⟩
    · have HN := Lib.hid (HNF.out (by rw [hB]; simp; omega))
      have d : decide (x0 < 97) = false := by simp; omega
      have d' : decide (122 < x0) = true := by simpa using h'
      clear hB HNF HNY HX
      go_enter Tryd.func65, Tryd.ntmps65
      go_wp2_with fail
      go_ret
      exact ⟨by rw [HN.out]; rfl, rfl⟩
    · have HN := Lib.hid (HNY.out (by rw [hB]; simp; omega))
      have d : decide (x0 < 97) = false := by simp; omega
      have d' : decide (122 < x0) = false := by simp; omega
      clear hB HNF HNY
      go_enter Tryd.func65, Tryd.ntmps65
      go_wp2_with fail
      clear e0 d d' h h'
      go_loop [3, 4] (fun i _ => ∃ k : Nat, k ≤ l.length ∧ i = .int .i64 (k : Int) ∧ ∀ j, j < k → chB (byt l j) = true) (fun i _ => l.length - (intOf i).toNat)
      case atStart => exact ⟨0, by omega, rfl, fun j hj => by omega⟩
      case round =>
        obtain ⟨k, hk, rfl, hok⟩ := hrel
        have HOK := Lib.hid hok
        clear hok
        by_cases hlt : k < l.length
        · have gk : k < (⟨l.toArray⟩ : ByteArray).size := by rw [HS]; exact hlt
          have ek : ((((⟨l.toArray⟩ : ByteArray)[k]'gk).toNat : Nat) : Int) = byt l k := str_at l k gk
          have hC : Hid (chB (byt l k) = ((decide (97 ≤ byt l k) && decide (byt l k ≤ 122)) || (decide (48 ≤ byt l k) && decide (byt l k ≤ 57)) || byt l k == 95)) := Lib.hid rfl
          have HXk := Lib.hid (HX.out k hlt)
          have HOK' : Hid (chB (byt l k) = true → ∀ j, j < k + 1 → chB (byt l j) = true) := Lib.hid (fun h j hj => by
            rcases Nat.lt_or_ge j k with h2 | h2
            · exact HOK.out j h2
            · obtain rfl : j = k := by omega
              exact h)
          clear HOK
          obtain ⟨x, hx⟩ : ∃ x, byt l k = x := ⟨_, rfl⟩
          rw [hx] at ek hC HXk HOK'
          clear hx
          by_cases hc : chB x = true
          · have HO := Lib.hid (HOK'.out hc)
            have h3 : (97 ≤ x ∧ x ≤ 122) ∨ (¬ (97 ≤ x ∧ x ≤ 122) ∧ (48 ≤ x ∧ x ≤ 57)) ∨ x = 95 := by
              have := hC.out
              rw [hc] at this
              simp at this
              omega
            clear hC HOK' HXk hc
            rcases h3 with ⟨h, h'⟩ | ⟨h, h', h2⟩ | rfl
            · have d : decide (97 ≤ x) = true := by simpa using h
              have d' : decide (x ≤ 122) = true := by simpa using h'
              go_wp2_with fail
              go_round
              case rel => exact ⟨k + 1, by omega, by go_num, HO.out⟩
              case measure => simp [intOf]; omega
            · have d : decide (97 ≤ x) = false := by simp; omega
              have d1 : decide (48 ≤ x) = true := by simpa using h'
              have d' : decide (x ≤ 57) = true := by simpa using h2
              clear h
              go_wp2_with fail
              go_round
              case rel => exact ⟨k + 1, by omega, by go_num, HO.out⟩
              case measure => simp [intOf]; omega
            · go_wp2_with fail
              go_round
              case rel => exact ⟨k + 1, by omega, by go_num, HO.out⟩
              case measure => simp [intOf]; omega
          · have hc' : chB x = false := by simpa using hc
            have HNk := Lib.hid (HXk.out hc')
            have h3 : (x < 48 ∨ (57 < x ∧ x < 97 ∧ x ≠ 95) ∨ 122 < x) := by
              have := hC.out
              rw [hc'] at this
              simp at this
              omega
            clear hC HOK' HXk hc hc'
            rcases h3 with h | ⟨h, h', h2⟩ | h
            · have d : decide (97 ≤ x) = false := by simp; omega
              have d1 : decide (48 ≤ x) = false := by simp; omega
              have d2 : (x != 95) = true := by simp; omega
              go_wp2_with fail
              go_ret
              exact ⟨by rw [HNk.out]; rfl, rfl⟩
            · have d : decide (97 ≤ x) = false := by simp; omega
              have d1 : decide (48 ≤ x) = true := by simp; omega
              have d' : decide (x ≤ 57) = false := by simp; omega
              have d2 : (x != 95) = true := by simpa using h2
              go_wp2_with fail
              go_ret
              exact ⟨by rw [HNk.out]; rfl, rfl⟩
            · have d : decide (97 ≤ x) = true := by simp; omega
              have d3 : decide (x ≤ 122) = false := by simp; omega
              have d1 : decide (48 ≤ x) = true := by simp; omega
              have d' : decide (x ≤ 57) = false := by simp; omega
              have d2 : (x != 95) = true := by simp; omega
              go_wp2_with fail
              go_ret
              exact ⟨by rw [HNk.out]; rfl, rfl⟩
        · have HNk := Lib.hid (HN.out (fun j hj => HOK.out j (by omega)))
          go_wp2_with fail
          go_ret
          exact ⟨by rw [HNk.out]; rfl, rfl⟩
  · have HN := Lib.hid (name_len (l := l) hL)
    rcases (by omega : l.length = 0 ∨ 16 < l.length) with h | h
    · clear hL
      have e : ((l.length : Nat) : Int) = 0 := by omega
      have d : decide (((l.length : Nat) : Int) < 1) = true := by rw [e]; rfl
      go_enter Tryd.func65, Tryd.ntmps65
      go_wp2_with fail
      go_ret
      exact ⟨by rw [HN.out]; rfl, rfl⟩
    · clear hL
      have d : decide (((l.length : Nat) : Int) < 1) = false := by simp; omega
      have d' : decide (16 < ((l.length : Nat) : Int)) = true := by simp; omega
      go_enter Tryd.func65, Tryd.ntmps65
      go_wp2_with fail
      go_ret
      exact ⟨by rw [HN.out]; rfl, rfl⟩
end Ent
end Go.Proofs.YtcbffoablononaaDoor
