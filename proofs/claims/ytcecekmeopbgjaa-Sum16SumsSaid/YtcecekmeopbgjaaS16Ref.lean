/-
  What the document's functions for package sum16 do: On, Sum.
-/
import Derived.Test.YtcecekmeopbgjaaProg
import Derived.Test.YtcecekmeopbgjaaS16On
namespace Go.Proofs.Ytcecekmeopbgjaa
namespace S16
open Go.RowKit Mem
set_option linter.unusedVariables false

theorem vi {a b : Int} (h : a = b) : Value.int .i64 a = .int .i64 b := by rw [h]

theorem ref_bit {r x p : Nat} (hr : r < 65536) (hx : x ≤ 255) : (((r : Int) / 32768) != (wrap64 ((x : Int) / (p : Int))).tmod 2) = !decide (r / 32768 = x / p % 2) := by
  have h0 : x / p ≤ x := Nat.div_le_self _ _
  rw [show ((x : Int) / (p : Int)) = ((x / p : Nat) : Int) by simp]
  generalize x / p = q at h0 ⊢
  rw [show wrap64 ((q : Nat) : Int) = (q : Int) by unfold wrap64; omega, Int.tmod_eq_emod_of_nonneg (by omega), show ((r : Int) / 32768) = ((r / 32768 : Nat) : Int) by omega, show ((q : Nat) : Int) % 2 = ((q % 2 : Nat) : Int) by omega]
  by_cases h : r / 32768 = q % 2
  · rw [h]; simp
  · have h2 : ¬ ((r / 32768 : Nat) : Int) = ((q % 2 : Nat) : Int) := by omega
    simp only [h, decide_false, Bool.not_false, bne_iff_ne, ne_eq]
    exact h2

set_option maxHeartbeats 400000 in
theorem ron_any (A : Option Addr) (n c B : Nat) (bs : List UInt8) (s : Nat) (w : World) (hs : s < 65536) (hr : Rd w B A bs) (hn : n = bs.length) (hle : n ≤ 1099511627776) :
    Calls Try.prog 10 #[.int .u16 (s : Int), .slice A n c] w fun e w' => e = .returned (.int .u16 (on s bs : Nat)) ∧ w = w' := by
  subst hn
  go_enter Try.func10, Try.ntmps10
  go_wp2_with fail
  go_loop [5, 6] (fun r i => ∃ k : Nat, k ≤ bs.length ∧ i = .int .i64 k ∧ r = .int .i64 (on s (bs.take k) : Nat)) (fun _ i => bs.length - (intOf i).toNat)
  case atStart => exact ⟨0, by omega, rfl, by rw [List.take_zero, on_nil]⟩
  case round =>
    obtain ⟨k, hk, rfl, rfl⟩ := hrel
    by_cases hlt : k < bs.length
    · obtain ⟨g, off, rfl, hg, hc⟩ := hr.at_ (k := k) hlt
      have hx := byt_bd bs k
      obtain ⟨R, hR⟩ : ∃ R, R = on s (bs.take k) := ⟨_, rfl⟩
      have hRl : R < 65536 := by rw [hR]; exact on_lt _ hs
      have hRh := Lib.hid hR
      rw [← hR]
      clear hR
      obtain ⟨X, hX⟩ : ∃ X : Nat, byt bs k = X := Int.eq_ofNat_of_zero_le hx.1
      have hXh := Lib.hid hX
      rw [hX] at hc hx
      clear hX
      go_wp2_with fail
      go_loop [5, 7, 8] (fun r p i => ∃ j : Nat, j ≤ 8 ∧ i = .int .i64 j ∧ r = .int .i64 (tkn R X j : Nat) ∧ p = .int .i64 (128 / 2 ^ j : Nat)) (fun _ _ i => 8 - (intOf i).toNat)
      case atStart => exact ⟨0, by omega, rfl, rfl, rfl⟩
      case round =>
        obtain ⟨j, hj, rfl, rfl, rfl⟩ := hrel
        by_cases hj8 : j < 8
        · obtain ⟨T, hT⟩ : ∃ T, T = tkn R X j := ⟨_, rfl⟩
          obtain ⟨p, hp⟩ : ∃ p, p = 128 / 2 ^ j := ⟨_, rfl⟩
          have hp7 := Lib.hid (show 128 / 2 ^ j = 2 ^ (7 - j) by rw [show (128 : Nat) = 2 ^ 7 from rfl, Nat.pow_div (by omega) (by decide)])
          have hp1 : 1 ≤ p ∧ p ≤ 128 := by
            rw [hp, hp7.out]
            exact ⟨Nat.two_pow_pos _, Nat.pow_le_pow_right (n := 2) (j := 7) (by decide) (by omega)⟩
          have hTl : T < 65536 := by rw [hT]; exact tkn_lt _ _ hRl
          have hTh := Lib.hid hT
          have hph := Lib.hid hp
          rw [← hT, ← hp]
          clear hT hp
          have hsel := Lib.hid (ref_bit (r := T) (x := X) (p := p) hTl (by omega))
          have htk := Lib.hid (tk_if hTl (show X / p % 2 < 2 from Nat.mod_lt _ (by decide)))
          have hstep := Lib.hid (show tkn R X (j + 1) = tk T (X / p % 2) by rw [hTh.out, hph.out, hp7.out]; rfl)
          have hpn := Lib.hid (show ((p : Nat) : Int) / 2 = ((128 / 2 ^ (j + 1) : Nat) : Int) by rw [hph.out]; exact Sum.half_pow 128 j)
          by_cases hq : T / 32768 = X / p % 2
          · have hq1 : (((T : Int) / 32768) != (wrap64 ((X : Int) / (p : Int))).tmod 2) = false := by rw [hsel.out]; simp [hq]
            have hv := Lib.hid (show ((tkn R X (j + 1) : Nat) : Int) = (T : Int) * 2 % 65536 by rw [hstep.out, htk.out, if_pos hq]; omega)
            clear hq
            go_wp2_with fail
            refine ⟨⟨j + 1, by omega, by go_num, vi ?_, vi hpn.out⟩, by simp [intOf]; omega⟩
            rw [hv.out]
          · have hq1 : (((T : Int) / 32768) != (wrap64 ((X : Int) / (p : Int))).tmod 2) = true := by rw [hsel.out]; simp [hq]
            have hv := Lib.hid (show ((tkn R X (j + 1) : Nat) : Int) = bits .xor .i64 ((T : Int) * 2 % 65536) 4129 by
              rw [hstep.out, htk.out, if_neg hq, show ((T : Int) * 2 % 65536) = ((2 * T % 65536 : Nat) : Int) by omega, show (4129 : Int) = ((P : Nat) : Int) from rfl, Sum.i64_xor_nat _ _ (by omega) (by decide)])
            clear hq
            go_wp2_with fail
            refine ⟨⟨j + 1, by omega, by go_num, vi ?_, vi hpn.out⟩, by simp [intOf]; omega⟩
            rw [hv.out]
        · obtain rfl : j = 8 := by omega
          go_wp2_with fail
          refine ⟨⟨k + 1, by omega, by go_num, vi ?_⟩, by simp [intOf]; omega⟩
          rw [on_take _ hlt, ← hRh.out, hXh.out]
          rfl
    · obtain rfl : k = bs.length := by omega
      rw [List.take_length]
      have hL := on_lt bs hs
      obtain ⟨C, hC⟩ : ∃ C, C = on s bs := ⟨_, rfl⟩
      have hCh := Lib.hid hC
      rw [← hC] at hL ⊢
      clear hC
      go_wp2_with fail
      go_ret
      rw [← hCh.out]
      exact ⟨rfl, rfl⟩

set_option maxHeartbeats 400000 in
theorem rsum_any (A : Option Addr) (n c B : Nat) (bs : List UInt8) (w : World) (hr : Rd w B A bs) (hn : n = bs.length) (hle : n ≤ 1099511627776) :
    Calls Try.prog 12 #[.slice A n c] w fun e w' => e = .returned (.int .u16 (on 0 bs : Nat)) ∧ w = w' := by
  have hN := Lib.hid hn
  clear hn
  go_enter Try.func12, Try.ntmps12
  go_wp2_with fail
  refine (ron_any A n c B bs 0 w (by decide) hr hN.out hle).mono ?_
  rintro e w' ⟨rfl, rfl⟩
  go_wp2_with fail
  go_ret
  exact ⟨rfl, rfl⟩

end S16
end Go.Proofs.Ytcecekmeopbgjaa
