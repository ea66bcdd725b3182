/-
  What the document's functions for package sum32 do: On, Sum, Seal, Open.
-/
import Derived.Test.YtkkbjngjjeajoaaProg
import Derived.Test.YtkkbjngjjeajoaaSumSeal
import Derived.Test.YtkkbjngjjeajoaaOctRef
namespace Go.Proofs.Ytkkbjngjjeajoaa
open Go.RowKit Mem
set_option linter.unusedVariables false
set_option maxRecDepth 100000

set_option maxHeartbeats 400000 in
theorem ron_any (A : Option Addr) (n c B : Nat) (bs : List UInt8) (s : Nat) (w : World) (hs : s < 4294967296) (hr : Rd w B A bs) (hn : n = bs.length) (hle : n ≤ 1099511627776) :
    Calls Try.prog 125 #[.int .u32 (s : Int), .slice A n c] w fun e w' => e = .returned (.int .u32 (Sum.on s bs : Nat)) ∧ w = w' := by
  subst hn
  have hfl := Lib.hid (Sum.flip_sub hs)
  go_enter Try.func125, Try.ntmps125
  go_wp2_with fail
  go_loop [5, 6] (fun r i => ∃ k : Nat, k ≤ bs.length ∧ i = .int .i64 k ∧ r = .int .i64 (Sum.crc (Sum.M ^^^ s) (bs.take k) : Nat)) (fun _ i => bs.length - (intOf i).toNat)
  case atStart => exact ⟨0, by omega, rfl, by rw [List.take_zero, Sum.crc_nil]; exact Oct.vi (by have := hfl.out; omega)⟩
  case round =>
    obtain ⟨k, hk, rfl, rfl⟩ := hrel
    by_cases hlt : k < bs.length
    · obtain ⟨g, off, rfl, hg, hc⟩ := hr.at_ (k := k) hlt
      have hx := byt_bd bs k
      obtain ⟨R, hR⟩ : ∃ R, R = Sum.crc (Sum.M ^^^ s) (bs.take k) := ⟨_, rfl⟩
      have hRl : R < 4294967296 := by rw [hR]; exact Sum.crc_lt _ (Sum.flip_lt hs)
      have hRh := Lib.hid hR
      rw [← hR]
      clear hR
      go_wp2_with fail
      go_loop [5, 7, 8] (fun r c i => ∃ j : Nat, j ≤ 8 ∧ i = .int .i64 j ∧ r = .int .i64 (Sum.tkn R (byt bs k).toNat j : Nat) ∧ c = .int .i64 ((byt bs k).toNat / 2 ^ j : Nat)) (fun _ _ i => 8 - (intOf i).toNat)
      case atStart => exact ⟨0, by omega, rfl, rfl, Oct.vi (by simp; omega)⟩
      case round =>
        obtain ⟨j, hj, rfl, rfl, rfl⟩ := hrel
        by_cases hj8 : j < 8
        · obtain ⟨T, hT⟩ : ∃ T, T = Sum.tkn R (byt bs k).toNat j := ⟨_, rfl⟩
          obtain ⟨X, hX⟩ : ∃ X, X = (byt bs k).toNat / 2 ^ j := ⟨_, rfl⟩
          have hTl : T < 4294967296 := by rw [hT]; exact Sum.tkn_lt _ _ hRl
          have hXl : X < 256 := by rw [hX]; exact Nat.lt_of_le_of_lt (Nat.div_le_self _ _) (by omega)
          have hTh := Lib.hid hT
          have hXh := Lib.hid hX
          rw [← hT, ← hX]
          clear hT hX
          go_wp2_with fail
          · rename_i hsel
            refine ⟨⟨j + 1, by omega, by go_num, Oct.vi ?_, Oct.vi ?_⟩, by simp [intOf]; omega⟩
            · rw [Sum.rsel_yes hTl hsel, hTh.out, hXh.out]; rfl
            · rw [hXh.out, Sum.half_pow]
          · rename_i hsel
            refine ⟨⟨j + 1, by omega, by go_num, Oct.vi ?_, Oct.vi ?_⟩, by simp [intOf]; omega⟩
            · rw [Sum.rsel_no hsel, hTh.out, hXh.out]; rfl
            · rw [hXh.out, Sum.half_pow]
        · obtain rfl : j = 8 := by omega
          go_wp2_with fail
          refine ⟨⟨k + 1, by omega, by go_num, Oct.vi ?_⟩, by simp [intOf]; omega⟩
          rw [Sum.crc_take _ hlt, ← hRh.out]
          rfl
    · obtain rfl : k = bs.length := by omega
      rw [List.take_length]
      have hL := Sum.crc_lt bs (Sum.flip_lt hs)
      have hF := Lib.hid (Sum.flip_sub hL)
      have hO := Lib.hid (show Sum.on s bs = Sum.M ^^^ Sum.crc (Sum.M ^^^ s) bs from rfl)
      generalize Sum.crc (Sum.M ^^^ s) bs = C at hL hF hO ⊢
      go_wp2_with fail
      go_ret
      refine ⟨Oct.reti ?_, rfl⟩
      rw [hO.out, hF.out]
      omega

set_option maxHeartbeats 400000 in
theorem rsum_any (A : Option Addr) (n c B : Nat) (bs : List UInt8) (w : World) (hr : Rd w B A bs) (hn : n = bs.length) (hle : n ≤ 1099511627776) :
    Calls Try.prog 108 #[.slice A n c] w fun e w' => e = .returned (.int .u32 (Sum.on 0 bs : Nat)) ∧ w = w' := by
  have hN := Lib.hid hn
  clear hn
  go_enter Try.func108, Try.ntmps108
  go_wp2_with fail
  refine (ron_any A n c B bs 0 w (by decide) hr hN.out hle).mono ?_
  rintro e w' ⟨rfl, rfl⟩
  go_wp2_with fail
  go_ret
  exact ⟨rfl, rfl⟩

set_option maxHeartbeats 400000 in
theorem rseal_any (A : Option Addr) (n c : Nat) (bs : List UInt8) (w : World) (hr : Rd w w.heap.size A bs) (hn : n = bs.length) (hle : n ≤ 1099511627776) :
    Calls Try.prog 79 #[.slice A n c] w (Made 5 w (Sum.seal_ bs) id) := by
  have hN := Lib.hid hn
  clear hn
  have hSl := Sum.on_lt (s := 0) bs (by decide)
  go_enter Try.func79, Try.ntmps79
  go_wp2_with fail
  refine (rsum_any A n c _ bs w hr hN.out hle).mono ?_
  rintro e w' ⟨rfl, rfl⟩
  go_wp2_with fail
  refine (rput_ok A n c bs 4 _ w hr hN.out hle (by omega) (by omega) (by omega) (show ((Sum.on 0 bs : Nat) : Int) < 256 ^ 4 by omega)).mono ?_
  rintro e w2 ⟨v2, rfl, o2, b2⟩
  unfold pairOk
  go_wp2_with fail
  go_ret
  exact ⟨v2, rfl, o2, b2⟩

set_option maxHeartbeats 400000 in
theorem ropen_short (A : Option Addr) (n c : Nat) (w : World) (h : n < 4) :
    Calls Try.prog 140 #[.slice A n c] w fun e w' => e = .returned (.tuple #[.slice none 0 0, .int .i64 2]) ∧ w = w' := by
  go_enter Try.func140, Try.ntmps140
  go_wp2_with fail
  go_ret2
  exact ⟨rfl, rfl⟩

set_option maxHeartbeats 400000 in
theorem ropen_long (A : Option Addr) (n c : Nat) (bs : List UInt8) (w : World) (hr : Rd w w.heap.size A bs) (hn : n = bs.length) (hle : n ≤ 1099511627776) (hcap : n ≤ c) (hc : c ≤ maxLen) (h4 : 4 ≤ n) :
    Calls Try.prog 140 #[.slice A n c] w (Ans 5 w (Sum.openA bs)) := by
  subst hn
  obtain ⟨i0, hi, hz0, hz1, hz2⟩ := info_parts info_u8
  obtain ⟨g, off, rfl, _, _⟩ := hr.at_ (k := 0) (by omega)
  have hrt : Rd w w.heap.size (some ⟨g, off, none⟩) (bs.take (bs.length - 4)) := hr.take _
  have hl := Lib.hid (show bs.length - 4 = (bs.take (bs.length - 4)).length by simp)
  have hsl := Lib.hid (Sum.seal_length (bs.take (bs.length - 4)))
  have hO : Sum.openA bs = if Sum.seal_ (bs.take (bs.length - 4)) = bs then (bs.take (bs.length - 4), 0) else ([], 5) := by
    have h1 := Sum.open_iff h4
    unfold Sum.openA
    rw [if_neg (by omega)]
    by_cases h2 : Sum.seal_ (bs.take (bs.length - 4)) = bs
    · rw [if_pos h2, if_pos (h1.2 h2)]
    · rw [if_neg h2, if_neg (fun h => h2 (h1.1 h))]
  rw [hO]
  clear hO
  generalize bs.take (bs.length - 4) = xs at hrt hl hsl ⊢
  unfold maxLen at hc
  have s2 := run_str hr.drew bs.length c rfl 22 5 9 Try.underlying22 Try.underlying5 Try.underlying9
  by_cases h2 : Sum.seal_ xs = bs
  · rw [if_pos h2]
    have hq : (Sum.seal_ xs == bs) = true := by rw [h2]; simp
    clear h2
    go_enter Try.func140, Try.ntmps140
    go_wp2_with fail
    go_region_with (go_at_call 79; refine (rseal_any _ _ _ xs _ (hrt.drewN 1) hl.out (by omega)).mono ?_; rintro e w1 ⟨v1, rfl, o1, b1⟩; obtain ⟨A1, c1, rfl, r1⟩ := o1.form; have s1 := run_str r1 _ c1 rfl 22 5 9 Try.underlying22 Try.underlying5 Try.underlying9; have s3 := run_str (hr.drew.below b1) bs.length c rfl 22 5 9 Try.underlying22 Try.underlying5 Try.underlying9)
    all_goals
      have B1 : Below w.heap.size w w1 := ⟨b1.os, b1.tape, b1.output, b1.size, b1.block⟩
      have R1 := (hrt.below B1).mono B1.size
      clear s1 s2 s3 r1 o1 b1 hr hrt
      go_wp2_with (at_builtin; refine wpList_app _ rfl (.tmp 20) (.tmp 23) 22 rfl w1.heap.size 5 i0 Try.underlying22 hi hz0 hz1 hz2 (.slice none 0 0) [] rfl (Own.nil _ _ _) (some ⟨g, off, none⟩) (bs.length - 4) c xs rfl hl.out w1.heap.size R1 (by have := hl.out; simp; omega) (Nat.le_refl _) ?_; intro v2 w2 o2 g2 t2; simp only [List.nil_append] at o2)
      go_ret2
      exact ⟨v2, rfl, o2.lower B1.size, B1.grown g2 B1.size (by simp [Value.ownBlock])⟩
  · rw [if_neg h2]
    have hq : (Sum.seal_ xs == bs) = false := by simpa using h2
    clear h2
    go_enter Try.func140, Try.ntmps140
    go_wp2_with fail
    go_region_with (go_at_call 79; refine (rseal_any _ _ _ xs _ (hrt.drewN 1) hl.out (by omega)).mono ?_; rintro e w1 ⟨v1, rfl, o1, b1⟩; obtain ⟨A1, c1, rfl, r1⟩ := o1.form; have s1 := run_str r1 _ c1 rfl 22 5 9 Try.underlying22 Try.underlying5 Try.underlying9; have s3 := run_str (hr.drew.below b1) bs.length c rfl 22 5 9 Try.underlying22 Try.underlying5 Try.underlying9)
    all_goals
      have B1 : Below w.heap.size w w1 := ⟨b1.os, b1.tape, b1.output, b1.size, b1.block⟩
      clear s1 s2 s3 r1 o1 b1 hr hrt
      go_wp2_with fail
      go_ret2
      exact ⟨_, rfl, Own.nil _ _ _, B1⟩

theorem ropen_any (A : Option Addr) (n c : Nat) (bs : List UInt8) (w : World) (hr : Rd w w.heap.size A bs) (hn : n = bs.length) (hle : n ≤ 1099511627776) (hcap : n ≤ c) (hc : c ≤ maxLen) :
    Calls Try.prog 140 #[.slice A n c] w (Ans 5 w (Sum.openA bs)) := by
  by_cases h : n < 4
  · refine (ropen_short A n c w h).mono fun e w' ⟨he, hw⟩ => ?_
    subst hw
    have : Sum.openA bs = ([], 2) := by unfold Sum.openA; rw [if_pos (by omega)]
    rw [this]
    exact ⟨_, he, Own.nil _ _ _, Below.refl _ _⟩
  · exact ropen_long A n c bs w hr hn hle hcap hc (by omega)

end Go.Proofs.Ytkkbjngjjeajoaa
