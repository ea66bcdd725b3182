/-
  The fixed calls that every statement of layer 1 makes come out as they must.
-/
import Derived.Test.YtepcfpfgmmkegaaProg
import Derived.Test.YtepcfpfgmmkegaaOctHex
import Derived.Test.YtepcfpfgmmkegaaOctGet
namespace Go.Proofs.Ytepcfpfgmmkegaa
open Go.RowKit Mem
set_option linter.unusedVariables false

theorem known_a : ([] : List UInt8) ++ Oct.bytes 258 (2 : Int).toNat = [2, 1] := by decide +kernel
theorem known_b : ([] : List UInt8) ++ Oct.bytes (-2) (2 : Int).toNat = [254, 255] := by decide +kernel
theorem known_n : Oct.sgn 501 8 = -11 := by decide +kernel
theorem known_c : Oct.unhex [48, 97, 102, 102] = some [10, 255] := by decide +kernel
theorem known_h : Oct.hex [10, 255] = [48, 97, 102, 102] := by decide +kernel
theorem known_f : Oct.fits (-2) 2 := ⟨by decide, by decide⟩
theorem known_i : ¬ Oct.fits 128 1 := fun h => absurd h.2 (by decide)

set_option maxHeartbeats 400000 in
theorem known_any (w : World) : Calls Try.prog 9 #[] w fun e w' => e = .returned (.bool true) ∧ Below w.heap.size w w' := by
  go_enter Try.func9, Try.ntmps9
  go_wp2_with fail
  refine (put_ok none 0 0 [] 2 258 w Rd.nil rfl (by omega) (by omega) (by omega) (by omega) (by decide)).mono ?_
  rintro e w1 ⟨v1, rfl, o1, b1⟩
  rw [known_a] at o1
  obtain ⟨A1, c1, rfl, r1⟩ := o1.form
  clear o1
  unfold pairOk
  go_wp2_with fail
  refine (putInt_ok none 0 0 [] 2 (-2) w1 Rd.nil rfl (by omega) (by omega) (by omega) (by omega) (by omega) known_f).mono ?_
  rintro e w2 ⟨v2, rfl, o2, b2⟩
  rw [known_b] at o2
  obtain ⟨A2, c2, rfl, r2⟩ := o2.form
  clear o2
  unfold pairOk
  replace r1 := (r1.below b2).mono b2.size
  replace b1 := b1.trans (b2.mono b1.size)
  clear b2
  go_wp2_with fail
  refine (sign_ok 501 8 w2 (by omega) (by omega) (by omega) (by omega)).mono ?_
  rintro e w' ⟨rfl, rfl⟩
  rw [known_n]
  go_wp2_with fail
  refine (unhex_any [48, 97, 102, 102] w2 (by simp)).mono ?_
  rintro e w3 ⟨hu, _, b3⟩
  obtain ⟨v3, rfl, o3⟩ := hu _ known_c
  obtain ⟨A3, c3, rfl, r3⟩ := o3.form
  clear o3 hu
  unfold pairOk
  replace r1 := (r1.below b3).mono b3.size
  replace r2 := (r2.below b3).mono b3.size
  replace b1 := b1.trans (b3.mono b1.size)
  clear b3
  go_wp2_with fail
  refine (putInt_far none 0 0 1 128 w3 (by omega) (by omega) (by omega) (by omega) known_i).mono ?_
  rintro e w' ⟨rfl, rfl⟩
  have s1 := run_str r1 2 c1 rfl 22 5 9 Try.underlying22 Try.underlying5 Try.underlying9
  have s2 := run_str r2 2 c2 rfl 22 5 9 Try.underlying22 Try.underlying5 Try.underlying9
  go_wp2_with fail
  refine (hex_any _ 2 _ [10, 255] _ r3 rfl (by decide)).mono ?_
  rintro e w4 ⟨rfl, b4⟩
  rw [known_h]
  replace b1 := b1.trans (b4.mono b1.size)
  clear b4 s1 s2 r1 r2 r3
  go_wp2_with fail
  go_ret
  exact ⟨rfl, b1⟩

end Go.Proofs.Ytepcfpfgmmkegaa
