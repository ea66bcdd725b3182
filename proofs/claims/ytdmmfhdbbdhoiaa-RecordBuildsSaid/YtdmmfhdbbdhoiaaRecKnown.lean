/-
  The fixed calls that every statement of layer 7 makes come out as they must.
-/
import Derived.Test.YtdmmfhdbbdhoiaaProg
import Derived.Test.YtdmmfhdbbdhoiaaRecParse
import Derived.Test.YtdmmfhdbbdhoiaaRecBlank
import Derived.Test.YtdmmfhdbbdhoiaaRecLaid
namespace Go.Proofs.Ytdmmfhdbbdhoiaa
namespace Rec
open Go.RowKit Mem
set_option linter.unusedVariables false

theorem known_1 : parseA (build 2 1 []) 0 = ⟨2, 1, [], 13, 0⟩ := by
  have h := parse_built [] [] [] 2 1 rfl (by omega)
  simpa using h
theorem known_b : blankB [] = true := rfl
theorem known_c : blankB [254] = false := by decide +kernel

/-- Build, in one contract. -/
theorem build_any (k n : Int) (A : Option Addr) (c : Nat) (d : List UInt8) (w : World) (hr : Rd w w.heap.size A d) (k1 : -9223372036854775808 ≤ k) (k2 : k ≤ 9223372036854775807) (n1 : 0 ≤ n) (n2 : n ≤ 4294967295) (hl : d.length ≤ 140737488355328) :
    Calls Try.prog 11 #[rec_ k n (.slice A d.length c)] w (Ans 5 w (buildA k n d)) := by
  unfold buildA
  by_cases he : err k n d.length = 0
  · rw [if_pos he]
    refine (build_ok k n A c d w hr k1 k2 n1 n2 hl he).mono ?_
    rintro e w' ⟨v, rfl, o, b⟩
    exact ⟨v, rfl, o, b⟩
  · rw [if_neg he]
    refine (build_no k n A c d w k1 k2 n1 n2 hl he).mono ?_
    rintro e w' ⟨rfl, b⟩
    exact ⟨_, rfl, Own.nil _ _ _, b⟩

set_option maxRecDepth 100000 in
set_option maxHeartbeats 2000000 in
theorem known_any (w : World) : Calls Try.prog 9 #[] w fun e w' => e = .returned (.bool true) ∧ Below w.heap.size w w' := by
  have h1 := Lib.hid (build_ok 2 1 none 0 [] w Rd.nil (by omega) (by omega) (by omega) (by omega) (by simp) (by decide))
  have hl : (build 2 1 []).length = 13 := by rw [build_length]; rfl
  go_enter Try.func9, Try.ntmps9
  go_wp2_with fail
  refine h1.out.mono ?_
  rintro e w1 ⟨v1, rfl, o1, b1⟩
  obtain ⟨g, cap, hv, hb, hg, hc1, hc2⟩ := o1.some_ (by omega)
  obtain ⟨A1, c1, hv', r1⟩ := o1.form_n hl
  rw [hl] at hv hc1
  subst hv
  injection hv' with q1 q2 q3
  subst q1
  clear q2 q3 o1
  have P := Lib.hid (parse_any (some ⟨g, 0, none⟩) 13 cap 0 (build 2 1 []) w1 r1 hl.symm (by omega) hc1 hc2 (by omega) (by omega))
  rw [known_1] at P
  clear r1
  go_wp2_with fail
  refine P.out.mono ?_
  rintro e w2 ⟨v2, rfl, o2, b2⟩
  obtain ⟨A2, c2, rfl, _⟩ := o2.form
  have B2 := b1.trans (b2.mono b1.size)
  clear b1 b2 o2 P
  go_wp2_with fail
  refine (build_no 2 0 none 0 [] _ (by omega) (by omega) (by omega) (by omega) (by simp) (by decide)).mono ?_
  rintro e w3 ⟨rfl, b3⟩
  have hz2 : ∀ o, w2.heap.size < (w2.alloc o).heap.size := fun o => by rw [World.size_alloc]; omega
  have B2' := B2.alloc B2.size (.cells #[.int .i64 2, .int .u32 1, .slice A2 0 c2] 25)
  have B3 := B2'.trans (b3.mono B2'.size)
  have rb := (b3.block w2.heap.size (hz2 _)).trans (heap_alloc_new w2 (.cells #[.int .i64 2, .int .u32 1, .slice A2 0 c2] 25))
  have q0 := cell_of rb 0
  have q1 := cell_of rb 1
  have q2 := cell_of rb 2
  clear B2 b3 B2' hz2 rb
  rw [show err 2 0 ([] : List UInt8).length = 1 from rfl]
  go_wp2_with fail
  refine (blank_any none 0 0 0 [] w3 Rd.nil rfl (by omega)).mono ?_
  rintro e w' ⟨rfl, rfl⟩
  rw [known_b]
  go_wp2_with fail
  refine (blank_any _ 1 _ _ [254] _ (Rd.newL w3 _ _ rfl) rfl (by omega)).mono ?_
  rintro e w' ⟨rfl, rfl⟩
  rw [known_c]
  have B4 := B3.alloc B3.size (.cells #[.int .u8 254] 5)
  go_wp2_with fail
  go_ret
  exact ⟨rfl, B4⟩

end Rec
end Go.Proofs.Ytdmmfhdbbdhoiaa
