/-
  The fixed calls that every statement of layer 2 makes come out as they must.
-/
import Derived.Test.YtnlpnnijheamfaaProg
import Derived.Test.YtnlpnnijheamfaaSumSeal
import Derived.Lib.SlBytesConst
namespace Go.Proofs.Ytnlpnnijheamfaa
open Go.RowKit Mem
set_option linter.unusedVariables false

/-- A new slice that is built of bytes. -/
theorem Mem.Rd.newL (w : World) (t : TypeId) (bs : List UInt8) {cs : Array Value} {fr : Nat × Nat} (h : cs = (u8s bs).toArray) : Rd (w.alloc (.cells cs t fr)) (w.alloc (.cells cs t fr)).heap.size (some ⟨w.heap.size, 0, none⟩) bs := by
  subst h
  refine .inr ⟨w.heap.size, 0, rfl, by simp, fun j hj => ?_⟩
  have h1 := u8s_at hj
  rw [Nat.zero_add]
  simp only [World.cell?, heap_alloc_new]
  simpa using h1

theorem known_0 : Sum.openA [0, 0, 0, 0] = ([], 0) := by decide +kernel
theorem known_1 : Sum.openA [0, 0, 0, 1] = ([], 5) := by decide +kernel
theorem known_s : Sum.on 0 [49, 50, 51, 52, 53, 54, 55, 56, 57] = 3421780262 := by decide +kernel
theorem known_e : Sum.seal_ [] = [0, 0, 0, 0] := by decide +kernel

set_option maxHeartbeats 400000 in
theorem known_any (w : World) : Calls Try.prog 8 #[] w fun e w' => e = .returned (.bool true) ∧ Below w.heap.size w w' := by
  have cv := fun (w : World) (C : Array Value) (n c : Nat) => Lib.run_convert_bytes_const (P := Try.prog) w 23 5 C n c Try.underlying23 Try.underlying5
  go_enter Try.func8, Try.ntmps8
  go_wp2_with fail
  refine (open_any _ 4 _ [0, 0, 0, 0] _ (Rd.newL w _ _ rfl) rfl (by omega) (by omega) (by simp [maxLen])).mono ?_
  rintro e w1 ⟨v1, rfl, o1, b1⟩
  rw [known_0] at o1 ⊢
  obtain ⟨A1, c1, rfl, _⟩ := o1.form
  have B1 : Below w.heap.size w w1 := ((Below.refl _ _).alloc (Nat.le_refl _) _).trans (b1.mono (by simp))
  clear o1 b1
  go_wp2_with fail
  refine (open_any _ 4 _ [0, 0, 0, 1] _ (Rd.newL w1 _ _ rfl) rfl (by omega) (by omega) (by simp [maxLen])).mono ?_
  rintro e w2 ⟨v2, rfl, o2, b2⟩
  rw [known_1] at o2 ⊢
  obtain ⟨A2, c2, rfl, _⟩ := o2.form
  have B2 : Below w.heap.size w w2 := (B1.alloc B1.size _).trans (b2.mono (by have := B1.size; simp; omega))
  clear o2 b2 B1
  go_wp2_with fail
  refine (sum_any _ 9 _ [49, 50, 51, 52, 53, 54, 55, 56, 57] _ (Rd.newL w2 _ _ rfl) rfl (by omega)).mono ?_
  rintro e w3 ⟨rfl, b3⟩
  rw [known_s]
  have B3 : Below w.heap.size w w3 := (B2.alloc B2.size _).trans (b3.mono (by have := B2.size; simp; omega))
  clear b3 B2
  go_wp2_with fail
  refine (seal_any none 0 0 [] w3 Rd.nil rfl (by omega)).mono ?_
  rintro e w4 ⟨v4, rfl, o4, b4⟩
  rw [known_e] at o4
  obtain ⟨A4, c4, rfl, _⟩ := o4.form
  have B4 : Below w.heap.size w w4 := B3.trans (b4.mono B3.size)
  clear o4 b4 B3
  unfold id
  go_wp2_with fail
  go_ret
  exact ⟨rfl, B4⟩

end Go.Proofs.Ytnlpnnijheamfaa
