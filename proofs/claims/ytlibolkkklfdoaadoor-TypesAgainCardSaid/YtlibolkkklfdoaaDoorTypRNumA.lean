/-
  The document's Number: a number in digits, as strconv's.
-/
import Derived.Test.YtlibolkkklfdoaaDoorTypNum
import Derived.Test.YtlibolkkklfdoaaDoorTypKnown
import Derived.Lib.ItoaLen
namespace Go.Proofs.YtlibolkkklfdoaaDoor
open Go.RowKit Mem
set_option linter.unusedVariables false

/-- Digits still to write, and digits written. -/
structure NI (N u : Nat) (L : List UInt8) : Prop where
  more : 0 < u → Lib.decDigits N = Lib.decDigits u ++ L
  done : u = 0 → Lib.decDigits N = L
theorem NI.start {N : Nat} (h : 0 < N) : NI N N [] := ⟨fun _ => by simp, fun e => by omega⟩
theorem NI.len {N u : Nat} {L : List UInt8} (I : NI N u L) : L.length ≤ (Lib.decDigits N).length := by
  rcases Nat.eq_zero_or_pos u with h | h
  · rw [I.done h]; exact Nat.le_refl _
  · rw [I.more h]; simp
theorem NI.step {N u : Nat} {L : List UInt8} (I : NI N u L) (h : 0 < u) : NI N (u / 10) (UInt8.ofNat (48 + u % 10) :: L) := by
  have hm := I.more h
  by_cases h10 : u < 10
  · have e : Lib.decDigits u = [UInt8.ofNat (48 + u)] := by rw [Lib.decDigits, dif_pos h10]
    rw [e] at hm
    exact ⟨fun e => by omega, fun _ => by rw [hm, Nat.mod_eq_of_lt h10]; rfl⟩
  · have e : Lib.decDigits u = Lib.decDigits (u / 10) ++ [UInt8.ofNat (48 + u % 10)] := by rw [Lib.decDigits, dif_neg h10]
    rw [e] at hm
    exact ⟨fun _ => by rw [hm]; simp, fun e => by omega⟩
theorem dig10_at : ∀ d : Nat, d < 10 → (⟨#[48, 49, 50, 51, 52, 53, 54, 55, 56, 57]⟩ : ByteArray).extract d (d + 1) = ⟨#[UInt8.ofNat (48 + d)]⟩ := by
  intro d h
  have : ∀ n : Fin 10, (⟨#[48, 49, 50, 51, 52, 53, 54, 55, 56, 57]⟩ : ByteArray).extract n.val (n.val + 1) = ⟨#[UInt8.ofNat (48 + n.val)]⟩ := by decide +kernel
  exact this ⟨d, h⟩
theorem ext10_0 : (⟨#[48, 49, 50, 51, 52, 53, 54, 55, 56, 57]⟩ : ByteArray).extract 0 1 = ⟨[48].toArray⟩ := dig10_at 0 (by decide)
theorem slice_dec {P : Program} {w : World} {d : Nat} (t : TypeId) (ht : P.underlying t = some .string) (h : d < 10) :
    (Instr.slice t (.string ⟨#[48, 49, 50, 51, 52, 53, 54, 55, 56, 57]⟩) (some (.int .i64 (d : Int))) (some (.int .i64 ((d : Int) + 1))) none).run P w = .ok (.string ⟨#[UInt8.ofNat (48 + d)]⟩) w := by
  rw [run_slice_string w t _ .i64 .i64 (d : Int) ((d : Int) + 1) ht (by omega) (by omega) (by show (d : Int) + 1 ≤ (10 : Nat); omega)]
  rw [Int.toNat_natCast, show ((d : Int) + 1).toNat = d + 1 by omega, dig10_at d h]
theorem itoa_len {n : Int} (h0 : -9223372036854775808 ≤ n) (h1 : n ≤ 9223372036854775807) : (Lib.decDigits n.natAbs).length ≤ 21 := by
  have := Lib.itoa_length_le n h0 h1
  unfold Lib.itoa at this
  split at this
  · simp at this; omega
  · rw [show n.toNat = n.natAbs by omega] at this; exact this

set_option maxRecDepth 100000 in
set_option maxHeartbeats 2000000 in
theorem rNumber_zero (w : World) :
    Calls Tryd.prog 54 #[.int .i64 0] w fun e w' => e = .returned (.string ⟨(Lib.itoa 0).toArray⟩) ∧ Below w.heap.size w w' := by
  have HZ : Hid (Lib.itoa 0 = [48]) := Lib.hid (by unfold Lib.itoa; rw [if_neg (by decide)]; exact Lib.decDigits_one (by decide))
  go_enter Tryd.func54, Tryd.ntmps54
  go_wp2_with fail
  go_ret
  exact ⟨by rw [HZ.out]; rfl, Below.refl _ _⟩
end Go.Proofs.YtlibolkkklfdoaaDoor
