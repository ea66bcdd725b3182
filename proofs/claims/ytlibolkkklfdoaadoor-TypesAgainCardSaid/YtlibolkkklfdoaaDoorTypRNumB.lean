/-
  The document's Number above 0.
-/
import Derived.Test.YtlibolkkklfdoaaDoorTypRNumA
namespace Go.Proofs.YtlibolkkklfdoaaDoor
open Go.RowKit Mem
set_option linter.unusedVariables false

set_option maxRecDepth 100000 in
set_option maxHeartbeats 2000000 in
theorem rNumber_pos (n : Int) (hz : ¬ n = 0) (hneg : ¬ n < 0) (h0 : -9223372036854775808 ≤ n) (h1 : n ≤ 9223372036854775807) (w : World) :
    Calls Tryd.prog 54 #[.int .i64 n] w fun e w' => e = .returned (.string ⟨(Lib.itoa n).toArray⟩) ∧ Below w.heap.size w w' := by
  have hz' : (n == 0) = false := by simpa using hz
  have HLEN := Lib.hid (itoa_len h0 h1)
  obtain ⟨N, rfl⟩ : ∃ N : Nat, n = (N : Int) := ⟨n.natAbs, by omega⟩
  have hN : 0 < N := by omega
  have HI : Hid (Lib.itoa (N : Int) = Lib.decDigits N) := Lib.hid (Lib.itoa_nonneg N)
  rw [show ((N : Int)).natAbs = N by omega] at HLEN
  go_enter Tryd.func54, Tryd.ntmps54
  go_wp2_with fail
  go_loopw [3, 4] (fun s m wr => ∃ (u : Nat) (L : List UInt8), u ≤ N ∧ s = .string ⟨L.toArray⟩ ∧ m = .int .i64 (u : Int) ∧ NI N u L ∧ Below w.heap.size w wr) (fun _ m _ => (intOf m).toNat)
  case atStart => exact ⟨N, [], by omega, rfl, rfl, NI.start hN, Below.refl _ _⟩
  case round =>
    obtain ⟨u, L, huN, rfl, rfl, hI, hb⟩ := hrel
    have HNI := Lib.hid hI
    have hLl : L.length ≤ 21 := Nat.le_trans hI.len HLEN.out
    have HB := Lib.hid hb
    clear hI hb
    by_cases hu : u = 0
    · subst hu
      have HD := Lib.hid (HNI.out.done rfl)
      go_wp2_with fail
      go_ret
      exact ⟨by rw [HI.out, HD.out]; rfl, HB.out⟩
    · have hq : (u : Int).tdiv 10 = ((u / 10 : Nat) : Int) := rfl
      have hr : (u : Int).tmod 10 = ((u % 10 : Nat) : Int) := rfl
      have HS := Lib.hid (HNI.out.step (by omega))
      have hd : u % 10 < 10 := by omega
      have f1 := fun W => slice_dec (P := Tryd.prog) (w := W) 9 Tryd.underlying9 hd
      have a1 : ∀ W, (Op.stringOp .add ⟨#[UInt8.ofNat (48 + u % 10)]⟩ ⟨L.toArray⟩).run Tryd.prog W = .ok (.string ⟨(UInt8.ofNat (48 + u % 10) :: L).toArray⟩) W := fun W => trun_app W [UInt8.ofNat (48 + u % 10)] L (by simp; omega)
      have hune : ((u : Int) != 0) = true := by simp; omega
      have HQ : Hid (u / 10 ≤ N ∧ u / 10 < u) := Lib.hid (by omega)
      have HW : Hid (wrap64 ((u / 10 : Nat) : Int) = ((u / 10 : Nat) : Int)) := Lib.hid (by unfold wrap64; omega)
      generalize u / 10 = q at *
      generalize hdd : u % 10 = d at *
      clear hdd
      have hqN : (q : Int) ≤ 9223372036854775807 := by have := HQ.out.1; omega
      obtain ⟨b, hbe⟩ : ∃ b, UInt8.ofNat (48 + d) = b := ⟨_, rfl⟩
      rw [hbe] at HS
      simp only [hbe] at f1 a1
      have HBE := Lib.hid hbe
      clear hbe
      go_wp2_with fail
      go_roundw
      case rel => exact ⟨q, b :: L, HQ.out.1, rfl, (by first | (with_reducible rfl) | (exact congrArg (Value.int IntKind.i64) HW.out)), HS.out, HB.out⟩
      case measure =>
        have e1 := HQ.out.2
        show ((q : Int)).toNat < ((u : Int)).toNat
        rw [Int.toNat_natCast, Int.toNat_natCast]
        exact e1
end Go.Proofs.YtlibolkkklfdoaaDoor
