/-
  What package sum32 does: the closure that takes a bit, On, Sum, Seal, Open.
-/
import Derived.Test.YtkkbjngjjeajoaaProg
import Derived.Test.YtkkbjngjjeajoaaSumMath
import Derived.Test.YtkkbjngjjeajoaaOctLay
import Derived.Test.YtkkbjngjjeajoaaOctGet
import Derived.Lib.SliceRun
namespace Go.Proofs.Ytkkbjngjjeajoaa
open Go.RowKit Mem
set_option linter.unusedVariables false

/-- The cell that the closure writes holds r. -/
def RegAt (w : World) (g r : Nat) : Prop := w.cell? ⟨g, 0, none⟩ = some (.int .u32 (r : Int)) ∧ w.frozen? ⟨g, 0, none⟩ = false
theorem RegAt.set {w : World} {g r : Nat} (h : RegAt w g r) {x : Int} {s : Nat} (hx : x = (s : Int)) : RegAt (w.setCell ⟨g, 0, none⟩ (.int .u32 x)) g s := by
  subst hx
  exact ⟨World.cell?_setCell_same _ _ _ h.1, by rw [World.frozen?_setCell]; exact h.2⟩

set_option maxHeartbeats 400000 in
theorem take_any (g r b : Nat) (w : World) (hr : r < 4294967296) (hb : b < 2) (h : RegAt w g r) :
    Calls Try.prog 146 #[.int .u32 (b : Int), .pointer (some ⟨g, 0, none⟩)] w fun e w' => e = .returned (.tuple #[]) ∧ RegAt w' g (Sum.tk r b) ∧ w.grownBy w' (some g) ∧ w'.heap.size = w.heap.size := by
  have hR := Lib.hid h
  obtain ⟨hc, hf⟩ := h
  go_enter Try.func146, Try.ntmps146
  go_wp2_with fail
  · rename_i hs
    go_end0
    exact ⟨rfl, (hR.out.set rfl).set (s := Sum.tk r b) (Sum.sel_yes hr hb hs), grown_trans (grown_set _ _ _ _) (grown_set _ _ _ _), by simp⟩
  · rename_i hs
    go_end0
    exact ⟨rfl, hR.out.set (Sum.sel_no hr hb hs), grown_set _ _ _ _, by simp⟩


theorem not_u32 (s : Nat) (h : s < 4294967296) : bits .xor .u32 IntKind.u32.max (s : Int) = ((Sum.M ^^^ s : Nat) : Int) := by
  rw [show IntKind.u32.max = ((Sum.M : Nat) : Int) from rfl, u32_xor_nat _ _ (by decide) h]
theorem RegAt.new (w : World) (t : TypeId) {x : Int} {s : Nat} (hx : x = (s : Int)) : RegAt (w.alloc (.cells #[.int .u32 x] t)) w.heap.size s := by
  subst hx
  exact ⟨by simp, by simp⟩
theorem RegAt.kept {w w' : World} {g r : Nat} (h : RegAt w g r) {B : Nat} (hb : Below B w w') (hg : g < B) : RegAt w' g r := by
  refine ⟨(hb.cell (p := ⟨g, 0, none⟩) hg).trans h.1, ?_⟩
  have := hb.block g hg
  have h2 := h.2
  unfold World.frozen? at h2 ⊢
  simpa [this] using h2

set_option maxHeartbeats 400000 in
theorem on_any (A : Option Addr) (n c : Nat) (bs : List UInt8) (s : Nat) (w : World) (hs : s < 4294967296) (hr : Rd w w.heap.size A bs) (hn : n = bs.length) (hle : n ≤ 1099511627776) :
    Calls Try.prog 141 #[.int .u32 (s : Int), .slice A n c] w fun e w' => e = .returned (.int .u32 (Sum.on s bs : Nat)) ∧ Below w.heap.size w w' := by
  subst hn
  have hmf : ∀ (fn : Fn) (first cap : Array Value) (w : World), (Instr.makeFunc fn first cap).run Try.prog w = .ok (.func fn first cap) w := fun _ _ _ _ => rfl
  go_enter Try.func141, Try.ntmps141
  go_wp2_with fail
  go_loopw [15] (fun i wr => ∃ k : Nat, k ≤ bs.length ∧ i = .int .i64 k ∧ RegAt wr w.heap.size (Sum.crc (Sum.M ^^^ s) (bs.take k)) ∧ Below w.heap.size w wr) (fun i _ => bs.length - (intOf i).toNat)
  case atStart => exact ⟨0, by omega, rfl, by rw [List.take_zero, Sum.crc_nil]; exact RegAt.new w _ (not_u32 s hs), (Below.refl _ _).alloc (Nat.le_refl _) _⟩
  case round =>
    obtain ⟨k, hk, rfl, hreg, hb⟩ := hrel
    by_cases hlt : k < bs.length
    · obtain ⟨g, off, rfl, hg, hc⟩ := (hr.below hb).at_ (k := k) hlt
      have hx := byt_bd bs k
      obtain ⟨R, hR⟩ : ∃ R, R = Sum.crc (Sum.M ^^^ s) (bs.take k) := ⟨_, rfl⟩
      have hRl : R < 4294967296 := by rw [hR]; exact Sum.crc_lt _ (Sum.flip_lt hs)
      rw [← hR] at hreg
      go_wp2_with fail
      go_loopw [19] (fun i wr2 => ∃ j : Nat, j ≤ 8 ∧ i = .int .i64 j ∧ RegAt wr2 w.heap.size (Sum.tkn R (byt bs k).toNat j) ∧ Below w.heap.size w wr2) (fun i _ => 8 - (intOf i).toNat)
      case atStart => exact ⟨0, by omega, rfl, hreg, hb⟩
      case round =>
        obtain ⟨j, hj, rfl, hreg2, hb2⟩ := hrel
        by_cases hj8 : j < 8
        · have hT := Lib.hid (Sum.tkn_lt (byt bs k).toNat j hRl)
          have hbit := Lib.hid (Sum.bit_at hx.1 hx.2 j)
          go_wp2_with fail
          rw [hbit.out]
          refine (take_any _ _ _ _ hT.out (by omega) hreg2).mono ?_
          rintro e w2 ⟨rfl, hreg3, hg3, hs3⟩
          have hb3 := Lib.hid (hb2.grown hg3 hb2.size (by simp))
          clear hg3 hs3 hreg2 hb2 hreg hb hbit
          go_wp2_with fail
          go_roundw
          case rel => exact ⟨j + 1, by omega, by go_num, hreg3, hb3.out⟩
          case measure => simp [intOf]; omega
        · obtain rfl : j = 8 := by omega
          go_wp2_with fail
          refine ⟨⟨k + 1, by omega, by go_num, ?_, hb2⟩, by simp [intOf]; omega⟩
          rw [Sum.crc_take _ hlt, ← hR]
          exact hreg2
    · obtain rfl : k = bs.length := by omega
      rw [List.take_length] at hreg
      obtain ⟨hcr, hfr⟩ := hreg
      have hL := Lib.hid (Sum.crc_lt bs (Sum.flip_lt hs))
      go_wp2_with fail
      go_ret
      exact ⟨Oct.reti (not_u32 _ hL.out), hb⟩

end Go.Proofs.Ytkkbjngjjeajoaa
