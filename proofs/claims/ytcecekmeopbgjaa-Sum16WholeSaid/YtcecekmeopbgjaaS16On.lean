/-
  What package sum16 does: the closure that takes a bit, eachBit that hands the bits on, On, Sum, Right.
-/
import Derived.Test.YtcecekmeopbgjaaProg
import Derived.Test.YtcecekmeopbgjaaS16Math
import Derived.Test.YtcecekmeopbgjaaOctLay
import Derived.Lib.SliceRun
namespace Go.Proofs.Ytcecekmeopbgjaa
namespace S16
open Go.RowKit Mem
set_option linter.unusedVariables false

/-- The cell that the closure writes holds r. -/
def RegAt (w : World) (g r : Nat) : Prop := w.cell? ⟨g, 0, none⟩ = some (.int .u16 (r : Int)) ∧ w.frozen? ⟨g, 0, none⟩ = false
theorem RegAt.set {w : World} {g r : Nat} (h : RegAt w g r) {x : Int} {s : Nat} (hx : x = (s : Int)) : RegAt (w.setCell ⟨g, 0, none⟩ (.int .u16 x)) g s := by
  subst hx
  exact ⟨World.cell?_setCell_same _ _ _ h.1, by rw [World.frozen?_setCell]; exact h.2⟩
theorem RegAt.new (w : World) (t : TypeId) {x : Int} {s : Nat} (hx : x = (s : Int)) : RegAt (w.alloc (.cells #[.int .u16 x] t)) w.heap.size s := by
  subst hx
  exact ⟨by simp, by simp⟩

theorem shl_one (r : Nat) : IntKind.u16.wrap ((r : Int) * 2) = ((2 * r % 65536 : Nat) : Int) := by
  rw [IntKind.wrap_u16]
  omega

set_option maxHeartbeats 400000 in
theorem take_any (g r b : Nat) (w : World) (hr : r < 65536) (hb : b < 2) (h : RegAt w g r) :
    Calls Try.prog 18 #[.int .u16 (b : Int), .pointer (some ⟨g, 0, none⟩)] w fun e w' => e = .returned (.tuple #[]) ∧ RegAt w' g (tk r b) ∧ w.grownBy w' (some g) ∧ w'.heap.size = w.heap.size := by
  have hR := Lib.hid h
  obtain ⟨hc, hf⟩ := h
  go_enter Try.func18, Try.ntmps18
  go_wp2_with fail
  · rename_i hs
    go_end0
    exact ⟨rfl, (hR.out.set (s := 2 * r % 65536) (shl_one r)).set (s := tk r b) (sel_yes hr hb hs (shl_one r)), grown_trans (grown_set _ _ _ _) (grown_set _ _ _ _), by simp⟩
  · rename_i hs
    go_end0
    exact ⟨rfl, hR.out.set (sel_no hr hb hs (shl_one r)), grown_set _ _ _ _, by simp⟩

set_option maxHeartbeats 400000 in
theorem each_any (A : Option Addr) (n c g : Nat) (bs : List UInt8) (s : Nat) (w : World) (hs : s < 65536) (hr : Rd w g A bs) (hg : g < w.heap.size) (hreg0 : RegAt w g s) (hn : n = bs.length) (hle : n ≤ 1099511627776) :
    Calls Try.prog 17 #[.slice A n c, .func (.func 18) #[] #[.pointer (some ⟨g, 0, none⟩)]] w fun e w' => e = .returned (.tuple #[]) ∧ RegAt w' g (on s bs) ∧ Below g w w' := by
  subst hn
  go_enter Try.func17, Try.ntmps17
  go_wp2_with fail
  go_loopw [9] (fun i wr => ∃ k : Nat, k ≤ bs.length ∧ i = .int .i64 k ∧ RegAt wr g (on s (bs.take k)) ∧ Below g w wr) (fun i _ => bs.length - (intOf i).toNat)
  case atStart => exact ⟨0, by omega, rfl, by rw [List.take_zero, on_nil]; exact hreg0, Below.refl _ _⟩
  case round =>
    obtain ⟨k, hk, rfl, hreg, hb⟩ := hrel
    by_cases hlt : k < bs.length
    · obtain ⟨g2, off, rfl, hg2, hc⟩ := (hr.below hb).at_ (k := k) hlt
      have hx := byt_bd bs k
      obtain ⟨R, hR⟩ : ∃ R, R = on s (bs.take k) := ⟨_, rfl⟩
      have hRl : R < 65536 := by rw [hR]; exact on_lt _ hs
      rw [← hR] at hreg
      go_wp2_with fail
      go_loopw [13] (fun i wr2 => ∃ j : Nat, j ≤ 8 ∧ i = .int .i64 j ∧ RegAt wr2 g (tkn R (byt bs k).toNat j) ∧ Below g w wr2) (fun i _ => 8 - (intOf i).toNat)
      case atStart => exact ⟨0, by omega, rfl, hreg, hb⟩
      case round =>
        obtain ⟨j, hj, rfl, hreg2, hb2⟩ := hrel
        by_cases hj8 : j < 8
        · have hT := Lib.hid (tkn_lt (byt bs k).toNat j hRl)
          have hbit := Lib.hid (bit_at hx.1 hx.2 hj8)
          go_wp2_with fail
          rw [hbit.out]
          refine (take_any _ _ _ _ hT.out (by omega) hreg2).mono ?_
          rintro e w2 ⟨rfl, hreg3, hg3, hs3⟩
          have hb3 := Lib.hid (hb2.grown hg3 (Nat.le_trans (Nat.le_of_lt hg) hb2.size) (by simp))
          clear hg3 hs3 hreg2 hb2 hreg hb hbit
          go_wp2_with fail
          go_roundw
          case rel => exact ⟨j + 1, by omega, by go_num, hreg3, hb3.out⟩
          case measure => simp [intOf]; omega
        · obtain rfl : j = 8 := by omega
          go_wp2_with fail
          refine ⟨⟨k + 1, by omega, by go_num, ?_, hb2⟩, by simp [intOf]; omega⟩
          rw [on_take _ hlt, ← hR]
          exact hreg2
    · obtain rfl : k = bs.length := by omega
      rw [List.take_length] at hreg
      go_wp2_with fail
      go_end0
      exact ⟨rfl, hreg, hb⟩

theorem RegAt.below {w w' : World} {g r : Nat} (h : RegAt w g r) {B : Nat} (hb : Below B w w') (hg : g < B) : RegAt w' g r := by
  refine ⟨(hb.cell (p := ⟨g, 0, none⟩) hg).trans h.1, ?_⟩
  have := hb.block g hg
  have h2 := h.2
  unfold World.frozen? at h2 ⊢
  simpa [this] using h2

set_option maxHeartbeats 400000 in
theorem on_any (A : Option Addr) (n c : Nat) (bs : List UInt8) (s : Nat) (w : World) (hs : s < 65536) (hr : Rd w w.heap.size A bs) (hn : n = bs.length) (hle : n ≤ 1099511627776) :
    Calls Try.prog 9 #[.int .u16 (s : Int), .slice A n c] w fun e w' => e = .returned (.int .u16 (on s bs : Nat)) ∧ Below w.heap.size w w' := by
  have hN := Lib.hid hn
  clear hn
  have hmf : ∀ (fn : Fn) (first cap : Array Value) (w : World), (Instr.makeFunc fn first cap).run Try.prog w = .ok (.func fn first cap) w := fun _ _ _ _ => rfl
  have b0 := Lib.hid (fun o => (Below.refl w.heap.size w).alloc (Nat.le_refl _) o)
  go_enter Try.func9, Try.ntmps9
  go_wp2_with fail
  refine (each_any A n c w.heap.size bs s _ hs (hr.below (b0.out _)) (by simp) (RegAt.new w _ rfl) hN.out hle).mono ?_
  rintro e w1 ⟨rfl, hreg, hb⟩
  have hB := Lib.hid ((b0.out _).trans hb)
  obtain ⟨hcr, hfr⟩ := hreg
  clear hb
  go_wp2_with fail
  go_ret
  exact ⟨rfl, hB.out⟩

set_option maxHeartbeats 400000 in
theorem sum_any (A : Option Addr) (n c : Nat) (bs : List UInt8) (w : World) (hr : Rd w w.heap.size A bs) (hn : n = bs.length) (hle : n ≤ 1099511627776) :
    Calls Try.prog 11 #[.slice A n c] w fun e w' => e = .returned (.int .u16 (on 0 bs : Nat)) ∧ Below w.heap.size w w' := by
  have hN := Lib.hid hn
  clear hn
  go_enter Try.func11, Try.ntmps11
  go_wp2_with fail
  refine (on_any A n c bs 0 w (by decide) hr hN.out hle).mono ?_
  rintro e w1 ⟨rfl, b1⟩
  go_wp2_with fail
  go_ret
  exact ⟨rfl, b1⟩

set_option maxHeartbeats 400000 in
theorem right_any (A : Option Addr) (n c : Nat) (bs : List UInt8) (s : Nat) (w : World) (hr : Rd w w.heap.size A bs) (hn : n = bs.length) (hle : n ≤ 1099511627776) :
    Calls Try.prog 13 #[.slice A n c, .int .u16 (s : Int)] w fun e w' => e = .returned (.bool (((on 0 bs : Nat) : Int) == (s : Int))) ∧ Below w.heap.size w w' := by
  have hN := Lib.hid hn
  clear hn
  go_enter Try.func13, Try.ntmps13
  go_wp2_with fail
  refine (sum_any A n c bs w hr hN.out hle).mono ?_
  rintro e w1 ⟨rfl, b1⟩
  go_wp2_with fail
  go_ret
  exact ⟨rfl, b1⟩

end S16
end Go.Proofs.Ytcecekmeopbgjaa
