/-
  The fixed calls that every statement of layer 10 makes come out as they must.
-/
import Derived.Test.YtkkbjngjjeajoaaFrmRead
namespace Go.Proofs.Ytkkbjngjjeajoaa
namespace Frm
open Go.RowKit Mem
set_option linter.unusedVariables false
set_option maxRecDepth 100000

theorem known_s : showV 385 false [10, 255] = .tuple #[.string ⟨#[49, 56, 49, 35, 48, 97, 102, 102]⟩, .int .i64 0] := by kernel_rfl
theorem known_p : parseA [48, 48, 53, 35, 82] = (⟨5, true, []⟩, 0) := by kernel_rfl
theorem known_q : parseA [56, 48, 48, 35] = (⟨0, false, []⟩, 9) := by kernel_rfl
theorem known_e : err 2048 false 0 = 9 := by decide

set_option maxHeartbeats 1000000 in
theorem known_any (w : World) : Calls Try.prog 20 #[] w fun e w' => e = .returned (.bool true) ∧ Below w.heap.size w w' := by
  have SH := Lib.hid (fun (W : World) (h : Rd W W.heap.size (some ⟨w.heap.size, 0, none⟩) [10, 255]) => show_any 385 false (some ⟨w.heap.size, 0, none⟩) 2 [10, 255] W h (by omega) (by omega) (by simp))
  have P1 := Lib.hid (fun W => parse_any [48, 48, 53, 35, 82] W (by simp))
  have P2 := Lib.hid (fun W => parse_any [56, 48, 48, 35] W (by simp))
  have CK := Lib.hid (fun W => check_any 2048 false none 0 0 W (by omega) (by omega) (by omega))
  rw [known_s] at SH
  rw [known_p] at P1
  rw [known_q] at P2
  rw [known_e] at CK
  go_enter Try.func20, Try.ntmps20
  go_wp2_with fail
  refine (SH.out _ ((Rd.new2 w _ (by rfl) (by rfl)).mono (by simp))).mono ?_
  rintro e w1 ⟨rfl, b1⟩
  have B1 := Lib.hid ((one_below w _).trans (b1.mono (one_below w _).size))
  clear b1
  go_wp2_with fail
  refine (P1.out _).mono ?_
  rintro e w2 ⟨v2, rfl, o2, b2⟩
  have B2 := Lib.hid (B1.out.trans (b2.mono B1.out.size))
  obtain ⟨A2, c2, rfl, _⟩ := o2.form
  have N2 := Lib.hid (one_new w2 (.cells #[.int .i64 5, .bool true, .slice A2 0 c2] 50))
  clear b2 o2
  go_wp2_with fail
  refine (P2.out _).mono ?_
  rintro e w3 ⟨v3, rfl, o3, b3⟩
  obtain ⟨A3, c3, rfl, _⟩ := o3.form
  have r3 := (b3.block w2.heap.size (by simp)).trans N2.out
  have B3 := Lib.hid ((B2.out.alloc B2.out.size _).trans (b3.mono (by have := B2.out.size; simp; omega)))
  have HZ := Lib.hid (show w2.heap.size < w3.heap.size by have := b3.size; simp at this; omega)
  have r4 := (heap_alloc_old w3 (.cells #[.int .i64 0, .bool false, .slice A3 0 c3] 50) HZ.out).trans r3
  have q0 := cellof r4 0
  have q1 := cellof r4 1
  clear b3 o3 r3 r4
  go_wp2_with fail
  refine (CK.out _).mono ?_
  rintro e w4 ⟨rfl, b4⟩
  have B4 := Lib.hid ((B3.out.alloc B3.out.size _).trans (b4.mono (by have := B3.out.size; simp; omega)))
  clear b4 q0 q1
  go_wp2_with fail
  go_ret
  exact ⟨rfl, B4.out⟩
end Frm
end Go.Proofs.Ytkkbjngjjeajoaa
