/-
  A dictionary that is not there.
-/
import Derived.Test.YtcbffoablononaaDoorDicMore
namespace Go.Proofs.YtcbffoablononaaDoor
namespace Dic
open Go.RowKit Mem Ent
set_option linter.unusedVariables false
set_option linter.unusedSimpArgs false
set_option maxRecDepth 100000

theorem reset_nil (W : World) : Calls Tryd.prog 29 #[.pointer none] W fun e w' => e = .returned (.tuple #[]) ∧ W = w' := by
  have H0 := Lib.hid (none_nil W)
  go_enter Tryd.func29, Tryd.ntmps29
  go_wp2_with fail
  refine H0.out.mono ?_
  rintro e w' ⟨rfl, rfl⟩
  go_wp2_with fail
  (try simp only [Exit.inBlock, Exit.then])
  refine bodyPost_ret (results_none rfl _ _ _) rfl ?_
  exact ⟨rfl, rfl⟩

theorem len_nil (W : World) : Calls Tryd.prog 21 #[.pointer none] W fun e w' => e = .returned (.int .i64 0) ∧ W = w' := by
  have H0 := Lib.hid (none_nil W)
  go_enter Tryd.func21, Tryd.ntmps21
  go_wp2_with fail
  refine H0.out.mono ?_
  rintro e w' ⟨rfl, rfl⟩
  go_wp2_with fail
  go_ret
  exact ⟨rfl, rfl⟩

theorem values_nil (W : World) : Calls Tryd.prog 18 #[.pointer none] W fun e w' => e = .returned (.slice none 0 0) ∧ W = w' := by
  have H0 := Lib.hid (none_nil W)
  go_enter Tryd.func18, Tryd.ntmps18
  go_wp2_with fail
  refine H0.out.mono ?_
  rintro e w' ⟨rfl, rfl⟩
  go_wp2_with fail
  go_ret
  exact ⟨rfl, rfl⟩

theorem copy_nil (W : World) : Calls Tryd.prog 32 #[.pointer none] W fun e w' => e = .returned (.pointer none) ∧ W = w' := by
  have H0 := Lib.hid (none_nil W)
  go_enter Tryd.func32, Tryd.ntmps32
  go_wp2_with fail
  refine H0.out.mono ?_
  rintro e w' ⟨rfl, rfl⟩
  go_wp2_with fail
  go_ret
  exact ⟨rfl, rfl⟩

theorem look_nil (ix sub : Int) (fv : Value) (W : World) : Calls Tryd.prog 53 #[.pointer none, .int .i64 ix, .int .i64 sub, fv] W fun e w' => e = .returned (.tuple #[.pointer none, .int .u32 100925511]) ∧ W = w' := by
  have H0 := Lib.hid (none_nil W)
  go_enter Tryd.func53, Tryd.ntmps53
  go_wp2_with fail
  refine H0.out.mono ?_
  rintro e w' ⟨rfl, rfl⟩
  go_wp2_with fail
  go_ret2
  exact ⟨rfl, rfl⟩

theorem fit_nil (ix sub : Int) (b fv : Value) (W : World) : Calls Tryd.prog 50 #[.pointer none, .int .i64 ix, .int .i64 sub, b, fv] W fun e w' => e = .returned (.tuple #[.pointer none, .int .u32 100925511]) ∧ W = w' := by
  have H0 := Lib.hid (look_nil ix sub fv W)
  go_enter Tryd.func50, Tryd.ntmps50
  go_wp2_with fail
  refine H0.out.mono ?_
  rintro e w' ⟨rfl, rfl⟩
  go_wp2_with fail
  go_ret2
  exact ⟨rfl, rfl⟩

theorem put_nil (ix sub : Int) (b fv : Value) (W : World) : Calls Tryd.prog 52 #[.pointer none, .int .i64 ix, .int .i64 sub, b, fv] W fun e w' => e = .returned (.int .u32 100925511) ∧ W = w' := by
  have H0 := Lib.hid (fit_nil ix sub b fv W)
  go_enter Tryd.func52, Tryd.ntmps52
  go_wp2_with fail
  refine H0.out.mono ?_
  rintro e w' ⟨rfl, rfl⟩
  go_wp2_with fail
  go_ret
  exact ⟨rfl, rfl⟩

theorem get_nil (ix sub : Int) (W : World) : Calls Tryd.prog 27 #[.pointer none, .int .i64 ix, .int .i64 sub] W fun e w' => e = .returned (.tuple #[.slice none 0 0, .int .u32 100925511]) ∧ W = w' := by
  have H0 := Lib.hid (look_nil ix sub (.func (.func 54) #[] #[]) W)
  go_enter Tryd.func27, Tryd.ntmps27
  go_wp2_with fail
  refine H0.out.mono ?_
  rintro e w' ⟨rfl, rfl⟩
  go_wp2_with fail
  go_ret2
  exact ⟨rfl, rfl⟩

theorem peek_nil (ix sub : Int) (W : World) : Calls Tryd.prog 31 #[.pointer none, .int .i64 ix, .int .i64 sub] W fun e w' => e = .returned (.tuple #[.slice none 0 0, .bool false]) ∧ W = w' := by
  have H0 := Lib.hid (look_nil ix sub (.func (.func 55) #[] #[]) W)
  go_enter Tryd.func31, Tryd.ntmps31
  go_wp2_with fail
  refine H0.out.mono ?_
  rintro e w' ⟨rfl, rfl⟩
  go_wp2_with fail
  go_ret2
  exact ⟨rfl, rfl⟩

theorem set_nil (ix sub : Int) (b : Value) (W : World) : Calls Tryd.prog 26 #[.pointer none, .int .i64 ix, .int .i64 sub, b] W fun e w' => e = .returned (.int .u32 100925511) ∧ W = w' := by
  have H0 := Lib.hid (put_nil ix sub b (.func (.func 51) #[] #[]) W)
  go_enter Tryd.func26, Tryd.ntmps26
  go_wp2_with fail
  refine H0.out.mono ?_
  rintro e w' ⟨rfl, rfl⟩
  go_wp2_with fail
  go_ret
  exact ⟨rfl, rfl⟩

theorem poke_nil (ix sub : Int) (b : Value) (W : World) : Calls Tryd.prog 28 #[.pointer none, .int .i64 ix, .int .i64 sub, b] W fun e w' => e = .returned (.int .u32 100925511) ∧ W = w' := by
  have H0 := Lib.hid (put_nil ix sub b (.func (.func 55) #[] #[]) W)
  go_enter Tryd.func28, Tryd.ntmps28
  go_wp2_with fail
  refine H0.out.mono ?_
  rintro e w' ⟨rfl, rfl⟩
  go_wp2_with fail
  go_ret
  exact ⟨rfl, rfl⟩

theorem may_nil (ix sub : Int) (b : Value) (W : World) : Calls Tryd.prog 25 #[.pointer none, .int .i64 ix, .int .i64 sub, b] W fun e w' => e = .returned (.int .u32 100925511) ∧ W = w' := by
  have H0 := Lib.hid (fit_nil ix sub b (.func (.func 51) #[] #[]) W)
  go_enter Tryd.func25, Tryd.ntmps25
  go_wp2_with fail
  refine H0.out.mono ?_
  rintro e w' ⟨rfl, rfl⟩
  go_wp2_with fail
  go_ret
  exact ⟨rfl, rfl⟩

theorem find_nil (ix sub : Int) (W : World) : Calls Tryd.prog 23 #[.pointer none, .int .i64 ix, .int .i64 sub] W fun e w' => e = .returned (.tuple #[.int .i64 0, .bool false]) ∧ Below W.heap.size W w' := by
  have H := Lib.hid (fun X => none_nil X)
  have B := Lib.hid (one_b W)
  go_enter Tryd.func23, Tryd.ntmps23
  go_wp2_with fail
  refine (H.out _).mono ?_
  rintro e w' ⟨rfl, rfl⟩
  go_wp2_with fail
  go_ret2
  exact ⟨rfl, B.out _⟩

set_option maxHeartbeats 1000000 in
theorem entry_nil (i : Int) (W : World) : Calls Tryd.prog 22 #[.pointer none, .int .i64 i] W fun e w' => e = .returned (.tuple #[Ev.zero.go (.slice none 0 0), .bool false]) ∧ Below W.heap.size W w' := by
  have H := Lib.hid (fun X => none_nil X)
  have B := Lib.hid (one_b W)
  have HB := Lib.hid (heap_alloc_new W (.cells (Ev.zero.row (.slice none 0 0)) 38))
  go_enter Tryd.func22, Tryd.ntmps22
  go_wp2_with fail
  refine (H.out _).mono ?_
  rintro e w' ⟨rfl, rfl⟩
  go_wp2_with fail
  (try simp only [Exit.inBlock, Exit.then])
  exact bodyPost_ret (results_row2 rfl _ _ W.heap.size _ _ _ _ rfl HB.out Tryd.underlying38 rfl size_ent) rfl ⟨rfl, B.out _⟩
end Dic
end Go.Proofs.YtcbffoablononaaDoor
