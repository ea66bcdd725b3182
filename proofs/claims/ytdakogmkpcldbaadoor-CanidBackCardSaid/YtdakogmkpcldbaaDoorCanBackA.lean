/-
  CanidBack's walk, way by way (the name has an Id).
-/
import Derived.Test.YtdakogmkpcldbaaDoorCanKnown
namespace Go.Proofs.YtdakogmkpcldbaaDoor
open Go.RowKit
set_option linter.unusedVariables false

set_option maxRecDepth 100000 in
set_option maxHeartbeats 4000000 in
theorem back_111 {k n d x u y a b c i : Int} {o r : Bool} {w : World} (S : Hid (LS w [(⟨w.heap.size, 0, none⟩, .int .i64 k), (⟨w.heap.size, 1, none⟩, .int .i64 n), (⟨w.heap.size, 2, none⟩, .int .i64 d)] (w.alloc (.cells #[.int .i64 k, .int .i64 n, .int .i64 d] 28))))
    (K1 : Hid (∀ L W, LS w L W → Calls Tryd.prog 8 #[.agg #[.int .i64 k, .int .i64 n, .int .i64 d]] W fun e w' => e = .returned (.tuple #[.int .i64 y, .int .i64 0]) ∧ LS w L w'))
    (y0 : 0 ≤ y)
    (y1 : y ≤ 2047)
    (K2 : Hid (∀ L W, LS w L W → Calls Tryd.prog 11 #[.int .i64 y] W fun e w' => e = .returned (.tuple #[.agg #[.int .i64 k, .int .i64 n, .int .i64 d], .bool true]) ∧ LS w L w'))
    (K3 : Hid (∀ L W, LS w L W → Calls Tryd.prog 11 #[.int .i64 x] W fun e w' => e = .returned (.tuple #[.agg #[.int .i64 a, .int .i64 b, .int .i64 c], .bool true]) ∧ LS w L w'))
    (K4 : Hid (∀ L W, LS w L W → Calls Tryd.prog 8 #[.agg #[.int .i64 a, .int .i64 b, .int .i64 c]] W fun e w' => e = .returned (.tuple #[.int .i64 x, .int .i64 0]) ∧ LS w L w'))
    (K5 : Hid (∀ L W, LS w L W → Calls Tryd.prog 15 #[.int .u32 u] W fun e w' => e = .returned (.tuple #[.agg #[.bool o, .bool r, .int .i64 i], .int .i64 0]) ∧ LS w L w'))
    (K6 : Hid (∀ L W, LS w L W → Calls Tryd.prog 17 #[.agg #[.bool o, .bool r, .int .i64 i]] W fun e w' => e = .returned (.tuple #[.int .u32 u, .int .i64 0]) ∧ LS w L w'))
    (K7 : Hid (∀ L W, LS w L W → Calls Tryd.prog 10 #[] W fun e w' => e = .returned (.bool true) ∧ LS w L w')) :
    Calls Tryd.prog 6 #[.agg #[.int .i64 k, .int .i64 n, .int .i64 d], .int .i64 x, .int .u32 u] w fun e w' => e = .returned (.bool true) ∧ Below w.heap.size w w' := by
  go_enter Tryd.func6, Tryd.ntmps6
  go_wp2_with fail
  refine (K1.out _ _ S.out).mono ?_
  clear S K1
  rintro e w1 ⟨rfl, S⟩
  have S := Lib.hid S
  go_wp2_with fail
  refine (K2.out _ _ S.out).mono ?_
  clear S K2
  rintro e w2 ⟨rfl, S⟩
  have q0 : ∀ o', (w2.alloc o').cell? ⟨w.heap.size, 0, none⟩ = some (.int .i64 k) := fun o' => (S.new o').c _ _ (by simp)
  have q1 : ∀ o', (w2.alloc o').cell? ⟨w.heap.size, 1, none⟩ = some (.int .i64 n) := fun o' => (S.new o').c _ _ (by simp)
  have q2 : ∀ o', (w2.alloc o').cell? ⟨w.heap.size, 2, none⟩ = some (.int .i64 d) := fun o' => (S.new o').c _ _ (by simp)
  have S := Lib.hid (fun o' => S.new o')
  go_wp2_with fail
  clear q0 q1 q2
  refine (K3.out _ _ (S.out _)).mono ?_
  clear S K3
  rintro e w3 ⟨rfl, S⟩
  have S := Lib.hid (fun o' => S.new o')
  go_wp2_with fail
  refine (K4.out _ _ (S.out _)).mono ?_
  clear S K4
  rintro e w4 ⟨rfl, S⟩
  have S := Lib.hid S
  go_wp2_with fail
  refine (K5.out _ _ S.out).mono ?_
  clear S K5
  rintro e w5 ⟨rfl, S⟩
  have S := Lib.hid (fun o' => S.new o')
  go_wp2_with fail
  refine (K6.out _ _ (S.out _)).mono ?_
  clear S K6
  rintro e w6 ⟨rfl, S⟩
  have S := Lib.hid S
  go_wp2_with fail
  refine (K7.out _ _ S.out).mono ?_
  clear S K7
  rintro e w7 ⟨rfl, S⟩
  have S := Lib.hid S
  go_wp2_with fail
  go_ret
  exact ⟨rfl, S.out.b⟩

set_option maxRecDepth 100000 in
set_option maxHeartbeats 4000000 in
theorem back_110 {k n d x u y a b c i : Int} {o r : Bool} {w : World} (S : Hid (LS w [(⟨w.heap.size, 0, none⟩, .int .i64 k), (⟨w.heap.size, 1, none⟩, .int .i64 n), (⟨w.heap.size, 2, none⟩, .int .i64 d)] (w.alloc (.cells #[.int .i64 k, .int .i64 n, .int .i64 d] 28))))
    (K1 : Hid (∀ L W, LS w L W → Calls Tryd.prog 8 #[.agg #[.int .i64 k, .int .i64 n, .int .i64 d]] W fun e w' => e = .returned (.tuple #[.int .i64 y, .int .i64 0]) ∧ LS w L w'))
    (y0 : 0 ≤ y)
    (y1 : y ≤ 2047)
    (K2 : Hid (∀ L W, LS w L W → Calls Tryd.prog 11 #[.int .i64 y] W fun e w' => e = .returned (.tuple #[.agg #[.int .i64 k, .int .i64 n, .int .i64 d], .bool true]) ∧ LS w L w'))
    (K3 : Hid (∀ L W, LS w L W → Calls Tryd.prog 11 #[.int .i64 x] W fun e w' => e = .returned (.tuple #[.agg #[.int .i64 a, .int .i64 b, .int .i64 c], .bool true]) ∧ LS w L w'))
    (K4 : Hid (∀ L W, LS w L W → Calls Tryd.prog 8 #[.agg #[.int .i64 a, .int .i64 b, .int .i64 c]] W fun e w' => e = .returned (.tuple #[.int .i64 x, .int .i64 0]) ∧ LS w L w'))
    (K5 : Hid (∀ L W, LS w L W → Calls Tryd.prog 15 #[.int .u32 u] W fun e w' => e = .returned (.tuple #[.agg #[.bool o, .bool r, .int .i64 i], .int .i64 4]) ∧ LS w L w'))
    (K7 : Hid (∀ L W, LS w L W → Calls Tryd.prog 10 #[] W fun e w' => e = .returned (.bool true) ∧ LS w L w')) :
    Calls Tryd.prog 6 #[.agg #[.int .i64 k, .int .i64 n, .int .i64 d], .int .i64 x, .int .u32 u] w fun e w' => e = .returned (.bool true) ∧ Below w.heap.size w w' := by
  go_enter Tryd.func6, Tryd.ntmps6
  go_wp2_with fail
  refine (K1.out _ _ S.out).mono ?_
  clear S K1
  rintro e w1 ⟨rfl, S⟩
  have S := Lib.hid S
  go_wp2_with fail
  refine (K2.out _ _ S.out).mono ?_
  clear S K2
  rintro e w2 ⟨rfl, S⟩
  have q0 : ∀ o', (w2.alloc o').cell? ⟨w.heap.size, 0, none⟩ = some (.int .i64 k) := fun o' => (S.new o').c _ _ (by simp)
  have q1 : ∀ o', (w2.alloc o').cell? ⟨w.heap.size, 1, none⟩ = some (.int .i64 n) := fun o' => (S.new o').c _ _ (by simp)
  have q2 : ∀ o', (w2.alloc o').cell? ⟨w.heap.size, 2, none⟩ = some (.int .i64 d) := fun o' => (S.new o').c _ _ (by simp)
  have S := Lib.hid (fun o' => S.new o')
  go_wp2_with fail
  clear q0 q1 q2
  refine (K3.out _ _ (S.out _)).mono ?_
  clear S K3
  rintro e w3 ⟨rfl, S⟩
  have S := Lib.hid (fun o' => S.new o')
  go_wp2_with fail
  refine (K4.out _ _ (S.out _)).mono ?_
  clear S K4
  rintro e w4 ⟨rfl, S⟩
  have S := Lib.hid S
  go_wp2_with fail
  refine (K5.out _ _ S.out).mono ?_
  clear S K5
  rintro e w5 ⟨rfl, S⟩
  have S := Lib.hid (fun o' => S.new o')
  go_wp2_with fail
  refine (K7.out _ _ (S.out _)).mono ?_
  clear S K7
  rintro e w7 ⟨rfl, S⟩
  have S := Lib.hid S
  go_wp2_with fail
  go_ret
  exact ⟨rfl, S.out.b⟩

set_option maxRecDepth 100000 in
set_option maxHeartbeats 4000000 in
theorem back_101 {k n d x u y a b c i : Int} {o r : Bool} {w : World} (S : Hid (LS w [(⟨w.heap.size, 0, none⟩, .int .i64 k), (⟨w.heap.size, 1, none⟩, .int .i64 n), (⟨w.heap.size, 2, none⟩, .int .i64 d)] (w.alloc (.cells #[.int .i64 k, .int .i64 n, .int .i64 d] 28))))
    (K1 : Hid (∀ L W, LS w L W → Calls Tryd.prog 8 #[.agg #[.int .i64 k, .int .i64 n, .int .i64 d]] W fun e w' => e = .returned (.tuple #[.int .i64 y, .int .i64 0]) ∧ LS w L w'))
    (y0 : 0 ≤ y)
    (y1 : y ≤ 2047)
    (K2 : Hid (∀ L W, LS w L W → Calls Tryd.prog 11 #[.int .i64 y] W fun e w' => e = .returned (.tuple #[.agg #[.int .i64 k, .int .i64 n, .int .i64 d], .bool true]) ∧ LS w L w'))
    (K3 : Hid (∀ L W, LS w L W → Calls Tryd.prog 11 #[.int .i64 x] W fun e w' => e = .returned (.tuple #[.agg #[.int .i64 a, .int .i64 b, .int .i64 c], .bool false]) ∧ LS w L w'))
    (K5 : Hid (∀ L W, LS w L W → Calls Tryd.prog 15 #[.int .u32 u] W fun e w' => e = .returned (.tuple #[.agg #[.bool o, .bool r, .int .i64 i], .int .i64 0]) ∧ LS w L w'))
    (K6 : Hid (∀ L W, LS w L W → Calls Tryd.prog 17 #[.agg #[.bool o, .bool r, .int .i64 i]] W fun e w' => e = .returned (.tuple #[.int .u32 u, .int .i64 0]) ∧ LS w L w'))
    (K7 : Hid (∀ L W, LS w L W → Calls Tryd.prog 10 #[] W fun e w' => e = .returned (.bool true) ∧ LS w L w')) :
    Calls Tryd.prog 6 #[.agg #[.int .i64 k, .int .i64 n, .int .i64 d], .int .i64 x, .int .u32 u] w fun e w' => e = .returned (.bool true) ∧ Below w.heap.size w w' := by
  go_enter Tryd.func6, Tryd.ntmps6
  go_wp2_with fail
  refine (K1.out _ _ S.out).mono ?_
  clear S K1
  rintro e w1 ⟨rfl, S⟩
  have S := Lib.hid S
  go_wp2_with fail
  refine (K2.out _ _ S.out).mono ?_
  clear S K2
  rintro e w2 ⟨rfl, S⟩
  have q0 : ∀ o', (w2.alloc o').cell? ⟨w.heap.size, 0, none⟩ = some (.int .i64 k) := fun o' => (S.new o').c _ _ (by simp)
  have q1 : ∀ o', (w2.alloc o').cell? ⟨w.heap.size, 1, none⟩ = some (.int .i64 n) := fun o' => (S.new o').c _ _ (by simp)
  have q2 : ∀ o', (w2.alloc o').cell? ⟨w.heap.size, 2, none⟩ = some (.int .i64 d) := fun o' => (S.new o').c _ _ (by simp)
  have S := Lib.hid (fun o' => S.new o')
  go_wp2_with fail
  clear q0 q1 q2
  refine (K3.out _ _ (S.out _)).mono ?_
  clear S K3
  rintro e w3 ⟨rfl, S⟩
  have S := Lib.hid (fun o' => S.new o')
  go_wp2_with fail
  refine (K5.out _ _ (S.out _)).mono ?_
  clear S K5
  rintro e w5 ⟨rfl, S⟩
  have S := Lib.hid (fun o' => S.new o')
  go_wp2_with fail
  refine (K6.out _ _ (S.out _)).mono ?_
  clear S K6
  rintro e w6 ⟨rfl, S⟩
  have S := Lib.hid S
  go_wp2_with fail
  refine (K7.out _ _ S.out).mono ?_
  clear S K7
  rintro e w7 ⟨rfl, S⟩
  have S := Lib.hid S
  go_wp2_with fail
  go_ret
  exact ⟨rfl, S.out.b⟩

set_option maxRecDepth 100000 in
set_option maxHeartbeats 4000000 in
theorem back_100 {k n d x u y a b c i : Int} {o r : Bool} {w : World} (S : Hid (LS w [(⟨w.heap.size, 0, none⟩, .int .i64 k), (⟨w.heap.size, 1, none⟩, .int .i64 n), (⟨w.heap.size, 2, none⟩, .int .i64 d)] (w.alloc (.cells #[.int .i64 k, .int .i64 n, .int .i64 d] 28))))
    (K1 : Hid (∀ L W, LS w L W → Calls Tryd.prog 8 #[.agg #[.int .i64 k, .int .i64 n, .int .i64 d]] W fun e w' => e = .returned (.tuple #[.int .i64 y, .int .i64 0]) ∧ LS w L w'))
    (y0 : 0 ≤ y)
    (y1 : y ≤ 2047)
    (K2 : Hid (∀ L W, LS w L W → Calls Tryd.prog 11 #[.int .i64 y] W fun e w' => e = .returned (.tuple #[.agg #[.int .i64 k, .int .i64 n, .int .i64 d], .bool true]) ∧ LS w L w'))
    (K3 : Hid (∀ L W, LS w L W → Calls Tryd.prog 11 #[.int .i64 x] W fun e w' => e = .returned (.tuple #[.agg #[.int .i64 a, .int .i64 b, .int .i64 c], .bool false]) ∧ LS w L w'))
    (K5 : Hid (∀ L W, LS w L W → Calls Tryd.prog 15 #[.int .u32 u] W fun e w' => e = .returned (.tuple #[.agg #[.bool o, .bool r, .int .i64 i], .int .i64 4]) ∧ LS w L w'))
    (K7 : Hid (∀ L W, LS w L W → Calls Tryd.prog 10 #[] W fun e w' => e = .returned (.bool true) ∧ LS w L w')) :
    Calls Tryd.prog 6 #[.agg #[.int .i64 k, .int .i64 n, .int .i64 d], .int .i64 x, .int .u32 u] w fun e w' => e = .returned (.bool true) ∧ Below w.heap.size w w' := by
  go_enter Tryd.func6, Tryd.ntmps6
  go_wp2_with fail
  refine (K1.out _ _ S.out).mono ?_
  clear S K1
  rintro e w1 ⟨rfl, S⟩
  have S := Lib.hid S
  go_wp2_with fail
  refine (K2.out _ _ S.out).mono ?_
  clear S K2
  rintro e w2 ⟨rfl, S⟩
  have q0 : ∀ o', (w2.alloc o').cell? ⟨w.heap.size, 0, none⟩ = some (.int .i64 k) := fun o' => (S.new o').c _ _ (by simp)
  have q1 : ∀ o', (w2.alloc o').cell? ⟨w.heap.size, 1, none⟩ = some (.int .i64 n) := fun o' => (S.new o').c _ _ (by simp)
  have q2 : ∀ o', (w2.alloc o').cell? ⟨w.heap.size, 2, none⟩ = some (.int .i64 d) := fun o' => (S.new o').c _ _ (by simp)
  have S := Lib.hid (fun o' => S.new o')
  go_wp2_with fail
  clear q0 q1 q2
  refine (K3.out _ _ (S.out _)).mono ?_
  clear S K3
  rintro e w3 ⟨rfl, S⟩
  have S := Lib.hid (fun o' => S.new o')
  go_wp2_with fail
  refine (K5.out _ _ (S.out _)).mono ?_
  clear S K5
  rintro e w5 ⟨rfl, S⟩
  have S := Lib.hid (fun o' => S.new o')
  go_wp2_with fail
  refine (K7.out _ _ (S.out _)).mono ?_
  clear S K7
  rintro e w7 ⟨rfl, S⟩
  have S := Lib.hid S
  go_wp2_with fail
  go_ret
  exact ⟨rfl, S.out.b⟩
end Go.Proofs.YtdakogmkpcldbaaDoor
