/-
  The laws' known: fixed calls. And how a call is taken while the package's variables stay as they are.
-/
import Derived.Test.YtdakogmkpcldbaaDoorCanOf
namespace Go.Proofs.YtdakogmkpcldbaaDoor
open Go.RowKit
set_option linter.unusedVariables false

/-- The package's variables, and that nothing else was touched; and what some cells of the law's own hold. -/
structure LS (w : World) (L : List (Addr × Value)) (W : World) : Prop where
  b : Below w.heap.size w W
  g : CG W
  c : ∀ p v, (p, v) ∈ L → W.cell? p = some v
theorem LS.start {w : World} (h : CG w) : LS w [] w := ⟨Below.refl _ _, h, fun p v h => by cases h⟩
section
variable {w W W' : World} {L L' : List (Addr × Value)}
theorem LS.next (h : LS w L W) (hb : Below W.heap.size W W') : LS w L W' := ⟨h.b.trans (hb.mono h.b.size), h.g.below hb (Nat.le_refl _), fun p v hp => cell_on (h.c p v hp) hb⟩
theorem LS.new (h : LS w L W) (o : Obj) : LS w L (W.alloc o) := h.next (below_new W o)
theorem LS.drew (h : LS w L W) : LS w L W.drew := h.next (below_drew W)
theorem LS.more (h : LS w L W) (h' : ∀ p v, (p, v) ∈ L' → W.cell? p = some v) : LS w (L' ++ L) W := ⟨h.b, h.g, fun p v hp => (List.mem_append.1 hp).elim (h' p v) (h.c p v)⟩
/-- A new struct of three fields. -/
theorem LS.three (h : LS w L W) (t : TypeId) (x y z : Value) : LS w ([(⟨W.heap.size, 0, none⟩, x), (⟨W.heap.size, 1, none⟩, y), (⟨W.heap.size, 2, none⟩, z)] ++ L) (W.alloc (.cells #[x, y, z] t)) := by
  refine (h.new _).more fun p v hp => ?_
  simp only [List.mem_cons, Prod.mk.injEq, List.not_mem_nil, or_false] at hp
  rcases hp with ⟨rfl, rfl⟩ | ⟨rfl, rfl⟩ | ⟨rfl, rfl⟩ <;> simp [go_sem]
theorem LS.call {f : Nat} {args : Array Value} {v : Value} (S : LS w L W)
    (h : Calls Tryd.prog f args W fun e w' => e = .returned v ∧ Below W.heap.size W w') : Calls Tryd.prog f args W fun e w' => e = .returned v ∧ LS w L w' :=
  h.mono (by rintro e w' ⟨rfl, b⟩; exact ⟨rfl, S.next b⟩)
end

set_option maxRecDepth 100000 in
set_option maxHeartbeats 4000000 in
theorem known_any (w : World) (hg : CG w) : Calls Tryd.prog 10 #[] w fun e w' => e = .returned (.bool true) ∧ Below w.heap.size w w' := by
  have S := Lib.hid (LS.start hg)
  have i1 : Can.idx 5 1 5 = (389, 0) := by decide
  have o1 : Can.ofn 517 = ((6, 1, 5), true) := by decide
  have s1 : Can.spl 3221225861 = ((true, true, 389), 0) := by decide
  have s2 : Can.spl 536870912 = ((false, false, 0), 4) := by decide
  have r1 : Can.res 0 = true := by decide
  have r2 : Can.res 128 = false := by decide
  have K1 := Lib.hid (fun L W (S : LS w L W) => S.call (id_any 5 1 5 W S.g))
  have K2 := Lib.hid (fun L W (S : LS w L W) => S.call (of_any 517 (by decide) (by decide) W S.g))
  have K3 := Lib.hid (fun L W (S : LS w L W) => S.call (split_any (x := 3221225861) (by decide) (by decide) W))
  have K4 := Lib.hid (fun L W (S : LS w L W) => S.call (split_any (x := 536870912) (by decide) (by decide) W))
  have K5 := Lib.hid (fun L W (S : LS w L W) => S.call (restricted_any 0 W S.g))
  have K6 := Lib.hid (fun L W (S : LS w L W) => S.call (restricted_any 128 W S.g))
  rw [i1] at K1
  rw [o1] at K2
  rw [s1] at K3
  rw [s2] at K4
  rw [r1] at K5
  rw [r2] at K6
  clear hg i1 o1 s1 s2 r1 r2
  go_enter Tryd.func10, Tryd.ntmps10
  go_wp2_with fail
  refine (K1.out _ _ S.out).mono ?_
  clear S
  rintro e w1 ⟨rfl, S⟩
  have S := Lib.hid S
  go_wp2_with fail
  refine (K2.out _ _ S.out).mono ?_
  clear S
  rintro e w2 ⟨rfl, S⟩
  have S := Lib.hid (S.three 26 (.int .i64 6) (.int .i64 1) (.int .i64 5))
  go_wp2_with fail
  generalize w2.heap.size = bm at *
  generalize w2.alloc (.cells #[.int .i64 6, .int .i64 1, .int .i64 5] 26) = W2 at *
  refine (K3.out _ _ S.out).mono ?_
  clear S
  rintro e w3 ⟨rfl, S⟩
  have S := Lib.hid (S.three 39 (.bool true) (.bool true) (.int .i64 389))
  go_wp2_with fail
  generalize w3.heap.size = bc at *
  generalize w3.alloc (.cells #[.bool true, .bool true, .int .i64 389] 39) = W3 at *
  refine (K4.out _ _ S.out).mono ?_
  clear S
  rintro e w4 ⟨rfl, S⟩
  have m0 : ∀ o, (w4.alloc o).cell? ⟨bm, 0, none⟩ = some (.int .i64 6) := fun o => (S.new o).c _ _ (by simp)
  have m1 : ∀ o, (w4.alloc o).cell? ⟨bm, 1, none⟩ = some (.int .i64 1) := fun o => (S.new o).c _ _ (by simp)
  have m2 : ∀ o, (w4.alloc o).cell? ⟨bm, 2, none⟩ = some (.int .i64 5) := fun o => (S.new o).c _ _ (by simp)
  have c0 : ∀ o, (w4.alloc o).cell? ⟨bc, 0, none⟩ = some (.bool true) := fun o => (S.new o).c _ _ (by simp)
  have c1 : ∀ o, (w4.alloc o).cell? ⟨bc, 1, none⟩ = some (.bool true) := fun o => (S.new o).c _ _ (by simp)
  have c2 : ∀ o, (w4.alloc o).cell? ⟨bc, 2, none⟩ = some (.int .i64 389) := fun o => (S.new o).c _ _ (by simp)
  have hq1 : ∀ W, (binOp .eql 26 (.agg #[.int .i64 6, .int .i64 1, .int .i64 5]) (.agg #[.int .i64 6, .int .i64 1, .int .i64 5])).run Tryd.prog W = .ok (.bool true) W := fun W => by kernel_rfl
  have hq2 : ∀ W, (binOp .eql 39 (.agg #[.bool true, .bool true, .int .i64 389]) (.agg #[.bool true, .bool true, .int .i64 389])).run Tryd.prog W = .ok (.bool true) W := fun W => by kernel_rfl
  have S := Lib.hid fun o => S.new o
  go_wp2_with (first
    | (go_at_call 13; refine (K5.out _ _ (S.out _)).mono ?_; clear S m0 m1 m2 c0 c1 c2; rintro e w5 ⟨rfl, S⟩; have S := Lib.hid S)
    | (go_at_call 13; refine (K6.out _ _ S.out).mono ?_; clear S; rintro e w5 ⟨rfl, S⟩; have S := Lib.hid S))
  go_ret
  exact ⟨rfl, S.out.b⟩
end Go.Proofs.YtdakogmkpcldbaaDoor
