/-
  light, and the laws' fixed calls.
-/
import Derived.Test.YtedcjfgilpgpkaaDoorEntRight
import Derived.Laws.Rows
import Derived.Laws.Tables
import Derived.Deep.WholeRow
namespace Go.Proofs.YtedcjfgilpgpkaaDoor
namespace Ent
open Go.RowKit Mem
set_option linter.unusedVariables false
set_option linter.unusedSimpArgs false
set_option maxRecDepth 100000

theorem light_any (ix sub : Int) (nm : List UInt8) (ty ac : Int) (mp st : Bool) (mx lo hi : Int) (A : Option Addr) (n c : Nat) (w : World) :
    Calls Tryd.prog 8 #[ent ix sub nm ty ac mp st mx lo hi (.slice A n c)] w fun e w' => e = .returned (.bool (decide (n ≤ 2000 ∧ nm.length ≤ 2000))) ∧ Below w.heap.size w w' := by
  have B := Lib.hid (one_b w)
  have HS := siz nm
  by_cases h : n ≤ 2000
  · have d : decide ((n : Int) ≤ 2000) = true := by simp; omega
    have HE : Hid (decide (n ≤ 2000 ∧ nm.length ≤ 2000) = decide ((nm.length : Int) ≤ 2000)) := Lib.hid (by rw [decide_eq_decide]; omega)
    rw [HE.out]
    go_enter Tryd.func8, Tryd.ntmps8
    go_wp2_with fail
    go_ret
    exact ⟨rfl, B.out _⟩
  · have d : decide ((n : Int) ≤ 2000) = false := by simp; omega
    have HE : Hid (decide (n ≤ 2000 ∧ nm.length ≤ 2000) = false) := Lib.hid (by rw [decide_eq_false]; omega)
    rw [HE.out]
    go_enter Tryd.func8, Tryd.ntmps8
    go_wp2_with fail
    go_ret
    exact ⟨rfl, B.out _⟩

theorem kn0 : rightN 4119 0 [98, 101, 97, 116] 6 4 false false 0 0 1000 [232, 3] = 0 := by decide +kernel
theorem kn1 : rightN 4119 0 [66, 101, 97, 116] 6 4 false false 0 0 1000 [232, 3] = 14 := by decide +kernel
theorem kn2 : valN 6 0 0 1000 [233, 3] = 101253169 := by decide +kernel
theorem kn3 : valN 6 0 0 1000 [1] = 101122067 := by decide +kernel
theorem kn4 : groupN 4119 = 2 := by decide +kernel
theorem kn5 : nameB [97, 95, 49] = true := by decide +kernel
/-- Bytes that were just laid. -/
theorem rd_new (w : World) (a b : UInt8) : Rd (w.alloc (.cells #[.int .u8 (a.toNat : Int), .int .u8 (b.toNat : Int)] 5)) (w.heap.size + 1) (some ⟨w.heap.size, 0, none⟩) [a, b] := by
  refine .inr ⟨w.heap.size, 0, rfl, by omega, fun j hj => ?_⟩
  rcases (by simp at hj; omega : j = 0 ∨ j = 1) with rfl | rfl <;> simp [go_sem, byt]
theorem rd_new1 (w : World) (a : UInt8) : Rd (w.alloc (.cells #[.int .u8 (a.toNat : Int)] 5)) (w.heap.size + 1) (some ⟨w.heap.size, 0, none⟩) [a] := by
  refine .inr ⟨w.heap.size, 0, rfl, by omega, fun j hj => ?_⟩
  obtain rfl : j = 0 := by simp at hj; omega
  simp [go_sem, byt]
theorem rd_233 (w : World) : Rd (w.alloc (.cells #[.int .u8 233, .int .u8 3] 5)) (w.alloc (.cells #[.int .u8 233, .int .u8 3] 5)).heap.size (some ⟨w.heap.size, 0, none⟩) [233, 3] := (rd_new w 233 3).mono (by simp)
theorem rd_1 (w : World) : Rd (w.alloc (.cells #[.int .u8 1] 5)) (w.alloc (.cells #[.int .u8 1] 5)).heap.size (some ⟨w.heap.size, 0, none⟩) [1] := (rd_new1 w 1).mono (by simp)
/-- What a walk holds on to: nothing that was there is changed, the variables hold what they held, two blocks of its own stand. -/
structure KS2 (w : World) (p q : Nat) (cs ds : Array Value) (A : Option Addr) (bs : List UInt8) (W : World) : Prop where
  b : Below w.heap.size w W
  g : TG W
  r : W.heap[p]? = some (.cells cs 24)
  s : W.heap[q]? = some (.cells ds 24)
  d : Rd W W.heap.size A bs
theorem KS2.next {w W W' : World} {p q : Nat} {cs ds : Array Value} {A : Option Addr} {bs : List UInt8} (h : KS2 w p q cs ds A bs W) (hb : Below W.heap.size W W') : KS2 w p q cs ds A bs W' :=
  ⟨h.b.trans (hb.mono h.b.size), h.g.below hb (Nat.le_refl _), (hb.block _ (Array.getElem?_eq_some_iff.1 h.r).1).trans h.r, (hb.block _ (Array.getElem?_eq_some_iff.1 h.s).1).trans h.s, (h.d.below hb).mono hb.size⟩
theorem row_cells {W : World} {b : Nat} {ix sub : Int} {nm : List UInt8} {ty ac : Int} {mp st : Bool} {mx lo hi : Int} {v : Value} (h : W.heap[b]? = some (.cells (row ix sub nm ty ac mp st mx lo hi v) 24)) :
    W.cell? ⟨b, 0, none⟩ = some (.int .i64 ix) ∧ W.cell? ⟨b, 1, none⟩ = some (.int .i64 sub) ∧ W.cell? ⟨b, 2, none⟩ = some (.string ⟨nm.toArray⟩) ∧ W.cell? ⟨b, 3, none⟩ = some (.int .i64 ty) ∧ W.cell? ⟨b, 4, none⟩ = some (.int .i64 ac) ∧
    W.cell? ⟨b, 5, none⟩ = some (.bool mp) ∧ W.cell? ⟨b, 6, none⟩ = some (.bool st) ∧ W.cell? ⟨b, 7, none⟩ = some (.int .i64 mx) ∧ W.cell? ⟨b, 8, none⟩ = some (.int .i64 lo) ∧ W.cell? ⟨b, 9, none⟩ = some (.int .i64 hi) ∧ W.cell? ⟨b, 10, none⟩ = some v := by
  have e : ∀ j, W.cell? ⟨b, j, none⟩ = (row ix sub nm ty ac mp st mx lo hi v)[j]? := fun j => by simp [World.cell?, h]
  exact ⟨e 0, e 1, e 2, e 3, e 4, e 5, e 6, e 7, e 8, e 9, e 10⟩

theorem kn_start (w : World) (hg : TG w) (cs ds : Array Value) : KS2 w (w.heap.size + 1) (w.heap.size + 1 + 1) cs ds (some ⟨w.heap.size, 0, none⟩) [232, 3]
    (((w.alloc (.cells #[.int .u8 232, .int .u8 3] 5)).alloc (.cells cs 24)).alloc (.cells ds 24)) := by
  have b1 := one_b w (.cells #[.int .u8 232, .int .u8 3] 5)
  have b2 := one_b (w.alloc (.cells #[.int .u8 232, .int .u8 3] 5)) (.cells cs 24)
  have b3 := one_b ((w.alloc (.cells #[.int .u8 232, .int .u8 3] 5)).alloc (.cells cs 24)) (.cells ds 24)
  have b := (b1.trans (b2.mono b1.size)).trans (b3.mono (by simp; omega))
  refine ⟨b, hg.below b (Nat.le_refl _), ?_, ?_, ?_⟩
  · have h := heap_alloc_new (w.alloc (.cells #[.int .u8 232, .int .u8 3] 5)) (.cells cs 24)
    rw [b3.block _ (by simp)]
    simpa using h
  · have h := heap_alloc_new ((w.alloc (.cells #[.int .u8 232, .int .u8 3] 5)).alloc (.cells cs 24)) (.cells ds 24)
    simpa using h
  · exact (((rd_new w 232 3).below (b2.mono (by simp))).below (b3.mono (by simp))).mono (by simp)

set_option maxHeartbeats 4000000 in
theorem known_any (w : World) (hg : TG w) : Calls Tryd.prog 9 #[] w fun e w' => e = .returned (.bool true) ∧ Below w.heap.size w w' := by
  have K0 := Lib.hid (fun A W (hr : Rd W W.heap.size A [232, 3]) hG => right_any 4119 0 [98, 101, 97, 116] 6 4 false false 0 0 1000 A 2 2 [232, 3] W (by decide) (by decide) (by decide) hr rfl (by decide) hG)
  have K1 := Lib.hid (fun A W (hr : Rd W W.heap.size A [232, 3]) hG => right_any 4119 0 [66, 101, 97, 116] 6 4 false false 0 0 1000 A 2 2 [232, 3] W (by decide) (by decide) (by decide) hr rfl (by decide) hG)
  have K2 := Lib.hid (fun v A W (hr : Rd W W.heap.size A [233, 3]) hG => value_any 4119 0 [98, 101, 97, 116] 6 4 false false 0 0 1000 v A 2 2 [233, 3] W (by decide) (by decide) hr rfl (by decide) hG)
  have K3 := Lib.hid (fun v A W (hr : Rd W W.heap.size A [1]) hG => value_any 4119 0 [98, 101, 97, 116] 6 4 false false 0 0 1000 v A 1 1 [1] W (by decide) (by decide) hr rfl (by decide) hG)
  have K4 := Lib.hid (fun v W => group_any 4119 0 [98, 101, 97, 116] 6 4 false false 0 0 1000 v W)
  have K5 := Lib.hid (fun W => name_any [97, 95, 49] W (by decide))
  rw [kn0] at K0
  rw [kn1] at K1
  rw [kn2] at K2
  rw [kn3] at K3
  rw [kn4] at K4
  rw [kn5] at K5
  have S := Lib.hid (kn_start w hg (row 4119 0 [98, 101, 97, 116] 6 4 false false 0 0 1000 (.slice (some ⟨w.heap.size, 0, none⟩) 2 2)) (row 4119 0 [66, 101, 97, 116] 6 4 false false 0 0 1000 (.slice (some ⟨w.heap.size, 0, none⟩) 2 2)))
  clear hg
  go_enter Tryd.func9, Tryd.ntmps9
  go_wp2_with fail
  refine (K0.out _ _ S.out.d S.out.g).mono ?_
  rintro e w1 ⟨rfl, b⟩
  have S1 := Lib.hid (S.out.next b)
  clear S b K0
  obtain ⟨q0, q1, q2, q3, q4, q5, q6, q7, q8, q9, q10⟩ := row_cells S1.out.s
  go_wp2_with fail
  refine (K1.out _ _ S1.out.d S1.out.g).mono ?_
  rintro e w2 ⟨rfl, b⟩
  have S2 := Lib.hid (S1.out.next b)
  clear S1 b K1 q0 q1 q2 q3 q4 q5 q6 q7 q8 q9 q10
  obtain ⟨q0, q1, q2, q3, q4, q5, q6, q7, q8, q9, q10⟩ := row_cells S2.out.r
  go_wp2_with fail
  have b := one_b w2 (.cells #[.int .u8 233, .int .u8 3] 5)
  have S3 := Lib.hid (S2.out.next b)
  refine (K2.out _ _ _ (rd_233 w2) S3.out.g).mono ?_
  clear S2 q0 q1 q2 q3 q4 q5 q6 q7 q8 q9 q10 K2
  rintro e w3 ⟨rfl, b⟩
  have S2 := Lib.hid (S3.out.next b)
  clear S3 b
  obtain ⟨q0, q1, q2, q3, q4, q5, q6, q7, q8, q9, q10⟩ := row_cells S2.out.r
  go_wp2_with fail
  have b := one_b w3 (.cells #[.int .u8 1] 5)
  have S3 := Lib.hid (S2.out.next b)
  refine (K3.out _ _ _ (rd_1 w3) S3.out.g).mono ?_
  clear S2 q0 q1 q2 q3 q4 q5 q6 q7 q8 q9 q10 K3
  rintro e w4 ⟨rfl, b⟩
  have S2 := Lib.hid (S3.out.next b)
  clear S3 b
  obtain ⟨q0, q1, q2, q3, q4, q5, q6, q7, q8, q9, q10⟩ := row_cells S2.out.r
  go_wp2_with fail
  refine (K4.out _ _).mono ?_
  clear q0 q1 q2 q3 q4 q5 q6 q7 q8 q9 q10 K4
  rintro e w5 ⟨rfl, b⟩
  have S3 := Lib.hid (S2.out.next b)
  clear S2 b
  go_wp2_with fail
  refine (K5.out _).mono ?_
  rintro e w6 ⟨rfl, rfl⟩
  go_wp2_with fail
  go_ret
  exact ⟨rfl, S3.out.b⟩
end Ent
end Go.Proofs.YtedcjfgilpgpkaaDoor
