/-
  Are two looks alike?
-/
import Derived.Test.YtfiojimppbaihaaSecKnown
namespace Go.Proofs.Ytfiojimppbaihaa
namespace Sec
open Go.RowKit Mem Rec
set_option linter.unusedVariables false
set_option linter.unusedSimpArgs false

set_option maxRecDepth 100000 in
set_option maxHeartbeats 1000000 in
theorem same_yes (x : Lk) (cl : Bool) (A A' : Option Addr) (c c' B : Nat) (w : World) (hr : Rd w B A x.d) (hr' : Rd w B A' x.d) (hB : B ≤ w.heap.size) :
    Calls Try.prog 8 #[look_ x (.slice A x.d.length c) cl, look_ x (.slice A' x.d.length c') cl] w fun e w' => e = .returned (.bool true) ∧ Below w.heap.size w w' := by
  obtain ⟨k, n, d, cnt, e⟩ := x
  simp only [look_] at *
  have b1 := below2 w (.cells #[.int .i64 k, .int .u32 n, .slice A d.length c, .int .i64 (cnt : Int), .int .i64 (e : Int), .bool cl] 29) (.cells #[.int .i64 k, .int .u32 n, .slice A' d.length c', .int .i64 (cnt : Int), .int .i64 (e : Int), .bool cl] 32)
  have q := heap_alloc2_old w (.cells #[.int .i64 k, .int .u32 n, .slice A d.length c, .int .i64 (cnt : Int), .int .i64 (e : Int), .bool cl] 29) (.cells #[.int .i64 k, .int .u32 n, .slice A' d.length c', .int .i64 (cnt : Int), .int .i64 (e : Int), .bool cl] 32)
  have r := heap_alloc2_new w (.cells #[.int .i64 k, .int .u32 n, .slice A d.length c, .int .i64 (cnt : Int), .int .i64 (e : Int), .bool cl] 29) (.cells #[.int .i64 k, .int .u32 n, .slice A' d.length c', .int .i64 (cnt : Int), .int .i64 (e : Int), .bool cl] 32)
  have hs : ((w.alloc (.cells #[.int .i64 k, .int .u32 n, .slice A d.length c, .int .i64 (cnt : Int), .int .i64 (e : Int), .bool cl] 29)).alloc (.cells #[.int .i64 k, .int .u32 n, .slice A' d.length c', .int .i64 (cnt : Int), .int .i64 (e : Int), .bool cl] 32)).heap.size = w.heap.size + 1 + 1 := by simp only [World.size_alloc]
  have H := Lib.hid (same_any k n k n A A' c c' B d d _ (hr.below (b1.mono hB)) (hr'.below (b1.mono hB)) (by rw [hs]; omega))
  rw [show sameB k n d k n d = true by simp [sameB]] at H
  go_enter Try.func8, Try.ntmps8
  go_wp2_with fail
  refine H.out.mono ?_
  rintro e w2 ⟨rfl, b2⟩
  have q2 := (b2.block w.heap.size (by omega)).trans q
  have r2 := (b2.block (w.heap.size + 1) (by omega)).trans r
  have q3 := cell_of q2 3
  have q4 := cell_of q2 4
  have q5 := cell_of q2 5
  have r3 := cell_of r2 3
  have r4 := cell_of r2 4
  have r5 := cell_of r2 5
  have B2 := b1.trans (b2.mono b1.size)
  clear q r hs H b1 b2 q2 r2
  go_wp2_with fail
  go_ret
  exact ⟨by simp, B2⟩

end Sec
end Go.Proofs.Ytfiojimppbaihaa
