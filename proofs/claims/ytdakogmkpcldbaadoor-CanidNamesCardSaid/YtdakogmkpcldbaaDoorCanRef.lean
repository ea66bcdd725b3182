/-
  The document's small functions: Id, Restricted, Split, Join.
-/
import Derived.Test.YtdakogmkpcldbaaDoorCanIds
import Derived.Test.YtdakogmkpcldbaaDoorText
namespace Go.Proofs.YtdakogmkpcldbaaDoor
open Go.RowKit
set_option linter.unusedVariables false

theorem rid_out {k n d : Int} (h : k < 1 ∨ 9 < k) (w : World) : Calls Tryd.prog 9 #[.agg #[.int .i64 k, .int .i64 n, .int .i64 d]] w
    fun e w' => e = .returned (.tuple #[.int .i64 (Can.idx k n d).1, .int .i64 (Can.idx k n d).2]) ∧ Below w.heap.size w w' := by
  rw [Can.idx_no (by unfold Can.Ok; omega)]
  by_cases h1 : k < 1
  · have d1 : decide (k < 1) = true := decide_eq_true h1
    go_enter Tryd.func9, Tryd.ntmps9
    go_wp2_with fail
    go_ret2
    exact ⟨rfl, below_new _ _⟩
  · have d1 : decide (k < 1) = false := decide_eq_false h1
    have d2 : decide (9 < k) = true := decide_eq_true (by omega)
    go_enter Tryd.func9, Tryd.ntmps9
    go_wp2_with fail
    go_ret2
    exact ⟨rfl, below_new _ _⟩
/-- While the document's Id adds up. -/
structure RI (w : World) (k n d : Int) (W : World) : Prop where
  b : Below w.heap.size w W
  n0 : W.cell? ⟨w.heap.size, 0, none⟩ = some (.int .i64 k)
  n1 : W.cell? ⟨w.heap.size, 1, none⟩ = some (.int .i64 n)
  n2 : W.cell? ⟨w.heap.size, 2, none⟩ = some (.int .i64 d)
  bc : W.cell? ⟨w.heap.size + 1, k.toNat, none⟩ = some (.int .i64 (Can.base k))
theorem RI.drew {w W : World} {k n d : Int} (h : RI w k n d W) : RI w k n d W.drew := ⟨h.b.trans ((below_drew W).mono h.b.size), h.n0, h.n1, h.n2, h.bc⟩
set_option maxRecDepth 100000 in
set_option maxHeartbeats 4000000 in
theorem rid_1 (n d : Int) (w : World) : Calls Tryd.prog 9 #[.agg #[.int .i64 1, .int .i64 n, .int .i64 d]] w
    fun e w' => e = .returned (.tuple #[.int .i64 (Can.idx 1 n d).1, .int .i64 (Can.idx 1 n d).2]) ∧ Below w.heap.size w w' := by
  go_enter Tryd.func9, Tryd.ntmps9
  go_wp2_with fail
  all_goals first
    | (go_ret2
       rw [Can.idx_no (by unfold Can.Ok; omega)]
       exact ⟨rfl, below_new _ _⟩)
    | (refine Txt.wp_region_textN 14 (fun W => RI w 1 n d W) (by kernel_rfl) (by kernel_rfl) (by kernel_rfl) (by kernel_rfl) (fun _ _ _ _ _ h => h) (RI.drew ⟨(below_new _ _).alloc (by simp) _, by simp [go_sem, *], by simp [go_sem, *], by simp [go_sem, *], by simp [go_sem, Can.base, Can.bases]⟩) ?_
       iterate 14 (
         apply Txt.step rfl
         · intro W hS K hK
           have n0 := hS.n0
           have n1 := hS.n1
           have n2 := hS.n2
           have bc : W.cell? ⟨w.heap.size + 1, 1, none⟩ = some (.int .i64 0) := hS.bc
           go_simp
           try (go_wp2_with fail)
           exact hK.out _ hS
         · first | exact ⟨_, rfl⟩ | exact ⟨undef, rfl⟩)
       refine Txt.last fun W hS => ?_
       have S := Lib.hid hS.b
       clear hS
       go_wp2_with fail
       go_ret2
       rw [Can.idx_yes (by unfold Can.Ok; omega)]
       refine ⟨?_, S.out⟩
       refine congrArg (fun z => Ending.returned (.tuple #[.int .i64 z, .int .i64 0])) ?_
       rw [show Can.base 1 = 0 from rfl]
       simp only [IntKind.wrap_i64]
       omega)
set_option maxRecDepth 100000 in
set_option maxHeartbeats 4000000 in
theorem rid_2 (n d : Int) (w : World) : Calls Tryd.prog 9 #[.agg #[.int .i64 2, .int .i64 n, .int .i64 d]] w
    fun e w' => e = .returned (.tuple #[.int .i64 (Can.idx 2 n d).1, .int .i64 (Can.idx 2 n d).2]) ∧ Below w.heap.size w w' := by
  go_enter Tryd.func9, Tryd.ntmps9
  go_wp2_with fail
  all_goals first
    | (go_ret2
       rw [Can.idx_no (by unfold Can.Ok; omega)]
       exact ⟨rfl, below_new _ _⟩)
    | (refine Txt.wp_region_textN 14 (fun W => RI w 2 n d W) (by kernel_rfl) (by kernel_rfl) (by kernel_rfl) (by kernel_rfl) (fun _ _ _ _ _ h => h) (RI.drew ⟨(below_new _ _).alloc (by simp) _, by simp [go_sem, *], by simp [go_sem, *], by simp [go_sem, *], by simp [go_sem, Can.base, Can.bases]⟩) ?_
       iterate 14 (
         apply Txt.step rfl
         · intro W hS K hK
           have n0 := hS.n0
           have n1 := hS.n1
           have n2 := hS.n2
           have bc : W.cell? ⟨w.heap.size + 1, 2, none⟩ = some (.int .i64 128) := hS.bc
           go_simp
           try (go_wp2_with fail)
           exact hK.out _ hS
         · first | exact ⟨_, rfl⟩ | exact ⟨undef, rfl⟩)
       refine Txt.last fun W hS => ?_
       have S := Lib.hid hS.b
       clear hS
       go_wp2_with fail
       go_ret2
       rw [Can.idx_yes (by unfold Can.Ok; omega)]
       refine ⟨?_, S.out⟩
       refine congrArg (fun z => Ending.returned (.tuple #[.int .i64 z, .int .i64 0])) ?_
       rw [show Can.base 2 = 128 from rfl]
       simp only [IntKind.wrap_i64]
       omega)
set_option maxRecDepth 100000 in
set_option maxHeartbeats 4000000 in
theorem rid_3 (n d : Int) (w : World) : Calls Tryd.prog 9 #[.agg #[.int .i64 3, .int .i64 n, .int .i64 d]] w
    fun e w' => e = .returned (.tuple #[.int .i64 (Can.idx 3 n d).1, .int .i64 (Can.idx 3 n d).2]) ∧ Below w.heap.size w w' := by
  go_enter Tryd.func9, Tryd.ntmps9
  go_wp2_with fail
  all_goals first
    | (go_ret2
       rw [Can.idx_no (by unfold Can.Ok; omega)]
       exact ⟨rfl, below_new _ _⟩)
    | (refine Txt.wp_region_textN 14 (fun W => RI w 3 n d W) (by kernel_rfl) (by kernel_rfl) (by kernel_rfl) (by kernel_rfl) (fun _ _ _ _ _ h => h) (RI.drew ⟨(below_new _ _).alloc (by simp) _, by simp [go_sem, *], by simp [go_sem, *], by simp [go_sem, *], by simp [go_sem, Can.base, Can.bases]⟩) ?_
       iterate 14 (
         apply Txt.step rfl
         · intro W hS K hK
           have n0 := hS.n0
           have n1 := hS.n1
           have n2 := hS.n2
           have bc : W.cell? ⟨w.heap.size + 1, 3, none⟩ = some (.int .i64 256) := hS.bc
           go_simp
           try (go_wp2_with fail)
           exact hK.out _ hS
         · first | exact ⟨_, rfl⟩ | exact ⟨undef, rfl⟩)
       refine Txt.last fun W hS => ?_
       have S := Lib.hid hS.b
       clear hS
       go_wp2_with fail
       go_ret2
       rw [Can.idx_yes (by unfold Can.Ok; omega)]
       refine ⟨?_, S.out⟩
       refine congrArg (fun z => Ending.returned (.tuple #[.int .i64 z, .int .i64 0])) ?_
       rw [show Can.base 3 = 256 from rfl]
       simp only [IntKind.wrap_i64]
       omega)
set_option maxRecDepth 100000 in
set_option maxHeartbeats 4000000 in
theorem rid_4 (n d : Int) (w : World) : Calls Tryd.prog 9 #[.agg #[.int .i64 4, .int .i64 n, .int .i64 d]] w
    fun e w' => e = .returned (.tuple #[.int .i64 (Can.idx 4 n d).1, .int .i64 (Can.idx 4 n d).2]) ∧ Below w.heap.size w w' := by
  go_enter Tryd.func9, Tryd.ntmps9
  go_wp2_with fail
  all_goals first
    | (go_ret2
       rw [Can.idx_no (by unfold Can.Ok; omega)]
       exact ⟨rfl, below_new _ _⟩)
    | (refine Txt.wp_region_textN 14 (fun W => RI w 4 n d W) (by kernel_rfl) (by kernel_rfl) (by kernel_rfl) (by kernel_rfl) (fun _ _ _ _ _ h => h) (RI.drew ⟨(below_new _ _).alloc (by simp) _, by simp [go_sem, *], by simp [go_sem, *], by simp [go_sem, *], by simp [go_sem, Can.base, Can.bases]⟩) ?_
       iterate 14 (
         apply Txt.step rfl
         · intro W hS K hK
           have n0 := hS.n0
           have n1 := hS.n1
           have n2 := hS.n2
           have bc : W.cell? ⟨w.heap.size + 1, 4, none⟩ = some (.int .i64 128) := hS.bc
           go_simp
           try (go_wp2_with fail)
           exact hK.out _ hS
         · first | exact ⟨_, rfl⟩ | exact ⟨undef, rfl⟩)
       refine Txt.last fun W hS => ?_
       have S := Lib.hid hS.b
       clear hS
       go_wp2_with fail
       go_ret2
       rw [Can.idx_yes (by unfold Can.Ok; omega)]
       refine ⟨?_, S.out⟩
       refine congrArg (fun z => Ending.returned (.tuple #[.int .i64 z, .int .i64 0])) ?_
       rw [show Can.base 4 = 128 from rfl]
       simp only [IntKind.wrap_i64]
       omega)
set_option maxRecDepth 100000 in
set_option maxHeartbeats 4000000 in
theorem rid_5 (n d : Int) (w : World) : Calls Tryd.prog 9 #[.agg #[.int .i64 5, .int .i64 n, .int .i64 d]] w
    fun e w' => e = .returned (.tuple #[.int .i64 (Can.idx 5 n d).1, .int .i64 (Can.idx 5 n d).2]) ∧ Below w.heap.size w w' := by
  go_enter Tryd.func9, Tryd.ntmps9
  go_wp2_with fail
  all_goals first
    | (go_ret2
       rw [Can.idx_no (by unfold Can.Ok; omega)]
       exact ⟨rfl, below_new _ _⟩)
    | (refine Txt.wp_region_textN 14 (fun W => RI w 5 n d W) (by kernel_rfl) (by kernel_rfl) (by kernel_rfl) (by kernel_rfl) (fun _ _ _ _ _ h => h) (RI.drew ⟨(below_new _ _).alloc (by simp) _, by simp [go_sem, *], by simp [go_sem, *], by simp [go_sem, *], by simp [go_sem, Can.base, Can.bases]⟩) ?_
       iterate 14 (
         apply Txt.step rfl
         · intro W hS K hK
           have n0 := hS.n0
           have n1 := hS.n1
           have n2 := hS.n2
           have bc : W.cell? ⟨w.heap.size + 1, 5, none⟩ = some (.int .i64 128) := hS.bc
           go_simp
           try (go_wp2_with fail)
           exact hK.out _ hS
         · first | exact ⟨_, rfl⟩ | exact ⟨undef, rfl⟩)
       refine Txt.last fun W hS => ?_
       have S := Lib.hid hS.b
       clear hS
       go_wp2_with fail
       go_ret2
       rw [Can.idx_yes (by unfold Can.Ok; omega)]
       refine ⟨?_, S.out⟩
       refine congrArg (fun z => Ending.returned (.tuple #[.int .i64 z, .int .i64 0])) ?_
       rw [show Can.base 5 = 128 from rfl]
       simp only [IntKind.wrap_i64]
       omega)
set_option maxRecDepth 100000 in
set_option maxHeartbeats 4000000 in
theorem rid_6 (n d : Int) (w : World) : Calls Tryd.prog 9 #[.agg #[.int .i64 6, .int .i64 n, .int .i64 d]] w
    fun e w' => e = .returned (.tuple #[.int .i64 (Can.idx 6 n d).1, .int .i64 (Can.idx 6 n d).2]) ∧ Below w.heap.size w w' := by
  go_enter Tryd.func9, Tryd.ntmps9
  go_wp2_with fail
  all_goals first
    | (go_ret2
       rw [Can.idx_no (by unfold Can.Ok; omega)]
       exact ⟨rfl, below_new _ _⟩)
    | (refine Txt.wp_region_textN 14 (fun W => RI w 6 n d W) (by kernel_rfl) (by kernel_rfl) (by kernel_rfl) (by kernel_rfl) (fun _ _ _ _ _ h => h) (RI.drew ⟨(below_new _ _).alloc (by simp) _, by simp [go_sem, *], by simp [go_sem, *], by simp [go_sem, *], by simp [go_sem, Can.base, Can.bases]⟩) ?_
       iterate 14 (
         apply Txt.step rfl
         · intro W hS K hK
           have n0 := hS.n0
           have n1 := hS.n1
           have n2 := hS.n2
           have bc : W.cell? ⟨w.heap.size + 1, 6, none⟩ = some (.int .i64 256) := hS.bc
           go_simp
           try (go_wp2_with fail)
           exact hK.out _ hS
         · first | exact ⟨_, rfl⟩ | exact ⟨undef, rfl⟩)
       refine Txt.last fun W hS => ?_
       have S := Lib.hid hS.b
       clear hS
       go_wp2_with fail
       go_ret2
       rw [Can.idx_yes (by unfold Can.Ok; omega)]
       refine ⟨?_, S.out⟩
       refine congrArg (fun z => Ending.returned (.tuple #[.int .i64 z, .int .i64 0])) ?_
       rw [show Can.base 6 = 256 from rfl]
       simp only [IntKind.wrap_i64]
       omega)
set_option maxRecDepth 100000 in
set_option maxHeartbeats 4000000 in
theorem rid_7 (n d : Int) (w : World) : Calls Tryd.prog 9 #[.agg #[.int .i64 7, .int .i64 n, .int .i64 d]] w
    fun e w' => e = .returned (.tuple #[.int .i64 (Can.idx 7 n d).1, .int .i64 (Can.idx 7 n d).2]) ∧ Below w.heap.size w w' := by
  go_enter Tryd.func9, Tryd.ntmps9
  go_wp2_with fail
  all_goals first
    | (go_ret2
       rw [Can.idx_no (by unfold Can.Ok; omega)]
       exact ⟨rfl, below_new _ _⟩)
    | (refine Txt.wp_region_textN 14 (fun W => RI w 7 n d W) (by kernel_rfl) (by kernel_rfl) (by kernel_rfl) (by kernel_rfl) (fun _ _ _ _ _ h => h) (RI.drew ⟨(below_new _ _).alloc (by simp) _, by simp [go_sem, *], by simp [go_sem, *], by simp [go_sem, *], by simp [go_sem, Can.base, Can.bases]⟩) ?_
       iterate 14 (
         apply Txt.step rfl
         · intro W hS K hK
           have n0 := hS.n0
           have n1 := hS.n1
           have n2 := hS.n2
           have bc : W.cell? ⟨w.heap.size + 1, 7, none⟩ = some (.int .i64 1408) := hS.bc
           go_simp
           try (go_wp2_with fail)
           exact hK.out _ hS
         · first | exact ⟨_, rfl⟩ | exact ⟨undef, rfl⟩)
       refine Txt.last fun W hS => ?_
       have S := Lib.hid hS.b
       clear hS
       go_wp2_with fail
       go_ret2
       rw [Can.idx_yes (by unfold Can.Ok; omega)]
       refine ⟨?_, S.out⟩
       refine congrArg (fun z => Ending.returned (.tuple #[.int .i64 z, .int .i64 0])) ?_
       rw [show Can.base 7 = 1408 from rfl]
       simp only [IntKind.wrap_i64]
       omega)
set_option maxRecDepth 100000 in
set_option maxHeartbeats 4000000 in
theorem rid_8 (n d : Int) (w : World) : Calls Tryd.prog 9 #[.agg #[.int .i64 8, .int .i64 n, .int .i64 d]] w
    fun e w' => e = .returned (.tuple #[.int .i64 (Can.idx 8 n d).1, .int .i64 (Can.idx 8 n d).2]) ∧ Below w.heap.size w w' := by
  go_enter Tryd.func9, Tryd.ntmps9
  go_wp2_with fail
  all_goals first
    | (go_ret2
       rw [Can.idx_no (by unfold Can.Ok; omega)]
       exact ⟨rfl, below_new _ _⟩)
    | (refine Txt.wp_region_textN 14 (fun W => RI w 8 n d W) (by kernel_rfl) (by kernel_rfl) (by kernel_rfl) (by kernel_rfl) (fun _ _ _ _ _ h => h) (RI.drew ⟨(below_new _ _).alloc (by simp) _, by simp [go_sem, *], by simp [go_sem, *], by simp [go_sem, *], by simp [go_sem, Can.base, Can.bases]⟩) ?_
       iterate 14 (
         apply Txt.step rfl
         · intro W hS K hK
           have n0 := hS.n0
           have n1 := hS.n1
           have n2 := hS.n2
           have bc : W.cell? ⟨w.heap.size + 1, 8, none⟩ = some (.int .i64 1536) := hS.bc
           go_simp
           try (go_wp2_with fail)
           exact hK.out _ hS
         · first | exact ⟨_, rfl⟩ | exact ⟨undef, rfl⟩)
       refine Txt.last fun W hS => ?_
       have S := Lib.hid hS.b
       clear hS
       go_wp2_with fail
       go_ret2
       rw [Can.idx_yes (by unfold Can.Ok; omega)]
       refine ⟨?_, S.out⟩
       refine congrArg (fun z => Ending.returned (.tuple #[.int .i64 z, .int .i64 0])) ?_
       rw [show Can.base 8 = 1536 from rfl]
       simp only [IntKind.wrap_i64]
       omega)
set_option maxRecDepth 100000 in
set_option maxHeartbeats 4000000 in
theorem rid_9 (n d : Int) (w : World) : Calls Tryd.prog 9 #[.agg #[.int .i64 9, .int .i64 n, .int .i64 d]] w
    fun e w' => e = .returned (.tuple #[.int .i64 (Can.idx 9 n d).1, .int .i64 (Can.idx 9 n d).2]) ∧ Below w.heap.size w w' := by
  go_enter Tryd.func9, Tryd.ntmps9
  go_wp2_with fail
  all_goals first
    | (go_ret2
       rw [Can.idx_no (by unfold Can.Ok; omega)]
       exact ⟨rfl, below_new _ _⟩)
    | (refine Txt.wp_region_textN 14 (fun W => RI w 9 n d W) (by kernel_rfl) (by kernel_rfl) (by kernel_rfl) (by kernel_rfl) (fun _ _ _ _ _ h => h) (RI.drew ⟨(below_new _ _).alloc (by simp) _, by simp [go_sem, *], by simp [go_sem, *], by simp [go_sem, *], by simp [go_sem, Can.base, Can.bases]⟩) ?_
       iterate 14 (
         apply Txt.step rfl
         · intro W hS K hK
           have n0 := hS.n0
           have n1 := hS.n1
           have n2 := hS.n2
           have bc : W.cell? ⟨w.heap.size + 1, 9, none⟩ = some (.int .i64 1792) := hS.bc
           go_simp
           try (go_wp2_with fail)
           exact hK.out _ hS
         · first | exact ⟨_, rfl⟩ | exact ⟨undef, rfl⟩)
       refine Txt.last fun W hS => ?_
       have S := Lib.hid hS.b
       clear hS
       go_wp2_with fail
       go_ret2
       rw [Can.idx_yes (by unfold Can.Ok; omega)]
       refine ⟨?_, S.out⟩
       refine congrArg (fun z => Ending.returned (.tuple #[.int .i64 z, .int .i64 0])) ?_
       rw [show Can.base 9 = 1792 from rfl]
       simp only [IntKind.wrap_i64]
       omega)
theorem rid_any (k n d : Int) (w : World) : Calls Tryd.prog 9 #[.agg #[.int .i64 k, .int .i64 n, .int .i64 d]] w
    fun e w' => e = .returned (.tuple #[.int .i64 (Can.idx k n d).1, .int .i64 (Can.idx k n d).2]) ∧ Below w.heap.size w w' := by
  by_cases h : k < 1 ∨ 9 < k
  · exact rid_out h w
  · rcases (by omega : k = 1 ∨ k = 2 ∨ k = 3 ∨ k = 4 ∨ k = 5 ∨ k = 6 ∨ k = 7 ∨ k = 8 ∨ k = 9) with rfl | rfl | rfl | rfl | rfl | rfl | rfl | rfl | rfl
    · exact rid_1 n d w
    · exact rid_2 n d w
    · exact rid_3 n d w
    · exact rid_4 n d w
    · exact rid_5 n d w
    · exact rid_6 n d w
    · exact rid_7 n d w
    · exact rid_8 n d w
    · exact rid_9 n d w

theorem rrestricted_any (x : Int) (w : World) : Calls Tryd.prog 14 #[.int .i64 x] w fun e w' => e = .returned (.bool (Can.res x)) ∧ w = w' := by
  cases hr : Can.res x with
  | true =>
    have h := of_decide_eq_true hr
    clear hr
    go_enter Tryd.func14, Tryd.ntmps14
    go_wp2_with fail
    all_goals go_ret
    all_goals first | exact ⟨rfl, rfl⟩ | (exfalso; omega)
  | false =>
    have h := of_decide_eq_false hr
    clear hr
    go_enter Tryd.func14, Tryd.ntmps14
    go_wp2_with fail
    all_goals go_ret
    all_goals first | exact ⟨rfl, rfl⟩ | (exfalso; omega)

theorem rsplit_yes {x : Int} (h0 : 0 ≤ x) (h1 : x ≤ 4294967295) (h : Can.bad x = false) (w : World) : Calls Tryd.prog 16 #[.int .u32 x] w
    fun e w' => e = .returned (.tuple #[.agg #[.bool (Can.wOff x), .bool (Can.wNo x), .int .i64 (x % 2048)], .int .i64 0]) ∧ Below w.heap.size w w' := by
  have h := of_decide_eq_false h
  unfold Can.wOff Can.wNo
  go_enter Tryd.func16, Tryd.ntmps16
  go_wp2_with fail
  refine bodyPost_ret (v := .tuple #[.agg #[.bool (decide (2147483648 ≤ x)), .bool (decide (1073741824 ≤ x % 2147483648)), .int .i64 (x % 2048)], .int .i64 0]) (by simp [results, Tryd.results16, go_sem]) rfl ⟨rfl, below_new _ _⟩
theorem rsplit_no {x : Int} (h0 : 0 ≤ x) (h1 : x ≤ 4294967295) (h : Can.bad x = true) (w : World) : Calls Tryd.prog 16 #[.int .u32 x] w
    fun e w' => e = .returned (.tuple #[.agg #[.bool false, .bool false, .int .i64 0], .int .i64 4]) ∧ Below w.heap.size w w' := by
  have h := of_decide_eq_true h
  go_enter Tryd.func16, Tryd.ntmps16
  go_wp2_with fail
  refine bodyPost_ret (v := .tuple #[.agg #[.bool false, .bool false, .int .i64 0], .int .i64 4]) (by simp [results, Tryd.results16, go_sem]) rfl ⟨rfl, below_new _ _⟩
theorem rsplit_any {x : Int} (h0 : 0 ≤ x) (h1 : x ≤ 4294967295) (w : World) : Calls Tryd.prog 16 #[.int .u32 x] w
    fun e w' => e = .returned (.tuple #[.agg #[.bool (Can.spl x).1.1, .bool (Can.spl x).1.2.1, .int .i64 (Can.spl x).1.2.2], .int .i64 (Can.spl x).2]) ∧ Below w.heap.size w w' := by
  cases h : Can.bad x with
  | true => rw [Can.spl_no h]; exact rsplit_no h0 h1 h w
  | false => rw [Can.spl_yes h]; exact rsplit_yes h0 h1 h w

theorem rjoin_yes (o r : Bool) {x : Int} (h0 : 0 ≤ x) (h1 : x ≤ 2047) (w : World) : Calls Tryd.prog 18 #[.agg #[.bool o, .bool r, .int .i64 x]] w
    fun e w' => e = .returned (.tuple #[.int .u32 (Can.wrd o r x), .int .i64 0]) ∧ Below w.heap.size w w' := by
  cases o <;> cases r
  all_goals
    first | rw [Can.wrd_ff] | rw [Can.wrd_ft] | rw [Can.wrd_tf] | rw [Can.wrd_tt]
    go_enter Tryd.func18, Tryd.ntmps18
    go_wp2_with fail
    go_ret2
    exact ⟨rfl, below_new _ _⟩
theorem rjoin_no (o r : Bool) {x : Int} (h : x < 0 ∨ 2047 < x) (w : World) : Calls Tryd.prog 18 #[.agg #[.bool o, .bool r, .int .i64 x]] w
    fun e w' => e = .returned (.tuple #[.int .u32 0, .int .i64 9]) ∧ Below w.heap.size w w' := by
  by_cases h1 : x < 0
  · have d1 : decide (x < 0) = true := decide_eq_true h1
    go_enter Tryd.func18, Tryd.ntmps18
    go_wp2_with fail
    go_ret2
    exact ⟨rfl, below_new _ _⟩
  · have d1 : decide (x < 0) = false := decide_eq_false h1
    have d2 : decide (2047 < x) = true := decide_eq_true (by omega)
    go_enter Tryd.func18, Tryd.ntmps18
    go_wp2_with fail
    go_ret2
    exact ⟨rfl, below_new _ _⟩
theorem rjoin_any (o r : Bool) (x : Int) (w : World) : Calls Tryd.prog 18 #[.agg #[.bool o, .bool r, .int .i64 x]] w
    fun e w' => e = .returned (.tuple #[.int .u32 (Can.jn o r x).1, .int .i64 (Can.jn o r x).2]) ∧ Below w.heap.size w w' := by
  by_cases h : 0 ≤ x ∧ x ≤ 2047
  · rw [Can.jn_yes h.1 h.2]; exact rjoin_yes o r h.1 h.2 w
  · rw [Can.jn_no (by omega)]; exact rjoin_no o r (by omega) w
end Go.Proofs.YtdakogmkpcldbaaDoor
