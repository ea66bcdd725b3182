/-
  Faults that wrap one another: Under, Of.
-/
import Derived.Test.YtielbmhaidjioaaDoorFltTab
import Derived.Test.YtielbmhaidjioaaDoorShelf
import Derived.Deep.RegionWith
namespace Go.Proofs.YtielbmhaidjioaaDoor
open Go.RowKit Mem
set_option linter.unusedVariables false

set_option maxHeartbeats 1000000 in
theorem under_none (d : Int) (x : Value) (a : Nat → Addr) (w : World) (hg : Glob w a) :
    Calls Tryd.prog 24 #[.int .u32 d, .agg #[.int .u32 0, x]] w fun e w' => e = .returned (.agg #[.int .u32 (Flt.cnt d), errV (a (Flt.fam (Flt.cnt d)))]) ∧ Below w.heap.size w w' := by
  have hb2 := fun o1 o2 o3 => Lib.hid ((((Below.refl w.heap.size w).alloc (Nat.le_refl _) o1).alloc (by simp) o2).alloc (by simp; omega) o3)
  have hg2 := fun o1 o2 o3 => Lib.hid (hg.below (hb2 o1 o2 o3).out (Nat.le_refl _))
  clear hg
  go_enter Tryd.func24, Tryd.ntmps24
  go_wp2_with (go_at_call 32; refine (none_any _ _ _).mono ?_; rintro e w' ⟨rfl, rfl⟩)
  refine (new_any d a _ (hg2 _ _ _).out).mono ?_
  rintro e w1 ⟨rfl, b1⟩
  unfold errV
  have c0 : w1.cell? ⟨w.heap.size + 1, 0, none⟩ = some (.int .u32 0) := below_cell b1 (Nat.le_refl _) (by rw [World.cell?_alloc_lt _ _ ⟨w.heap.size + 1, 0, none⟩ (by simp), World.cell?_alloc_at _ _ _ _ (by simp)]; rfl)
  have c1 : w1.cell? ⟨w.heap.size + 1, 1, none⟩ = some .nilIface := below_cell b1 (Nat.le_refl _) (by rw [World.cell?_alloc_lt _ _ ⟨w.heap.size + 1, 1, none⟩ (by simp), World.cell?_alloc_at _ _ _ _ (by simp)]; rfl)
  have f0 : ∀ j, w1.frozen? ⟨w.heap.size + 1, j, none⟩ = false := fun j => (b1.frozen (p := ⟨w.heap.size + 1, j, none⟩) (by simp)).trans (by rw [World.frozen?_alloc_old _ _ ⟨w.heap.size + 1, j, none⟩ (by simp)]; simp)
  have HB := Lib.hid ((hb2 _ _ _).out.trans (b1.mono (by simp; omega)))
  clear b1 hb2 hg2
  go_wp2_with fail
  refine bodyPost_ret (v := .agg #[.int .u32 (Flt.cnt d), .iface 129 (.pointer (some (a (Flt.fam (Flt.cnt d)))))]) ?_ rfl ⟨rfl, ?_⟩
  · simp [results, Tryd.results24, go_sem, c0, c1]
  · exact (HB.out.setCell (p := ⟨w.heap.size + 1, 0, none⟩) (by simp) _).setCell (p := ⟨w.heap.size + 1, 1, none⟩) (by simp) _

set_option maxHeartbeats 1000000 in
theorem under_any (d c : Int) (x : Value) (hc : (c == 0) = false) (a : Nat → Addr) (w : World) (hg : Glob w a) :
    Calls Tryd.prog 24 #[.int .u32 d, .agg #[.int .u32 c, x]] w fun e w' => e = .returned (.agg #[.int .u32 (Flt.cnt d), .iface 26 (.agg #[.int .u32 c, x])]) ∧ Below w.heap.size w w' := by
  have hb2 := fun o1 o2 o3 => Lib.hid ((((Below.refl w.heap.size w).alloc (Nat.le_refl _) o1).alloc (by simp) o2).alloc (by simp; omega) o3)
  have hg2 := fun o1 o2 o3 => Lib.hid (hg.below (hb2 o1 o2 o3).out (Nat.le_refl _)).drew
  clear hg
  go_enter Tryd.func24, Tryd.ntmps24
  go_wp2_with (go_at_call 32; refine (none_any _ _ _).mono ?_; rw [hc]; rintro e w' ⟨rfl, rfl⟩)
  go_region_with (go_at_call 26; refine (counted_any d a _ (hg2 _ _ _).out).mono ?_; rintro e w' ⟨rfl, rfl⟩)
  all_goals go_wp2_with fail
  all_goals
    refine bodyPost_ret (v := .agg #[.int .u32 (Flt.cnt d), .iface 26 (.agg #[.int .u32 c, x])]) ?_ rfl ⟨rfl, below_drewN (hb2 _ _ _).out 1⟩
    simp [results, Tryd.results24, go_sem]

set_option maxHeartbeats 1000000 in
theorem of_any (d : Int) (s : ByteArray) (hs : s.size ≤ 1000) (a : Nat → Addr) (w : World) (hg : Glob w a) :
    Calls Tryd.prog 23 #[.int .u32 d, .string s] w fun e w' => e = .returned (.agg #[.int .u32 (Flt.cnt d), .iface 56 (.string s)]) ∧ Below w.heap.size w w' := by
  have hb1 := fun o1 => Lib.hid ((Below.refl w.heap.size w).alloc (Nat.le_refl _) o1)
  have hg1 := fun o1 => Lib.hid (hg.below (hb1 o1).out (Nat.le_refl _))
  clear hg
  go_enter Tryd.func23, Tryd.ntmps23
  go_wp2_with (first | (go_at_call 26; refine (counted_any d a _ (hg1 _).out).mono ?_; rintro e w' ⟨rfl, rfl⟩) | (go_at_call 37; go_in))
  refine (Tryd.stringslite_Clone s _ (by omega)).mono ?_
  rintro e w1 ⟨rfl, b1⟩
  have c0 : w1.cell? ⟨w.heap.size, 0, none⟩ = some (.int .u32 0) := below_cell b1 (Nat.le_refl _) (by simp)
  have c1 : w1.cell? ⟨w.heap.size, 1, none⟩ = some .nilIface := below_cell b1 (Nat.le_refl _) (by simp)
  have f0 : ∀ j, w1.frozen? ⟨w.heap.size, j, none⟩ = false := fun j => (b1.frozen (p := ⟨w.heap.size, j, none⟩) (by simp)).trans (by simp)
  have HB := Lib.hid ((hb1 _).out.trans (b1.mono (by simp)))
  clear b1 hb1 hg1
  go_wp2_with fail
  refine bodyPost_ret (v := .agg #[.int .u32 (Flt.cnt d), .iface 56 (.string s)]) ?_ rfl ⟨rfl, ?_⟩
  · simp [results, Tryd.results23, go_sem, c0, c1]
  · exact (HB.out.setCell (p := ⟨w.heap.size, 0, none⟩) (by simp) _).setCell (p := ⟨w.heap.size, 1, none⟩) (by simp) _
end Go.Proofs.YtielbmhaidjioaaDoor
