/-
  What the document takes of a code's row: Known, Counts, Family.
-/
import Derived.Test.YtielbmhaidjioaaDoorFltRef
namespace Go.Proofs.YtielbmhaidjioaaDoor
open Go.RowKit Mem
set_option linter.unusedVariables false

theorem fld1 (r y z : Value) (w : World) : (Instr.field 48 (.agg #[r, y, z]) 1).run Tryd.prog w = .ok y w := by kernel_rfl
theorem fld2 (r y z : Value) (w : World) : (Instr.field 48 (.agg #[r, y, z]) 2).run Tryd.prog w = .ok z w := by kernel_rfl

set_option maxHeartbeats 400000 in
theorem rknown_any (c : Int) (w : World) :
    Calls Tryd.prog 10 #[.int .u32 c] w fun e w' => e = .returned (.bool (Flt.known c)) ∧ Below w.heap.size w w' := by
  have K := known_ne c
  obtain ⟨r, hr⟩ : ∃ r, rowC c = r := ⟨_, rfl⟩
  obtain ⟨y, hy⟩ : ∃ y, Flt.fam c = y := ⟨_, rfl⟩
  obtain ⟨z, hz⟩ : ∃ z, Flt.rowText c = z := ⟨_, rfl⟩
  rw [hy] at K
  generalize Flt.known c = kn at *
  have HK := Lib.hid K
  have HR := Lib.hid hr
  have HY := Lib.hid hy
  have HZ := Lib.hid hz
  clear K hr hy hz
  have F1 := fld1
  go_enter Tryd.func10, Tryd.ntmps10
  go_wp2_with fail
  refine (find_at HR HY HZ _).mono ?_
  rintro e w' ⟨rfl, hb⟩
  go_wp2_with fail
  go_ret
  exact ⟨bool_ret HK.out, hb⟩

set_option maxHeartbeats 400000 in
theorem counts_any (c : Int) (w : World) :
    Calls Tryd.prog 14 #[.int .u32 c] w fun e w' => e = .returned (.int .u32 (Flt.cnt c)) ∧ Below w.heap.size w w' := by
  by_cases h : Flt.known c = true
  · have H := Lib.hid (cnt_yes h)
    go_enter Tryd.func14, Tryd.ntmps14
    go_wp2_with (go_at_call 10; refine (rknown_any c _).mono ?_; rintro e w' ⟨rfl, hb⟩)
    go_ret
    exact ⟨by rw [H.out]; rfl, hb⟩
  · have h' : Flt.known c = false := by simpa using h
    have H := Lib.hid (cnt_no h')
    clear h
    go_enter Tryd.func14, Tryd.ntmps14
    go_wp2_with (go_at_call 10; refine (rknown_any c _).mono ?_; rintro e w' ⟨rfl, hb⟩)
    go_ret
    exact ⟨by rw [H.out]; rfl, hb⟩

set_option maxHeartbeats 400000 in
theorem rfamily_any (c : Int) (w : World) :
    Calls Tryd.prog 16 #[.int .u32 c] w fun e w' => e = .returned (.int .i64 (Flt.fam (Flt.cnt c) : Nat)) ∧ Below w.heap.size w w' := by
  have HC := fun w => counts_any c w
  generalize Flt.cnt c = d at *
  obtain ⟨r, hr⟩ : ∃ r, rowC d = r := ⟨_, rfl⟩
  obtain ⟨y, hy⟩ : ∃ y, Flt.fam d = y := ⟨_, rfl⟩
  obtain ⟨z, hz⟩ : ∃ z, Flt.rowText d = z := ⟨_, rfl⟩
  rw [hy]
  have HR := Lib.hid hr
  have HY := Lib.hid hy
  have HZ := Lib.hid hz
  clear hr hy hz
  have F1 := fld1
  go_enter Tryd.func16, Tryd.ntmps16
  go_wp2_with fail
  refine (HC _).mono ?_
  rintro e w1 ⟨rfl, b1⟩
  clear HC
  go_wp2_with fail
  refine (find_at HR HY HZ _).mono ?_
  rintro e w2 ⟨rfl, b2⟩
  have hb := b1.trans (b2.mono b1.size)
  clear b1 b2
  go_wp2_with fail
  go_ret
  exact ⟨rfl, hb⟩
end Go.Proofs.YtielbmhaidjioaaDoor
