/-
  errors.As, the target a fault, or an error of a text: from what the library's inner function does.
-/
import Derived.Test.YtielbmhaidjioaaDoorFltAs
import Derived.Test.YtielbmhaidjioaaDoorFltRefl2
namespace Go.Proofs.YtielbmhaidjioaaDoor
open Go.RowKit Mem Go.Extern.Stop Go.Stop Go.Extern
set_option linter.unusedVariables false

set_option maxRecDepth 100000 in
set_option maxHeartbeats 4000000 in
theorem as_F (V : TypeId) (v : Value) (g : Nat) (a : Nat → Addr) (w : World) (hg : Glob w a) (r : Bool) (R : World → World → Prop)
    (hin : ∀ W b, Below w.heap.size w W → W.cell? ⟨b, 0, none⟩ = some (.pointer (some ⟨g, 0, none⟩)) → Calls Tryd.prog 51 #[.iface V v, .iface 81 (.pointer (some ⟨g, 0, none⟩)), .agg #[.pointer (some ⟨10, 81, none⟩), .pointer (some ⟨b, 0, none⟩), .int .u64 150], .iface 104 (.agg #[.pointer (some ⟨10, 26, none⟩)])] W fun e w' => e = .returned (.bool r) ∧ R W w') :
    Calls Tryd.prog 35 #[.iface V v, .iface 81 (.pointer (some ⟨g, 0, none⟩))] w fun e w' => e = .returned (.bool r) ∧ ∃ W, Below w.heap.size w W ∧ R W w' := by
  have x1 := @run_callFunc_extern Tryd.prog 48 _ (fun args => ReflectliteValue.unpack (args.getD 0 (.tuple #[]))) Tryd.func48 (by kernel_rfl) (by kernel_rfl) (by kernel_rfl) (by kernel_rfl)
  have x2 := @run_callFunc_extern Tryd.prog 49 _ (ReflectliteValue.methodAny (ReflectliteValue.valueError "reflectlite.Value.Type" 0) (fun t _ _ _ => ReflectliteType.toType t)) Tryd.func49 (by kernel_rfl) (by kernel_rfl) (by kernel_rfl) (by kernel_rfl)
  have x3 := @run_callFunc_extern Tryd.prog 50 _ (ReflectliteValue.method (ReflectliteValue.valueError "reflectlite.Value.IsNil" 0) ReflectliteValue.isNil) Tryd.func50 (by kernel_rfl) (by kernel_rfl) (by kernel_rfl) (by kernel_rfl)
  have x4 := @run_callFunc_extern Tryd.prog 87 _ (ReflectliteType.abiMethod fun t => do pure (.int .u8 (← Rtype.kind t))) Tryd.func87 (by kernel_rfl) (by kernel_rfl) (by kernel_rfl) (by kernel_rfl)
  have x5 := @run_callFunc_extern Tryd.prog 100 _ (ReflectliteType.method ReflectliteType.elem) Tryd.func100 (by kernel_rfl) (by kernel_rfl) (by kernel_rfl) (by kernel_rfl)
  have x6 := @run_callFunc_extern Tryd.prog 101 _ (ReflectliteType.relation "Implements" ReflectliteType.implements_) Tryd.func101 (by kernel_rfl) (by kernel_rfl) (by kernel_rfl) (by kernel_rfl)
  have m1 := rmKind
  have m2 := rmElem
  have m3 := rmImpl
  have y1 := rfValueOfP
  have y2 := rfTypeP
  have y3 := rfKindP
  have y4 := rfKindE
  have y5 := rfElem
  have y6 := rfImpl
  have lt5 := cell_lt hg.ty
  have hty := hg.ty
  clear hg
  have z1 := fun W h => rfIsNil ⟨w.heap.size, 0, none⟩ ⟨g, 0, none⟩ W h
  have HI := Lib.hid hin
  clear hin
  have hB := fun o1 o2 => Lib.hid (((Below.refl w.heap.size w).alloc (Nat.le_refl _) o1).alloc (by simp) o2)
  go_enter Tryd.func35, Tryd.ntmps35
  go_wp2_with fail
  refine (HI.out _ w.heap.size (hB _ _).out (by simp)).mono ?_
  rintro e w' ⟨rfl, hR⟩
  have HR := Lib.hid hR
  clear hR
  go_wp2_with fail
  go_ret
  exact ⟨rfl, _, (hB _ _).out, HR.out⟩

set_option maxRecDepth 100000 in
set_option maxHeartbeats 4000000 in
theorem as_S (V : TypeId) (v : Value) (g : Nat) (a : Nat → Addr) (w : World) (hg : Glob w a) (r : Bool) (R : World → World → Prop)
    (hin : ∀ W b, Below w.heap.size w W → W.cell? ⟨b, 0, none⟩ = some (.pointer (some ⟨g, 0, none⟩)) → Calls Tryd.prog 51 #[.iface V v, .iface 58 (.pointer (some ⟨g, 0, none⟩)), .agg #[.pointer (some ⟨10, 58, none⟩), .pointer (some ⟨b, 0, none⟩), .int .u64 150], .iface 104 (.agg #[.pointer (some ⟨10, 56, none⟩)])] W fun e w' => e = .returned (.bool r) ∧ R W w') :
    Calls Tryd.prog 35 #[.iface V v, .iface 58 (.pointer (some ⟨g, 0, none⟩))] w fun e w' => e = .returned (.bool r) ∧ ∃ W, Below w.heap.size w W ∧ R W w' := by
  have x1 := @run_callFunc_extern Tryd.prog 48 _ (fun args => ReflectliteValue.unpack (args.getD 0 (.tuple #[]))) Tryd.func48 (by kernel_rfl) (by kernel_rfl) (by kernel_rfl) (by kernel_rfl)
  have x2 := @run_callFunc_extern Tryd.prog 49 _ (ReflectliteValue.methodAny (ReflectliteValue.valueError "reflectlite.Value.Type" 0) (fun t _ _ _ => ReflectliteType.toType t)) Tryd.func49 (by kernel_rfl) (by kernel_rfl) (by kernel_rfl) (by kernel_rfl)
  have x3 := @run_callFunc_extern Tryd.prog 50 _ (ReflectliteValue.method (ReflectliteValue.valueError "reflectlite.Value.IsNil" 0) ReflectliteValue.isNil) Tryd.func50 (by kernel_rfl) (by kernel_rfl) (by kernel_rfl) (by kernel_rfl)
  have x4 := @run_callFunc_extern Tryd.prog 87 _ (ReflectliteType.abiMethod fun t => do pure (.int .u8 (← Rtype.kind t))) Tryd.func87 (by kernel_rfl) (by kernel_rfl) (by kernel_rfl) (by kernel_rfl)
  have x5 := @run_callFunc_extern Tryd.prog 100 _ (ReflectliteType.method ReflectliteType.elem) Tryd.func100 (by kernel_rfl) (by kernel_rfl) (by kernel_rfl) (by kernel_rfl)
  have x6 := @run_callFunc_extern Tryd.prog 101 _ (ReflectliteType.relation "Implements" ReflectliteType.implements_) Tryd.func101 (by kernel_rfl) (by kernel_rfl) (by kernel_rfl) (by kernel_rfl)
  have m1 := rmKind
  have m2 := rmElem
  have m3 := rmImpl
  have y1 := rsValueOfP
  have y2 := rsTypeP
  have y3 := rsKindP
  have y4 := rsKindE
  have y5 := rsElem
  have y6 := rsImpl
  have lt5 := cell_lt hg.ty
  have hty := hg.ty
  clear hg
  have z1 := fun W h => rsIsNil ⟨w.heap.size, 0, none⟩ ⟨g, 0, none⟩ W h
  have HI := Lib.hid hin
  clear hin
  have hB := fun o1 o2 => Lib.hid (((Below.refl w.heap.size w).alloc (Nat.le_refl _) o1).alloc (by simp) o2)
  go_enter Tryd.func35, Tryd.ntmps35
  go_wp2_with fail
  refine (HI.out _ w.heap.size (hB _ _).out (by simp)).mono ?_
  rintro e w' ⟨rfl, hR⟩
  have HR := Lib.hid hR
  clear hR
  go_wp2_with fail
  go_ret
  exact ⟨rfl, _, (hB _ _).out, HR.out⟩
end Go.Proofs.YtielbmhaidjioaaDoor
