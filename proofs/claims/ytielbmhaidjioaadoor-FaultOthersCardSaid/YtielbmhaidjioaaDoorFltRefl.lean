/-
  What the library's reflection does at a pointer to a fault, and at one to an error of a text: the steps that errors.As takes.
-/
import Derived.Test.YtielbmhaidjioaaDoorFltIs
namespace Go.Proofs.YtielbmhaidjioaaDoor
open Go.RowKit Mem Go.Extern.Stop Go.Stop Go.Extern
set_option linter.unusedVariables false

/-! At *fault.Fault. -/
theorem rfValueOfP (t : Addr) (w : World) : (ReflectliteValue.unpack (.iface 81 (.pointer (some t)))).run Tryd.prog w
    = .ok (.agg #[.pointer (some ⟨10, 81, none⟩), .pointer (some ⟨w.heap.size, 0, none⟩), .int .u64 150]) (w.alloc (.cells #[.pointer (some t)] 81)) := by kernel_rfl
theorem rfTypeP (a : Addr) (w : World) : (ReflectliteValue.methodAny (ReflectliteValue.valueError "reflectlite.Value.Type" 0) (fun t _ _ _ => ReflectliteType.toType t) #[.agg #[.pointer (some ⟨10, 81, none⟩), .pointer (some a), .int .u64 150]]).run Tryd.prog w
    = .ok (.iface 104 (.agg #[.pointer (some ⟨10, 81, none⟩)])) w := by kernel_rfl
theorem rfKindP (w : World) : ((ReflectliteType.abiMethod fun t => (fun a : Nat => Value.int IntKind.u8 (a : Int)) <$> Rtype.kind t) #[.pointer (some ⟨10, 81, none⟩)]).run Tryd.prog w = .ok (.int .u8 22) w := by kernel_rfl
theorem rfKindE (w : World) : ((ReflectliteType.abiMethod fun t => (fun a : Nat => Value.int IntKind.u8 (a : Int)) <$> Rtype.kind t) #[.pointer (some ⟨10, 26, none⟩)]).run Tryd.prog w = .ok (.int .u8 25) w := by kernel_rfl
theorem rfElem (w : World) : (ReflectliteType.method ReflectliteType.elem #[.agg #[.pointer (some ⟨10, 81, none⟩)]]).run Tryd.prog w = .ok (.iface 104 (.agg #[.pointer (some ⟨10, 26, none⟩)])) w := by kernel_rfl
theorem rfImpl (w : World) : (ReflectliteType.relation "Implements" ReflectliteType.implements_ #[.agg #[.pointer (some ⟨10, 26, none⟩)], .iface 104 (.agg #[.pointer (some ⟨10, 24, none⟩)])]).run Tryd.prog w = .ok (.bool true) w := by kernel_rfl
theorem rfAssFF (w : World) : (ReflectliteType.relation "AssignableTo" ReflectliteType.assignableTo #[.agg #[.pointer (some ⟨10, 26, none⟩)], .iface 104 (.agg #[.pointer (some ⟨10, 26, none⟩)])]).run Tryd.prog w = .ok (.bool true) w := by kernel_rfl
theorem rfAssPF (w : World) : (ReflectliteType.relation "AssignableTo" ReflectliteType.assignableTo #[.agg #[.pointer (some ⟨10, 129, none⟩)], .iface 104 (.agg #[.pointer (some ⟨10, 26, none⟩)])]).run Tryd.prog w = .ok (.bool false) w := by kernel_rfl
theorem rfAssSF (w : World) : (ReflectliteType.relation "AssignableTo" ReflectliteType.assignableTo #[.agg #[.pointer (some ⟨10, 56, none⟩)], .iface 104 (.agg #[.pointer (some ⟨10, 26, none⟩)])]).run Tryd.prog w = .ok (.bool false) w := by kernel_rfl
theorem rfValueOfF (c : Int) (x : Value) (w : World) : (ReflectliteValue.unpack (.iface 26 (.agg #[.int .u32 c, x]))).run Tryd.prog w
    = .ok (.agg #[.pointer (some ⟨10, 26, none⟩), .pointer (some ⟨w.heap.size, 0, none⟩), .int .u64 153]) (w.alloc (.cells #[.int .u32 c, x] 26)) := by kernel_rfl

theorem rfMethod (z : Sem Value) (f : TypeId → Addr → Nat → Nat → Sem Value) (v : Value) :
    ReflectliteValue.method z f #[v] = (do match ← ReflectliteValue.parts v with | none => z | some (t, a, fl) => f t a fl (fl % 32)) := rfl
theorem rfPartsP (a : Addr) (w : World) : (ReflectliteValue.parts (.agg #[.pointer (some ⟨10, 81, none⟩), .pointer (some a), .int .u64 150])).run Tryd.prog w = .ok (some (81, a, 150)) w := by kernel_rfl
theorem rfIsNil (a p : Addr) (W : World) (ha : W.cell? a = some (.pointer (some p))) :
    (ReflectliteValue.method (ReflectliteValue.valueError "reflectlite.Value.IsNil" 0) ReflectliteValue.isNil #[.agg #[.pointer (some ⟨10, 81, none⟩), .pointer (some a), .int .u64 150]]).run Tryd.prog W = .ok (.bool false) W := by
  rw [rfMethod]
  simp only [Sem.run_bind, rfPartsP, Result.andThen]
  simp [ReflectliteValue.isNil, loadVar, isAgg, underlying, Tryd.underlying81, ha, Result.andThen]
theorem rfElemOf (w : World) : (Rtype.elem? 81).run Tryd.prog w = .ok (some 26) w := by kernel_rfl
theorem rfMk (p : Addr) (w : World) : (ReflectliteValue.mk 26 p ReflectliteValue.flagAddr).run Tryd.prog w = .ok (.agg #[.pointer (some ⟨10, 26, none⟩), .pointer (some p), .int .u64 409]) w := by kernel_rfl
theorem rfElemV (a p : Addr) (W : World) (ha : W.cell? a = some (.pointer (some p))) :
    (ReflectliteValue.method (ReflectliteValue.valueError "reflectlite.Value.Elem" 0) ReflectliteValue.elem #[.agg #[.pointer (some ⟨10, 81, none⟩), .pointer (some a), .int .u64 150]]).run Tryd.prog W
      = .ok (.agg #[.pointer (some ⟨10, 26, none⟩), .pointer (some p), .int .u64 409]) W := by
  rw [rfMethod]
  simp only [Sem.run_bind, rfPartsP, Result.andThen]
  simp [ReflectliteValue.elem, loadVar, isAgg, underlying, Tryd.underlying81, ha, Result.andThen, rfElemOf, rfMk]
theorem rfPartsA (a : Addr) (w : World) : (ReflectliteValue.parts (.agg #[.pointer (some ⟨10, 26, none⟩), .pointer (some a), .int .u64 409])).run Tryd.prog w = .ok (some (26, a, 409)) w := by kernel_rfl
theorem rfPartsF (a : Addr) (w : World) : (ReflectliteValue.parts (.agg #[.pointer (some ⟨10, 26, none⟩), .pointer (some a), .int .u64 153])).run Tryd.prog w = .ok (some (26, a, 153)) w := by kernel_rfl
theorem rfDirect (w : World) : (Rtype.directlyAssignable 26 26).run Tryd.prog w = .ok true w := by kernel_rfl
theorem rfSetDef (v x : Value) : ReflectliteValue.set #[v, x] = (do
    let (some (dst, a, fl), some (src, b, _)) := (← ReflectliteValue.parts v, ← ReflectliteValue.parts x)
      | unsupported (.noEntry "extern/(internal/reflectlite.Value).Set.zeroValue")
    if fl / ReflectliteValue.flagAddr % 2 == 0 then unsupported (.noEntry "extern/(internal/reflectlite.Value).Set.unaddressable")
    let val ← loadVar src b
    if ← Rtype.directlyAssignable dst src then storeVar dst a val
    else if ← Rtype.implements dst src then
      if (← Rtype.kind src) == 20 then
        match val with
        | .nilIface => unsupported (.noEntry "extern/reflectlite: a nil value of one interface type handed on as a value of another")
        | _ => storeVar dst a val
      else storeVar dst a (.iface src val)
    else panicString ("reflectlite.Set: value of type " ++ (← Rtype.spelt src) ++ " is not assignable to type " ++ (← Rtype.spelt dst))
    pure (.tuple #[])) := rfl
theorem rfAgg (w : World) : (isAgg 26).run Tryd.prog w = .ok true w := by kernel_rfl
theorem rfSize (w : World) : (sizeOf 26).run Tryd.prog w = .ok 2 w := by kernel_rfl
theorem rfLoad (b : Nat) (c x : Value) (W : World) (h0 : W.cell? ⟨b, 0, none⟩ = some c) (h1 : W.cell? ⟨b, 1, none⟩ = some x) :
    (loadVar 26 ⟨b, 0, none⟩).run Tryd.prog W = .ok (.agg #[c, x]) W := by
  unfold loadVar
  simp only [Sem.run_bind, rfAgg, Result.andThen, if_true, rfSize]
  simp [loadCells, loadCellsFrom, Addr.add, h0, h1]
theorem rfStore (g : Nat) (c : Int) (U : TypeId) (v c0 x0 : Value) (W : World) (h0 : W.cell? ⟨g, 0, none⟩ = some c0) (h1 : W.cell? ⟨g, 1, none⟩ = some x0) (hf : ∀ j, W.frozen? ⟨g, j, none⟩ = false) :
    (storeVar 26 ⟨g, 0, none⟩ (.agg #[.int .u32 c, .iface U v])).run Tryd.prog W = .ok () ((W.setCell ⟨g, 0, none⟩ (.int .u32 c)).setCell ⟨g, 1, none⟩ (.iface U v)) := by
  have s0 := run_store Tryd.prog W ⟨g, 0, none⟩ (.int .u32 c) .plain (by rfl)
  have s1 := run_store Tryd.prog (W.setCell ⟨g, 0, none⟩ (.int .u32 c)) ⟨g, 1, none⟩ (.iface U v) .plain (by rfl)
  simp [h0, hf] at s0
  have e1 : (W.setCell ⟨g, 0, none⟩ (.int .u32 c)).cell? ⟨g, 1, none⟩ = some x0 := by rw [World.cell?_setCell_other _ _ _ _ (by simp)]; exact h1
  simp [e1, hf, World.frozen?_setCell] at s1
  unfold storeVar
  simp only [Sem.run_bind, Result.andThen, rfSize]
  simp [Value.cells, storeCells, Addr.add, s0, s1]
theorem rfSet (g b : Nat) (c : Int) (U : TypeId) (v c0 x0 : Value) (W : World) (hb0 : W.cell? ⟨b, 0, none⟩ = some (.int .u32 c)) (hb1 : W.cell? ⟨b, 1, none⟩ = some (.iface U v))
    (h0 : W.cell? ⟨g, 0, none⟩ = some c0) (h1 : W.cell? ⟨g, 1, none⟩ = some x0) (hf : ∀ j, W.frozen? ⟨g, j, none⟩ = false) :
    (ReflectliteValue.set #[.agg #[.pointer (some ⟨10, 26, none⟩), .pointer (some ⟨g, 0, none⟩), .int .u64 409], .agg #[.pointer (some ⟨10, 26, none⟩), .pointer (some ⟨b, 0, none⟩), .int .u64 153]]).run Tryd.prog W
      = .ok (.tuple #[]) ((W.setCell ⟨g, 0, none⟩ (.int .u32 c)).setCell ⟨g, 1, none⟩ (.iface U v)) := by
  rw [rfSetDef]
  simp only [Sem.run_bind, rfPartsA, rfPartsF, Result.andThen]
  simp [ReflectliteValue.flagAddr, rfLoad b _ _ W hb0 hb1, Result.andThen, rfDirect, rfStore g c U v c0 x0 W h0 h1 hf]
end Go.Proofs.YtielbmhaidjioaaDoor
