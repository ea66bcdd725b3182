/-
  errors.Is at faults: the library's own text is walked, however deep a fault is wrapped.
-/
import Derived.Test.YtielbmhaidjioaaDoorFltTab
import Derived.Deep.LoopGhost
namespace Go.Proofs.YtielbmhaidjioaaDoor
open Go.RowKit Mem Go.Extern.Stop Go.Stop Go.Extern
set_option linter.unusedVariables false

theorem isTypeOfP (v : Value) (w : World) : (Extern.ReflectliteType.typeOf #[.iface 129 v]).run Tryd.prog w = .ok (.iface 104 (.agg #[.pointer (some ⟨10, 129, none⟩)])) w := by kernel_rfl
theorem isTypeOfS (v : Value) (w : World) : (Extern.ReflectliteType.typeOf #[.iface 56 v]).run Tryd.prog w = .ok (.iface 104 (.agg #[.pointer (some ⟨10, 56, none⟩)])) w := by kernel_rfl
theorem isTypeOfF (v : Value) (w : World) : (Extern.ReflectliteType.typeOf #[.iface 26 v]).run Tryd.prog w = .ok (.iface 104 (.agg #[.pointer (some ⟨10, 26, none⟩)])) w := by kernel_rfl
theorem isCompP (w : World) : ((Extern.ReflectliteType.method fun t => (fun a => Value.bool a.comparable) <$> typeInfo t) #[.agg #[.pointer (some ⟨10, 129, none⟩)]]).run Tryd.prog w = .ok (.bool true) w := by kernel_rfl
theorem isCompS (w : World) : ((Extern.ReflectliteType.method fun t => (fun a => Value.bool a.comparable) <$> typeInfo t) #[.agg #[.pointer (some ⟨10, 56, none⟩)]]).run Tryd.prog w = .ok (.bool true) w := by kernel_rfl
theorem isMethodComp (v : Value) (w : World) : (Go.method 259 104 v "Comparable").run Tryd.prog w = .ok (99, v) w := by kernel_rfl
theorem isMethodUnwrap (v : Value) (w : World) : (Go.method 259 26 v "Unwrap").run Tryd.prog w = .ok (91, v) w := by kernel_rfl
theorem infoP : (Tryd.prog.info? 129).map (·.comparable) = some true := by kernel_rfl
theorem infoE : (Tryd.prog.info? 147).map (·.size) = some 1 := by kernel_rfl

/-- A dynamic type that has none of the methods that errors.Is and errors.As ask for. -/
structure Bare (U : TypeId) : Prop where
  hasIs : ∀ v xT w, (Instr.typeAssert (.iface U v) xT 106 true).run Tryd.prog w = .ok (.tuple #[.nilIface, .bool false]) w
  hasAs : ∀ v xT w, (Instr.typeAssert (.iface U v) xT 116 true).run Tryd.prog w = .ok (.tuple #[.nilIface, .bool false]) w
  un : ∀ v xT w, (Instr.typeAssert (.iface U v) xT 109 true).run Tryd.prog w = .ok (.tuple #[.nilIface, .bool false]) w
  uns : ∀ v xT w, (Instr.typeAssert (.iface U v) xT 111 true).run Tryd.prog w = .ok (.tuple #[.nilIface, .bool false]) w
theorem bareP : Bare 129 where
  hasIs v xT w := run_typeAssert_lacksB Tryd.underlying106 (by kernel_rfl) (by kernel_rfl) v xT w
  hasAs v xT w := run_typeAssert_lacksB Tryd.underlying116 (by kernel_rfl) (by kernel_rfl) v xT w
  un v xT w := run_typeAssert_lacksB Tryd.underlying109 (by kernel_rfl) (by kernel_rfl) v xT w
  uns v xT w := run_typeAssert_lacksB Tryd.underlying111 (by kernel_rfl) (by kernel_rfl) v xT w
theorem bareS : Bare 56 where
  hasIs v xT w := run_typeAssert_lacksB Tryd.underlying106 (by kernel_rfl) (by kernel_rfl) v xT w
  hasAs v xT w := run_typeAssert_lacksB Tryd.underlying116 (by kernel_rfl) (by kernel_rfl) v xT w
  un v xT w := run_typeAssert_lacksB Tryd.underlying109 (by kernel_rfl) (by kernel_rfl) v xT w
  uns v xT w := run_typeAssert_lacksB Tryd.underlying111 (by kernel_rfl) (by kernel_rfl) v xT w
theorem linkNoIs (v : Value) (xT : TypeId) (w : World) : (Instr.typeAssert (.iface 26 v) xT 106 true).run Tryd.prog w = .ok (.tuple #[.nilIface, .bool false]) w := run_typeAssert_lacksB Tryd.underlying106 (by kernel_rfl) (by kernel_rfl) v xT w
theorem linkNoAs (v : Value) (xT : TypeId) (w : World) : (Instr.typeAssert (.iface 26 v) xT 116 true).run Tryd.prog w = .ok (.tuple #[.nilIface, .bool false]) w := run_typeAssert_lacksB Tryd.underlying116 (by kernel_rfl) (by kernel_rfl) v xT w
theorem linkUn (v : Value) (xT : TypeId) (w : World) : (Instr.typeAssert (.iface 26 v) xT 109 true).run Tryd.prog w = .ok (.tuple #[.iface 26 v, .bool true]) w := run_typeAssert_hasB Tryd.underlying109 (by kernel_rfl) v xT w

set_option maxHeartbeats 400000 in
theorem unwrap_any (c : Int) (x : Value) (w : World) :
    Calls Tryd.prog 91 #[.agg #[.int .u32 c, x]] w fun e w' => e = .returned x ∧ w' = w.alloc (.cells #[.int .u32 c, x] 26) := by
  go_enter Tryd.func91, Tryd.ntmps91
  go_wp2_with fail
  go_ret
  exact ⟨rfl, rfl⟩

set_option maxHeartbeats 1000000 in
theorem is_in (cs : List Int) (U : TypeId) (bv : Value) (T : TypeId) (tv : Value) (r : Bool) (w : World) (hU : Bare U)
    (hT : T ≠ 26) (hB : ∀ W, Below w.heap.size w W → (binOp .eql 24 (.iface U bv) (.iface T tv)).run Tryd.prog W = .ok (.bool r) W) :
    Calls Tryd.prog 47 #[chainV cs (.iface U bv), .iface T tv, .bool true] w fun e w' => e = .returned (.bool r) ∧ Below w.heap.size w w' := by
  have h26 := fun v W => run_eql_iface_types (P := Tryd.prog) 26 T v tv Tryd.underlying24 (Ne.symm hT) W
  have nI := linkNoIs
  have uL := linkUn
  have mU := isMethodUnwrap
  have HB := Lib.hid hB
  have HU := Lib.hid hU
  clear hB hU hT
  go_enter Tryd.func47, Tryd.ntmps47
  go_wp2_with fail
  go_loopg [0] cs.length (fun n x wr => ∃ xs : List Int, xs.length = n ∧ x = chainV xs (.iface U bv) ∧ Below w.heap.size w wr)
  case atStart => exact ⟨cs, rfl, rfl, Below.refl _ _⟩
  case round =>
    obtain ⟨xs, hn, rfl, hb⟩ := hrel
    rcases xs with _ | ⟨c, xs⟩
    · have HN := Lib.hid hn
      clear hn
      have e1 := HB.out wr hb
      have u1 := HU.out.hasIs
      have u2 := HU.out.un
      have u3 := HU.out.uns
      unfold chainV
      cases r with
      | true =>
        go_wp2_with fail
        go_ret
        exact ⟨rfl, hb⟩
      | false =>
        go_wp2_with fail
        go_ret
        exact ⟨rfl, hb⟩
    · have HN := Lib.hid hn
      clear hn
      have hBs := fun o => Lib.hid (hb.alloc hb.size o)
      rcases xs with _ | ⟨d, ys⟩
      · simp only [chainV]
        go_wp2_with (go_at_call 91; refine (unwrap_any _ _ _).mono ?_; rintro e w' ⟨rfl, rfl⟩)
        go_roundg 0
        case measure => have := HN.out; simp at this; omega
        case rel => exact ⟨[], rfl, rfl, (hBs _).out⟩
      · simp only [chainV]
        go_wp2_with (go_at_call 91; refine (unwrap_any _ _ _).mono ?_; rintro e w' ⟨rfl, rfl⟩)
        go_roundg (ys.length + 1)
        case measure => have := HN.out; simp at this; omega
        case rel => exact ⟨d :: ys, rfl, rfl, (hBs _).out⟩
end Go.Proofs.YtielbmhaidjioaaDoor
