/-
  errors.As at a fault, the target a fault: a link is found at once; another error is none.
-/
import Derived.Test.YtielbmhaidjioaaDoorFltRefl
namespace Go.Proofs.YtielbmhaidjioaaDoor
open Go.RowKit Mem Go.Extern.Stop Go.Stop Go.Extern
set_option linter.unusedVariables false

theorem rmKind (h : Value) (w : World) : (Go.method 259 104 (.agg #[h]) "Kind").run Tryd.prog w = .ok (87, h) w := by kernel_rfl
theorem rmElem (h : Value) (w : World) : (Go.method 259 104 (.agg #[h]) "Elem").run Tryd.prog w = .ok (100, .agg #[h]) w := by kernel_rfl
theorem rmImpl (h : Value) (w : World) : (Go.method 259 104 (.agg #[h]) "Implements").run Tryd.prog w = .ok (101, .agg #[h]) w := by kernel_rfl
theorem rmAss (h : Value) (w : World) : (Go.method 259 104 (.agg #[h]) "AssignableTo").run Tryd.prog w = .ok (98, .agg #[h]) w := by kernel_rfl

/-- Block g holds a fault. -/
def HasFlt (w : World) (g : Nat) (c x : Value) : Prop := w.heap[g]? = some (.cells #[c, x] 26 (0, 0))
theorem HasFlt.cell0 {w : World} {g : Nat} {c x : Value} (h : HasFlt w g c x) : w.cell? ⟨g, 0, none⟩ = some c := by simp [World.cell?, show w.heap[g]? = _ from h]
theorem HasFlt.cell1 {w : World} {g : Nat} {c x : Value} (h : HasFlt w g c x) : w.cell? ⟨g, 1, none⟩ = some x := by simp [World.cell?, show w.heap[g]? = _ from h]
theorem HasFlt.free {w : World} {g : Nat} {c x : Value} (h : HasFlt w g c x) (j : Nat) : w.frozen? ⟨g, j, none⟩ = false := by simp [World.frozen?, show w.heap[g]? = _ from h]
theorem HasFlt.lt {w : World} {g : Nat} {c x : Value} (h : HasFlt w g c x) : g < w.heap.size := (Array.getElem?_eq_some_iff.1 h).1
theorem HasFlt.new (w : World) (c x : Value) : HasFlt (w.alloc (.cells #[c, x] 26)) w.heap.size c x := heap_alloc_new w _
theorem HasFlt.below {w w' : World} {g B : Nat} {c x : Value} (h : HasFlt w g c x) (hb : Below B w w') (hB : g < B) : HasFlt w' g c x := (hb.block g hB).trans h
theorem HasFlt.alloc {w : World} {g : Nat} {c x : Value} (h : HasFlt w g c x) (o : Obj) : HasFlt (w.alloc o) g c x := h.below ((Below.refl _ _).alloc (Nat.le_refl _) o) h.lt
theorem HasFlt.set0 {w : World} {g : Nat} {c x : Value} (h : HasFlt w g c x) (u : Value) : HasFlt (w.setCell ⟨g, 0, none⟩ u) g u x := by
  obtain ⟨hlt, hk⟩ := Array.getElem?_eq_some_iff.1 h
  show (w.heap.modify g _)[g]? = _
  rw [Array.getElem?_eq_getElem (by rw [Array.size_modify]; exact hlt), Array.getElem_modify_self, hk]
  rfl
theorem HasFlt.set1 {w : World} {g : Nat} {c x : Value} (h : HasFlt w g c x) (u : Value) : HasFlt (w.setCell ⟨g, 1, none⟩ u) g c u := by
  obtain ⟨hlt, hk⟩ := Array.getElem?_eq_some_iff.1 h
  show (w.heap.modify g _)[g]? = _
  rw [Array.getElem?_eq_getElem (by rw [Array.size_modify]; exact hlt), Array.getElem_modify_self, hk]
  rfl
/-- The fault in block g has been set; all else is as it was. -/
def Got (w w' : World) (g : Nat) (c : Int) (x : Value) : Prop := HasFlt w' g (.int .u32 c) x ∧ w.grownBy w' (some g)
theorem Got.mk {w : World} {g : Nat} {c0 x0 : Value} (c : Int) (x : Value) (o1 o2 : Obj) (h : HasFlt w g c0 x0) :
    Got w ((((w.setCell ⟨g, 0, none⟩ (.int .u32 c)).setCell ⟨g, 1, none⟩ x).alloc o1).alloc o2) g c x :=
  ⟨(((h.set0 _).set1 _).alloc _).alloc _, grown_trans (grown_trans (grown_trans (grown_set _ _ _ _) (grown_set _ _ _ _)) (World.grownBy_alloc _ _ _)) (World.grownBy_alloc _ _ _)⟩

set_option maxRecDepth 100000 in
set_option maxHeartbeats 4000000 in
theorem asin_link (c : Int) (U : TypeId) (v : Value) (g b : Nat) (c0 x0 : Value) (w : World)
    (hH : HasFlt w g c0 x0) (hb : w.cell? ⟨b, 0, none⟩ = some (.pointer (some ⟨g, 0, none⟩))) :
    Calls Tryd.prog 51 #[.iface 26 (.agg #[.int .u32 c, .iface U v]), .iface 81 (.pointer (some ⟨g, 0, none⟩)), .agg #[.pointer (some ⟨10, 81, none⟩), .pointer (some ⟨b, 0, none⟩), .int .u64 150], .iface 104 (.agg #[.pointer (some ⟨10, 26, none⟩)])] w fun e w' => e = .returned (.bool true) ∧
      Got w w' g c (.iface U v) := by
  have x1 := @run_callFunc_extern Tryd.prog 48 _ (fun args => ReflectliteValue.unpack (args.getD 0 (.tuple #[]))) Tryd.func48 (by kernel_rfl) (by kernel_rfl) (by kernel_rfl) (by kernel_rfl)
  have x7 := @run_callFunc_extern Tryd.prog 46 _ ReflectliteType.typeOf Tryd.func46 (by kernel_rfl) (by kernel_rfl) (by kernel_rfl) (by kernel_rfl)
  have x8 := @run_callFunc_extern Tryd.prog 98 _ (ReflectliteType.relation "AssignableTo" ReflectliteType.assignableTo) Tryd.func98 (by kernel_rfl) (by kernel_rfl) (by kernel_rfl) (by kernel_rfl)
  have x9 := @run_callFunc_extern Tryd.prog 62 _ (ReflectliteValue.method (ReflectliteValue.valueError "reflectlite.Value.Elem" 0) ReflectliteValue.elem) Tryd.func62 (by kernel_rfl) (by kernel_rfl) (by kernel_rfl) (by kernel_rfl)
  have x10 := @run_callFunc_extern Tryd.prog 63 _ ReflectliteValue.set Tryd.func63 (by kernel_rfl) (by kernel_rfl) (by kernel_rfl) (by kernel_rfl)
  have m4 := rmAss
  have y7 := rfAssFF
  have y8 := isTypeOfF
  have y9 := fun W => rfValueOfF c (.iface U v) W
  have h0 := hH.cell0
  have h1 := hH.cell1
  have hf := hH.free
  have lg : g < w.heap.size := cell_lt h0
  have lb : b < w.heap.size := cell_lt hb
  have el := rfElemV ⟨b, 0, none⟩ ⟨g, 0, none⟩ (w.alloc (.cells #[.pointer (some ⟨10, 81, none⟩), .pointer (some ⟨b, 0, none⟩), .int .u64 150] 85)) (by rw [World.cell?_alloc_lt _ _ _ lb]; exact hb)
  have st := rfSet g (w.heap.size + 1) c U v c0 x0 ((w.alloc (.cells #[.pointer (some ⟨10, 81, none⟩), .pointer (some ⟨b, 0, none⟩), .int .u64 150] 85)).alloc (.cells #[.int .u32 c, .iface U v] 26))
    (by simp) (by simp)
    (by rw [World.cell?_alloc_lt _ _ ⟨g, 0, none⟩ (by simp; omega), World.cell?_alloc_lt _ _ ⟨g, 0, none⟩ lg]; exact h0) (by rw [World.cell?_alloc_lt _ _ ⟨g, 1, none⟩ (by simp; omega), World.cell?_alloc_lt _ _ ⟨g, 1, none⟩ lg]; exact h1)
    (fun j => by rw [World.frozen?_alloc_old _ _ ⟨g, j, none⟩ (by simp; omega), World.frozen?_alloc_old _ _ ⟨g, j, none⟩ (Nat.ne_of_lt lg)]; exact hf j)
  have HG := Lib.hid (fun o1 o2 => Got.mk c (.iface U v) o1 o2 hH)
  clear h0 h1 hf hb hH
  go_enter Tryd.func51, Tryd.ntmps51
  go_wp2
  refine wp_loop_rounds 1 ?_
  rw [rounds_succ]
  go_wp2
  go_ret
  exact ⟨rfl, HG.out _ _⟩

set_option maxRecDepth 100000 in
set_option maxHeartbeats 4000000 in
theorem asin_other (U : TypeId) (v : Value) (t tv : Value) (w : World) (hU : Bare U)
    (ht : ∀ v w, (Extern.ReflectliteType.typeOf #[.iface U v]).run Tryd.prog w = .ok (.iface 104 (.agg #[.pointer (some ⟨10, U, none⟩)])) w)
    (D : TypeId) (ha : ∀ w, (ReflectliteType.relation "AssignableTo" ReflectliteType.assignableTo #[.agg #[.pointer (some ⟨10, U, none⟩)], .iface 104 (.agg #[.pointer (some ⟨10, D, none⟩)])]).run Tryd.prog w = .ok (.bool false) w) (p1 p2 p3 : Value) :
    Calls Tryd.prog 51 #[.iface U v, t, .agg #[p1, p2, p3], .iface 104 (.agg #[.pointer (some ⟨10, D, none⟩)])] w fun e w' => e = .returned (.bool false) ∧ Below w.heap.size w w' := by
  have x7 := @run_callFunc_extern Tryd.prog 46 _ ReflectliteType.typeOf Tryd.func46 (by kernel_rfl) (by kernel_rfl) (by kernel_rfl) (by kernel_rfl)
  have x8 := @run_callFunc_extern Tryd.prog 98 _ (ReflectliteType.relation "AssignableTo" ReflectliteType.assignableTo) Tryd.func98 (by kernel_rfl) (by kernel_rfl) (by kernel_rfl) (by kernel_rfl)
  have m4 := rmAss
  have u1 := hU.hasAs
  have u2 := hU.un
  have u3 := hU.uns
  clear hU
  go_enter Tryd.func51, Tryd.ntmps51
  go_wp2
  refine wp_loop_rounds 1 ?_
  rw [rounds_succ]
  go_wp2
  go_ret
  exact ⟨rfl, (Below.refl _ _).alloc (Nat.le_refl _) _⟩
end Go.Proofs.YtielbmhaidjioaaDoor
