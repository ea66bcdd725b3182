/-
  What package fault asks by errors.Is, the rest: the family of none, Says.
-/
import Derived.Test.YtielbmhaidjioaaDoorFltFam
namespace Go.Proofs.YtielbmhaidjioaaDoor
open Go.RowKit Mem Go.Extern.Stop Go.Stop Go.Extern
set_option linter.unusedVariables false

set_option maxHeartbeats 400000 in
theorem fam_zero (x : Value) (w : World) :
    Calls Tryd.prog 15 #[.agg #[.int .u32 0, x]] w fun e w' => e = .returned (.int .i64 0) ∧ Below w.heap.size w w' := by
  go_enter Tryd.func15, Tryd.ntmps15
  go_wp2_with (go_at_call 32; refine (none_any _ _ _).mono ?_; rintro e w' ⟨rfl, rfl⟩)
  go_ret
  exact ⟨rfl, ((Below.refl _ _).alloc (Nat.le_refl _) _).alloc (by simp) _⟩

set_option maxHeartbeats 400000 in
theorem says_core (c : Int) (x : Value) (s : ByteArray) (r : Bool) (w : World)
    (hI : ∀ W, Below w.heap.size w W → Calls Tryd.prog 33 #[.iface 26 (.agg #[.int .u32 c, x]), .iface 56 (.string s)] W fun e w' => e = .returned (.bool r) ∧ Below W.heap.size W w') :
    Calls Tryd.prog 25 #[.agg #[.int .u32 c, x], .string s] w fun e w' => e = .returned (.bool r) ∧ Below w.heap.size w w' := by
  have b := fun o => Lib.hid ((Below.refl w.heap.size w).alloc (Nat.le_refl _) o)
  go_enter Tryd.func25, Tryd.ntmps25
  go_wp2_with (go_at_call 33; refine (hI _ (b _).out).mono ?_; rintro e w' ⟨rfl, hb⟩)
  go_ret
  exact ⟨rfl, (b _).out.trans (hb.mono (by simp))⟩

/-- Links that end in a family's error: no text stands in them. -/
theorem says_err (c : Int) (r : List Int) (p : Addr) (s : ByteArray) (w : World) :
    Calls Tryd.prog 25 #[topV (c :: r) (errV p), .string s] w fun e w' => e = .returned (.bool false) ∧ Below w.heap.size w w' :=
  says_core c (chainV r (errV p)) s false w fun W h => is_any (c :: r) _ _ _ (.string s) _ W bareP compS (fun W' h' => run_eql_iface_types 129 56 _ _ Tryd.underlying24 (by decide) W')
/-- Links that end in a text. -/
theorem says_said (c : Int) (r : List Int) (t : ByteArray) (s : ByteArray) (w : World) :
    Calls Tryd.prog 25 #[topV (c :: r) (saidI t), .string s] w fun e w' => e = .returned (.bool (t == s)) ∧ Below w.heap.size w w' :=
  says_core c (chainV r (saidI t)) s (t == s) w fun W h => is_any (c :: r) _ _ _ (.string s) _ W bareS compS (fun W' h' => eq_said t s W')
/-- None says nothing. -/
theorem says_none (s : ByteArray) (w : World) :
    Calls Tryd.prog 25 #[.agg #[.int .u32 0, .nilIface], .string s] w fun e w' => e = .returned (.bool false) ∧ Below w.heap.size w w' :=
  says_core 0 .nilIface s false w fun W h => is_none 0 56 (.string s) W compS
end Go.Proofs.YtielbmhaidjioaaDoor
