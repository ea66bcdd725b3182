/-
  What the steps from the walks of layer 11 to the given cards share; a name's and a COB-ID's struct as an argument.
-/
import Derived.Test.YtdakogmkpcldbaaDoorCanGlob
import Derived.Test.YtdakogmkpcldbaaDoorLift
import Derived.Test.YtdakogmkpcldbaaDoorTie
import Derived.Test.YtdakogmkpcldbaaDoorCards
import Derived.ProofKit
import Derived.LaidMore
import Derived.OpenShut
import Derived.Stop.Joined
import Derived.SevenTiedAt
namespace Go.Proofs.YtdakogmkpcldbaaDoor
namespace CanLaws
open Go.ChangeShapes Go.WideShapes Go.ChangeAt Go.WideMaps Go.WideElems Go.RowKit Mem
set_option linter.unusedVariables false

theorem own : ownKnob Tryd.prog.godebug = none := by kernel_rfl
theorem laidOut : laidOutB Tryd.prog = true := by kernel_rfl
theorem door_met (os : Os) (args : Array Value) : laidMetH Tryd.prog laidL ((World.doorLaid Tryd.prog 4000 os).forCall (fun _ _ => 0) ⟨#[], args, []⟩).memory :=
  laidMetH_of_parts3 (fuel := 8) (laidMet_of_run' 8 (by kernel_rfl) (by kernel_rfl)) (by kernel_rfl) (by kernel_rfl)

/-- A struct of three fields of one cell each. -/
theorem open_three {H : Type} {enc : TypeId × Value → H} {W : World} {v : Value} {d : DataW H} {p : List MemPlace} {r : Reach} {base : Nat} {T : TypeId} {fs : Array Field} (ty : Nat → TypeId)
    (hfs : Tryd.prog.underlying T = some (.struct fs)) (hsz : fs.size = 3) (hfl : ∀ j, j < 3 → (fs[j]?).map (fun f => (f.offset, Tryd.prog.cellsOf f.type, f.type)) = some (j, 1, ty j)) (hc : Tryd.prog.cellsOf T = 3)
    (hval : Value.okWide Tryd.prog W r base T v) (h0 : DataW.Trod enc Tryd.prog W 0 (fun _ => true) true T v d p) :
    ∃ (x y z : Value) (m : Nat), v = .agg #[x, y, z] ∧ (∃ q, DataW.trod enc Tryd.prog W 0 (fun _ => true) true m (ty 0) [x] = some q) ∧ (∃ q, DataW.trod enc Tryd.prog W 0 (fun _ => true) true m (ty 1) [y] = some q) ∧
      (∃ q, DataW.trod enc Tryd.prog W 0 (fun _ => true) true m (ty 2) [z] = some q) := by
  obtain ⟨cs, rfl, hcs⟩ := okWide_struct hfs hval
  rw [hc] at hcs
  obtain ⟨fuel, hf⟩ := h0
  have hcell : (Value.agg cs).cells.toList = cs.toList := rfl
  rw [hcell] at hf
  obtain ⟨xs, m, _, _, _, hxl, hx⟩ := DataW.trod_struct hfs hf
  have hl : cs.toList.length = 3 := by simpa using hcs
  have one : ∀ j, (hj : j < 3) → (cs.toList.drop j).take 1 = [cs.toList[j]'(by omega)] := fun j hj => by
    rw [List.drop_eq_getElem_cons (by omega), List.take_succ_cons, List.take_zero]
  have fld : ∀ j, (hj : j < 3) → ∃ y, DataW.trod enc Tryd.prog W 0 (fun _ => true) true m (ty j) [cs.toList[j]'(by omega)] = some y := fun j hj => by
    have h1 := hfl j hj
    cases hq : fs[j]? with
    | none => rw [hq] at h1; simp at h1
    | some f =>
      rw [hq] at h1
      simp only [Option.map_some, Option.some.injEq, Prod.mk.injEq] at h1
      obtain ⟨e1, e2, e3⟩ := h1
      have h2 := hx j f hq
      rw [e1, e2, e3, one j hj] at h2
      have h3 : j < xs.length := by rw [hxl, hsz]; exact hj
      rw [List.getElem?_eq_getElem h3] at h2
      exact ⟨_, h2⟩
  refine ⟨cs.toList[0], cs.toList[1], cs.toList[2], m, ?_, fld 0 (by omega), fld 1 (by omega), fld 2 (by omega)⟩
  congr 1
  apply Array.toList_inj.1
  apply List.ext_getElem
  · exact hl
  · intro i h1 h2
    have hi : i < 3 := by omega
    match i, hi with
    | 0, _ => rfl
    | 1, _ => rfl
    | 2, _ => rfl

theorem fldsN : ∃ fs : Array Field, Tryd.prog.underlying 28 = some (.struct fs) ∧ fs.size = 3 ∧ ∀ j, j < 3 → (fs[j]?).map (fun f => (f.offset, Tryd.prog.cellsOf f.type, f.type)) = some (j, 1, 3) := by
  refine ⟨_, Tryd.underlying28, by kernel_rfl, fun j hj => ?_⟩
  rcases (by omega : j = 0 ∨ j = 1 ∨ j = 2) with rfl | rfl | rfl <;> kernel_rfl
theorem fldsC : ∃ fs : Array Field, Tryd.prog.underlying 38 = some (.struct fs) ∧ fs.size = 3 ∧ ∀ j, j < 3 → (fs[j]?).map (fun f => (f.offset, Tryd.prog.cellsOf f.type, f.type)) = some (j, 1, if j < 2 then 4 else 3) := by
  refine ⟨_, Tryd.underlying38, by kernel_rfl, fun j hj => ?_⟩
  rcases (by omega : j = 0 ∨ j = 1 ∨ j = 2) with rfl | rfl | rfl <;> kernel_rfl
section
variable {H : Type} {enc : TypeId × Value → H} {W : World} {v : Value} {d : DataW H} {p : List MemPlace} {r : Reach} {base : Nat}
theorem open_name (hval : Value.okWide Tryd.prog W r base 28 v) (h0 : DataW.Trod enc Tryd.prog W 0 (fun _ => true) true 28 v d p) :
    ∃ a b c : Int, v = .agg #[.int .i64 a, .int .i64 b, .int .i64 c] ∧ (Lit.int .i64 a).wf = true ∧ (Lit.int .i64 b).wf = true ∧ (Lit.int .i64 c).wf = true := by
  obtain ⟨fs, h1, h2, h3⟩ := fldsN
  obtain ⟨x, y, z, m, rfl, ⟨_, k0⟩, ⟨_, k1⟩, ⟨_, k2⟩⟩ := open_three (fun _ => 3) h1 h2 h3 (by kernel_rfl) hval h0
  obtain ⟨a, ha, _, wa⟩ := DataW.trod_int Tryd.underlying3 k0
  obtain ⟨b, hb, _, wb⟩ := DataW.trod_int Tryd.underlying3 k1
  obtain ⟨c, hc, _, wc⟩ := DataW.trod_int Tryd.underlying3 k2
  rw [List.cons.inj ha |>.1, List.cons.inj hb |>.1, List.cons.inj hc |>.1]
  exact ⟨a, b, c, rfl, wa, wb, wc⟩
theorem open_cob (hval : Value.okWide Tryd.prog W r base 38 v) (h0 : DataW.Trod enc Tryd.prog W 0 (fun _ => true) true 38 v d p) :
    ∃ (a b : Bool) (c : Int), v = .agg #[.bool a, .bool b, .int .i64 c] ∧ (Lit.int .i64 c).wf = true := by
  obtain ⟨fs, h1, h2, h3⟩ := fldsC
  obtain ⟨x, y, z, m, rfl, ⟨_, k0⟩, ⟨_, k1⟩, ⟨_, k2⟩⟩ := open_three (fun j => if j < 2 then 4 else 3) h1 h2 h3 (by kernel_rfl) hval h0
  obtain ⟨a, ha, _⟩ := DataW.trod_bool Tryd.underlying4 k0
  obtain ⟨b, hb, _⟩ := DataW.trod_bool Tryd.underlying4 k1
  obtain ⟨c, hc, _, wc⟩ := DataW.trod_int Tryd.underlying3 k2
  rw [List.cons.inj ha |>.1, List.cons.inj hb |>.1, List.cons.inj hc |>.1]
  exact ⟨a, b, c, rfl, wc⟩
end
end CanLaws
end Go.Proofs.YtdakogmkpcldbaaDoor
