/-
  errors.As at a fault, the target an error of a text: found at the chain's end, or not.
-/
import Derived.Test.YtielbmhaidjioaaDoorFltAs2
import Derived.Deep.LoopGhost
namespace Go.Proofs.YtielbmhaidjioaaDoor
open Go.RowKit Mem Go.Extern.Stop Go.Stop Go.Extern
set_option linter.unusedVariables false

set_option maxRecDepth 100000 in
set_option maxHeartbeats 4000000 in
theorem asin_err (cs : List Int) (p : Addr) (g b : Nat) (c0 : Value) (w : World)
    (h0 : w.cell? ⟨g, 0, none⟩ = some c0) (hf : w.frozen? ⟨g, 0, none⟩ = false) (hb : w.cell? ⟨b, 0, none⟩ = some (.pointer (some ⟨g, 0, none⟩))) :
    Calls Tryd.prog 51 #[chainV cs (errV p), .iface 58 (.pointer (some ⟨g, 0, none⟩)), .agg #[.pointer (some ⟨10, 58, none⟩), .pointer (some ⟨b, 0, none⟩), .int .u64 150], .iface 104 (.agg #[.pointer (some ⟨10, 56, none⟩)])] w fun e w' => e = .returned (.bool false) ∧ Below w.heap.size w w' := by
  have x7 := @run_callFunc_extern Tryd.prog 46 _ ReflectliteType.typeOf Tryd.func46 (by kernel_rfl) (by kernel_rfl) (by kernel_rfl) (by kernel_rfl)
  have x8 := @run_callFunc_extern Tryd.prog 98 _ (ReflectliteType.relation "AssignableTo" ReflectliteType.assignableTo) Tryd.func98 (by kernel_rfl) (by kernel_rfl) (by kernel_rfl) (by kernel_rfl)
  have m4 := rmAss
  have yF := rsAssFS
  have tF := isTypeOfF
  have nA := linkNoAs
  have uL := linkUn
  have mU := isMethodUnwrap
  have yP := rsAssPS
  have tP := isTypeOfP
  have u1 := bareP.hasAs
  have u2 := bareP.un
  have u3 := bareP.uns
  have lg : g < w.heap.size := cell_lt h0
  have lb : b < w.heap.size := cell_lt hb
  unfold errV
  go_enter Tryd.func51, Tryd.ntmps51
  go_wp2_with fail
  go_loopg [0] cs.length (fun n x wr => ∃ xs : List Int, xs.length = n ∧ x = chainV xs (.iface 129 (.pointer (some p))) ∧ Below w.heap.size w wr ∧ wr.cell? ⟨w.heap.size, 0, none⟩ = some (.pointer (some ⟨10, 58, none⟩)) ∧ wr.cell? ⟨w.heap.size, 1, none⟩ = some (.pointer (some ⟨b, 0, none⟩)) ∧ wr.cell? ⟨w.heap.size, 2, none⟩ = some (.int .u64 150) ∧ wr.cell? ⟨b, 0, none⟩ = some (.pointer (some ⟨g, 0, none⟩)) ∧ wr.cell? ⟨g, 0, none⟩ = some c0 ∧ wr.frozen? ⟨g, 0, none⟩ = false)
  case atStart => exact ⟨cs, rfl, rfl, (Below.refl _ _).alloc (Nat.le_refl _) _, by simp, by simp, by simp, by rw [World.cell?_alloc_lt _ _ ⟨b, 0, none⟩ lb]; exact hb, by rw [World.cell?_alloc_lt _ _ ⟨g, 0, none⟩ lg]; exact h0, by rw [World.frozen?_alloc_old _ _ ⟨g, 0, none⟩ (Nat.ne_of_lt lg)]; exact hf⟩
  case round =>
    obtain ⟨xs, hn, rfl, hbw, k0, k1, k2, kb, kg, kf⟩ := hrel
    have HN := Lib.hid hn
    clear hn
    rcases xs with _ | ⟨c, xs⟩
    · unfold chainV
      go_wp2_with fail
      go_ret
      exact ⟨rfl, hbw⟩
    · have l0 := cell_lt k0
      have lB : b < wr.heap.size := cell_lt kb
      have lG : g < wr.heap.size := cell_lt kg
      have NX := fun o => Lib.hid (And.intro (hbw.alloc hbw.size o) (And.intro ((World.cell?_alloc_lt wr o ⟨w.heap.size, 0, none⟩ l0).trans k0) (And.intro ((World.cell?_alloc_lt wr o ⟨w.heap.size, 1, none⟩ l0).trans k1) (And.intro ((World.cell?_alloc_lt wr o ⟨w.heap.size, 2, none⟩ l0).trans k2) (And.intro ((World.cell?_alloc_lt wr o ⟨b, 0, none⟩ lB).trans kb) (And.intro ((World.cell?_alloc_lt wr o ⟨g, 0, none⟩ lG).trans kg) ((World.frozen?_alloc_old wr o ⟨g, 0, none⟩ (Nat.ne_of_lt lG)).trans kf)))))))
      clear k0 k1 k2 kb kg kf
      rcases xs with _ | ⟨d, ys⟩
      · simp only [chainV]
        go_wp2_with (go_at_call 91; refine (unwrap_any _ _ _).mono ?_; rintro e w' ⟨rfl, rfl⟩)
        go_roundg 0
        case measure => have := HN.out; simp at this; omega
        case rel => exact ⟨[], rfl, rfl, (NX _).out⟩
      · simp only [chainV]
        go_wp2_with (go_at_call 91; refine (unwrap_any _ _ _).mono ?_; rintro e w' ⟨rfl, rfl⟩)
        go_roundg (ys.length + 1)
        case measure => have := HN.out; simp at this; omega
        case rel => exact ⟨d :: ys, rfl, rfl, (NX _).out⟩

end Go.Proofs.YtielbmhaidjioaaDoor
