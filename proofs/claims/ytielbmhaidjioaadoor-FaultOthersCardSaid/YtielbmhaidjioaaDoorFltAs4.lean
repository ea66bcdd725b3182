/-
  errors.As at a fault, the target an error of a text: found at the chain's end; and at none.
-/
import Derived.Test.YtielbmhaidjioaaDoorFltAs2
import Derived.Deep.LoopGhost
namespace Go.Proofs.YtielbmhaidjioaaDoor
open Go.RowKit Mem Go.Extern.Stop Go.Stop Go.Extern
set_option linter.unusedVariables false

/-- The text in block g has been set; all else is as it was. -/
def GotS (w w' : World) (g : Nat) (s : ByteArray) : Prop :=
  w'.cell? ⟨g, 0, none⟩ = some (.string s) ∧ w.grownBy w' (some g)

theorem GotS.mk (w wr : World) (g : Nat) (s : ByteArray) (c0 : Value) (o : Obj) (hb : Below w.heap.size w wr) (h0 : wr.cell? ⟨g, 0, none⟩ = some c0) : GotS w ((wr.setCell ⟨g, 0, none⟩ (.string s)).alloc o) g s := by
  have lg : g < wr.heap.size := cell_lt h0
  refine ⟨?_, ?_⟩
  · rw [World.cell?_alloc_lt _ _ ⟨g, 0, none⟩ (by simp; omega)]
    exact World.cell?_setCell_same _ _ _ h0
  · exact grown_trans (grown_trans ⟨hb.os, hb.tape, hb.output, hb.size, fun k hk _ => hb.block k hk⟩ (grown_set _ _ _ _)) (World.grownBy_alloc _ _ _)

set_option maxRecDepth 100000 in
set_option maxHeartbeats 4000000 in
theorem asin_said (cs : List Int) (s : ByteArray) (g b : Nat) (c0 : Value) (w : World)
    (h0 : w.cell? ⟨g, 0, none⟩ = some c0) (hf : w.frozen? ⟨g, 0, none⟩ = false) (hb : w.cell? ⟨b, 0, none⟩ = some (.pointer (some ⟨g, 0, none⟩))) :
    Calls Tryd.prog 51 #[chainV cs (saidI s), .iface 58 (.pointer (some ⟨g, 0, none⟩)), .agg #[.pointer (some ⟨10, 58, none⟩), .pointer (some ⟨b, 0, none⟩), .int .u64 150], .iface 104 (.agg #[.pointer (some ⟨10, 56, none⟩)])] w fun e w' => e = .returned (.bool true) ∧ GotS w w' g s := by
  have x7 := @run_callFunc_extern Tryd.prog 46 _ ReflectliteType.typeOf Tryd.func46 (by kernel_rfl) (by kernel_rfl) (by kernel_rfl) (by kernel_rfl)
  have x8 := @run_callFunc_extern Tryd.prog 98 _ (ReflectliteType.relation "AssignableTo" ReflectliteType.assignableTo) Tryd.func98 (by kernel_rfl) (by kernel_rfl) (by kernel_rfl) (by kernel_rfl)
  have x1 := @run_callFunc_extern Tryd.prog 48 _ (fun args => ReflectliteValue.unpack (args.getD 0 (.tuple #[]))) Tryd.func48 (by kernel_rfl) (by kernel_rfl) (by kernel_rfl) (by kernel_rfl)
  have x9 := @run_callFunc_extern Tryd.prog 62 _ (ReflectliteValue.method (ReflectliteValue.valueError "reflectlite.Value.Elem" 0) ReflectliteValue.elem) Tryd.func62 (by kernel_rfl) (by kernel_rfl) (by kernel_rfl) (by kernel_rfl)
  have x10 := @run_callFunc_extern Tryd.prog 63 _ ReflectliteValue.set Tryd.func63 (by kernel_rfl) (by kernel_rfl) (by kernel_rfl) (by kernel_rfl)
  have m4 := rmAss
  have yF := rsAssFS
  have tF := isTypeOfF
  have nA := linkNoAs
  have uL := linkUn
  have mU := isMethodUnwrap
  have yP := rsAssSS
  have tP := isTypeOfS
  have yV := fun W => rsValueOfS s W
  have lg : g < w.heap.size := cell_lt h0
  have lb : b < w.heap.size := cell_lt hb
  unfold saidI
  go_enter Tryd.func51, Tryd.ntmps51
  go_wp2_with fail
  go_loopg [0] cs.length (fun n x wr => ∃ xs : List Int, xs.length = n ∧ x = chainV xs (.iface 56 (.string s)) ∧ Below w.heap.size w wr ∧ wr.cell? ⟨w.heap.size, 0, none⟩ = some (.pointer (some ⟨10, 58, none⟩)) ∧ wr.cell? ⟨w.heap.size, 1, none⟩ = some (.pointer (some ⟨b, 0, none⟩)) ∧ wr.cell? ⟨w.heap.size, 2, none⟩ = some (.int .u64 150) ∧ wr.cell? ⟨b, 0, none⟩ = some (.pointer (some ⟨g, 0, none⟩)) ∧ wr.cell? ⟨g, 0, none⟩ = some c0 ∧ wr.frozen? ⟨g, 0, none⟩ = false)
  case atStart => exact ⟨cs, rfl, rfl, (Below.refl _ _).alloc (Nat.le_refl _) _, by simp, by simp, by simp, by rw [World.cell?_alloc_lt _ _ ⟨b, 0, none⟩ lb]; exact hb, by rw [World.cell?_alloc_lt _ _ ⟨g, 0, none⟩ lg]; exact h0, by rw [World.frozen?_alloc_old _ _ ⟨g, 0, none⟩ (Nat.ne_of_lt lg)]; exact hf⟩
  case round =>
    obtain ⟨xs, hn, rfl, hbw, k0, k1, k2, kb, kg, kf⟩ := hrel
    have HN := Lib.hid hn
    clear hn
    rcases xs with _ | ⟨c, xs⟩
    · unfold chainV
      have el := rsElemV ⟨b, 0, none⟩ ⟨g, 0, none⟩ wr kb
      have lG : g < wr.heap.size := cell_lt kg
      have st := rsSet g wr.heap.size s c0 (wr.alloc (.cells #[.string s] 56)) (by simp) (by rw [World.cell?_alloc_lt _ _ ⟨g, 0, none⟩ lG]; exact kg) (by rw [World.frozen?_alloc_old _ _ ⟨g, 0, none⟩ (Nat.ne_of_lt lG)]; exact kf)
      have HG := fun o => Lib.hid (GotS.mk w wr g s c0 o hbw kg)
      clear kb kg kf
      go_wp2_with fail
      go_ret
      exact ⟨rfl, (HG _).out⟩
    · have l0 := cell_lt k0
      have lB : b < wr.heap.size := cell_lt kb
      have lG : g < wr.heap.size := cell_lt kg
      have NX := fun o => Lib.hid (And.intro (hbw.alloc hbw.size o) (And.intro ((World.cell?_alloc_lt wr o ⟨w.heap.size, 0, none⟩ l0).trans k0) (And.intro ((World.cell?_alloc_lt wr o ⟨w.heap.size, 1, none⟩ l0).trans k1) (And.intro ((World.cell?_alloc_lt wr o ⟨w.heap.size, 2, none⟩ l0).trans k2) (And.intro ((World.cell?_alloc_lt wr o ⟨b, 0, none⟩ lB).trans kb) (And.intro ((World.cell?_alloc_lt wr o ⟨g, 0, none⟩ lG).trans kg) ((World.frozen?_alloc_old wr o ⟨g, 0, none⟩ (Nat.ne_of_lt lG)).trans kf)))))))
      clear k0 k1 k2 kb kg kf
      rcases xs with _ | ⟨d, ys⟩
      · simp only [chainV]
        go_wp2_with (go_at_call 91; refine (unwrap_any _ _ _).mono ?_; rintro e w' ⟨rfl, rfl⟩)
        go_roundg 0
        case measure => have := HN.out; simp at this; omega
        case rel => exact ⟨[], rfl, rfl, (NX _).out⟩
      · simp only [chainV]
        go_wp2_with (go_at_call 91; refine (unwrap_any _ _ _).mono ?_; rintro e w' ⟨rfl, rfl⟩)
        go_roundg (ys.length + 1)
        case measure => have := HN.out; simp at this; omega
        case rel => exact ⟨d :: ys, rfl, rfl, (NX _).out⟩


set_option maxRecDepth 100000 in
set_option maxHeartbeats 4000000 in
theorem asin_none (c : Int) (t p1 p2 p3 : Value) (w : World) :
    Calls Tryd.prog 51 #[.iface 26 (.agg #[.int .u32 c, .nilIface]), t, .agg #[p1, p2, p3], .iface 104 (.agg #[.pointer (some ⟨10, 56, none⟩)])] w fun e w' => e = .returned (.bool false) ∧ Below w.heap.size w w' := by
  have x7 := @run_callFunc_extern Tryd.prog 46 _ ReflectliteType.typeOf Tryd.func46 (by kernel_rfl) (by kernel_rfl) (by kernel_rfl) (by kernel_rfl)
  have x8 := @run_callFunc_extern Tryd.prog 98 _ (ReflectliteType.relation "AssignableTo" ReflectliteType.assignableTo) Tryd.func98 (by kernel_rfl) (by kernel_rfl) (by kernel_rfl) (by kernel_rfl)
  have m4 := rmAss
  have yF := rsAssFS
  have tF := isTypeOfF
  have nA := linkNoAs
  have uL := linkUn
  have mU := isMethodUnwrap
  go_enter Tryd.func51, Tryd.ntmps51
  go_wp2
  refine wp_loop_rounds 1 ?_
  rw [rounds_succ]
  go_wp2
  go_ret
  exact ⟨rfl, ((Below.refl _ _).alloc (Nat.le_refl _) _).alloc (by simp) _⟩

end Go.Proofs.YtielbmhaidjioaaDoor
