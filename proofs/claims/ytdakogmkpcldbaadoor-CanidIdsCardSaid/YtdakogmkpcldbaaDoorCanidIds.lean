/-
  CanidIds, as it is given: which name any Id has, and whether it is restricted, is as the document says. For every number, where the package's variables hold what the program's text lays in them (the card ties that).
-/
import Derived.Test.YtdakogmkpcldbaaDoorCanKnown
import Derived.Test.YtdakogmkpcldbaaDoorCanROf
import Derived.Test.YtdakogmkpcldbaaDoorCanLift
namespace Go.Proofs.YtdakogmkpcldbaaDoor
namespace CanidIds
open Go.ChangeShapes Go.WideShapes Go.ChangeAt Go.WideMaps Go.WideElems Go.RowKit Mem CanLaws
set_option linter.unusedVariables false

set_option maxRecDepth 100000 in
set_option maxHeartbeats 4000000 in
theorem ids_law (x : Int) (w : World) (x0 : -9223372036854775808 ≤ x) (x1 : x ≤ 9223372036854775807) (hg : CG w) :
    Calls Tryd.prog 4 #[.int .i64 x] w fun e w' => e = .returned (.bool true) ∧ Below w.heap.size w w' := by
  have S := Lib.hid (LS.start hg)
  have K1 := Lib.hid (fun L W (S : LS w L W) => S.call (of_any x x0 x1 W S.g))
  have K2 := Lib.hid (fun L W (S : LS w L W) => S.call (rof_any x W))
  have K3 := Lib.hid (fun L W (S : LS w L W) => S.call (restricted_any x W S.g))
  have K4 := Lib.hid (fun L W (S : LS w L W) => S.call ((rrestricted_any x W).mono (by rintro e w' ⟨rfl, rfl⟩; exact ⟨rfl, Below.refl _ _⟩)))
  have K5 := Lib.hid (fun L W (S : LS w L W) => S.call (known_any W S.g))
  clear hg x0 x1
  generalize (Can.ofn x).1.1 = a at *
  generalize (Can.ofn x).1.2.1 = b at *
  generalize (Can.ofn x).1.2.2 = c at *
  generalize (Can.ofn x).2 = t at *
  generalize Can.res x = r at *
  go_enter Tryd.func4, Tryd.ntmps4
  go_wp2_with fail
  refine (K1.out _ _ S.out).mono ?_
  clear S
  rintro e w1 ⟨rfl, S⟩
  have S := Lib.hid (S.three 26 (.int .i64 a) (.int .i64 b) (.int .i64 c))
  go_wp2_with fail
  generalize w1.heap.size = b1 at *
  generalize w1.alloc (.cells #[.int .i64 a, .int .i64 b, .int .i64 c] 26) = W1 at *
  refine (K2.out _ _ S.out).mono ?_
  clear S
  rintro e w2 ⟨rfl, S⟩
  have m0 : ∀ o, (w2.alloc o).cell? ⟨b1, 0, none⟩ = some (.int .i64 a) := fun o => (S.new o).c _ _ (by simp)
  have m1 : ∀ o, (w2.alloc o).cell? ⟨b1, 1, none⟩ = some (.int .i64 b) := fun o => (S.new o).c _ _ (by simp)
  have m2 : ∀ o, (w2.alloc o).cell? ⟨b1, 2, none⟩ = some (.int .i64 c) := fun o => (S.new o).c _ _ (by simp)
  have S := Lib.hid fun o => S.new o
  go_wp2_with (first
    | (go_at_call 13; refine (K3.out _ _ (S.out _)).mono ?_; clear S m0 m1 m2; rintro e w3 ⟨rfl, S⟩; have S := Lib.hid S)
    | (go_at_call 14; refine (K4.out _ _ S.out).mono ?_; clear S; rintro e w4 ⟨rfl, S⟩; have S := Lib.hid S)
    | (go_at_call 10; refine (K5.out _ _ S.out).mono ?_; clear S; rintro e w5 ⟨rfl, S⟩; have S := Lib.hid S))
  go_ret
  exact ⟨rfl, S.out.b⟩

set_option maxRecDepth 100000 in
theorem lifted (os : Os) (started : os.Started) (H : Type) (enc : TypeId × Value → H) :
    ReturnsInHanded {} Tryd.checked os 4 .any (fun w args => (Rows.canidIdsSpec.pre enc Tryd.prog Tryd.f4 [] false w args ∧ laidMetH Tryd.prog laidL w) ∧ sizedMet enc Tryd.prog Tryd.f4 (OpenSpec.ofChange Rows.canidIdsSpec) false w args)
      (Rows.canidIdsSpec.post enc Tryd.prog Tryd.f4 false true false false) := by
  refine returnsInHanded_of_change_and (C := Tryd.checked) (X := fun w _ => laidMetH Tryd.prog laidL w) (fun _ _ _ hh h => h.of_heap hh) own started (by kernel_rfl) Tryd.func4
    (ChangeSpec.witness_shaped (enc := enc) (C := Tryd.checked) (os := os) (X := fun w _ => laidMetH Tryd.prog laidL w) false (World.doorLaid Tryd.prog 4000 os) #[.int .i64 0] 8 rfl (World.shaped_of_RefB (by kernel_rfl) (by kernel_rfl)) (by kernel_rfl) (by kernel_rfl) (by kernel_rfl) (door_met os _)) ?_
  intro W base args ds gs before hval0 hW _ _ hL _
  have hval : ∀ (j : Nat) t v, Tryd.f4.params[j]? = some t → args[j]? = some v → Value.okWide Tryd.prog W .any base t v := hval0
  have hW' := hW
  obtain ⟨p, q, hA0, hV, rfl, hfz, hnd⟩ := hW
  have hA : DataW.TrodAll enc Tryd.prog W 0 (fun _ => true) true Tryd.f4.params.toList args.toList ds p := hA0
  rw [Tryd.params4] at hA hval
  obtain ⟨v0, vs0, d0, ds0, p0, q0, hargs, rfl, rfl, h0, r0⟩ := trodAll_cons hA
  obtain ⟨rfl, rfl, rfl⟩ := trodAll_nil r0
  obtain rfl : args = #[v0] := by cases args; simp_all
  obtain ⟨rfl, rfl⟩ := trodVars_none hV
  obtain ⟨a0, rfl, rfl, rfl, w0⟩ := open_int Tryd.underlying3 (hval 0 3 v0 rfl rfl) h0
  have hg := glob_of_laid hL
  clear hA0 hval0
  refine (ids_law a0 W (Mem.wf_i64 w0).1 (Mem.wf_i64 w0).2 hg).mono fun e W' ⟨he, bel⟩ => ?_
  subst he
  exact ⟨_, rfl, _, _, _, [], _, [], hW', trodAll_mk1 (shut_bool Tryd.underlying4 _), (trodAll_cons_mk (shut_int Tryd.underlying3 w0) trodAll_mk0), rfl, bel.frame _, fun h => by cases h⟩
theorem over : Rows.canidIdsRow.holds Tryd.pinned (OpenSpec.ofChange Rows.canidIdsSpec) :=
  OpenClaim.holds_of_wide 4 Tryd.f4 rfl rfl rfl rfl rfl rfl rfl ⟨rfl, rfl, rfl, rfl, rfl⟩ rfl rfl rfl rfl rfl (by kernel_rfl) Tryd.func4 (by kernel_rfl)
    (of_decide_eq_true (by kernel_rfl)) (by unfold Func.isWrapper; first | (rw [if_pos (by decide +kernel)]; kernel_rfl) | (rw [if_neg (by decide +kernel)]; exact ⟨rfl, rfl⟩))
    (fun os started H enc _ => lifted os started H enc)
/-- The given statement. -/
theorem proved : Rows.CanidIdsCardSaid :=
  Claim7.holds_tied_plain_at .later [] [.data, .data] true (true, "6233182dd3f7d5186291f294288edc9ad488ee0b6a95a3a2b2576d409713c2f5") false
    over (fun _ h => by cases h) (by kernel_rfl) (fun _ h => by cases h) canidIds_row_tie rfl ⟨rfl, rfl⟩ (by kernel_rfl) rfl
    (fun f fn hf hfn => by
      obtain rfl : f = 4 := Option.some.inj ((show Tryd.prog.funcNamed "wheelhouse/wheelhouselaw11.CanidIds" = some 4 by kernel_rfl).symm.trans hf) |>.symm
      obtain rfl : fn = Tryd.f4 := (Option.some.inj (Tryd.func4.symm.trans hfn)).symm
      exact ⟨by kernel_rfl, fun j t ht => by
        rw [Tryd.params4] at ht
        have h3 : t = 3 := by
          rcases j with _ | j
          · simpa using ht.symm
          · simp at ht
        rcases h3 with rfl
        · exact (show Tryd.prog.wantsStandIn 3 = false by kernel_rfl)⟩)
    (by kernel_rfl)

end CanidIds
end Go.Proofs.YtdakogmkpcldbaaDoor
