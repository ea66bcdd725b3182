/-
  CanidBack, as it is given: the name of a name's Id is that name, and the Id of an Id's name that Id; what is joined is split as it was, and the other way round. For every name, Id and word, where the package's variables hold what the program's text lays in them (the card ties that).
-/
import Derived.Test.YtdakogmkpcldbaaDoorCanBackA
import Derived.Test.YtdakogmkpcldbaaDoorCanBackB
import Derived.Test.YtdakogmkpcldbaaDoorCanLift
namespace Go.Proofs.YtdakogmkpcldbaaDoor
namespace CanidBack
open Go.ChangeShapes Go.WideShapes Go.ChangeAt Go.WideMaps Go.WideElems Go.RowKit Mem CanLaws
set_option linter.unusedVariables false

theorem back_law (k n d : Int) (x : Int) (u : Int) (w : World) (k0 : -9223372036854775808 ≤ k) (k1 : k ≤ 9223372036854775807) (n0 : -9223372036854775808 ≤ n) (n1 : n ≤ 9223372036854775807) (d0 : -9223372036854775808 ≤ d) (d1 : d ≤ 9223372036854775807)
    (x0 : -9223372036854775808 ≤ x) (x1 : x ≤ 9223372036854775807) (u0 : 0 ≤ u) (u1 : u ≤ 4294967295) (hg : CG w) :
    Calls Tryd.prog 6 #[.agg #[.int .i64 k, .int .i64 n, .int .i64 d], .int .i64 x, .int .u32 u] w fun e w' => e = .returned (.bool true) ∧ Below w.heap.size w w' := by
  have S := Lib.hid ((LS.start hg).three 28 (.int .i64 k) (.int .i64 n) (.int .i64 d))
  have K1 := Lib.hid (fun L W (S : LS w L W) => S.call (id_any k n d W S.g))
  have K3 := Lib.hid (fun L W (S : LS w L W) => S.call (of_any x x0 x1 W S.g))
  have K5 := Lib.hid (fun L W (S : LS w L W) => S.call (split_any u0 u1 W))
  have K7 := Lib.hid (fun L W (S : LS w L W) => S.call (known_any W S.g))
  have K4 := Lib.hid (fun L W (S : LS w L W) => S.call (id_any (Can.ofn x).1.1 (Can.ofn x).1.2.1 (Can.ofn x).1.2.2 W S.g))
  have K6 := Lib.hid (fun L W (S : LS w L W) => S.call (join_any (Can.spl u).1.1 (Can.spl u).1.2.1 (Can.spl u).1.2.2 W))
  have g2 : (Can.spl u).2 = 0 ∨ (Can.spl u).2 = 4 := by
    unfold Can.spl
    split
    · exact .inr rfl
    · exact .inl rfl
  rcases Can.id_two k n d with hz | hz
  · obtain ⟨o1, y0, y1⟩ := Can.of_id hz
    have K2 := Lib.hid (fun L W (S : LS w L W) => S.call (of_any (Can.idx k n d).1 (by omega) (by omega) W S.g))
    rw [o1] at K2
    rw [hz] at K1
    cases ht : (Can.ofn x).2 with
    | true =>
      rw [ht] at K3
      rw [Can.id_of ht] at K4
      rcases g2 with hv | hv
      · rw [hv] at K5
        rw [Can.jn_spl u0 u1 hv] at K6
        exact back_111 S K1 y0 y1 K2 K3 K4 K5 K6 K7
      · rw [hv] at K5
        exact back_110 S K1 y0 y1 K2 K3 K4 K5 K7
    | false =>
      rw [ht] at K3
      rcases g2 with hv | hv
      · rw [hv] at K5
        rw [Can.jn_spl u0 u1 hv] at K6
        exact back_101 S K1 y0 y1 K2 K3 K5 K6 K7
      · rw [hv] at K5
        exact back_100 S K1 y0 y1 K2 K3 K5 K7
  · rw [hz] at K1
    cases ht : (Can.ofn x).2 with
    | true =>
      rw [ht] at K3
      rw [Can.id_of ht] at K4
      rcases g2 with hv | hv
      · rw [hv] at K5
        rw [Can.jn_spl u0 u1 hv] at K6
        exact back_011 S K1 K3 K4 K5 K6 K7
      · rw [hv] at K5
        exact back_010 S K1 K3 K4 K5 K7
    | false =>
      rw [ht] at K3
      rcases g2 with hv | hv
      · rw [hv] at K5
        rw [Can.jn_spl u0 u1 hv] at K6
        exact back_001 S K1 K3 K5 K6 K7
      · rw [hv] at K5
        exact back_000 S K1 K3 K5 K7

set_option maxRecDepth 100000 in
theorem lifted (os : Os) (started : os.Started) (H : Type) (enc : TypeId × Value → H) :
    ReturnsInHanded {} Tryd.checked os 6 .any (fun w args => (Rows.canidBackSpec.pre enc Tryd.prog Tryd.f6 [] false w args ∧ laidMetH Tryd.prog laidL w) ∧ sizedMet enc Tryd.prog Tryd.f6 (OpenSpec.ofChange Rows.canidBackSpec) false w args)
      (Rows.canidBackSpec.post enc Tryd.prog Tryd.f6 false true false false) := by
  refine returnsInHanded_of_change_and (C := Tryd.checked) (X := fun w _ => laidMetH Tryd.prog laidL w) (fun _ _ _ hh h => h.of_heap hh) own started (by kernel_rfl) Tryd.func6
    (ChangeSpec.witness_shaped (enc := enc) (C := Tryd.checked) (os := os) (X := fun w _ => laidMetH Tryd.prog laidL w) false (World.doorLaid Tryd.prog 4000 os) #[.agg #[.int .i64 0, .int .i64 0, .int .i64 0], .int .i64 0, .int .u32 0] 8 rfl (World.shaped_of_RefB (by kernel_rfl) (by kernel_rfl)) (by kernel_rfl) (by kernel_rfl) (by kernel_rfl) (door_met os _)) ?_
  intro W base args ds gs before hval0 hW _ _ hL _
  have hval : ∀ (j : Nat) t v, Tryd.f6.params[j]? = some t → args[j]? = some v → Value.okWide Tryd.prog W .any base t v := hval0
  have hW' := hW
  obtain ⟨p, q, hA0, hV, rfl, hfz, hnd⟩ := hW
  have hA : DataW.TrodAll enc Tryd.prog W 0 (fun _ => true) true Tryd.f6.params.toList args.toList ds p := hA0
  rw [Tryd.params6] at hA hval
  obtain ⟨v0, vs0, d0, ds0, p0, q0, hargs, rfl, rfl, h0, r0⟩ := trodAll_cons hA
  obtain ⟨v1, vs1, d1, ds1, p1, q1, rfl, rfl, rfl, h1, r1⟩ := trodAll_cons r0
  obtain ⟨v2, vs2, d2, ds2, p2, q2, rfl, rfl, rfl, h2, r2⟩ := trodAll_cons r1
  obtain ⟨rfl, rfl, rfl⟩ := trodAll_nil r2
  obtain rfl : args = #[v0, v1, v2] := by cases args; simp_all
  obtain ⟨rfl, rfl⟩ := trodVars_none hV
  have k0 := h0
  have lt0 : ∀ x ∈ p0, x.block < W.heap.size := by obtain ⟨m, hm⟩ := k0; exact DataW.trod_lt m _ _ _ hm
  obtain ⟨x0, y0, z0, rfl, wx0, wy0, wz0⟩ := CanLaws.open_name (hval 0 28 v0 rfl rfl) h0
  obtain ⟨a1, rfl, rfl, rfl, w1⟩ := open_int Tryd.underlying3 (hval 1 3 v1 rfl rfl) h1
  obtain ⟨a2, rfl, rfl, rfl, w2⟩ := open_int Tryd.underlying36 (hval 2 36 v2 rfl rfl) h2
  have hg := glob_of_laid hL
  clear hA0 hval0
  refine (back_law x0 y0 z0 a1 a2 W (Mem.wf_i64 wx0).1 (Mem.wf_i64 wx0).2 (Mem.wf_i64 wy0).1 (Mem.wf_i64 wy0).2 (Mem.wf_i64 wz0).1 (Mem.wf_i64 wz0).2 (Mem.wf_i64 w1).1 (Mem.wf_i64 w1).2 (Mem.wf_u32 w2).1 (Mem.wf_u32 w2).2 hg).mono fun e W' ⟨he, bel⟩ => ?_
  subst he
  exact ⟨_, rfl, _, _, _, [], _, [], hW', trodAll_mk1 (shut_bool Tryd.underlying4 _), (trodAll_cons_mk (Below.trod laidOut (by kernel_rfl) (of_decide_eq_true (by kernel_rfl)) k0 bel lt0) (trodAll_cons_mk (shut_int Tryd.underlying3 w1) (trodAll_cons_mk (shut_int Tryd.underlying36 w2) trodAll_mk0))), rfl, bel.frame _, fun h => by cases h⟩
theorem over : Rows.canidBackRow.holds Tryd.pinned (OpenSpec.ofChange Rows.canidBackSpec) :=
  OpenClaim.holds_of_wide 6 Tryd.f6 rfl rfl rfl rfl rfl rfl rfl ⟨rfl, rfl, rfl, rfl, rfl⟩ rfl rfl rfl rfl rfl (by kernel_rfl) Tryd.func6 (by kernel_rfl)
    (of_decide_eq_true (by kernel_rfl)) (by unfold Func.isWrapper; first | (rw [if_pos (by decide +kernel)]; kernel_rfl) | (rw [if_neg (by decide +kernel)]; exact ⟨rfl, rfl⟩))
    (fun os started H enc _ => lifted os started H enc)
/-- The given statement. -/
theorem proved : Rows.CanidBackCardSaid :=
  Claim7.holds_tied_plain_at .later [] [.data, .data] true (true, "6233182dd3f7d5186291f294288edc9ad488ee0b6a95a3a2b2576d409713c2f5") false
    over (fun _ h => by cases h) (by kernel_rfl) (fun _ h => by cases h) canidBack_row_tie rfl ⟨rfl, rfl⟩ (by kernel_rfl) rfl
    (fun f fn hf hfn => by
      obtain rfl : f = 6 := Option.some.inj ((show Tryd.prog.funcNamed "wheelhouse/wheelhouselaw11.CanidBack" = some 6 by kernel_rfl).symm.trans hf) |>.symm
      obtain rfl : fn = Tryd.f6 := (Option.some.inj (Tryd.func6.symm.trans hfn)).symm
      exact ⟨by kernel_rfl, fun j t ht => by
        rw [Tryd.params6] at ht
        have h3 : t = 28 ∨ t = 3 ∨ t = 36 := by
          rcases j with _ | _ | _ | j
          · left; simpa using ht.symm
          · right; left; simpa using ht.symm
          · right; right; simpa using ht.symm
          · simp at ht
        rcases h3 with rfl | rfl | rfl
        · exact (show Tryd.prog.wantsStandIn 28 = false by kernel_rfl)
        · exact (show Tryd.prog.wantsStandIn 3 = false by kernel_rfl)
        · exact (show Tryd.prog.wantsStandIn 36 = false by kernel_rfl)⟩)
    (by kernel_rfl)

end CanidBack
end Go.Proofs.YtdakogmkpcldbaaDoor
