/-
  CanidJoins, as it is given: each COB-ID that can be joined is split as it was. For every pair of marks and every number, where the package's variables hold what the program's text lays in them (the card ties that).
-/
import Derived.Test.YtdakogmkpcldbaaDoorCanKnown
import Derived.Test.YtdakogmkpcldbaaDoorCanLift
import Derived.Laws.StructEq
namespace Go.Proofs.YtdakogmkpcldbaaDoor
namespace CanidJoins
open Go.ChangeShapes Go.WideShapes Go.ChangeAt Go.WideMaps Go.WideElems Go.RowKit Mem CanLaws
set_option linter.unusedVariables false

theorem one_bool (a b : Bool) (d : Nat) (W : World) : (Op.equalIn (d + 1) 4 (.bool a) (.bool b)).run Tryd.prog W = .ok (a == b) W := by
  simp [Op.equalIn, go_sem]
theorem eq_cob (o r : Bool) (x : Int) (W : World) : (binOp .eql 39 (.agg #[.bool o, .bool r, .int .i64 x]) (.agg #[.bool o, .bool r, .int .i64 x])).run Tryd.prog W = .ok (.bool true) W := by
  have hf : Tryd.prog.underlying 39 = some (.struct (Tryd.prog.fieldsOf 39)) := by kernel_rfl
  have p0 : ∀ (x y z : Value) W, (part 4 #[x, y, z] 0).run Tryd.prog W = .ok x W := fun x y z W => by kernel_rfl
  have p1 : ∀ (x y z : Value) W, (part 4 #[x, y, z] 1).run Tryd.prog W = .ok y W := fun x y z W => by kernel_rfl
  have p2 : ∀ (x y z : Value) W, (part 3 #[x, y, z] 2).run Tryd.prog W = .ok z W := fun x y z W => by kernel_rfl
  have e : (Op.equalIn (9999 + 1) 39 (.agg #[.bool o, .bool r, .int .i64 x]) (.agg #[.bool o, .bool r, .int .i64 x])).run Tryd.prog W = .ok true W := by
    rw [run_equalIn_struct W 9999 _ _ _ hf (by kernel_rfl)]
    have hg := Tryd.underlying39
    rw [hf] at hg
    simp only [Option.some.injEq, TypeDesc.struct.injEq] at hg
    rw [hg]
    have o1 : ∀ (a b : Bool) W, (Op.equalIn 9999 4 (.bool a) (.bool b)).run Tryd.prog W = .ok (a == b) W := fun a b W => one_bool a b 9998 W
    have o2 : ∀ (a b : Int) W, (Op.equalIn 9999 3 (.int .i64 a) (.int .i64 b)).run Tryd.prog W = .ok (a == b) W := fun a b W => one_int a b 9998 W
    simp [Op.eqFields, Sem.run_bind, p0, p1, p2, o1, o2]
  simp only [binOp, Op.equal, Sem.run_bind]
  rw [show Op.maxDepth = 9999 + 1 from rfl, e]
  rfl

set_option maxRecDepth 100000 in
set_option maxHeartbeats 4000000 in
theorem joins_law (o r : Bool) (i : Int) (w : World) (i0 : 0 ≤ i) (i1 : i ≤ 65535) (hg : CG w) :
    Calls Tryd.prog 7 #[.bool o, .bool r, .int .u16 i] w fun e w' => e = .returned (.bool true) ∧ Below w.heap.size w w' := by
  have S := Lib.hid (LS.start hg)
  have hm : 0 ≤ i % 2048 ∧ i % 2048 ≤ 2047 := by omega
  have hb := Can.wrd_bd hm.1 hm.2 o r
  have K1 := Lib.hid (fun L W (S : LS w L W) => S.call (join_yes o r hm.1 hm.2 W))
  have K2 := Lib.hid (fun L W (S : LS w L W) => S.call (split_any hb.1 hb.2.1 W))
  rw [Can.spl_jn hm.1 hm.2] at K2
  have K3 := Lib.hid (fun L W (S : LS w L W) => S.call (known_any W S.g))
  have hq := eq_cob o r (i % 2048)
  have ho : decide (2147483648 ≤ Can.wrd o r (i % 2048)) = o := hb.2.2.2.1
  clear hm hb hg
  generalize Can.wrd o r (i % 2048) = x at *
  go_enter Tryd.func7, Tryd.ntmps7
  have S1 := Lib.hid (S.out.three 39 (.bool o) (.bool r) (.int .i64 (i % 2048)))
  clear S
  go_wp2_with fail
  generalize w.heap.size = b1 at S1 ⊢
  refine (K1.out _ _ S1.out).mono ?_
  clear S1
  rintro e w1 ⟨rfl, S⟩
  have S := Lib.hid S
  go_wp2_with fail
  refine (K2.out _ _ S.out).mono ?_
  clear S
  rintro e w2 ⟨rfl, S⟩
  have c0 : ∀ o', (w2.alloc o').cell? ⟨b1, 0, none⟩ = some (.bool o) := fun o' => (S.new o').c _ _ (by simp)
  have c1 : ∀ o', (w2.alloc o').cell? ⟨b1, 1, none⟩ = some (.bool r) := fun o' => (S.new o').c _ _ (by simp)
  have c2 : ∀ o', (w2.alloc o').cell? ⟨b1, 2, none⟩ = some (.int .i64 (i % 2048)) := fun o' => (S.new o').c _ _ (by simp)
  have S := Lib.hid fun o' => S.new o'
  go_wp2_with (go_at_call 10; refine (K3.out _ _ (S.out _)).mono ?_; clear S c0 c1 c2; rintro e w3 ⟨rfl, S⟩; have S := Lib.hid S)
  go_ret
  exact ⟨rfl, S.out.b⟩

set_option maxRecDepth 100000 in
theorem lifted (os : Os) (started : os.Started) (H : Type) (enc : TypeId × Value → H) :
    ReturnsInHanded {} Tryd.checked os 7 .any (fun w args => (Rows.canidJoinsSpec.pre enc Tryd.prog Tryd.f7 [] false w args ∧ laidMetH Tryd.prog laidL w) ∧ sizedMet enc Tryd.prog Tryd.f7 (OpenSpec.ofChange Rows.canidJoinsSpec) false w args)
      (Rows.canidJoinsSpec.post enc Tryd.prog Tryd.f7 false true false false) := by
  refine returnsInHanded_of_change_and (C := Tryd.checked) (X := fun w _ => laidMetH Tryd.prog laidL w) (fun _ _ _ hh h => h.of_heap hh) own started (by kernel_rfl) Tryd.func7
    (ChangeSpec.witness_shaped (enc := enc) (C := Tryd.checked) (os := os) (X := fun w _ => laidMetH Tryd.prog laidL w) false (World.doorLaid Tryd.prog 4000 os) #[.bool false, .bool false, .int .u16 0] 8 rfl (World.shaped_of_RefB (by kernel_rfl) (by kernel_rfl)) (by kernel_rfl) (by kernel_rfl) (by kernel_rfl) (door_met os _)) ?_
  intro W base args ds gs before hval0 hW _ _ hL _
  have hval : ∀ (j : Nat) t v, Tryd.f7.params[j]? = some t → args[j]? = some v → Value.okWide Tryd.prog W .any base t v := hval0
  have hW' := hW
  obtain ⟨p, q, hA0, hV, rfl, hfz, hnd⟩ := hW
  have hA : DataW.TrodAll enc Tryd.prog W 0 (fun _ => true) true Tryd.f7.params.toList args.toList ds p := hA0
  rw [Tryd.params7] at hA hval
  obtain ⟨v0, vs0, d0, ds0, p0, q0, hargs, rfl, rfl, h0, r0⟩ := trodAll_cons hA
  obtain ⟨v1, vs1, d1, ds1, p1, q1, rfl, rfl, rfl, h1, r1⟩ := trodAll_cons r0
  obtain ⟨v2, vs2, d2, ds2, p2, q2, rfl, rfl, rfl, h2, r2⟩ := trodAll_cons r1
  obtain ⟨rfl, rfl, rfl⟩ := trodAll_nil r2
  obtain rfl : args = #[v0, v1, v2] := by cases args; simp_all
  obtain ⟨rfl, rfl⟩ := trodVars_none hV
  obtain ⟨a0, rfl, rfl, rfl⟩ := open_bool Tryd.underlying4 (hval 0 4 v0 rfl rfl) h0
  obtain ⟨a1, rfl, rfl, rfl⟩ := open_bool Tryd.underlying4 (hval 1 4 v1 rfl rfl) h1
  obtain ⟨a2, rfl, rfl, rfl, w2⟩ := open_int Tryd.underlying49 (hval 2 49 v2 rfl rfl) h2
  have hg := glob_of_laid hL
  clear hA0 hval0
  refine (joins_law a0 a1 a2 W (Mem.wf_u16 w2).1 (Mem.wf_u16 w2).2 hg).mono fun e W' ⟨he, bel⟩ => ?_
  subst he
  exact ⟨_, rfl, _, _, _, [], _, [], hW', trodAll_mk1 (shut_bool Tryd.underlying4 _), (trodAll_cons_mk (shut_bool Tryd.underlying4 _) (trodAll_cons_mk (shut_bool Tryd.underlying4 _) (trodAll_cons_mk (shut_int Tryd.underlying49 w2) trodAll_mk0))), rfl, bel.frame _, fun h => by cases h⟩
theorem over : Rows.canidJoinsRow.holds Tryd.pinned (OpenSpec.ofChange Rows.canidJoinsSpec) :=
  OpenClaim.holds_of_wide 7 Tryd.f7 rfl rfl rfl rfl rfl rfl rfl ⟨rfl, rfl, rfl, rfl, rfl⟩ rfl rfl rfl rfl rfl (by kernel_rfl) Tryd.func7 (by kernel_rfl)
    (of_decide_eq_true (by kernel_rfl)) (by unfold Func.isWrapper; first | (rw [if_pos (by decide +kernel)]; kernel_rfl) | (rw [if_neg (by decide +kernel)]; exact ⟨rfl, rfl⟩))
    (fun os started H enc _ => lifted os started H enc)
/-- The given statement. -/
theorem proved : Rows.CanidJoinsCardSaid :=
  Claim7.holds_tied_plain_at .later [] [.data, .data] true (true, "6233182dd3f7d5186291f294288edc9ad488ee0b6a95a3a2b2576d409713c2f5") false
    over (fun _ h => by cases h) (by kernel_rfl) (fun _ h => by cases h) canidJoins_row_tie rfl ⟨rfl, rfl⟩ (by kernel_rfl) rfl
    (fun f fn hf hfn => by
      obtain rfl : f = 7 := Option.some.inj ((show Tryd.prog.funcNamed "wheelhouse/wheelhouselaw11.CanidJoins" = some 7 by kernel_rfl).symm.trans hf) |>.symm
      obtain rfl : fn = Tryd.f7 := (Option.some.inj (Tryd.func7.symm.trans hfn)).symm
      exact ⟨by kernel_rfl, fun j t ht => by
        rw [Tryd.params7] at ht
        have h3 : t = 4 ∨ t = 49 := by
          rcases j with _ | _ | _ | j
          · left; simpa using ht.symm
          · left; simpa using ht.symm
          · right; simpa using ht.symm
          · simp at ht
        rcases h3 with rfl | rfl
        · exact (show Tryd.prog.wantsStandIn 4 = false by kernel_rfl)
        · exact (show Tryd.prog.wantsStandIn 49 = false by kernel_rfl)⟩)
    (by kernel_rfl)

end CanidJoins
end Go.Proofs.YtdakogmkpcldbaaDoor
