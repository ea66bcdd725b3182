/-
  CanidWords, as it is given: any word is taken apart, and any COB-ID is joined, as the document says, or refused. For every word and every COB-ID, where the package's variables hold what the program's text lays in them (the card ties that).
-/
import Derived.Test.YtdakogmkpcldbaaDoorCanKnown
import Derived.Test.YtdakogmkpcldbaaDoorCanROf
import Derived.Test.YtdakogmkpcldbaaDoorCanLift
namespace Go.Proofs.YtdakogmkpcldbaaDoor
namespace CanidWords
open Go.ChangeShapes Go.WideShapes Go.ChangeAt Go.WideMaps Go.WideElems Go.RowKit Mem CanLaws
set_option linter.unusedVariables false

set_option maxRecDepth 100000 in
set_option maxHeartbeats 4000000 in
theorem words_law (x : Int) (o r : Bool) (i : Int) (w : World) (x0 : 0 ≤ x) (x1 : x ≤ 4294967295) (i0 : -9223372036854775808 ≤ i) (i1 : i ≤ 9223372036854775807) (hg : CG w) :
    Calls Tryd.prog 5 #[.int .u32 x, .agg #[.bool o, .bool r, .int .i64 i]] w fun e w' => e = .returned (.bool true) ∧ Below w.heap.size w w' := by
  have S := Lib.hid ((LS.start hg).three 38 (.bool o) (.bool r) (.int .i64 i))
  have K1 := Lib.hid (fun L W (S : LS w L W) => S.call (split_any x0 x1 W))
  have K2 := Lib.hid (fun L W (S : LS w L W) => S.call (rsplit_any x0 x1 W))
  have K3 := Lib.hid (fun L W (S : LS w L W) => S.call (join_any o r i W))
  have K4 := Lib.hid (fun L W (S : LS w L W) => S.call (rjoin_any o r i W))
  have K5 := Lib.hid (fun L W (S : LS w L W) => S.call (known_any W S.g))
  clear hg x0 x1 i0 i1
  generalize (Can.spl x).1.1 = a at *
  generalize (Can.spl x).1.2.1 = b at *
  generalize (Can.spl x).1.2.2 = c at *
  generalize (Can.spl x).2 = t at *
  generalize (Can.jn o r i).1 = y at *
  generalize (Can.jn o r i).2 = z at *
  go_enter Tryd.func5, Tryd.ntmps5
  go_wp2_with fail
  generalize hb0 : w.heap.size = b0 at S ⊢
  generalize w.alloc (.cells #[.bool o, .bool r, .int .i64 i] 38) = W0 at *
  refine (K1.out _ _ S.out).mono ?_
  clear S
  rintro e w1 ⟨rfl, S⟩
  have S := Lib.hid (S.three 39 (.bool a) (.bool b) (.int .i64 c))
  go_wp2_with fail
  generalize w1.heap.size = b1 at *
  generalize w1.alloc (.cells #[.bool a, .bool b, .int .i64 c] 39) = W1 at *
  refine (K2.out _ _ S.out).mono ?_
  clear S
  rintro e w2 ⟨rfl, S⟩
  have S := S.three 38 (.bool a) (.bool b) (.int .i64 c)
  have hw2 : ∀ W, W = w2.alloc (.cells #[.bool a, .bool b, .int .i64 c] 38) → W.cell? ⟨b0, 0, none⟩ = some (.bool o) ∧ W.cell? ⟨b0, 1, none⟩ = some (.bool r) ∧ W.cell? ⟨b0, 2, none⟩ = some (.int .i64 i) := by
    rintro W rfl
    exact ⟨S.c _ _ (by simp), S.c _ _ (by simp), S.c _ _ (by simp)⟩
  obtain ⟨c0, c1, c2⟩ := hw2 _ rfl
  have S := Lib.hid S
  clear hw2
  go_wp2_with fail
  clear c0 c1 c2
  generalize w2.heap.size = b2 at *
  generalize w2.alloc (.cells #[.bool a, .bool b, .int .i64 c] 38) = W2 at *
  refine (K3.out _ _ S.out).mono ?_
  clear S
  rintro e w3 ⟨rfl, S⟩
  have c0 : w3.cell? ⟨b0, 0, none⟩ = some (.bool o) := S.c _ _ (by simp)
  have c1 : w3.cell? ⟨b0, 1, none⟩ = some (.bool r) := S.c _ _ (by simp)
  have c2 : w3.cell? ⟨b0, 2, none⟩ = some (.int .i64 i) := S.c _ _ (by simp)
  have S := Lib.hid S
  go_wp2_with fail
  refine (K4.out _ _ S.out).mono ?_
  clear S c0 c1 c2
  rintro e w4 ⟨rfl, S⟩
  have a0 : w4.cell? ⟨b1, 0, none⟩ = some (.bool a) := S.c _ _ (by simp)
  have a1 : w4.cell? ⟨b1, 1, none⟩ = some (.bool b) := S.c _ _ (by simp)
  have a2 : w4.cell? ⟨b1, 2, none⟩ = some (.int .i64 c) := S.c _ _ (by simp)
  have e0 : w4.cell? ⟨b2, 0, none⟩ = some (.bool a) := S.c _ _ (by simp)
  have e1 : w4.cell? ⟨b2, 1, none⟩ = some (.bool b) := S.c _ _ (by simp)
  have e2 : w4.cell? ⟨b2, 2, none⟩ = some (.int .i64 c) := S.c _ _ (by simp)
  have S := Lib.hid S
  go_wp2_with (go_at_call 10; refine (K5.out _ _ S.out).mono ?_; clear S a0 a1 a2 e0 e1 e2; rintro e w5 ⟨rfl, S⟩; have S := Lib.hid S)
  go_ret
  exact ⟨rfl, S.out.b⟩

set_option maxRecDepth 100000 in
theorem lifted (os : Os) (started : os.Started) (H : Type) (enc : TypeId × Value → H) :
    ReturnsInHanded {} Tryd.checked os 5 .any (fun w args => (Rows.canidWordsSpec.pre enc Tryd.prog Tryd.f5 [] false w args ∧ laidMetH Tryd.prog laidL w) ∧ sizedMet enc Tryd.prog Tryd.f5 (OpenSpec.ofChange Rows.canidWordsSpec) false w args)
      (Rows.canidWordsSpec.post enc Tryd.prog Tryd.f5 false true false false) := by
  refine returnsInHanded_of_change_and (C := Tryd.checked) (X := fun w _ => laidMetH Tryd.prog laidL w) (fun _ _ _ hh h => h.of_heap hh) own started (by kernel_rfl) Tryd.func5
    (ChangeSpec.witness_shaped (enc := enc) (C := Tryd.checked) (os := os) (X := fun w _ => laidMetH Tryd.prog laidL w) false (World.doorLaid Tryd.prog 4000 os) #[.int .u32 0, .agg #[.bool false, .bool false, .int .i64 0]] 8 rfl (World.shaped_of_RefB (by kernel_rfl) (by kernel_rfl)) (by kernel_rfl) (by kernel_rfl) (by kernel_rfl) (door_met os _)) ?_
  intro W base args ds gs before hval0 hW _ _ hL _
  have hval : ∀ (j : Nat) t v, Tryd.f5.params[j]? = some t → args[j]? = some v → Value.okWide Tryd.prog W .any base t v := hval0
  have hW' := hW
  obtain ⟨p, q, hA0, hV, rfl, hfz, hnd⟩ := hW
  have hA : DataW.TrodAll enc Tryd.prog W 0 (fun _ => true) true Tryd.f5.params.toList args.toList ds p := hA0
  rw [Tryd.params5] at hA hval
  obtain ⟨v0, vs0, d0, ds0, p0, q0, hargs, rfl, rfl, h0, r0⟩ := trodAll_cons hA
  obtain ⟨v1, vs1, d1, ds1, p1, q1, rfl, rfl, rfl, h1, r1⟩ := trodAll_cons r0
  obtain ⟨rfl, rfl, rfl⟩ := trodAll_nil r1
  obtain rfl : args = #[v0, v1] := by cases args; simp_all
  obtain ⟨rfl, rfl⟩ := trodVars_none hV
  obtain ⟨a0, rfl, rfl, rfl, w0⟩ := open_int Tryd.underlying36 (hval 0 36 v0 rfl rfl) h0
  have k1 := h1
  have lt1 : ∀ x ∈ p1, x.block < W.heap.size := by obtain ⟨m, hm⟩ := k1; exact DataW.trod_lt m _ _ _ hm
  obtain ⟨x1, y1, z1, rfl, wz1⟩ := CanLaws.open_cob (hval 1 38 v1 rfl rfl) h1
  have hg := glob_of_laid hL
  clear hA0 hval0
  refine (words_law a0 x1 y1 z1 W (Mem.wf_u32 w0).1 (Mem.wf_u32 w0).2 (Mem.wf_i64 wz1).1 (Mem.wf_i64 wz1).2 hg).mono fun e W' ⟨he, bel⟩ => ?_
  subst he
  exact ⟨_, rfl, _, _, _, [], _, [], hW', trodAll_mk1 (shut_bool Tryd.underlying4 _), (trodAll_cons_mk (shut_int Tryd.underlying36 w0) (trodAll_cons_mk (Below.trod laidOut (by kernel_rfl) (of_decide_eq_true (by kernel_rfl)) k1 bel lt1) trodAll_mk0)), rfl, bel.frame _, fun h => by cases h⟩
theorem over : Rows.canidWordsRow.holds Tryd.pinned (OpenSpec.ofChange Rows.canidWordsSpec) :=
  OpenClaim.holds_of_wide 5 Tryd.f5 rfl rfl rfl rfl rfl rfl rfl ⟨rfl, rfl, rfl, rfl, rfl⟩ rfl rfl rfl rfl rfl (by kernel_rfl) Tryd.func5 (by kernel_rfl)
    (of_decide_eq_true (by kernel_rfl)) (by unfold Func.isWrapper; first | (rw [if_pos (by decide +kernel)]; kernel_rfl) | (rw [if_neg (by decide +kernel)]; exact ⟨rfl, rfl⟩))
    (fun os started H enc _ => lifted os started H enc)
/-- The given statement. -/
theorem proved : Rows.CanidWordsCardSaid :=
  Claim7.holds_tied_plain_at .later [] [.data, .data] true (true, "6233182dd3f7d5186291f294288edc9ad488ee0b6a95a3a2b2576d409713c2f5") false
    over (fun _ h => by cases h) (by kernel_rfl) (fun _ h => by cases h) canidWords_row_tie rfl ⟨rfl, rfl⟩ (by kernel_rfl) rfl
    (fun f fn hf hfn => by
      obtain rfl : f = 5 := Option.some.inj ((show Tryd.prog.funcNamed "wheelhouse/wheelhouselaw11.CanidWords" = some 5 by kernel_rfl).symm.trans hf) |>.symm
      obtain rfl : fn = Tryd.f5 := (Option.some.inj (Tryd.func5.symm.trans hfn)).symm
      exact ⟨by kernel_rfl, fun j t ht => by
        rw [Tryd.params5] at ht
        have h3 : t = 36 ∨ t = 38 := by
          rcases j with _ | _ | j
          · left; simpa using ht.symm
          · right; simpa using ht.symm
          · simp at ht
        rcases h3 with rfl | rfl
        · exact (show Tryd.prog.wantsStandIn 36 = false by kernel_rfl)
        · exact (show Tryd.prog.wantsStandIn 38 = false by kernel_rfl)⟩)
    (by kernel_rfl)

end CanidWords
end Go.Proofs.YtdakogmkpcldbaaDoor
