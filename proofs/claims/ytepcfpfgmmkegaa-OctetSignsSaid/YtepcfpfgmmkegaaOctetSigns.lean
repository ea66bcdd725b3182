/-
  Proved: OctetSigns, for every number with a sign: in each width it has the same bytes as its lowest bits, is got as it was, and its sign is the highest bit of the last byte.
-/
import Derived.Test.YtepcfpfgmmkegaaRows
import Derived.Test.YtepcfpfgmmkegaaLift
import Derived.Test.YtepcfpfgmmkegaaOctInts
import Derived.Test.YtepcfpfgmmkegaaOctLay
import Derived.Test.YtepcfpfgmmkegaaOctGet
import Derived.Test.YtepcfpfgmmkegaaOctKnown
namespace Go.Proofs.Ytepcfpfgmmkegaa.octetSigns
open Go.ChangeShapes Go.WideShapes Go.ChangeAt Go.RowKit Mem
open Go.ChangeMaps (open_string shut_string)
set_option linter.unusedVariables false

set_option maxRecDepth 100000 in
set_option maxHeartbeats 400000 in
theorem walk (n : Int) (w : World) (hn : -9223372036854775808 ≤ n ∧ n ≤ 9223372036854775807) :
    Calls Try.prog 8 #[.int .i64 n] w fun e w' => e = .returned (.bool true) ∧ Below w.heap.size w w' := by
  have hw := Oct.wrap_bd n
  go_enter Try.func8, Try.ntmps8
  go_wp2_with fail
  go_loopw [3] (fun i wr => ∃ k : Nat, 1 ≤ k ∧ k ≤ 9 ∧ i = .int .i64 k ∧ Below w.heap.size w wr) (fun i _ => 9 - (intOf i).toNat)
  case atStart => exact ⟨1, by omega, by omega, rfl, Below.refl _ _⟩
  case round =>
    obtain ⟨k, hk1, hk9, rfl, hb⟩ := hrel
    by_cases hk8 : k ≤ 8
    · have hf := Oct.fits_sgn (IntKind.u64.wrap n) k
      have hi := Oct.fits_i64 hf hk8
      have hl := Oct.low_u64 (IntKind.u64.wrap n) (8 * (k : Int)) (by omega)
      have hlt := Oct.low_lt (IntKind.u64.wrap n) k
      have hF := Lib.hid hf
      have hE := Lib.hid (Oct.bytes_sgn (IntKind.u64.wrap n) k)
      have hG := Lib.hid (Oct.num_fits hk1 hk8 hf)
      have hT := Oct.top_byte hk1 hf
      clear hf
      go_wp2_with fail
      refine (sign_ok _ _ _ (by omega) (by omega) hw.1 hw.2).mono ?_
      rintro e w' ⟨rfl, rfl⟩
      generalize hm : Oct.sgn (IntKind.u64.wrap n) (8 * (k : Int)) = m at *
      generalize hL : Oct.low (IntKind.u64.wrap n) (8 * (k : Int)) = L at *
      clear hm
      have hL' := Lib.hid hL
      clear hL
      have hbl := Lib.hid (Oct.bytes_length m k)
      go_wp2_with fail
      refine (putInt_ok none 0 0 [] k m wr Rd.nil rfl (by omega) (by omega) (by omega) hi.1 hi.2 hF.out).mono ?_
      rintro e w1 ⟨v1, rfl, o1, b1⟩
      rw [List.nil_append, Int.toNat_natCast] at o1
      obtain ⟨A1, c1, rfl, r1⟩ := o1.form_n hbl.out
      clear o1
      unfold pairOk
      replace hb := hb.trans (b1.mono hb.size)
      clear b1
      go_wp2_with fail
      refine (low_ok _ _ _ (by omega) (by omega) hw.1 hw.2).mono ?_
      rintro e w' ⟨rfl, rfl⟩
      rw [hL'.out]
      go_wp2_with fail
      refine (put_ok none 0 0 [] k L w1 Rd.nil rfl (by omega) (by omega) (by omega) hl.1 hlt).mono ?_
      rintro e w2 ⟨v2, rfl, o2, b2⟩
      rw [List.nil_append, Int.toNat_natCast, ← hE.out] at o2
      obtain ⟨A2, c2, rfl, r2⟩ := o2.form_n hbl.out
      clear o2
      unfold pairOk
      replace r1 := (r1.below b2).mono b2.size
      replace hb := hb.trans (b2.mono hb.size)
      clear b2
      go_wp2_with fail
      refine (getInt_ok A1 k c1 _ (Oct.bytes m k) 0 k w2 r1 hbl.out.symm (by omega) (by omega) (by omega) (by omega) (by omega)).mono ?_
      rintro e w' ⟨rfl, rfl⟩
      rw [Int.toNat_natCast, Int.toNat_zero, hG.out]
      have s1 := run_str r1 k c1 hbl.out.symm 22 5 9 Try.underlying22 Try.underlying5 Try.underlying9
      have s2 := run_str r2 k c2 hbl.out.symm 22 5 9 Try.underlying22 Try.underlying5 Try.underlying9
      obtain ⟨g, off, rfl, hg, hc⟩ := r1.at_ (k := k - 1) (by rw [hbl.out]; omega)
      have hx := byt_bd (Oct.bytes m k) (k - 1)
      rcases hT with ⟨t1, t2⟩ | ⟨t1, t2⟩
      · go_wp2_with fail
        go_roundw
        case rel => exact ⟨k + 1, by omega, by omega, by go_num, hb⟩
        case measure => simp [intOf]; omega
      · have d1 : decide (m < 0) = false := by simp; omega
        have d2 : decide (128 ≤ byt (Oct.bytes m k) (k - 1)) = false := by simp; omega
        go_wp2_with fail
        go_roundw
        case rel => exact ⟨k + 1, by omega, by omega, by go_num, hb⟩
        case measure => simp [intOf]; omega
    · go_wp2_with fail
      refine (known_any _).mono ?_
      rintro e w' ⟨rfl, b1⟩
      replace hb := hb.trans (b1.mono hb.size)
      clear b1
      go_wp2_with fail
      go_ret
      exact ⟨rfl, hb⟩

theorem own : ownKnob Try.prog.godebug = none := by kernel_rfl
theorem laidOut : laidOutB Try.prog = true := by kernel_rfl

set_option maxRecDepth 100000 in
theorem lifted (os : Os) (started : os.Started) (H : Type) (enc : TypeId × Value → H) :
    ReturnsInHanded {} Try.checked os 8 .any (Rows.octetSignsSpec.pre6 enc Try.prog Try.f8 Rows.octetSignsRow.domain false) (Rows.octetSignsSpec.post enc Try.prog Try.f8 false true false false) := by
  refine returnsInHanded_of_change (C := Try.checked) own started (by kernel_rfl) Try.func8
    (ChangeSpec.witness6 (enc := enc) (C := Try.checked) false ⟨#[], #[.int .i64 0], []⟩ 8 (by kernel_rfl) (by kernel_rfl) (by kernel_rfl) (by kernel_rfl)) ?_
  intro W base args ds gs before hval0 hW hcnd _
  have hval : ∀ (j : Nat) t v, Try.f8.params[j]? = some t → args[j]? = some v → Value.okWide Try.prog W .any base t v := hval0
  have hW' := hW
  obtain ⟨p, q, hA0, hV, rfl, hfz, hnd⟩ := hW
  have hA : DataW.TrodAll enc Try.prog W 0 (fun _ => true) true Try.f8.params.toList args.toList ds p := hA0
  rw [Try.params8] at hA hval
  obtain ⟨v0, vs0, d0, ds0, p0, q0, hargs, rfl, rfl, h0, r0⟩ := trodAll_cons hA
  obtain ⟨rfl, rfl, rfl⟩ := trodAll_nil r0
  obtain rfl : args = #[v0] := by cases args; simp_all
  obtain ⟨rfl, rfl⟩ := trodVars_none hV
  obtain ⟨a0, rfl, rfl, rfl, w0⟩ := open_int Try.underlying2 (hval 0 2 v0 rfl rfl) h0
  clear hA0 hval0
  refine (walk a0 W (Mem.wf_i64 w0)).mono fun e W' ⟨he, bel⟩ => ?_
  subst he
  exact ⟨_, rfl, _, _, _, [], _, [], hW', trodAll_mk1 (shut_bool Try.underlying4 _), (trodAll_cons_mk (shut_int Try.underlying2 w0) trodAll_mk0), rfl, bel.frame _, fun h => by cases h⟩

theorem over : Rows.octetSignsRow.holds Try.pinned (OpenSpec.ofChange Rows.octetSignsSpec) :=
  OpenClaim.holds_of_wide 8 Try.f8 rfl rfl rfl rfl rfl rfl rfl ⟨rfl, rfl, rfl, rfl, rfl⟩ rfl rfl rfl rfl rfl (by kernel_rfl) Try.func8 (by kernel_rfl)
    (of_decide_eq_true (by kernel_rfl)) (by unfold Func.isWrapper; first | (rw [if_pos (by decide +kernel)]; kernel_rfl) | (rw [if_neg (by decide +kernel)]; exact ⟨rfl, rfl⟩))
    (fun os started H enc _ => lifted os started H enc)

/-- The given statement. -/
theorem proved : Rows.OctetSignsSaid := over

end Go.Proofs.Ytepcfpfgmmkegaa.octetSigns
