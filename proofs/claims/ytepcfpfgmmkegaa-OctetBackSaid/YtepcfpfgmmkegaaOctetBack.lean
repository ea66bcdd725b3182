/-
  Proved: OctetBack, for any bytes, any number and any bytes behind it: in each width, the number's lowest bits that were laid down behind the bytes, and ahead of the others, are got at their place.
-/
import Derived.Test.YtepcfpfgmmkegaaRows
import Derived.Test.YtepcfpfgmmkegaaLift
import Derived.Test.YtepcfpfgmmkegaaOctRef
import Derived.Test.YtepcfpfgmmkegaaOctKnown
import Derived.Deep.QuietTactic
import Derived.BigQuiet
namespace Go.Proofs.Ytepcfpfgmmkegaa.octetBack
open Go.ChangeShapes Go.WideShapes Go.ChangeAt Go.RowKit Mem
open Go.ChangeMaps (open_string shut_string)
set_option linter.unusedVariables false

set_option maxRecDepth 100000 in
set_option maxHeartbeats 800000 in
theorem walk (A : Option Addr) (c : Nat) (bs : List UInt8) (n : Int) (C : Option Addr) (d : Nat) (cs : List UInt8) (w : World) (hr : Rd w w.heap.size A bs) (hm : bs.length ≤ maxLen)
    (hn : 0 ≤ n ∧ n ≤ 18446744073709551615) (hrc : Rd w w.heap.size C cs) (hmc : cs.length ≤ maxLen) :
    Calls Try.prog 7 #[.slice A bs.length c, .int .u64 n, .slice C cs.length d] w fun e w' => e = .returned (.bool true) ∧ Below w.heap.size w w' := by
  unfold maxLen at hm hmc
  by_cases h14 : 16384 < bs.length ∨ 16384 < cs.length
  · have hd : 16384 < bs.length ∨ (bs.length ≤ 16384 ∧ 16384 < cs.length) := by omega
    clear h14
    rcases hd with h | ⟨h, h'⟩
    all_goals
      go_enter Try.func7, Try.ntmps7
      go_wp2_with fail
      refine (known_any _).mono ?_
      rintro e w' ⟨rfl, hb⟩
      go_wp2_with fail
      go_ret
      exact ⟨rfl, hb⟩
  · have d1 : decide (16384 < bs.length) = false := by simp; omega
    have d2 : decide (16384 < cs.length) = false := by simp; omega
    have e1 : bs.length ≤ 16384 := by omega
    have e2 : cs.length ≤ 16384 := by omega
    clear h14
    go_enter Try.func7, Try.ntmps7
    go_wp2_with fail
    go_loopw [7] (fun i wr => ∃ k : Nat, 1 ≤ k ∧ k ≤ 9 ∧ i = .int .i64 k ∧ Below w.heap.size w wr) (fun i _ => 9 - (intOf i).toNat)
    case atStart => exact ⟨1, by omega, by omega, rfl, Below.refl _ _⟩
    case round =>
      obtain ⟨k, hk1, hk9, rfl, hb⟩ := hrel
      by_cases hk8 : k ≤ 8
      · have hl := Oct.low_u64 n (8 * (k : Int)) (by omega)
        have hlt := Oct.low_lt n k
        have hG := Lib.hid (Oct.num_low n bs cs k)
        go_wp2_with fail
        refine (low_ok _ _ _ (by omega) (by omega) hn.1 hn.2).mono ?_
        rintro e w' ⟨rfl, rfl⟩
        generalize hL : Oct.low n (8 * (k : Int)) = L at *
        clear hL
        have hbl := Lib.hid (show (bs ++ Oct.bytes L k).length = bs.length + k by simp [Oct.bytes_length])
        go_wp2_with fail
        refine (put_ok A _ c bs k L wr ((hr.below hb).mono hb.size) rfl (by omega) (by omega) (by omega) hl.1 hlt).mono ?_
        rintro e w1 ⟨v1, rfl, o1, b1⟩
        rw [Int.toNat_natCast] at o1
        obtain ⟨g, cap, hv, hg, hgs, hc, hcm⟩ := o1.some_ (by rw [hbl.out]; omega)
        rw [hbl.out] at hv hc
        subst hv
        have r1 : Rd w1 w1.heap.size (some ⟨g, 0, none⟩) (bs ++ Oct.bytes L k) := by
          obtain ⟨A', c', hv', hr'⟩ := o1.form
          injection hv' with q1 q2 q3
          rw [q1]; exact hr'
        have r0 := (o1.take hbl.out.symm (k := bs.length) (by rw [hbl.out]; omega))
        rw [List.take_left] at r0
        replace hb := hb.trans (b1.mono hb.size)
        clear b1 o1
        obtain ⟨A0, c0, hv0, rd0⟩ := r0.form
        injection hv0 with q1 q2 q3
        subst q1
        subst q3
        clear q2 r0
        have s1 := fun q => run_str (rd0.drewN q) bs.length cap rfl 22 5 9 Try.underlying22 Try.underlying5 Try.underlying9
        have s2 := fun q => run_str ((hr.below hb).drewN q) bs.length c rfl 22 5 9 Try.underlying22 Try.underlying5 Try.underlying9
        unfold pairOk
        unfold maxLen at hcm
        go_wp2_with fail
        go_quiet (fail)
        clear s1 s2 rd0
        go_wp2_with fail
        refine (join_any _ _ _ _ _ _ 0 (bs ++ Oct.bytes L k) cs _ (r1.drewN _) (((hrc.below hb).mono hb.size).drewN _) hbl.out.symm rfl (by omega) (by omega)).mono ?_
        rintro e w2 ⟨v2, rfl, o2, b2⟩
        have hal := Lib.hid (show (bs ++ Oct.bytes L k ++ cs).length = bs.length + k + cs.length by simp [Oct.bytes_length]; omega)
        obtain ⟨A2, c2, rfl, r2⟩ := o2.form_n hal.out
        have hb2 : Below w.heap.size w w2 := (below_drewN hb nq).trans (b2.mono hb.size)
        clear b2 o2 r1 hb
        unfold id
        go_wp2_with fail
        refine (get_ok A2 _ c2 _ (bs ++ Oct.bytes L k ++ cs) bs.length k w2 r2 hal.out.symm (by omega) (by omega) (by omega) (by omega) (by omega)).mono ?_
        rintro e w' ⟨rfl, rfl⟩
        rw [Int.toNat_natCast, Int.toNat_natCast, hG.out]
        clear r2
        go_wp2_with fail
        go_roundw
        case rel => exact ⟨k + 1, by omega, by omega, by go_num, hb2⟩
        case measure => simp [intOf]; omega
      · go_wp2_with fail
        refine (known_any _).mono ?_
        rintro e w' ⟨rfl, b1⟩
        replace hb := hb.trans (b1.mono hb.size)
        clear b1
        go_wp2_with fail
        go_ret
        exact ⟨rfl, hb⟩

theorem own : ownKnob Try.prog.godebug = none := by kernel_rfl
theorem laidOut : laidOutB Try.prog = true := by kernel_rfl

set_option maxRecDepth 100000 in
theorem lifted (os : Os) (started : os.Started) (H : Type) (enc : TypeId × Value → H) :
    ReturnsInHanded {} Try.checked os 7 .any (Rows.octetBackSpec.pre6 enc Try.prog Try.f7 Rows.octetBackRow.domain false) (Rows.octetBackSpec.post enc Try.prog Try.f7 false true false false) := by
  refine returnsInHanded_of_change (C := Try.checked) own started (by kernel_rfl) Try.func7
    (ChangeSpec.witness6 (enc := enc) (C := Try.checked) false ⟨#[], #[.slice none 0 0, .int .u64 0, .slice none 0 0], []⟩ 8 (by kernel_rfl) (by kernel_rfl) (by kernel_rfl) (by kernel_rfl)) ?_
  intro W base args ds gs before hval0 hW hcnd _
  have hval : ∀ (j : Nat) t v, Try.f7.params[j]? = some t → args[j]? = some v → Value.okWide Try.prog W .any base t v := hval0
  have hW' := hW
  obtain ⟨p, q, hA0, hV, rfl, hfz, hnd⟩ := hW
  have hA : DataW.TrodAll enc Try.prog W 0 (fun _ => true) true Try.f7.params.toList args.toList ds p := hA0
  rw [Try.params7] at hA hval
  obtain ⟨v0, vs0, d0, ds0, p0, q0, hargs, rfl, rfl, h0, r0⟩ := trodAll_cons hA
  obtain ⟨v1, vs1, d1, ds1, p1, q1, rfl, rfl, rfl, h1, r1⟩ := trodAll_cons r0
  obtain ⟨v2, vs2, d2, ds2, p2, q2, rfl, rfl, rfl, h2, r2⟩ := trodAll_cons r1
  obtain ⟨rfl, rfl, rfl⟩ := trodAll_nil r2
  obtain rfl : args = #[v0, v1, v2] := by cases args; simp_all
  obtain ⟨rfl, rfl⟩ := trodVars_none hV
  have k0 := h0
  have lt0 : ∀ x ∈ p0, x.block < W.heap.size := by obtain ⟨m, hm⟩ := k0; exact DataW.trod_lt m _ _ _ hm
  obtain ⟨A0, c0, b0, rfl, w0, l0⟩ := Mem.open_bytes Try.underlying22 Try.underlying5 (by kernel_rfl) (hval 0 22 v0 rfl rfl) h0
  obtain ⟨a1, rfl, rfl, rfl, w1⟩ := open_int Try.underlying23 (hval 1 23 v1 rfl rfl) h1
  have k2 := h2
  have lt2 : ∀ x ∈ p2, x.block < W.heap.size := by obtain ⟨m, hm⟩ := k2; exact DataW.trod_lt m _ _ _ hm
  obtain ⟨A2, c2, b2, rfl, w2, l2⟩ := Mem.open_bytes Try.underlying22 Try.underlying5 (by kernel_rfl) (hval 2 22 v2 rfl rfl) h2
  clear hA0 hval0
  refine (walk A0 c0 b0 a1 A2 c2 b2 W w0 l0 (Mem.wf_u64 w1) w2 l2).mono fun e W' ⟨he, bel⟩ => ?_
  subst he
  exact ⟨_, rfl, _, _, _, [], _, [], hW', trodAll_mk1 (shut_bool Try.underlying4 _), (trodAll_cons_mk (Below.trod laidOut (by kernel_rfl) (of_decide_eq_true (by kernel_rfl)) k0 bel lt0) (trodAll_cons_mk (shut_int Try.underlying23 w1) (trodAll_cons_mk (Below.trod laidOut (by kernel_rfl) (of_decide_eq_true (by kernel_rfl)) k2 bel lt2) trodAll_mk0))), rfl, bel.frame _, fun h => by cases h⟩

theorem over : Rows.octetBackRow.holds Try.pinned (OpenSpec.ofChange Rows.octetBackSpec) :=
  OpenClaim.holds_of_wide 7 Try.f7 rfl rfl rfl rfl rfl rfl rfl ⟨rfl, rfl, rfl, rfl, rfl⟩ rfl rfl rfl rfl rfl (by kernel_rfl) Try.func7 (by kernel_rfl)
    (of_decide_eq_true (by kernel_rfl)) (by unfold Func.isWrapper; first | (rw [if_pos (by decide +kernel)]; kernel_rfl) | (rw [if_neg (by decide +kernel)]; exact ⟨rfl, rfl⟩))
    (fun os started H enc _ => lifted os started H enc)

/-- The given statement. -/
theorem proved : Rows.OctetBackSaid := over

end Go.Proofs.Ytepcfpfgmmkegaa.octetBack
