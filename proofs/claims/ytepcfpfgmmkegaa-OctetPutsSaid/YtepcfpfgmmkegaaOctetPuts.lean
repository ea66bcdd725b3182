/-
  Proved: OctetPuts, for any bytes, any width and any number, with a sign or without: it is laid down behind the bytes as the document's own functions say, or refused, in new memory: the bytes, and what stands behind them, are as they were, even when what was answered is written over.
-/
import Derived.Test.YtepcfpfgmmkegaaRows
import Derived.Test.YtepcfpfgmmkegaaLift
import Derived.Test.YtepcfpfgmmkegaaOctAns
import Derived.Test.YtepcfpfgmmkegaaOctKnown
namespace Go.Proofs.Ytepcfpfgmmkegaa.octetPuts
open Go.ChangeShapes Go.WideShapes Go.ChangeAt Go.RowKit Mem
open Go.ChangeMaps (open_string shut_string)
set_option linter.unusedVariables false

theorem ne_block {w1 w2 : World} {b1 b2 : Nat} {t : TypeId} {v1 v2 : Value} {x1 x2 : List UInt8} (h1 : Own w1 b1 t v1 x1) (h2 : Own w2 b2 t v2 x2) (hb : w1.heap.size ≤ b2) : v2.ownBlock = none ∨ v2.ownBlock ≠ v1.ownBlock := by
  cases e2 : v2.ownBlock with
  | none => exact .inl rfl
  | some k =>
    refine .inr fun e => ?_
    have a := (h1.lt k e.symm).2
    have b := (h2.lt k e2).1
    omega

set_option maxRecDepth 100000 in
set_option maxHeartbeats 800000 in
theorem walk (A : Option Addr) (c : Nat) (bs : List UInt8) (wd n : Int) (w : World) (hr : Rd w w.heap.size A bs) (hm : bs.length ≤ maxLen)
    (hw : -9223372036854775808 ≤ wd ∧ wd ≤ 9223372036854775807) (hn : 0 ≤ n ∧ n ≤ 18446744073709551615) :
    Calls Try.prog 3 #[.slice A bs.length c, .int .i64 wd, .int .u64 n] w fun e w' => e = .returned (.bool true) ∧ Below w.heap.size w w' := by
  unfold maxLen at hm
  by_cases h20 : 1048576 < bs.length
  · go_enter Try.func3, Try.ntmps3
    go_wp2_with fail
    refine (known_any _).mono ?_
    rintro e w' ⟨rfl, hb⟩
    go_wp2_with fail
    go_ret
    exact ⟨rfl, hb⟩
  · have hwr : -9223372036854775808 ≤ wrap64 n ∧ wrap64 n ≤ 9223372036854775807 := by unfold wrap64; omega
    have hp := Oct.putA_length bs wd n
    have hq := Oct.putIntA_length bs wd (wrap64 n)
    generalize hP : Oct.putA bs wd n = P at *
    generalize hQ : Oct.putIntA bs wd (wrap64 n) = Q at *
    have HP := Lib.hid hP
    have HQ := Lib.hid hQ
    clear hP hQ
    obtain ⟨p1, p2⟩ := P
    obtain ⟨q1, q2⟩ := Q
    simp only at hp hq
    go_enter Try.func3, Try.ntmps3
    go_wp2_with fail
    refine (lent_any A _ c bs w hr rfl (by omega)).mono ?_
    rintro e w1 ⟨g, cap, rfl, hl, b1⟩
    have r1 := (hr.below b1).mono b1.size
    go_wp2_with fail
    refine (put_all _ _ cap bs wd n w1 hl.rd rfl (by omega) hn.1 hn.2).mono ?_
    rw [HP.out]
    rintro e w2 ⟨v2, rfl, o2, b2⟩
    have l2 := hl.below b2 (Nat.le_refl _)
    have r2 := (r1.below b2).mono b2.size
    go_wp2_with fail
    refine (rput_all _ _ c bs wd n w2 r2 rfl (by omega) hn.1 hn.2).mono ?_
    rw [HP.out]
    rintro e w3 ⟨v3, rfl, o3, b3⟩
    have l3 := l2.below b3 (Nat.le_refl _)
    have r3 := (r2.below b3).mono b3.size
    go_wp2_with fail
    refine (putInt_all _ _ cap bs wd (wrap64 n) w3 l3.rd rfl (by omega) hwr.1 hwr.2).mono ?_
    rw [HQ.out]
    rintro e w4 ⟨v4, rfl, o4, b4⟩
    have l4 := l3.below b4 (Nat.le_refl _)
    have r4 := (r3.below b4).mono b4.size
    go_wp2_with fail
    refine (rputInt_all _ _ c bs wd (wrap64 n) w4 r4 rfl (by omega) hwr.1 hwr.2).mono ?_
    rw [HQ.out]
    rintro e w5 ⟨v5, rfl, o5, b5⟩
    have l5 := l4.below b5 (Nat.le_refl _)
    have r5 := (r4.below b5).mono b5.size
    have N2 := Lib.hid (ne_block o2 o4 b3.size)
    have hgl := hl.2.2.2.2
    replace o2 := ((o2.below b3 (Nat.le_refl _)).below b4 (Nat.le_refl _)).below b5 (Nat.le_refl _)
    replace o3 := (o3.below b4 (Nat.le_refl _)).below b5 (Nat.le_refl _)
    replace o4 := o4.below b5 (Nat.le_refl _)
    have z1 := b1.size
    have z2 := b2.size
    have z3 := b3.size
    have z4 := b4.size
    have z5 := b5.size
    have B5 := Lib.hid ((((b1.trans (b2.mono z1)).trans (b3.mono (by omega))).trans (b4.mono (by omega))).trans (b5.mono (by omega)))
    clear b1 b2 b3 b4 b5 l2 l3 l4 r1 r2 r3 r4 hl
    obtain ⟨A2, c2, rfl, rd2⟩ := o2.form
    obtain ⟨A3, c3, rfl, rd3⟩ := o3.form
    obtain ⟨A4, c4, rfl, rd4⟩ := o4.form
    obtain ⟨A5, c5, rfl, rd5⟩ := o5.form
    have s2 := run_str rd2 _ c2 rfl 22 5 9 Try.underlying22 Try.underlying5 Try.underlying9
    have s3 := run_str rd3 _ c3 rfl 22 5 9 Try.underlying22 Try.underlying5 Try.underlying9
    have s4 := run_str rd4 _ c4 rfl 22 5 9 Try.underlying22 Try.underlying5 Try.underlying9
    have s5 := run_str rd5 _ c5 rfl 22 5 9 Try.underlying22 Try.underlying5 Try.underlying9
    clear rd2 rd3 rd4 rd5
    go_wp2_with fail
    refine (kept_yes A _ c _ _ g cap bs w5 l5 r5 rfl (by omega)).mono ?_
    rintro e w' ⟨rfl, rfl⟩
    clear s2 s3 s4 s5
    go_wp2_with fail
    refine (spoil_any _ _ _ w5 o2 (by omega) (by omega)).mono ?_
    rintro e w6 ⟨rfl, b6, g6⟩
    have o6 := World.ownsRow.kept o4 g6 N2.out
    have l6 := l5.keep b6 hgl
    have B6 := Lib.hid (B5.out.trans (b6.mono z1))
    have z6 := b6.size
    clear g6 b6 l5 o4 o2 o3 o5 r5
    go_wp2_with fail
    refine (spoil_any _ _ _ w6 o6 (by omega) (by omega)).mono ?_
    rintro e w7 ⟨rfl, b7, g7⟩
    have l7 := l6.keep b7 (by omega)
    have B7 := Lib.hid (B6.out.trans (b7.mono (by omega)))
    have r7 := hr.below B7.out
    clear b7 g7 l6 o6
    go_wp2_with fail
    refine (kept_yes A _ c _ _ g cap bs w7 l7 r7 rfl (by omega)).mono ?_
    rintro e w' ⟨rfl, rfl⟩
    go_wp2_with fail
    refine (known_any _).mono ?_
    rintro e w8 ⟨rfl, b8⟩
    have B8 := Lib.hid (B7.out.trans (b8.mono B7.out.size))
    clear b8 l7 r7
    go_wp2_with fail
    go_ret
    exact ⟨rfl, B8.out⟩

theorem own : ownKnob Try.prog.godebug = none := by kernel_rfl
theorem laidOut : laidOutB Try.prog = true := by kernel_rfl

set_option maxRecDepth 100000 in
theorem lifted (os : Os) (started : os.Started) (H : Type) (enc : TypeId × Value → H) :
    ReturnsInHanded {} Try.checked os 3 .any (Rows.octetPutsSpec.pre6 enc Try.prog Try.f3 Rows.octetPutsRow.domain false) (Rows.octetPutsSpec.post enc Try.prog Try.f3 false true false false) := by
  refine returnsInHanded_of_change (C := Try.checked) own started (by kernel_rfl) Try.func3
    (ChangeSpec.witness6 (enc := enc) (C := Try.checked) false ⟨#[], #[.slice none 0 0, .int .i64 0, .int .u64 0], []⟩ 8 (by kernel_rfl) (by kernel_rfl) (by kernel_rfl) (by kernel_rfl)) ?_
  intro W base args ds gs before hval0 hW hcnd _
  have hval : ∀ (j : Nat) t v, Try.f3.params[j]? = some t → args[j]? = some v → Value.okWide Try.prog W .any base t v := hval0
  have hW' := hW
  obtain ⟨p, q, hA0, hV, rfl, hfz, hnd⟩ := hW
  have hA : DataW.TrodAll enc Try.prog W 0 (fun _ => true) true Try.f3.params.toList args.toList ds p := hA0
  rw [Try.params3] at hA hval
  obtain ⟨v0, vs0, d0, ds0, p0, q0, hargs, rfl, rfl, h0, r0⟩ := trodAll_cons hA
  obtain ⟨v1, vs1, d1, ds1, p1, q1, rfl, rfl, rfl, h1, r1⟩ := trodAll_cons r0
  obtain ⟨v2, vs2, d2, ds2, p2, q2, rfl, rfl, rfl, h2, r2⟩ := trodAll_cons r1
  obtain ⟨rfl, rfl, rfl⟩ := trodAll_nil r2
  obtain rfl : args = #[v0, v1, v2] := by cases args; simp_all
  obtain ⟨rfl, rfl⟩ := trodVars_none hV
  have k0 := h0
  have lt0 : ∀ x ∈ p0, x.block < W.heap.size := by obtain ⟨m, hm⟩ := k0; exact DataW.trod_lt m _ _ _ hm
  obtain ⟨A0, c0, b0, rfl, w0, l0⟩ := Mem.open_bytes Try.underlying22 Try.underlying5 (by kernel_rfl) (hval 0 22 v0 rfl rfl) h0
  obtain ⟨a1, rfl, rfl, rfl, w1⟩ := open_int Try.underlying3 (hval 1 3 v1 rfl rfl) h1
  obtain ⟨a2, rfl, rfl, rfl, w2⟩ := open_int Try.underlying23 (hval 2 23 v2 rfl rfl) h2
  clear hA0 hval0
  refine (walk A0 c0 b0 a1 a2 W w0 l0 (Mem.wf_i64 w1) (Mem.wf_u64 w2)).mono fun e W' ⟨he, bel⟩ => ?_
  subst he
  exact ⟨_, rfl, _, _, _, [], _, [], hW', trodAll_mk1 (shut_bool Try.underlying4 _), (trodAll_cons_mk (Below.trod laidOut (by kernel_rfl) (of_decide_eq_true (by kernel_rfl)) k0 bel lt0) (trodAll_cons_mk (shut_int Try.underlying3 w1) (trodAll_cons_mk (shut_int Try.underlying23 w2) trodAll_mk0))), rfl, bel.frame _, fun h => by cases h⟩

theorem over : Rows.octetPutsRow.holds Try.pinned (OpenSpec.ofChange Rows.octetPutsSpec) :=
  OpenClaim.holds_of_wide 3 Try.f3 rfl rfl rfl rfl rfl rfl rfl ⟨rfl, rfl, rfl, rfl, rfl⟩ rfl rfl rfl rfl rfl (by kernel_rfl) Try.func3 (by kernel_rfl)
    (of_decide_eq_true (by kernel_rfl)) (by unfold Func.isWrapper; first | (rw [if_pos (by decide +kernel)]; kernel_rfl) | (rw [if_neg (by decide +kernel)]; exact ⟨rfl, rfl⟩))
    (fun os started H enc _ => lifted os started H enc)

/-- The given statement. -/
theorem proved : Rows.OctetPutsSaid := over

end Go.Proofs.Ytepcfpfgmmkegaa.octetPuts
