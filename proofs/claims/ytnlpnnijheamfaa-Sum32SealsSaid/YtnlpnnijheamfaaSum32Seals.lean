/-
  Proved: Sum32Seals, for any bytes: what they are sealed, and opened, is as the document's own functions say, in new memory; the bytes are as they were.
-/
import Derived.Test.YtnlpnnijheamfaaRows
import Derived.Test.YtnlpnnijheamfaaLift
import Derived.Test.YtnlpnnijheamfaaSumRef
import Derived.Test.YtnlpnnijheamfaaSumKnown
import Derived.Test.YtnlpnnijheamfaaOctAux
import Derived.Deep.RegionHeld
namespace Go.Proofs.Ytnlpnnijheamfaa.sum32Seals
open Go.ChangeShapes Go.WideShapes Go.ChangeAt Go.RowKit Mem
open Go.ChangeMaps (open_string shut_string)
set_option linter.unusedVariables false

theorem apart {w1 w2 : World} {B C : Nat} {t : TypeId} {v1 v2 : Value} {x y : List UInt8} (h1 : Own w1 B t v1 x) (h2 : Own w2 C t v2 y) (hc : w1.heap.size ≤ C) : v2.ownBlock = none ∨ v2.ownBlock ≠ v1.ownBlock := by
  cases e2 : v2.ownBlock with
  | none => exact .inl rfl
  | some k =>
    refine .inr fun e => ?_
    have a := (h1.lt k e.symm).2
    have b := (h2.lt k e2).1
    omega
theorem openA_length (bs : List UInt8) : (Sum.openA bs).1.length ≤ bs.length := by
  unfold Sum.openA
  split
  · simp
  · split <;> simp

set_option maxRecDepth 100000 in
set_option maxHeartbeats 800000 in
theorem walk (A : Option Addr) (c : Nat) (bs : List UInt8) (w : World) (hr : Rd w w.heap.size A bs) (hm : bs.length ≤ maxLen) (hz : bs.length ≤ c ∧ c ≤ maxLen) :
    Calls Try.prog 4 #[.slice A bs.length c] w fun e w' => e = .returned (.bool true) ∧ Below w.heap.size w w' := by
  unfold maxLen at hm
  by_cases h20 : 16384 < bs.length
  · go_enter Try.func4, Try.ntmps4
    go_wp2_with fail
    refine (known_any _).mono ?_
    rintro e w' ⟨rfl, hb⟩
    go_wp2_with fail
    go_ret
    exact ⟨rfl, hb⟩
  · have hp := openA_length bs
    have hS := Lib.hid (Sum.seal_length bs)
    generalize hP : Sum.openA bs = P at *
    have HP := Lib.hid hP
    have HZ := Lib.hid hz
    clear hP hz
    obtain ⟨p1, p2⟩ := P
    simp only at hp
    generalize hT : Sum.seal_ bs = T at *
    have HT := Lib.hid hT
    clear hT
    go_enter Try.func4, Try.ntmps4
    go_wp2_with fail
    refine (lent_any A _ c bs w hr rfl (by omega)).mono ?_
    rintro e w1 ⟨g, cap, rfl, hl, b1⟩
    have r1 := (hr.below b1).mono b1.size
    go_wp2_with fail
    refine (seal_any _ _ cap bs w1 hl.rd rfl (by omega)).mono ?_
    rw [HT.out]
    rintro e w2 ⟨v2, rfl, o2, b2⟩
    have l2 := hl.below b2 (Nat.le_refl _)
    have r2 := (r1.below b2).mono b2.size
    unfold id
    go_wp2_with fail
    refine (open_any _ _ cap bs w2 l2.rd rfl (by omega) (by have := hl.2.1; omega) hl.2.2.1).mono ?_
    rw [HP.out]
    rintro e w3 ⟨v3, rfl, o3, b3⟩
    have l3 := l2.below b3 (Nat.le_refl _)
    have r3 := (r2.below b3).mono b3.size
    go_wp2_with fail
    refine (ropen_any _ _ c bs w3 r3 rfl (by omega) HZ.out.1 HZ.out.2).mono ?_
    rw [HP.out]
    rintro e w4 ⟨v4, rfl, o4, b4⟩
    have l4 := l3.below b4 (Nat.le_refl _)
    have r4 := (r3.below b4).mono b4.size
    have z1 := b1.size
    have z2 := b2.size
    have z3 := b3.size
    have z4 := b4.size
    have N2 := Lib.hid (apart o2 o3 (Nat.le_refl _))
    have hgl : g < w1.heap.size := hl.2.2.2.2
    have q2 := (o2.below b3 (Nat.le_refl _)).below b4 (Nat.le_refl _)
    have q3 := o3.below b4 (Nat.le_refl _)
    have B4 := Lib.hid (((b1.trans (b2.mono z1)).trans (b3.mono (by omega))).trans (b4.mono (by omega)))
    clear b1 b2 b3 b4 l2 l3 r1 r2 r3 hl o2 o3
    obtain ⟨A2, c2, rfl, rd2⟩ := q2.form
    obtain ⟨A3, c3, rfl, rd3⟩ := q3.form
    obtain ⟨A4, c4, rfl, rd4⟩ := o4.form
    have s2 := run_str rd2.drew _ c2 rfl 23 5 9 Try.underlying23 Try.underlying5 Try.underlying9
    have s3 := run_str rd3.drew _ c3 rfl 23 5 9 Try.underlying23 Try.underlying5 Try.underlying9
    have s4 := run_str rd4.drew _ c4 rfl 23 5 9 Try.underlying23 Try.underlying5 Try.underlying9
    go_wp2_with fail
    go_region_held (fun W => (convert 23 9 (.slice A2 T.length c2)).run Try.prog W = .ok (.string ⟨T.toArray⟩) W ∧ (convert 23 9 (.slice A3 p1.length c3)).run Try.prog W = .ok (.string ⟨p1.toArray⟩) W ∧ (convert 23 9 (.slice A4 p1.length c4)).run Try.prog W = .ok (.string ⟨p1.toArray⟩) W) (first | exact ⟨s2, s3, s4⟩ | exact ⟨t2, t3, t4⟩) (first | (go_at_call 18; refine (rseal_any _ _ _ bs _ (r4.drewN 1) rfl (by omega)).mono ?_; rw [HT.out]; rintro e w5 ⟨v5, rfl, o5, b5⟩; obtain ⟨A5, c5, rfl, r5⟩ := o5.form; have s5 := run_str r5 _ c5 rfl 23 5 9 Try.underlying23 Try.underlying5 Try.underlying9; have t2 := run_str (rd2.drew.below b5) _ c2 rfl 23 5 9 Try.underlying23 Try.underlying5 Try.underlying9; have t3 := run_str (rd3.drew.below b5) _ c3 rfl 23 5 9 Try.underlying23 Try.underlying5 Try.underlying9; have t4 := run_str (rd4.drew.below b5) _ c4 rfl 23 5 9 Try.underlying23 Try.underlying5 Try.underlying9))
    all_goals
      have b5' : Below w4.heap.size w4 w5 := ⟨b5.os, b5.tape, b5.output, b5.size, b5.block⟩
      have l5 := l4.below b5' (Nat.le_refl _)
      have p2' := q2.below b5' (Nat.le_refl _)
      have p3' := q3.below b5' (Nat.le_refl _)
      have B5 := Lib.hid (B4.out.trans (b5'.mono B4.out.size))
      have z5 := b5'.size
      clear s2 s3 s4 s5 t2 t3 t4 r5 rd2 rd3 rd4 o4 o5 q2 q3 l4 r4 b5 b5'
      go_wp2_with fail
      refine (spoil_any _ _ _ w5 p2' (by omega) (by have := hS.out; omega)).mono ?_
      rintro e w6 ⟨rfl, b6, g6⟩
      have o6 := World.ownsRow.kept p3' g6 N2.out
      have l6 := l5.keep b6 hgl
      have B6 := Lib.hid (B5.out.trans (b6.mono z1))
      have z6 := b6.size
      clear g6 b6 l5 p2' p3'
      go_wp2_with fail
      refine (spoil_any _ _ _ w6 o6 (by omega) (by omega)).mono ?_
      rintro e w7 ⟨rfl, b7, g7⟩
      have l7 := l6.keep b7 (by omega)
      have B7 := Lib.hid (B6.out.trans (b7.mono (by omega)))
      have r7 := hr.below B7.out
      clear b7 g7 l6 o6
      go_wp2_with fail
      refine (kept_yes A _ c _ _ g cap bs w7 l7 r7 rfl (by omega)).mono ?_
      rintro e w' ⟨rfl, rfl⟩
      go_wp2_with fail
      refine (known_any _).mono ?_
      rintro e w8 ⟨rfl, b8⟩
      have B8 := Lib.hid (B7.out.trans (b8.mono B7.out.size))
      clear b8 l7 r7
      go_wp2_with fail
      go_ret
      exact ⟨rfl, B8.out⟩

theorem own : ownKnob Try.prog.godebug = none := by kernel_rfl
theorem laidOut : laidOutB Try.prog = true := by kernel_rfl

set_option maxRecDepth 100000 in
theorem lifted (os : Os) (started : os.Started) (H : Type) (enc : TypeId × Value → H) :
    ReturnsInHanded {} Try.checked os 4 .any (Rows.sum32SealsSpec.pre6 enc Try.prog Try.f4 Rows.sum32SealsRow.domain false) (Rows.sum32SealsSpec.post enc Try.prog Try.f4 false true false false) := by
  refine returnsInHanded_of_change (C := Try.checked) own started (by kernel_rfl) Try.func4
    (ChangeSpec.witness6 (enc := enc) (C := Try.checked) false ⟨#[], #[.slice none 0 0], []⟩ 8 (by kernel_rfl) (by kernel_rfl) (by kernel_rfl) (by kernel_rfl)) ?_
  intro W base args ds gs before hval0 hW hcnd _
  have hval : ∀ (j : Nat) t v, Try.f4.params[j]? = some t → args[j]? = some v → Value.okWide Try.prog W .any base t v := hval0
  have hW' := hW
  obtain ⟨p, q, hA0, hV, rfl, hfz, hnd⟩ := hW
  have hA : DataW.TrodAll enc Try.prog W 0 (fun _ => true) true Try.f4.params.toList args.toList ds p := hA0
  rw [Try.params4] at hA hval
  obtain ⟨v0, vs0, d0, ds0, p0, q0, hargs, rfl, rfl, h0, r0⟩ := trodAll_cons hA
  obtain ⟨rfl, rfl, rfl⟩ := trodAll_nil r0
  obtain rfl : args = #[v0] := by cases args; simp_all
  obtain ⟨rfl, rfl⟩ := trodVars_none hV
  have k0 := h0
  have lt0 : ∀ x ∈ p0, x.block < W.heap.size := by obtain ⟨m, hm⟩ := k0; exact DataW.trod_lt m _ _ _ hm
  obtain ⟨A0, c0, b0, rfl, w0, l0, z0⟩ := Mem.open_bytesc Try.underlying23 Try.underlying5 (by kernel_rfl) (hval 0 23 v0 rfl rfl) h0
  clear hA0 hval0
  refine (walk A0 c0 b0 W w0 l0 z0).mono fun e W' ⟨he, bel⟩ => ?_
  subst he
  exact ⟨_, rfl, _, _, _, [], _, [], hW', trodAll_mk1 (shut_bool Try.underlying4 _), (trodAll_cons_mk (Below.trod laidOut (by kernel_rfl) (of_decide_eq_true (by kernel_rfl)) k0 bel lt0) trodAll_mk0), rfl, bel.frame _, fun h => by cases h⟩

theorem over : Rows.sum32SealsRow.holds Try.pinned (OpenSpec.ofChange Rows.sum32SealsSpec) :=
  OpenClaim.holds_of_wide 4 Try.f4 rfl rfl rfl rfl rfl rfl rfl ⟨rfl, rfl, rfl, rfl, rfl⟩ rfl rfl rfl rfl rfl (by kernel_rfl) Try.func4 (by kernel_rfl)
    (of_decide_eq_true (by kernel_rfl)) (by unfold Func.isWrapper; first | (rw [if_pos (by decide +kernel)]; kernel_rfl) | (rw [if_neg (by decide +kernel)]; exact ⟨rfl, rfl⟩))
    (fun os started H enc _ => lifted os started H enc)

/-- The given statement. -/
theorem proved : Rows.Sum32SealsSaid := over

end Go.Proofs.Ytnlpnnijheamfaa.sum32Seals
