/-
  Proved: Sum16Sums, for any bytes and any sum that they are begun with: the sum is as the document's own function says, and just it is right; the bytes are as they were.
-/
import Derived.Test.YtcecekmeopbgjaaRows
import Derived.Test.YtcecekmeopbgjaaLift
import Derived.Test.YtcecekmeopbgjaaS16Ref
import Derived.Test.YtcecekmeopbgjaaS16Known
import Derived.Test.YtcecekmeopbgjaaOctAux
namespace Go.Proofs.Ytcecekmeopbgjaa.sum16Sums
open Go.ChangeShapes Go.WideShapes Go.ChangeAt Go.RowKit Mem
open Go.ChangeMaps (open_string shut_string)
set_option linter.unusedVariables false

set_option maxRecDepth 100000 in
set_option maxHeartbeats 400000 in
theorem walk (a : Int) (A : Option Addr) (c : Nat) (bs : List UInt8) (w : World) (ha : 0 ≤ a ∧ a ≤ 65535) (hr : Rd w w.heap.size A bs) (hm : bs.length ≤ maxLen) :
    Calls Try.prog 3 #[.int .u16 a, .slice A bs.length c] w fun e w' => e = .returned (.bool true) ∧ Below w.heap.size w w' := by
  unfold maxLen at hm
  obtain ⟨s, rfl⟩ := Int.eq_ofNat_of_zero_le ha.1
  have hs : s < 65536 := by omega
  by_cases h20 : 16384 < bs.length
  · go_enter Try.func3, Try.ntmps3
    go_wp2_with fail
    refine (S16.known_any _).mono ?_
    rintro e w' ⟨rfl, hb⟩
    go_wp2_with fail
    go_ret
    exact ⟨rfl, hb⟩
  · go_enter Try.func3, Try.ntmps3
    go_wp2_with fail
    refine (lent_any A _ c bs w hr rfl (by omega)).mono ?_
    rintro e w1 ⟨g, cap, rfl, hl, b1⟩
    go_wp2_with fail
    refine (S16.on_any _ _ cap bs s w1 hs hl.rd rfl (by omega)).mono ?_
    rintro e w2 ⟨rfl, b2⟩
    replace hl := hl.below b2 (Nat.le_refl _)
    replace b1 := b1.trans (b2.mono b1.size)
    clear b2
    have r2 := (hr.below b1).mono b1.size
    go_wp2_with fail
    refine (S16.ron_any A _ c _ bs s w2 hs r2 rfl (by omega)).mono ?_
    rintro e w' ⟨rfl, rfl⟩
    clear r2
    go_wp2_with fail
    refine (S16.sum_any _ _ cap bs w2 hl.rd rfl (by omega)).mono ?_
    rintro e w3 ⟨rfl, b3⟩
    replace hl := hl.below b3 (Nat.le_refl _)
    replace b1 := b1.trans (b3.mono b1.size)
    clear b3
    have r3 := (hr.below b1).mono b1.size
    go_wp2_with fail
    refine (S16.rsum_any A _ c _ bs w3 r3 rfl (by omega)).mono ?_
    rintro e w' ⟨rfl, rfl⟩
    go_wp2_with fail
    refine (S16.right_any _ _ cap bs s w3 hl.rd rfl (by omega)).mono ?_
    rintro e w4 ⟨rfl, b4⟩
    replace hl := hl.below b4 (Nat.le_refl _)
    replace b1 := b1.trans (b4.mono b1.size)
    clear b4 r3
    have r4 := (hr.below b1).mono b1.size
    go_wp2_with fail
    refine (S16.rsum_any A _ c _ bs w4 r4 rfl (by omega)).mono ?_
    rintro e w' ⟨rfl, rfl⟩
    go_wp2_with fail
    refine (kept_yes A _ c _ _ g cap bs w4 hl r4 rfl (by omega)).mono ?_
    rintro e w' ⟨rfl, rfl⟩
    clear r4 hl
    go_wp2_with fail
    refine (S16.known_any _).mono ?_
    rintro e w5 ⟨rfl, b5⟩
    replace b1 := b1.trans (b5.mono b1.size)
    clear b5
    go_wp2_with fail
    go_ret
    exact ⟨rfl, b1⟩

theorem own : ownKnob Try.prog.godebug = none := by kernel_rfl
theorem laidOut : laidOutB Try.prog = true := by kernel_rfl

set_option maxRecDepth 100000 in
theorem lifted (os : Os) (started : os.Started) (H : Type) (enc : TypeId × Value → H) :
    ReturnsInHanded {} Try.checked os 3 .any (Rows.sum16SumsSpec.pre6 enc Try.prog Try.f3 Rows.sum16SumsRow.domain false) (Rows.sum16SumsSpec.post enc Try.prog Try.f3 false true false false) := by
  refine returnsInHanded_of_change (C := Try.checked) own started (by kernel_rfl) Try.func3
    (ChangeSpec.witness6 (enc := enc) (C := Try.checked) false ⟨#[], #[.int .u16 0, .slice none 0 0], []⟩ 8 (by kernel_rfl) (by kernel_rfl) (by kernel_rfl) (by kernel_rfl)) ?_
  intro W base args ds gs before hval0 hW hcnd _
  have hval : ∀ (j : Nat) t v, Try.f3.params[j]? = some t → args[j]? = some v → Value.okWide Try.prog W .any base t v := hval0
  have hW' := hW
  obtain ⟨p, q, hA0, hV, rfl, hfz, hnd⟩ := hW
  have hA : DataW.TrodAll enc Try.prog W 0 (fun _ => true) true Try.f3.params.toList args.toList ds p := hA0
  rw [Try.params3] at hA hval
  obtain ⟨v0, vs0, d0, ds0, p0, q0, hargs, rfl, rfl, h0, r0⟩ := trodAll_cons hA
  obtain ⟨v1, vs1, d1, ds1, p1, q1, rfl, rfl, rfl, h1, r1⟩ := trodAll_cons r0
  obtain ⟨rfl, rfl, rfl⟩ := trodAll_nil r1
  obtain rfl : args = #[v0, v1] := by cases args; simp_all
  obtain ⟨rfl, rfl⟩ := trodVars_none hV
  obtain ⟨a0, rfl, rfl, rfl, w0⟩ := open_int Try.underlying22 (hval 0 22 v0 rfl rfl) h0
  have k1 := h1
  have lt1 : ∀ x ∈ p1, x.block < W.heap.size := by obtain ⟨m, hm⟩ := k1; exact DataW.trod_lt m _ _ _ hm
  obtain ⟨A1, c1, b1, rfl, w1, l1⟩ := Mem.open_bytes Try.underlying23 Try.underlying5 (by kernel_rfl) (hval 1 23 v1 rfl rfl) h1
  clear hA0 hval0
  refine (walk a0 A1 c1 b1 W (Mem.wf_u16 w0) w1 l1).mono fun e W' ⟨he, bel⟩ => ?_
  subst he
  exact ⟨_, rfl, _, _, _, [], _, [], hW', trodAll_mk1 (shut_bool Try.underlying4 _), (trodAll_cons_mk (shut_int Try.underlying22 w0) (trodAll_cons_mk (Below.trod laidOut (by kernel_rfl) (of_decide_eq_true (by kernel_rfl)) k1 bel lt1) trodAll_mk0)), rfl, bel.frame _, fun h => by cases h⟩

theorem over : Rows.sum16SumsRow.holds Try.pinned (OpenSpec.ofChange Rows.sum16SumsSpec) :=
  OpenClaim.holds_of_wide 3 Try.f3 rfl rfl rfl rfl rfl rfl rfl ⟨rfl, rfl, rfl, rfl, rfl⟩ rfl rfl rfl rfl rfl (by kernel_rfl) Try.func3 (by kernel_rfl)
    (of_decide_eq_true (by kernel_rfl)) (by unfold Func.isWrapper; first | (rw [if_pos (by decide +kernel)]; kernel_rfl) | (rw [if_neg (by decide +kernel)]; exact ⟨rfl, rfl⟩))
    (fun os started H enc _ => lifted os started H enc)

/-- The given statement. -/
theorem proved : Rows.Sum16SumsSaid := over

end Go.Proofs.Ytcecekmeopbgjaa.sum16Sums
