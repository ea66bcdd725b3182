/-
  Proved: OctetTexts, for any bytes and any text: the bytes in digits, and the text as bytes, are as the document's own functions say, and there and back they are as they were.
-/
import Derived.Test.YtepcfpfgmmkegaaRows
import Derived.Test.YtepcfpfgmmkegaaLift
import Derived.Test.YtepcfpfgmmkegaaOctRefHex
import Derived.Test.YtepcfpfgmmkegaaOctKnown
namespace Go.Proofs.Ytepcfpfgmmkegaa.octetTexts
open Go.ChangeShapes Go.WideShapes Go.ChangeAt Go.RowKit Mem
open Go.ChangeMaps (open_string shut_string)
set_option linter.unusedVariables false

set_option maxRecDepth 100000 in
set_option maxHeartbeats 800000 in
theorem walk (A : Option Addr) (c : Nat) (bs : List UInt8) (s : ByteArray) (w : World) (hr : Rd w w.heap.size A bs) (hm : bs.length ≤ maxLen) (hs : s.size ≤ maxLen) :
    Calls Try.prog 6 #[.slice A bs.length c, .string s] w fun e w' => e = .returned (.bool true) ∧ Below w.heap.size w w' := by
  obtain ⟨l, rfl⟩ : ∃ l : List UInt8, s = ⟨l.toArray⟩ := ⟨_, str_eta s⟩
  have hs' : l.length ≤ maxLen := by simpa [ByteArray.size] using hs
  unfold maxLen at hm hs'
  clear hs
  by_cases h14 : 16384 < bs.length ∨ 16384 < l.length
  · have hd : 16384 < bs.length ∨ (bs.length ≤ 16384 ∧ 16384 < l.length) := by omega
    clear h14
    rcases hd with h | ⟨h, h'⟩
    all_goals
      go_enter Try.func6, Try.ntmps6
      go_wp2_with fail
      refine (known_any _).mono ?_
      rintro e w' ⟨rfl, hb⟩
      go_wp2_with fail
      go_ret
      exact ⟨rfl, hb⟩
  · have d1 : decide (16384 < bs.length) = false := by simp; omega
    have d2 : decide (16384 < l.length) = false := by simp; omega
    have e1 : bs.length ≤ 16384 := by omega
    have e2 : l.length ≤ 16384 := by omega
    clear h14
    have hH := Lib.hid (show Oct.unhexA (Oct.hex bs) = (bs, 0) by unfold Oct.unhexA; rw [Oct.unhex_hex])
    have hHl := Oct.hex_length bs
    have hX : (∃ x1, Oct.unhexA l = (x1, 0) ∧ Oct.hex x1 = l ∧ x1.length ≤ 16384) ∨ Oct.unhexA l = ([], 4) := by
      unfold Oct.unhexA
      cases hu : Oct.unhex l with
      | none => exact .inr rfl
      | some x1 => exact .inl ⟨x1, rfl, Oct.hex_unhex l x1 hu, by have := Oct.unhex_length l x1 hu; omega⟩
    obtain ⟨x1, x2, hx, hxl, hback⟩ : ∃ (x1 : List UInt8) (x2 : Int), Oct.unhexA l = (x1, x2) ∧ x1.length ≤ 16384 ∧ ((x2 == 0) = true ∧ Oct.hex x1 = l ∨ (x2 == 0) = false) := by
      rcases hX with ⟨x1, h1, h2, h3⟩ | h
      · exact ⟨x1, 0, h1, h3, .inl ⟨rfl, h2⟩⟩
      · exact ⟨[], 4, h, by simp, .inr rfl⟩
    clear hX
    have HX := Lib.hid hx
    clear hx
    go_enter Try.func6, Try.ntmps6
    go_wp2_with fail
    refine (hex_any A _ c bs w hr rfl (by omega)).mono ?_
    rintro e w1 ⟨rfl, b1⟩
    have r1 := (hr.below b1).mono b1.size
    go_wp2_with fail
    refine (unhex_any l w1 (by omega)).mono ?_
    rintro e w2 hans
    obtain ⟨v2, rfl, o2, b2⟩ := undone_ans hans
    rw [HX.out] at o2 ⊢
    clear hans
    have r2 := (r1.below b2).mono b2.size
    go_wp2_with fail
    refine (runhex_any l w2 (by omega)).mono ?_
    rintro e w3 hans
    obtain ⟨v3, rfl, o3, b3⟩ := undone_ans hans
    rw [HX.out] at o3 ⊢
    clear hans
    have r3 := (r2.below b3).mono b3.size
    go_wp2_with fail
    refine (unhex_any (Oct.hex bs) w3 (by omega)).mono ?_
    rintro e w4 hans
    obtain ⟨v4, rfl, o4, b4⟩ := undone_ans hans
    rw [hH.out] at o4 ⊢
    clear hans
    have r4 := (r3.below b4).mono b4.size
    replace o2 := (o2.below b3 (Nat.le_refl _)).below b4 (Nat.le_refl _)
    replace o3 := o3.below b4 (Nat.le_refl _)
    have z1 := b1.size
    have z2 := b2.size
    have z3 := b3.size
    have z4 := b4.size
    have B4 := Lib.hid (((b1.trans (b2.mono z1)).trans (b3.mono (by omega))).trans (b4.mono (by omega)))
    clear b1 b2 b3 b4 r1 r2 r3
    go_wp2_with fail
    refine (rhex_any A _ c bs w4 r4 rfl (by omega)).mono ?_
    rintro e w5 ⟨rfl, b5⟩
    have r5 := (r4.below b5).mono b5.size
    replace o2 := o2.below b5 (Nat.le_refl _)
    replace o3 := o3.below b5 (Nat.le_refl _)
    replace o4 := o4.below b5 (Nat.le_refl _)
    have B5 := Lib.hid (B4.out.trans (b5.mono B4.out.size))
    clear b5 r4
    obtain ⟨A2, c2, rfl, rd2⟩ := o2.form
    obtain ⟨A3, c3, rfl, rd3⟩ := o3.form
    obtain ⟨A4, c4, rfl, rd4⟩ := o4.form
    have s0 := run_str r5 _ c rfl 22 5 9 Try.underlying22 Try.underlying5 Try.underlying9
    have s2 := run_str rd2 _ c2 rfl 22 5 9 Try.underlying22 Try.underlying5 Try.underlying9
    have s3 := run_str rd3 _ c3 rfl 22 5 9 Try.underlying22 Try.underlying5 Try.underlying9
    have s4 := run_str rd4 _ c4 rfl 22 5 9 Try.underlying22 Try.underlying5 Try.underlying9
    clear o2 o3 o4 rd3 rd4
    rcases hback with ⟨hz, hback⟩ | hz
    · have HB := Lib.hid hback
      clear hback
      go_wp2_with fail
      refine (hex_any _ _ c2 x1 w5 rd2 rfl (by omega)).mono ?_
      rintro e w6 ⟨rfl, b6⟩
      have B6 := Lib.hid (B5.out.trans (b6.mono B5.out.size))
      clear b6
      rw [HB.out]
      go_wp2_with fail
      refine (known_any _).mono ?_
      rintro e w7 ⟨rfl, b7⟩
      have B7 := Lib.hid (B6.out.trans (b7.mono B6.out.size))
      clear b7
      go_wp2_with fail
      go_ret
      exact ⟨rfl, B7.out⟩
    · go_wp2_with fail
      refine (known_any _).mono ?_
      rintro e w7 ⟨rfl, b7⟩
      have B7 := Lib.hid (B5.out.trans (b7.mono B5.out.size))
      clear b7
      go_wp2_with fail
      go_ret
      exact ⟨rfl, B7.out⟩

theorem own : ownKnob Try.prog.godebug = none := by kernel_rfl
theorem laidOut : laidOutB Try.prog = true := by kernel_rfl

set_option maxRecDepth 100000 in
theorem lifted (os : Os) (started : os.Started) (H : Type) (enc : TypeId × Value → H) :
    ReturnsInHanded {} Try.checked os 6 .any (Rows.octetTextsSpec.pre6 enc Try.prog Try.f6 Rows.octetTextsRow.domain false) (Rows.octetTextsSpec.post enc Try.prog Try.f6 false true false false) := by
  refine returnsInHanded_of_change (C := Try.checked) own started (by kernel_rfl) Try.func6
    (ChangeSpec.witness6 (enc := enc) (C := Try.checked) false ⟨#[], #[.slice none 0 0, .string ByteArray.empty], []⟩ 8 (by kernel_rfl) (by kernel_rfl) (by kernel_rfl) (by kernel_rfl)) ?_
  intro W base args ds gs before hval0 hW hcnd _
  have hval : ∀ (j : Nat) t v, Try.f6.params[j]? = some t → args[j]? = some v → Value.okWide Try.prog W .any base t v := hval0
  have hW' := hW
  obtain ⟨p, q, hA0, hV, rfl, hfz, hnd⟩ := hW
  have hA : DataW.TrodAll enc Try.prog W 0 (fun _ => true) true Try.f6.params.toList args.toList ds p := hA0
  rw [Try.params6] at hA hval
  obtain ⟨v0, vs0, d0, ds0, p0, q0, hargs, rfl, rfl, h0, r0⟩ := trodAll_cons hA
  obtain ⟨v1, vs1, d1, ds1, p1, q1, rfl, rfl, rfl, h1, r1⟩ := trodAll_cons r0
  obtain ⟨rfl, rfl, rfl⟩ := trodAll_nil r1
  obtain rfl : args = #[v0, v1] := by cases args; simp_all
  obtain ⟨rfl, rfl⟩ := trodVars_none hV
  have k0 := h0
  have lt0 : ∀ x ∈ p0, x.block < W.heap.size := by obtain ⟨m, hm⟩ := k0; exact DataW.trod_lt m _ _ _ hm
  obtain ⟨A0, c0, b0, rfl, w0, l0⟩ := Mem.open_bytes Try.underlying22 Try.underlying5 (by kernel_rfl) (hval 0 22 v0 rfl rfl) h0
  obtain ⟨a1, rfl, rfl, rfl, w1⟩ := open_string Try.underlying9 (hval 1 9 v1 rfl rfl) h1
  clear hA0 hval0
  refine (walk A0 c0 b0 a1 W w0 l0 w1).mono fun e W' ⟨he, bel⟩ => ?_
  subst he
  exact ⟨_, rfl, _, _, _, [], _, [], hW', trodAll_mk1 (shut_bool Try.underlying4 _), (trodAll_cons_mk (Below.trod laidOut (by kernel_rfl) (of_decide_eq_true (by kernel_rfl)) k0 bel lt0) (trodAll_cons_mk (shut_string Try.underlying9 w1) trodAll_mk0)), rfl, bel.frame _, fun h => by cases h⟩

theorem over : Rows.octetTextsRow.holds Try.pinned (OpenSpec.ofChange Rows.octetTextsSpec) :=
  OpenClaim.holds_of_wide 6 Try.f6 rfl rfl rfl rfl rfl rfl rfl ⟨rfl, rfl, rfl, rfl, rfl⟩ rfl rfl rfl rfl rfl (by kernel_rfl) Try.func6 (by kernel_rfl)
    (of_decide_eq_true (by kernel_rfl)) (by unfold Func.isWrapper; first | (rw [if_pos (by decide +kernel)]; kernel_rfl) | (rw [if_neg (by decide +kernel)]; exact ⟨rfl, rfl⟩))
    (fun os started H enc _ => lifted os started H enc)

/-- The given statement. -/
theorem proved : Rows.OctetTextsSaid := over

end Go.Proofs.Ytepcfpfgmmkegaa.octetTexts
