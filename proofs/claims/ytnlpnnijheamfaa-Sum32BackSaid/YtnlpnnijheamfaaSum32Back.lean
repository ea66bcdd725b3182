/-
  Proved: Sum32Back, for any three pieces of bytes: what is sealed of all of them is opened as it was, and the sum goes on from piece to piece.
-/
import Derived.Test.YtnlpnnijheamfaaRows
import Derived.Test.YtnlpnnijheamfaaLift
import Derived.Test.YtnlpnnijheamfaaSumSeal
import Derived.Test.YtnlpnnijheamfaaSumKnown
import Derived.Test.YtnlpnnijheamfaaOctRef
namespace Go.Proofs.Ytnlpnnijheamfaa.sum32Back
open Go.ChangeShapes Go.WideShapes Go.ChangeAt Go.RowKit Mem
open Go.ChangeMaps (open_string shut_string)
set_option linter.unusedVariables false

set_option maxRecDepth 100000 in
set_option maxHeartbeats 800000 in
theorem walk (A : Option Addr) (c : Nat) (xs : List UInt8) (B : Option Addr) (d : Nat) (ys : List UInt8) (C : Option Addr) (e : Nat) (zs : List UInt8) (w : World)
    (ha : Rd w w.heap.size A xs) (hm : xs.length ≤ maxLen) (hb : Rd w w.heap.size B ys) (hn : ys.length ≤ maxLen) (hc : Rd w w.heap.size C zs) (ho : zs.length ≤ maxLen) :
    Calls Try.prog 5 #[.slice A xs.length c, .slice B ys.length d, .slice C zs.length e] w fun e w' => e = .returned (.bool true) ∧ Below w.heap.size w w' := by
  unfold maxLen at hm hn ho
  by_cases hx : 16384 < xs.length ∨ 16384 < ys.length ∨ 16384 < zs.length
  · have hcase : (16384 < xs.length) ∨ (decide (16384 < (xs.length : Int)) = false ∧ 16384 < ys.length) ∨ (decide (16384 < (xs.length : Int)) = false ∧ decide (16384 < (ys.length : Int)) = false ∧ 16384 < zs.length) := by
      rcases Nat.lt_or_ge 16384 xs.length with h | h
      · exact .inl h
      · rcases Nat.lt_or_ge 16384 ys.length with h' | h'
        · exact .inr (.inl ⟨by simp; omega, h'⟩)
        · exact .inr (.inr ⟨by simp; omega, by simp; omega, by omega⟩)
    clear hx
    rcases hcase with h | ⟨h1, h⟩ | ⟨h1, h2, h⟩
    all_goals
      go_enter Try.func5, Try.ntmps5
      go_wp2_with fail
      refine (known_any _).mono ?_
      rintro e w' ⟨rfl, hb⟩
      go_wp2_with fail
      go_ret
      exact ⟨rfl, hb⟩
  · have h1 : decide (16384 < (xs.length : Int)) = false := by simp; omega
    have h2 : decide (16384 < (ys.length : Int)) = false := by simp; omega
    have h3 : xs.length ≤ 16384 ∧ ys.length ≤ 16384 ∧ zs.length ≤ 16384 := by omega
    have h4 := h3.2.2
    have h5 := Lib.hid h3
    clear hx h3
    have hlen := Lib.hid (show (xs ++ ys).length = xs.length + ys.length by simp)
    have hlen2 := Lib.hid (show (xs ++ ys ++ zs).length = xs.length + ys.length + zs.length by simp [Nat.add_assoc])
    have hO := Lib.hid (Sum.open_seal (xs ++ ys ++ zs))
    have hsl := Lib.hid (Sum.seal_length (xs ++ ys ++ zs))
    have hon := Lib.hid (show Sum.on (Sum.on (Sum.on 0 xs) ys) zs = Sum.on 0 (xs ++ ys ++ zs) by rw [Sum.on_on, Sum.on_on, List.append_assoc])
    have hs1 := Sum.on_lt (s := 0) xs (by decide)
    have hs2 := Sum.on_lt ys hs1
    generalize hall : xs ++ ys ++ zs = all at hlen2 hO hsl hon
    have hAll := Lib.hid hall
    clear hall
    generalize hT : Sum.seal_ all = T at hO hsl
    have HT := Lib.hid hT
    clear hT
    go_enter Try.func5, Try.ntmps5
    go_wp2_with fail
    refine (join_any A B _ _ c d 0 xs ys w ha hb rfl rfl (by have := h5.out; omega) (by have := h5.out; omega)).mono ?_
    rintro e' w1 ⟨v1, rfl, o1, b1⟩
    obtain ⟨A1, c1, rfl, r1⟩ := o1.form_n hlen.out
    clear o1
    unfold id
    go_wp2_with fail
    refine (join_any A1 C _ _ c1 e 0 (xs ++ ys) zs w1 r1 ((hc.below b1).mono b1.size) hlen.out.symm rfl (by have := h5.out; omega) (by have := h5.out; omega)).mono ?_
    rw [hAll.out]
    rintro e' w2 ⟨v2, rfl, o2, b2⟩
    obtain ⟨A2, c2, rfl, r2⟩ := o2.form
    replace b1 := b1.trans (b2.mono b1.size)
    clear o2 b2 r1
    unfold id
    go_wp2_with fail
    refine (seal_any A2 _ c2 all w2 r2 rfl (by have := h5.out; have := hlen2.out; omega)).mono ?_
    rw [HT.out]
    rintro e' w3 ⟨v3, rfl, o3, b3⟩
    obtain ⟨g3, c3, rfl, _, _, hcap, hcm⟩ := o3.some_ (by have := hsl.out; omega)
    obtain ⟨A3, c3', hv, r3⟩ := o3.form
    injection hv with q1 q2 q3
    subst q1
    clear q2 q3 o3
    replace r2 := (r2.below b3).mono b3.size
    replace b1 := b1.trans (b3.mono b1.size)
    clear b3
    have hcap' := Lib.hid (And.intro hcap hcm)
    clear hcap hcm
    unfold id
    go_wp2_with fail
    refine (open_any _ _ c3 T w3 r3 rfl (by have := h5.out; have := hlen2.out; have := hsl.out; omega) hcap'.out.1 hcap'.out.2).mono ?_
    rw [hO.out]
    rintro e' w4 ⟨v4, rfl, o4, b4⟩
    obtain ⟨A4, c4, rfl, r4⟩ := o4.form
    replace r2 := (r2.below b4).mono b4.size
    replace b1 := b1.trans (b4.mono b1.size)
    clear b4 o4 r3
    have s4 := run_str r4 _ c4 rfl 23 5 9 Try.underlying23 Try.underlying5 Try.underlying9
    have s2 := run_str r2 _ c2 rfl 23 5 9 Try.underlying23 Try.underlying5 Try.underlying9
    have B4 := Lib.hid b1
    have ra := (ha.below b1).mono b1.size
    clear b1 r4
    go_wp2_with fail
    refine (sum_any A _ c xs w4 ra rfl (by have := h5.out; omega)).mono ?_
    rintro e' w5 ⟨rfl, b5⟩
    replace r2 := (r2.below b5).mono b5.size
    have B5 := Lib.hid (B4.out.trans (b5.mono B4.out.size))
    have rb := (hb.below B5.out).mono B5.out.size
    clear b5 ra s2 s4
    go_wp2_with fail
    refine (on_any B _ d ys _ w5 hs1 rb rfl (by have := h5.out; omega)).mono ?_
    rintro e' w6 ⟨rfl, b6⟩
    replace r2 := (r2.below b6).mono b6.size
    have B6 := Lib.hid (B5.out.trans (b6.mono B5.out.size))
    have rc := (hc.below B6.out).mono B6.out.size
    clear b6 rb
    go_wp2_with fail
    refine (on_any C _ e zs _ w6 hs2 rc rfl (by have := h5.out; omega)).mono ?_
    rw [hon.out]
    rintro e' w7 ⟨rfl, b7⟩
    replace r2 := (r2.below b7).mono b7.size
    have B7 := Lib.hid (B6.out.trans (b7.mono B6.out.size))
    clear b7 rc
    go_wp2_with fail
    refine (sum_any A2 _ c2 all w7 r2 rfl (by have := h5.out; have := hlen2.out; omega)).mono ?_
    rintro e' w8 ⟨rfl, b8⟩
    have B8 := Lib.hid (B7.out.trans (b8.mono B7.out.size))
    clear b8 r2
    go_wp2_with fail
    refine (known_any _).mono ?_
    rintro e' w9 ⟨rfl, b9⟩
    have B9 := Lib.hid (B8.out.trans (b9.mono B8.out.size))
    clear b9
    go_wp2_with fail
    go_ret
    exact ⟨rfl, B9.out⟩

theorem own : ownKnob Try.prog.godebug = none := by kernel_rfl
theorem laidOut : laidOutB Try.prog = true := by kernel_rfl

set_option maxRecDepth 100000 in
theorem lifted (os : Os) (started : os.Started) (H : Type) (enc : TypeId × Value → H) :
    ReturnsInHanded {} Try.checked os 5 .any (Rows.sum32BackSpec.pre6 enc Try.prog Try.f5 Rows.sum32BackRow.domain false) (Rows.sum32BackSpec.post enc Try.prog Try.f5 false true false false) := by
  refine returnsInHanded_of_change (C := Try.checked) own started (by kernel_rfl) Try.func5
    (ChangeSpec.witness6 (enc := enc) (C := Try.checked) false ⟨#[], #[.slice none 0 0, .slice none 0 0, .slice none 0 0], []⟩ 8 (by kernel_rfl) (by kernel_rfl) (by kernel_rfl) (by kernel_rfl)) ?_
  intro W base args ds gs before hval0 hW hcnd _
  have hval : ∀ (j : Nat) t v, Try.f5.params[j]? = some t → args[j]? = some v → Value.okWide Try.prog W .any base t v := hval0
  have hW' := hW
  obtain ⟨p, q, hA0, hV, rfl, hfz, hnd⟩ := hW
  have hA : DataW.TrodAll enc Try.prog W 0 (fun _ => true) true Try.f5.params.toList args.toList ds p := hA0
  rw [Try.params5] at hA hval
  obtain ⟨v0, vs0, d0, ds0, p0, q0, hargs, rfl, rfl, h0, r0⟩ := trodAll_cons hA
  obtain ⟨v1, vs1, d1, ds1, p1, q1, rfl, rfl, rfl, h1, r1⟩ := trodAll_cons r0
  obtain ⟨v2, vs2, d2, ds2, p2, q2, rfl, rfl, rfl, h2, r2⟩ := trodAll_cons r1
  obtain ⟨rfl, rfl, rfl⟩ := trodAll_nil r2
  obtain rfl : args = #[v0, v1, v2] := by cases args; simp_all
  obtain ⟨rfl, rfl⟩ := trodVars_none hV
  have k0 := h0
  have lt0 : ∀ x ∈ p0, x.block < W.heap.size := by obtain ⟨m, hm⟩ := k0; exact DataW.trod_lt m _ _ _ hm
  obtain ⟨A0, c0, b0, rfl, w0, l0⟩ := Mem.open_bytes Try.underlying23 Try.underlying5 (by kernel_rfl) (hval 0 23 v0 rfl rfl) h0
  have k1 := h1
  have lt1 : ∀ x ∈ p1, x.block < W.heap.size := by obtain ⟨m, hm⟩ := k1; exact DataW.trod_lt m _ _ _ hm
  obtain ⟨A1, c1, b1, rfl, w1, l1⟩ := Mem.open_bytes Try.underlying23 Try.underlying5 (by kernel_rfl) (hval 1 23 v1 rfl rfl) h1
  have k2 := h2
  have lt2 : ∀ x ∈ p2, x.block < W.heap.size := by obtain ⟨m, hm⟩ := k2; exact DataW.trod_lt m _ _ _ hm
  obtain ⟨A2, c2, b2, rfl, w2, l2⟩ := Mem.open_bytes Try.underlying23 Try.underlying5 (by kernel_rfl) (hval 2 23 v2 rfl rfl) h2
  clear hA0 hval0
  refine (walk A0 c0 b0 A1 c1 b1 A2 c2 b2 W w0 l0 w1 l1 w2 l2).mono fun e W' ⟨he, bel⟩ => ?_
  subst he
  exact ⟨_, rfl, _, _, _, [], _, [], hW', trodAll_mk1 (shut_bool Try.underlying4 _), (trodAll_cons_mk (Below.trod laidOut (by kernel_rfl) (of_decide_eq_true (by kernel_rfl)) k0 bel lt0) (trodAll_cons_mk (Below.trod laidOut (by kernel_rfl) (of_decide_eq_true (by kernel_rfl)) k1 bel lt1) (trodAll_cons_mk (Below.trod laidOut (by kernel_rfl) (of_decide_eq_true (by kernel_rfl)) k2 bel lt2) trodAll_mk0))), rfl, bel.frame _, fun h => by cases h⟩

theorem over : Rows.sum32BackRow.holds Try.pinned (OpenSpec.ofChange Rows.sum32BackSpec) :=
  OpenClaim.holds_of_wide 5 Try.f5 rfl rfl rfl rfl rfl rfl rfl ⟨rfl, rfl, rfl, rfl, rfl⟩ rfl rfl rfl rfl rfl (by kernel_rfl) Try.func5 (by kernel_rfl)
    (of_decide_eq_true (by kernel_rfl)) (by unfold Func.isWrapper; first | (rw [if_pos (by decide +kernel)]; kernel_rfl) | (rw [if_neg (by decide +kernel)]; exact ⟨rfl, rfl⟩))
    (fun os started H enc _ => lifted os started H enc)

/-- The given statement. -/
theorem proved : Rows.Sum32BackSaid := over

end Go.Proofs.Ytnlpnnijheamfaa.sum32Back
