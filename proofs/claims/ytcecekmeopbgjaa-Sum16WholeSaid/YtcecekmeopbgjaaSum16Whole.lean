/-
  Proved: Sum16Whole, for any two pieces of bytes: a text's sum goes on from piece to piece; behind the text, its higher byte first, it leads to 0.
-/
import Derived.Test.YtcecekmeopbgjaaRows
import Derived.Test.YtcecekmeopbgjaaLift
import Derived.Test.YtcecekmeopbgjaaS16On
import Derived.Test.YtcecekmeopbgjaaS16Known
import Derived.Test.YtcecekmeopbgjaaOctRef
namespace Go.Proofs.Ytcecekmeopbgjaa.sum16Whole
open Go.ChangeShapes Go.WideShapes Go.ChangeAt Go.RowKit Mem
open Go.ChangeMaps (open_string shut_string)
set_option linter.unusedVariables false

set_option maxRecDepth 100000 in
set_option maxHeartbeats 800000 in
theorem walk (A : Option Addr) (c : Nat) (xs : List UInt8) (B : Option Addr) (d : Nat) (ys : List UInt8) (w : World)
    (ha : Rd w w.heap.size A xs) (hm : xs.length ≤ maxLen) (hb : Rd w w.heap.size B ys) (hn : ys.length ≤ maxLen) :
    Calls Try.prog 4 #[.slice A xs.length c, .slice B ys.length d] w fun e w' => e = .returned (.bool true) ∧ Below w.heap.size w w' := by
  unfold maxLen at hm hn
  by_cases hx : 16384 < xs.length ∨ 16384 < ys.length
  · have hcase : (16384 < xs.length) ∨ (decide (16384 < (xs.length : Int)) = false ∧ 16384 < ys.length) := by
      rcases Nat.lt_or_ge 16384 xs.length with h | h
      · exact .inl h
      · exact .inr ⟨by simp; omega, by omega⟩
    clear hx
    rcases hcase with h | ⟨h1, h⟩
    all_goals
      go_enter Try.func4, Try.ntmps4
      go_wp2_with fail
      refine (S16.known_any _).mono ?_
      rintro e w' ⟨rfl, hb⟩
      go_wp2_with fail
      go_ret
      exact ⟨rfl, hb⟩
  · have h1 : decide (16384 < (xs.length : Int)) = false := by simp; omega
    have h2 : ys.length ≤ 16384 := by omega
    have h5 := Lib.hid (show xs.length ≤ 16384 ∧ ys.length ≤ 16384 by omega)
    clear hx
    have hlen := Lib.hid (show (xs ++ ys).length = xs.length + ys.length by simp)
    have hs1 := S16.on_lt (r := 0) xs (by decide)
    have hon := Lib.hid (S16.on_append 0 xs ys)
    obtain ⟨S, hS⟩ : ∃ S, S = S16.on 0 (xs ++ ys) := ⟨_, rfl⟩
    have hSl : S < 65536 := by rw [hS]; exact S16.on_lt _ (by decide)
    have hSh := Lib.hid hS
    clear hS
    obtain ⟨p, hp⟩ : ∃ p : UInt8, p.toNat = S / 256 := ⟨UInt8.ofNat (S / 256), by rw [UInt8.toNat_ofNat']; omega⟩
    obtain ⟨q, hq⟩ : ∃ q : UInt8, q.toNat = S % 256 := ⟨UInt8.ofNat (S % 256), by rw [UInt8.toNat_ofNat']; omega⟩
    have hz := Lib.hid (show S16.on 0 (xs ++ ys ++ [p, q]) = 0 by rw [S16.on_append, ← hSh.out]; exact S16.on_own hSl p q hp hq)
    have hp' := Lib.hid hp
    have hq' := Lib.hid hq
    clear hp hq
    go_enter Try.func4, Try.ntmps4
    go_wp2_with fail
    refine (join_any A B _ _ c d 0 xs ys w ha hb rfl rfl (by have := h5.out; omega) (by have := h5.out; omega)).mono ?_
    rintro e' w1 ⟨v1, rfl, o1, b1⟩
    obtain ⟨A1, c1, rfl, r1⟩ := o1.form_n hlen.out
    clear o1
    unfold id
    go_wp2_with fail
    refine (S16.sum_any A1 _ c1 (xs ++ ys) w1 r1 hlen.out.symm (by have := h5.out; omega)).mono ?_
    rw [← hSh.out]
    rintro e' w2 ⟨rfl, b2⟩
    replace r1 := (r1.below b2).mono b2.size
    replace b1 := b1.trans (b2.mono b1.size)
    clear b2
    have B2 := Lib.hid b1
    clear b1
    have r1' := Lib.hid r1
    clear r1
    go_wp2_with fail
    have ba := (Below.refl w2.heap.size w2).alloc (Nat.le_refl _) (.cells #[.int .u8 ((S : Int) / 256), .int .u8 ((S : Int) % 256)] 5)
    have n2 := Rd.new2 w2 5 (x := (S : Int) / 256) (y := (S : Int) % 256) (b := p) (c := q) (by have := hp'.out; omega) (by have := hq'.out; omega)
    refine (join_any A1 _ (xs.length + ys.length) 2 c1 2 0 (xs ++ ys) [p, q] _ ((r1'.out.below ba).mono ba.size) (n2.mono (by simp)) hlen.out.symm rfl (by have := h5.out; omega) (by omega)).mono ?_
    rintro e' w3 ⟨v3, rfl, o3, b3⟩
    obtain ⟨A3, c3, rfl, r3⟩ := o3.form_n (n := xs.length + ys.length + 2) (by simp; omega)
    have B3 := Lib.hid (B2.out.trans ((ba.trans (b3.mono ba.size)).mono B2.out.size))
    clear o3 b3 ba n2 r1'
    have r3' := Lib.hid r3
    clear r3
    have ra := (ha.below B3.out).mono B3.out.size
    unfold id
    go_wp2_with fail
    refine (S16.sum_any A _ c xs w3 ra rfl (by have := h5.out; omega)).mono ?_
    rintro e' w4 ⟨rfl, b4⟩
    have B4 := Lib.hid (B3.out.trans (b4.mono B3.out.size))
    have r4' := Lib.hid ((r3'.out.below b4).mono b4.size)
    have rb := (hb.below B4.out).mono B4.out.size
    clear b4 ra r3'
    go_wp2_with fail
    refine (S16.on_any B _ d ys _ w4 hs1 rb rfl (by have := h5.out; omega)).mono ?_
    rw [← hon.out, ← hSh.out]
    rintro e' w5 ⟨rfl, b5⟩
    have B5 := Lib.hid (B4.out.trans (b5.mono B4.out.size))
    have r5' := Lib.hid ((r4'.out.below b5).mono b5.size)
    clear b5 rb r4'
    go_wp2_with fail
    refine (S16.sum_any A3 _ c3 (xs ++ ys ++ [p, q]) w5 r5'.out (by simp; omega) (by have := h5.out; omega)).mono ?_
    rw [hz.out]
    rintro e' w6 ⟨rfl, b6⟩
    have B6 := Lib.hid (B5.out.trans (b6.mono B5.out.size))
    clear b6 r5'
    go_wp2_with fail
    refine (S16.known_any _).mono ?_
    rintro e' w7 ⟨rfl, b7⟩
    have B7 := Lib.hid (B6.out.trans (b7.mono B6.out.size))
    clear b7
    go_wp2_with fail
    go_ret
    exact ⟨rfl, B7.out⟩

theorem own : ownKnob Try.prog.godebug = none := by kernel_rfl
theorem laidOut : laidOutB Try.prog = true := by kernel_rfl

set_option maxRecDepth 100000 in
theorem lifted (os : Os) (started : os.Started) (H : Type) (enc : TypeId × Value → H) :
    ReturnsInHanded {} Try.checked os 4 .any (Rows.sum16WholeSpec.pre6 enc Try.prog Try.f4 Rows.sum16WholeRow.domain false) (Rows.sum16WholeSpec.post enc Try.prog Try.f4 false true false false) := by
  refine returnsInHanded_of_change (C := Try.checked) own started (by kernel_rfl) Try.func4
    (ChangeSpec.witness6 (enc := enc) (C := Try.checked) false ⟨#[], #[.slice none 0 0, .slice none 0 0], []⟩ 8 (by kernel_rfl) (by kernel_rfl) (by kernel_rfl) (by kernel_rfl)) ?_
  intro W base args ds gs before hval0 hW hcnd _
  have hval : ∀ (j : Nat) t v, Try.f4.params[j]? = some t → args[j]? = some v → Value.okWide Try.prog W .any base t v := hval0
  have hW' := hW
  obtain ⟨p, q, hA0, hV, rfl, hfz, hnd⟩ := hW
  have hA : DataW.TrodAll enc Try.prog W 0 (fun _ => true) true Try.f4.params.toList args.toList ds p := hA0
  rw [Try.params4] at hA hval
  obtain ⟨v0, vs0, d0, ds0, p0, q0, hargs, rfl, rfl, h0, r0⟩ := trodAll_cons hA
  obtain ⟨v1, vs1, d1, ds1, p1, q1, rfl, rfl, rfl, h1, r1⟩ := trodAll_cons r0
  obtain ⟨rfl, rfl, rfl⟩ := trodAll_nil r1
  obtain rfl : args = #[v0, v1] := by cases args; simp_all
  obtain ⟨rfl, rfl⟩ := trodVars_none hV
  have k0 := h0
  have lt0 : ∀ x ∈ p0, x.block < W.heap.size := by obtain ⟨m, hm⟩ := k0; exact DataW.trod_lt m _ _ _ hm
  obtain ⟨A0, c0, b0, rfl, w0, l0⟩ := Mem.open_bytes Try.underlying23 Try.underlying5 (by kernel_rfl) (hval 0 23 v0 rfl rfl) h0
  have k1 := h1
  have lt1 : ∀ x ∈ p1, x.block < W.heap.size := by obtain ⟨m, hm⟩ := k1; exact DataW.trod_lt m _ _ _ hm
  obtain ⟨A1, c1, b1, rfl, w1, l1⟩ := Mem.open_bytes Try.underlying23 Try.underlying5 (by kernel_rfl) (hval 1 23 v1 rfl rfl) h1
  clear hA0 hval0
  refine (walk A0 c0 b0 A1 c1 b1 W w0 l0 w1 l1).mono fun e W' ⟨he, bel⟩ => ?_
  subst he
  exact ⟨_, rfl, _, _, _, [], _, [], hW', trodAll_mk1 (shut_bool Try.underlying4 _), (trodAll_cons_mk (Below.trod laidOut (by kernel_rfl) (of_decide_eq_true (by kernel_rfl)) k0 bel lt0) (trodAll_cons_mk (Below.trod laidOut (by kernel_rfl) (of_decide_eq_true (by kernel_rfl)) k1 bel lt1) trodAll_mk0)), rfl, bel.frame _, fun h => by cases h⟩

theorem over : Rows.sum16WholeRow.holds Try.pinned (OpenSpec.ofChange Rows.sum16WholeSpec) :=
  OpenClaim.holds_of_wide 4 Try.f4 rfl rfl rfl rfl rfl rfl rfl ⟨rfl, rfl, rfl, rfl, rfl⟩ rfl rfl rfl rfl rfl (by kernel_rfl) Try.func4 (by kernel_rfl)
    (of_decide_eq_true (by kernel_rfl)) (by unfold Func.isWrapper; first | (rw [if_pos (by decide +kernel)]; kernel_rfl) | (rw [if_neg (by decide +kernel)]; exact ⟨rfl, rfl⟩))
    (fun os started H enc _ => lifted os started H enc)

/-- The given statement. -/
theorem proved : Rows.Sum16WholeSaid := over

end Go.Proofs.Ytcecekmeopbgjaa.sum16Whole
