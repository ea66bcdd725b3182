/-
  Proved: FrameLines, for any frames and any text: the frames as lines, and the frames that the text's lines say, are as the document's own functions say, or refused alike, with the line.
-/
import Derived.Test.YtkkbjngjjeajoaaRows
import Derived.Test.YtkkbjngjjeajoaaFrmLines
import Derived.Test.YtkkbjngjjeajoaaFrmText
import Derived.Test.YtkkbjngjjeajoaaFrmTexts
import Derived.Test.YtkkbjngjjeajoaaFrmKnown
namespace Go.Proofs.Ytkkbjngjjeajoaa.frameLines
open Go.ChangeShapes Go.WideShapes Go.ChangeAt Go.RowKit Mem Frm
open Go.ChangeMaps (open_string shut_string)
set_option linter.unusedVariables false
set_option linter.unusedSimpArgs false
set_option maxRecDepth 100000

set_option maxHeartbeats 4000000 in
theorem walk (A : Option Addr) (c : Nat) (fs : List Fv) (s : ByteArray) (w : World)
    (hr : RdF w w.heap.size A fs) (hm : fs.length ≤ maxLen) (ho : ∀ j, j < fs.length → (fs.getD j Fv.zero).Ok) (hs : s.size ≤ maxLen) :
    Calls Try.prog 6 #[.slice A fs.length c, .string s] w fun e w' => e = .returned (.bool true) ∧ Below w.heap.size w w' := by
  obtain ⟨l, rfl⟩ : ∃ l : List UInt8, s = ⟨l.toArray⟩ := ⟨_, str_eta s⟩
  have hs' : l.length ≤ maxLen := by simpa [ByteArray.size] using hs
  unfold maxLen at hm hs'
  clear hs
  have LT := Lib.hid (light_any A c fs w hr hm ho)
  have HO := Lib.hid ho
  have HR := Lib.hid hr
  clear ho hr
  go_enter Try.func6, Try.ntmps6
  go_wp2_with fail
  refine LT.out.mono ?_
  rintro e w' ⟨b, rfl, hb, rfl⟩
  have HB := Lib.hid hb
  clear hb LT
  cases b with
  | false =>
    go_wp2_with fail
    refine (known_any _).mono ?_
    rintro e w1 ⟨rfl, b1⟩
    go_wp2_with fail
    go_ret
    exact ⟨rfl, b1⟩
  | true =>
    by_cases h5 : 5000 < l.length
    · go_wp2_with fail
      refine (known_any _).mono ?_
      rintro e w1 ⟨rfl, b1⟩
      go_wp2_with fail
      go_ret
      exact ⟨rfl, b1⟩
    · have d5 : decide (5000 < l.length) = false := by simp; omega
      have e5 : l.length ≤ 5000 := by omega
      clear h5
      have hn : fs.length ≤ 200 := by
        by_cases h : 200 < fs.length
        · have := (HB.out rfl 200 h).1
          omega
        · omega
      have T1 := Lib.hid (text_any A c fs w HR.out (by omega) HO.out (fun j hj => (HB.out rfl j hj).2))
      have T2 := Lib.hid (fun (W : World) (b : Below w.heap.size w W) => rtext_any A c fs W ((HR.out.below b).mono b.size) (by omega) HO.out (fun j hj => (HB.out rfl j hj).2))
      have L1 := Lib.hid (fun W => lines_any l W (by omega))
      have L2 := Lib.hid (fun W => rlines_any l W (by omega))
      unfold textV at T1 T2
      generalize textA (fs.map Fv.fr) = X at *
      have RLEN := linesA_le l
      generalize linesA l = R at *
      obtain ⟨x, y⟩ := X
      obtain ⟨R, re, rn⟩ := R
      clear HB HO HR hm
      go_wp2_with fail
      refine T1.out.mono ?_
      rintro e w1 ⟨rfl, b1⟩
      have B1 := Lib.hid b1
      clear b1 T1
      go_wp2_with fail
      refine (T2.out _ B1.out).mono ?_
      rintro e w2 ⟨rfl, b2⟩
      have B2 := Lib.hid (B1.out.trans (b2.mono B1.out.size))
      clear b2 T2
      go_wp2_with fail
      refine (L1.out _).mono ?_
      rintro e w3 ⟨v3, gs, rfl, f3, e3, b3⟩
      have B3 := Lib.hid (B2.out.trans (b3.mono B2.out.size))
      have F3 := Lib.hid f3
      have E3 := Lib.hid e3
      clear b3 L1 f3 e3
      go_wp2_with fail
      refine (L2.out _).mono ?_
      rintro e w4 ⟨v4, hs, rfl, f4, e4, b4⟩
      have B4 := Lib.hid (B3.out.trans (b4.mono B3.out.size))
      obtain ⟨A3, c3, rfl, r3⟩ := (F3.out.below b4).form
      obtain ⟨A4, c4, rfl, r4⟩ := f4.form
      have AL := Lib.hid (all_any A3 c3 gs A4 c4 hs w4 r3 r4 (by
        have h2 := congrArg List.length E3.out
        simp only [List.length_map] at h2
        omega) (E3.out.trans e4.symm))
      clear b4 L2 f4 e4 r3 r4
      go_wp2_with fail
      refine AL.out.mono ?_
      rintro e w5 ⟨rfl, b5⟩
      have B5 := Lib.hid (B4.out.trans (b5.mono B4.out.size))
      clear b5
      go_wp2_with fail
      refine (known_any _).mono ?_
      rintro e w6 ⟨rfl, b6⟩
      have B6 := Lib.hid (B5.out.trans (b6.mono B5.out.size))
      clear b6
      go_wp2_with fail
      go_ret
      exact ⟨rfl, B6.out⟩

theorem own : ownKnob Try.prog.godebug = none := by kernel_rfl
theorem laidOut : laidOutB Try.prog = true := by kernel_rfl

set_option maxRecDepth 100000 in
theorem lifted (os : Os) (started : os.Started) (H : Type) (enc : TypeId × Value → H) :
    ReturnsInHanded {} Try.checked os 6 .any (Rows.frameLinesSpec.pre6 enc Try.prog Try.f6 Rows.frameLinesRow.domain false) (Rows.frameLinesSpec.post enc Try.prog Try.f6 false true false false) := by
  refine returnsInHanded_of_change (C := Try.checked) own started (by kernel_rfl) Try.func6
    (ChangeSpec.witness6 (enc := enc) (C := Try.checked) false ⟨#[], #[.slice none 0 0, .string ByteArray.empty], []⟩ 8 (by kernel_rfl) (by kernel_rfl) (by kernel_rfl) (by kernel_rfl)) ?_
  intro W base args ds gs before hval0 hW hcnd _
  have hval : ∀ (j : Nat) t v, Try.f6.params[j]? = some t → args[j]? = some v → Value.okWide Try.prog W .any base t v := hval0
  have hW' := hW
  obtain ⟨p, q, hA0, hV, rfl, hfz, hnd⟩ := hW
  have hA : DataW.TrodAll enc Try.prog W 0 (fun _ => true) true Try.f6.params.toList args.toList ds p := hA0
  rw [Try.params6] at hA hval
  obtain ⟨v0, vs0, d0, ds0, p0, q0, hargs, rfl, rfl, h0, r0⟩ := trodAll_cons hA
  obtain ⟨v1, vs1, d1, ds1, p1, q1, rfl, rfl, rfl, h1, r1⟩ := trodAll_cons r0
  obtain ⟨rfl, rfl, rfl⟩ := trodAll_nil r1
  obtain rfl : args = #[v0, v1] := by cases args; simp_all
  obtain ⟨rfl, rfl⟩ := trodVars_none hV
  have k0 := h0
  have lt0 : ∀ x ∈ p0, x.block < W.heap.size := by obtain ⟨m, hm⟩ := k0; exact DataW.trod_lt m _ _ _ hm
  obtain ⟨A0, c0, o0, rfl, w0, l0, z0⟩ := Frm.open_frms (hval 0 60 v0 rfl rfl) h0
  obtain ⟨a1, rfl, rfl, rfl, w1⟩ := open_string Try.underlying9 (hval 1 9 v1 rfl rfl) h1
  clear hA0 hval0
  refine (walk A0 c0 o0 a1 W w0 l0 z0 w1).mono fun e W' ⟨he, bel⟩ => ?_
  subst he
  exact ⟨_, rfl, _, _, _, [], _, [], hW', trodAll_mk1 (shut_bool Try.underlying4 _), (trodAll_cons_mk (Below.trod laidOut (by kernel_rfl) (of_decide_eq_true (by kernel_rfl)) k0 bel lt0) (trodAll_cons_mk (shut_string Try.underlying9 w1) trodAll_mk0)), rfl, bel.frame _, fun h => by cases h⟩

theorem over : Rows.frameLinesRow.holds Try.pinned (OpenSpec.ofChange Rows.frameLinesSpec) :=
  OpenClaim.holds_of_wide 6 Try.f6 rfl rfl rfl rfl rfl rfl rfl ⟨rfl, rfl, rfl, rfl, rfl⟩ rfl rfl rfl rfl rfl (by kernel_rfl) Try.func6 (by kernel_rfl)
    (of_decide_eq_true (by kernel_rfl)) (by unfold Func.isWrapper; first | (rw [if_pos (by decide +kernel)]; kernel_rfl) | (rw [if_neg (by decide +kernel)]; exact ⟨rfl, rfl⟩))
    (fun os started H enc _ => lifted os started H enc)

/-- The given statement. -/
theorem proved : Rows.FrameLinesSaid := over

end Go.Proofs.Ytkkbjngjjeajoaa.frameLines
