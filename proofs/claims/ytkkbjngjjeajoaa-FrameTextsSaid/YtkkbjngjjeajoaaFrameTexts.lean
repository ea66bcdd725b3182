/-
  Proved: FrameTexts, for any frame and any text: the frame's text, and the frame that the text says, are as the document's own functions say, or refused alike; the frame's bytes are as they were.
-/
import Derived.Test.YtkkbjngjjeajoaaRows
import Derived.Test.YtkkbjngjjeajoaaFrmLift
import Derived.Test.YtkkbjngjjeajoaaFrmKnown
import Derived.Test.YtkkbjngjjeajoaaFrmRParse
import Derived.Test.YtkkbjngjjeajoaaOctAux
namespace Go.Proofs.Ytkkbjngjjeajoaa.frameTexts
open Go.ChangeShapes Go.WideShapes Go.ChangeAt Go.RowKit Mem Frm
open Go.ChangeMaps (open_string shut_string)
set_option linter.unusedVariables false
set_option linter.unusedSimpArgs false
set_option maxRecDepth 100000

/-- The frame, and the one that lends its bytes. -/
structure TS (w W : World) (a b : Array Value) (g cap : Nat) (d : List UInt8) : Prop where
  r0 : W.heap[w.heap.size]? = some (.cells a 50)
  r1 : W.heap[w.heap.size + 1]? = some (.cells b 50)
  B : Below w.heap.size w W
  L : LentAt W (w.heap.size + 2) 5 g cap d
theorem TS.below {w W W' : World} {a b : Array Value} {g cap : Nat} {d : List UInt8} (h : TS w W a b g cap d) (k : Below W.heap.size W W') : TS w W' a b g cap d :=
  ⟨(k.block _ (Array.getElem?_eq_some_iff.1 h.r0).1).trans h.r0, (k.block _ (Array.getElem?_eq_some_iff.1 h.r1).1).trans h.r1, h.B.trans (k.mono h.B.size), h.L.below k (Nat.le_refl _)⟩
theorem same_self (i : Int) (r : Bool) (d : List UInt8) : same i r d i r d = true := by simp [same]

set_option maxHeartbeats 4000000 in
theorem walk (i : Int) (r : Bool) (A : Option Addr) (c : Nat) (d : List UInt8) (s : ByteArray) (w : World)
    (hi : -9223372036854775808 ≤ i ∧ i ≤ 9223372036854775807) (hr : Rd w w.heap.size A d) (hm : d.length ≤ maxLen) (hs : s.size ≤ maxLen) :
    Calls Try.prog 5 #[frm i r (.slice A d.length c), .string s] w fun e w' => e = .returned (.bool true) ∧ Below w.heap.size w w' := by
  obtain ⟨l, rfl⟩ : ∃ l : List UInt8, s = ⟨l.toArray⟩ := ⟨_, str_eta s⟩
  have hs' : l.length ≤ maxLen := by simpa [ByteArray.size] using hs
  unfold maxLen at hm hs'
  clear hs
  have BN := Lib.hid (one_below w (.cells #[.int .i64 i, .bool r, .slice A d.length c] 50))
  by_cases hbig : 1000 < d.length ∨ 1000 < l.length
  · have h3 : 1000 < d.length ∨ (d.length ≤ 1000 ∧ 1000 < l.length) := by omega
    clear hbig hr hi
    rcases h3 with h | ⟨h, h'⟩
    all_goals
      go_enter Try.func5, Try.ntmps5
      go_wp2_with fail
      refine (known_any _).mono ?_
      rintro e w1 ⟨rfl, b1⟩
      have B1 := Lib.hid (BN.out.trans (b1.mono BN.out.size))
      clear b1
      go_wp2_with fail
      go_ret
      exact ⟨rfl, B1.out⟩
  · have g1 : decide (1000 < d.length) = false := by simp; omega
    have g2 : decide (1000 < l.length) = false := by simp; omega
    have e1 : d.length ≤ 1000 := by omega
    have e2 : l.length ≤ 1000 := by omega
    clear hbig
    have B2 := below_two w (.cells #[.int .i64 i, .bool r, .slice A d.length c] 50) (.cells #[.int .i64 i, .bool r, .slice A d.length c] 50)
    have LE := Lib.hid (lent_any A d.length c d _ ((hr.below B2).mono B2.size) rfl (by omega))
    have HR := Lib.hid hr
    clear hr B2
    go_enter Try.func5, Try.ntmps5
    go_wp2_with fail
    refine LE.out.mono ?_
    rintro e w1 ⟨g, cap, rfl, hl, b1⟩
    have hs2 : ((w.alloc (.cells #[.int .i64 i, .bool r, .slice A d.length c] 50)).alloc (.cells #[.int .i64 i, .bool r, .slice A d.length c] 50)).heap.size = w.heap.size + 2 := by simp
    have T1 := Lib.hid (show TS w w1 #[.int .i64 i, .bool r, .slice A d.length c] #[.int .i64 i, .bool r, .slice A d.length c] g cap d from
      ⟨(b1.block _ (by rw [hs2]; omega)).trans (heap_alloc2_old w _ _), (b1.block _ (by rw [hs2]; omega)).trans (heap_alloc2_new w _ _), (below_two w _ _).trans (b1.mono (by rw [hs2]; omega)), by rw [hs2] at hl; exact hl⟩)
    clear hl b1 hs2
    have q0 := cellof T1.out.r0 0
    have q1 := cellof T1.out.r0 1
    have q2 := cellof T1.out.r0 2
    have u0 := cellof T1.out.r1 0
    have u1 := cellof T1.out.r1 1
    have u2 := cellof T1.out.r1 2
    have f2 := fro _ _ 2 _ _ T1.out.r1
    have T2 := Lib.hid (show TS w (w1.setCell ⟨w.heap.size + 1, 2, none⟩ (.slice (some ⟨g, 0, none⟩) d.length cap)) #[.int .i64 i, .bool r, .slice A d.length c] #[.int .i64 i, .bool r, .slice (some ⟨g, 0, none⟩) d.length cap] g cap d from by
      have h := T1.out
      have hgb := h.L.2.2.2.1
      refine ⟨(heap_setCell_other _ _ _ _ (by show w.heap.size ≠ w.heap.size + 1; omega)).trans h.r0, heap_setCell_same _ _ 2 _ _ _ h.r1, h.B.setCell (by show w.heap.size ≤ w.heap.size + 1; omega) _, ?_⟩
      exact ⟨h.L.1.kept_block (heap_setCell_other _ _ _ _ (by show g ≠ w.heap.size + 1; omega)), h.L.2.1, h.L.2.2.1, h.L.2.2.2.1, by rw [World.size_setCell]; exact h.L.2.2.2.2⟩)
    go_wp2_with fail
    clear q0 q1 q2 u0 u1 u2 f2 T1
    generalize w1.setCell ⟨w.heap.size + 1, 2, none⟩ (.slice (some ⟨g, 0, none⟩) d.length cap) = W2 at *
    refine (show_any i r (some ⟨g, 0, none⟩) cap d W2 T2.out.L.rd hi.1 hi.2 (by omega)).mono ?_
    rintro e w3 ⟨rfl, b3⟩
    unfold showV
    have T3 := Lib.hid (T2.out.below b3)
    have SH := Lib.hid (rshow_any i r A c d w3 ((HR.out.below T3.out.B).mono T3.out.B.size) hi.1 hi.2 (by omega))
    unfold showV at SH
    generalize showA i r d = X at *
    obtain ⟨X, Y⟩ := X
    have q0 := cellof T3.out.r0 0
    have q1 := cellof T3.out.r0 1
    have q2 := cellof T3.out.r0 2
    clear b3 hi
    go_wp2_with fail
    refine SH.out.mono ?_
    rintro e w4 ⟨rfl, b4⟩
    have T4 := Lib.hid (T3.out.below b4)
    have P1 := Lib.hid (parse_any l w4 (by omega))
    have P2 := Lib.hid (fun W => rparse_any l W (by omega))
    generalize hP : parseA l = P at P1 P2
    obtain ⟨⟨pi, pr, pd⟩, pe⟩ := P
    clear b4 q0 q1 q2 hP
    go_wp2_with fail
    refine P1.out.mono ?_
    rintro e w5 ⟨v5, rfl, o5, b5⟩
    obtain ⟨A5, c5, rfl, r5⟩ := o5.form
    have T5 := Lib.hid ((T4.out.below b5).below (one_below w5 (.cells #[.int .i64 pi, .bool pr, .slice A5 pd.length c5] 50)))
    have N5 := Lib.hid (one_new w5 (.cells #[.int .i64 pi, .bool pr, .slice A5 pd.length c5] 50))
    have R5 := Lib.hid (r5.below (one_below w5 (.cells #[.int .i64 pi, .bool pr, .slice A5 pd.length c5] 50)))
    clear o5 r5 b5
    go_wp2_with fail
    refine (P2.out _).mono ?_
    rintro e w6 ⟨v6, rfl, o6, b6⟩
    obtain ⟨A6, c6, rfl, r6⟩ := o6.form
    have T6 := Lib.hid ((T5.out.below b6).below (one_below w6 (.cells #[.int .i64 pi, .bool pr, .slice A6 pd.length c6] 50)))
    have h56 : w5.heap.size < w6.heap.size := by have := b6.size; simp at this; omega
    have N6 := Lib.hid (one_new w6 (.cells #[.int .i64 pi, .bool pr, .slice A6 pd.length c6] 50))
    have M5 := Lib.hid ((heap_alloc_old w6 (.cells #[.int .i64 pi, .bool pr, .slice A6 pd.length c6] 50) h56).trans ((b6.block _ (by simp)).trans N5.out))
    have S5 := Lib.hid (show Rd (w6.alloc (.cells #[.int .i64 pi, .bool pr, .slice A6 pd.length c6] 50)) w6.heap.size A5 pd from ((R5.out.below (b6.mono (by simp))).mono (Nat.le_of_lt h56)).below (one_below _ _))
    have S6 := Lib.hid (r6.below (one_below w6 (.cells #[.int .i64 pi, .bool pr, .slice A6 pd.length c6] 50)))
    have q0 := cellof M5.out 0
    have q1 := cellof M5.out 1
    have q2 := cellof M5.out 2
    have H56 := Lib.hid h56
    clear o6 r6 b6 h56
    go_wp2_with fail
    refine (rsame_any pi pr A5 c5 pd pi pr A6 c6 pd _ _ _ S5.out S6.out (by simp) (by simp)).mono ?_
    rw [same_self]
    rintro e w7 ⟨rfl, b7⟩
    have T7 := Lib.hid (T6.out.below b7)
    have q2 := cellof T7.out.r0 2
    have u2 := cellof T7.out.r1 2
    clear b7 q0 q1
    go_wp2_with fail
    refine (kept_yes A d.length c _ _ g cap d w7 T7.out.L (HR.out.below T7.out.B) rfl (by omega)).mono ?_
    rintro e w' ⟨rfl, rfl⟩
    clear q2 u2
    go_wp2_with fail
    refine (known_any _).mono ?_
    rintro e w8 ⟨rfl, b8⟩
    have B8 := Lib.hid (T7.out.B.trans (b8.mono T7.out.B.size))
    clear b8
    go_wp2_with fail
    go_ret
    exact ⟨rfl, B8.out⟩

theorem own : ownKnob Try.prog.godebug = none := by kernel_rfl
theorem laidOut : laidOutB Try.prog = true := by kernel_rfl

set_option maxRecDepth 100000 in
theorem lifted (os : Os) (started : os.Started) (H : Type) (enc : TypeId × Value → H) :
    ReturnsInHanded {} Try.checked os 5 .any (Rows.frameTextsSpec.pre6 enc Try.prog Try.f5 Rows.frameTextsRow.domain false) (Rows.frameTextsSpec.post enc Try.prog Try.f5 false true false false) := by
  refine returnsInHanded_of_change (C := Try.checked) own started (by kernel_rfl) Try.func5
    (ChangeSpec.witness6 (enc := enc) (C := Try.checked) false ⟨#[], #[.agg #[.int .i64 0, .bool false, .slice none 0 0], .string ByteArray.empty], []⟩ 8 (by kernel_rfl) (by kernel_rfl) (by kernel_rfl) (by kernel_rfl)) ?_
  intro W base args ds gs before hval0 hW hcnd _
  have hval : ∀ (j : Nat) t v, Try.f5.params[j]? = some t → args[j]? = some v → Value.okWide Try.prog W .any base t v := hval0
  have hW' := hW
  obtain ⟨p, q, hA0, hV, rfl, hfz, hnd⟩ := hW
  have hA : DataW.TrodAll enc Try.prog W 0 (fun _ => true) true Try.f5.params.toList args.toList ds p := hA0
  rw [Try.params5] at hA hval
  obtain ⟨v0, vs0, d0, ds0, p0, q0, hargs, rfl, rfl, h0, r0⟩ := trodAll_cons hA
  obtain ⟨v1, vs1, d1, ds1, p1, q1, rfl, rfl, rfl, h1, r1⟩ := trodAll_cons r0
  obtain ⟨rfl, rfl, rfl⟩ := trodAll_nil r1
  obtain rfl : args = #[v0, v1] := by cases args; simp_all
  obtain ⟨rfl, rfl⟩ := trodVars_none hV
  have k0 := h0
  have lt0 : ∀ x ∈ p0, x.block < W.heap.size := by obtain ⟨m, hm⟩ := k0; exact DataW.trod_lt m _ _ _ hm
  obtain ⟨x0, y0, A0, c0, b0, rfl, wx0, w0, l0⟩ := Frm.open_frm (hval 0 50 v0 rfl rfl) h0
  obtain ⟨a1, rfl, rfl, rfl, w1⟩ := open_string Try.underlying9 (hval 1 9 v1 rfl rfl) h1
  clear hA0 hval0
  refine (walk x0 y0 A0 c0 b0 a1 W wx0 w0 l0 w1).mono fun e W' ⟨he, bel⟩ => ?_
  subst he
  exact ⟨_, rfl, _, _, _, [], _, [], hW', trodAll_mk1 (shut_bool Try.underlying4 _), (trodAll_cons_mk (Below.trod laidOut (by kernel_rfl) (of_decide_eq_true (by kernel_rfl)) k0 bel lt0) (trodAll_cons_mk (shut_string Try.underlying9 w1) trodAll_mk0)), rfl, bel.frame _, fun h => by cases h⟩

theorem over : Rows.frameTextsRow.holds Try.pinned (OpenSpec.ofChange Rows.frameTextsSpec) :=
  OpenClaim.holds_of_wide 5 Try.f5 rfl rfl rfl rfl rfl rfl rfl ⟨rfl, rfl, rfl, rfl, rfl⟩ rfl rfl rfl rfl rfl (by kernel_rfl) Try.func5 (by kernel_rfl)
    (of_decide_eq_true (by kernel_rfl)) (by unfold Func.isWrapper; first | (rw [if_pos (by decide +kernel)]; kernel_rfl) | (rw [if_neg (by decide +kernel)]; exact ⟨rfl, rfl⟩))
    (fun os started H enc _ => lifted os started H enc)

/-- The given statement. -/
theorem proved : Rows.FrameTextsSaid := over

end Go.Proofs.Ytkkbjngjjeajoaa.frameTexts
