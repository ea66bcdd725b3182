/-
  Proved: FrameChecks, for any two frames: what is wrong of one, whether they are alike, and whether one goes ahead of the other is as the document's own functions say.
-/
import Derived.Test.YtkkbjngjjeajoaaRows
import Derived.Test.YtkkbjngjjeajoaaFrmLift
import Derived.Test.YtkkbjngjjeajoaaFrmKnown
import Derived.Test.YtkkbjngjjeajoaaText
namespace Go.Proofs.Ytkkbjngjjeajoaa.frameChecks
open Go.ChangeShapes Go.WideShapes Go.ChangeAt Go.RowKit Mem Frm
open Go.ChangeMaps (open_string shut_string)
set_option linter.unusedVariables false
set_option linter.unusedSimpArgs false
set_option maxRecDepth 100000

/-- Two frames in memory, new since w. -/
structure L2 (w W : World) (a b : Array Value) : Prop where
  r0 : W.heap[w.heap.size]? = some (.cells a 50)
  r1 : W.heap[w.heap.size + 1]? = some (.cells b 50)
  B : Below w.heap.size w W
theorem L2.new (w : World) (a b : Array Value) : L2 w ((w.alloc (.cells a 50)).alloc (.cells b 50)) a b :=
  ⟨heap_alloc2_old w _ _, heap_alloc2_new w _ _, below_two _ _ _⟩
theorem L2.below {w W W' : World} {a b : Array Value} (h : L2 w W a b) (k : Below W.heap.size W W') : L2 w W' a b :=
  ⟨(k.block _ (Array.getElem?_eq_some_iff.1 h.r0).1).trans h.r0, (k.block _ (Array.getElem?_eq_some_iff.1 h.r1).1).trans h.r1, h.B.trans (k.mono h.B.size)⟩
theorem L2.drew {w W : World} {a b : Array Value} (h : L2 w W a b) : L2 w W.drew a b := ⟨h.r0, h.r1, h.B.drew⟩

set_option maxHeartbeats 4000000 in
theorem walk (i : Int) (r : Bool) (A : Option Addr) (c : Nat) (d : List UInt8) (j : Int) (s : Bool) (A' : Option Addr) (c' : Nat) (d' : List UInt8) (w : World)
    (hi : -9223372036854775808 ≤ i ∧ i ≤ 9223372036854775807) (hr : Rd w w.heap.size A d) (hm : d.length ≤ maxLen)
    (hj : -9223372036854775808 ≤ j ∧ j ≤ 9223372036854775807) (hr' : Rd w w.heap.size A' d') (hm' : d'.length ≤ maxLen) :
    Calls Try.prog 4 #[frm i r (.slice A d.length c), frm j s (.slice A' d'.length c')] w fun e w' => e = .returned (.bool true) ∧ Below w.heap.size w w' := by
  unfold maxLen at hm hm'
  have LN := Lib.hid (L2.new w #[.int .i64 i, .bool r, .slice A d.length c] #[.int .i64 j, .bool s, .slice A' d'.length c'])
  by_cases hbig : 1000 < d.length ∨ 1000 < d'.length
  · have h3 : 1000 < d.length ∨ (d.length ≤ 1000 ∧ 1000 < d'.length) := by omega
    clear hbig hr hr' hi hj
    rcases h3 with h | ⟨h, h'⟩
    all_goals
      go_enter Try.func4, Try.ntmps4
      go_wp2_with fail
      refine (known_any _).mono ?_
      rintro e w1 ⟨rfl, b1⟩
      have B1 := Lib.hid (LN.out.below b1).B
      clear b1
      go_wp2_with fail
      go_ret
      exact ⟨rfl, B1.out⟩
  · have g1 : decide (1000 < d.length) = false := by simp; omega
    have g2 : decide (1000 < d'.length) = false := by simp; omega
    have e1 : d.length ≤ 1000 := by omega
    have e2 : d'.length ≤ 1000 := by omega
    clear hbig
    have C1 := Lib.hid (fun W => check_any i r A d.length c W hi.1 hi.2 (by omega))
    have C2 := Lib.hid (fun W => rcheck_any i r A d.length c W hi.1 hi.2 (by omega))
    have S1 := Lib.hid (fun (W : World) (b : Below w.heap.size w W) => same_any i r A c d j s A' c' d' _ _ W (hr.below b) (hr'.below b) b.size b.size)
    have S2 := Lib.hid (fun (W : World) (b : Below w.heap.size w W) => rsame_any i r A c d j s A' c' d' _ _ W (hr.below b) (hr'.below b) b.size b.size)
    have B1 := Lib.hid (fun W => before_any i r A d.length c j s A' d'.length c' W)
    have B2 := Lib.hid (fun W => rbefore_any i r A d.length c j s A' d'.length c' W)
    generalize err i r d.length = E at *
    generalize same i r d j s d' = S at *
    generalize before i r j s = F at *
    clear hr hr' hi hj
    generalize d.length = n at *
    generalize d'.length = n' at *
    go_enter Try.func4, Try.ntmps4
    go_wp2_with fail
    refine Txt.wp_region_textN 27 (fun W => L2 w W #[.int .i64 i, .bool r, .slice A n c] #[.int .i64 j, .bool s, .slice A' n' c']) (by kernel_rfl) (by kernel_rfl) (by kernel_rfl) (by kernel_rfl) (fun _ _ _ _ _ h => h) LN.out.drew ?_
    repeat (
      apply Txt.step rfl
      · intro W hS K hK
        have q0 := cellof hS.r0 0
        have q1 := cellof hS.r0 1
        have q2 := cellof hS.r0 2
        have u0 := cellof hS.r1 0
        have u1 := cellof hS.r1 1
        have u2 := cellof hS.r1 2
        have HS := Lib.hid hS
        clear hS
        go_simp
        first
          | exact hK.out _ HS.out
          | (go_wp2_with (first
              | (go_at_call 21; refine (C1.out _).mono ?_; rintro e w' ⟨rfl, b⟩; have T := Lib.hid (HS.out.below b); clear b)
              | (go_at_call 22; refine (C2.out _).mono ?_; rintro e w' ⟨rfl, b⟩; have T := Lib.hid (HS.out.below b); clear b)
              | (go_at_call 23; refine (S1.out _ HS.out.B).mono ?_; rintro e w' ⟨rfl, b⟩; have T := Lib.hid (HS.out.below b); clear b)
              | (go_at_call 24; refine (S2.out _ HS.out.B).mono ?_; rintro e w' ⟨rfl, b⟩; have T := Lib.hid (HS.out.below b); clear b)
              | (go_at_call 25; refine (B1.out _).mono ?_; rintro e w' ⟨rfl, b⟩; have T := Lib.hid (HS.out.below b); clear b)
              | (go_at_call 26; refine (B2.out _).mono ?_; rintro e w' ⟨rfl, b⟩; have T := Lib.hid (HS.out.below b); clear b)
              | (go_at_call 20; refine (known_any _).mono ?_; rintro e w' ⟨rfl, b⟩; have T := Lib.hid (HS.out.below b); clear b))
             first | exact hK.out _ HS.out | exact hK.out _ T.out)
      · first | exact ⟨_, rfl⟩ | exact ⟨undef, rfl⟩)
    refine Txt.last fun W hS => ?_
    have B4 := Lib.hid hS.B
    clear hS
    go_wp2_with fail
    go_ret
    exact ⟨rfl, B4.out⟩

theorem own : ownKnob Try.prog.godebug = none := by kernel_rfl
theorem laidOut : laidOutB Try.prog = true := by kernel_rfl

set_option maxRecDepth 100000 in
theorem lifted (os : Os) (started : os.Started) (H : Type) (enc : TypeId × Value → H) :
    ReturnsInHanded {} Try.checked os 4 .any (Rows.frameChecksSpec.pre6 enc Try.prog Try.f4 Rows.frameChecksRow.domain false) (Rows.frameChecksSpec.post enc Try.prog Try.f4 false true false false) := by
  refine returnsInHanded_of_change (C := Try.checked) own started (by kernel_rfl) Try.func4
    (ChangeSpec.witness6 (enc := enc) (C := Try.checked) false ⟨#[], #[.agg #[.int .i64 0, .bool false, .slice none 0 0], .agg #[.int .i64 0, .bool false, .slice none 0 0]], []⟩ 8 (by kernel_rfl) (by kernel_rfl) (by kernel_rfl) (by kernel_rfl)) ?_
  intro W base args ds gs before hval0 hW hcnd _
  have hval : ∀ (j : Nat) t v, Try.f4.params[j]? = some t → args[j]? = some v → Value.okWide Try.prog W .any base t v := hval0
  have hW' := hW
  obtain ⟨p, q, hA0, hV, rfl, hfz, hnd⟩ := hW
  have hA : DataW.TrodAll enc Try.prog W 0 (fun _ => true) true Try.f4.params.toList args.toList ds p := hA0
  rw [Try.params4] at hA hval
  obtain ⟨v0, vs0, d0, ds0, p0, q0, hargs, rfl, rfl, h0, r0⟩ := trodAll_cons hA
  obtain ⟨v1, vs1, d1, ds1, p1, q1, rfl, rfl, rfl, h1, r1⟩ := trodAll_cons r0
  obtain ⟨rfl, rfl, rfl⟩ := trodAll_nil r1
  obtain rfl : args = #[v0, v1] := by cases args; simp_all
  obtain ⟨rfl, rfl⟩ := trodVars_none hV
  have k0 := h0
  have lt0 : ∀ x ∈ p0, x.block < W.heap.size := by obtain ⟨m, hm⟩ := k0; exact DataW.trod_lt m _ _ _ hm
  obtain ⟨x0, y0, A0, c0, b0, rfl, wx0, w0, l0⟩ := Frm.open_frm (hval 0 50 v0 rfl rfl) h0
  have k1 := h1
  have lt1 : ∀ x ∈ p1, x.block < W.heap.size := by obtain ⟨m, hm⟩ := k1; exact DataW.trod_lt m _ _ _ hm
  obtain ⟨x1, y1, A1, c1, b1, rfl, wx1, w1, l1⟩ := Frm.open_frm (hval 1 50 v1 rfl rfl) h1
  clear hA0 hval0
  refine (walk x0 y0 A0 c0 b0 x1 y1 A1 c1 b1 W wx0 w0 l0 wx1 w1 l1).mono fun e W' ⟨he, bel⟩ => ?_
  subst he
  exact ⟨_, rfl, _, _, _, [], _, [], hW', trodAll_mk1 (shut_bool Try.underlying4 _), (trodAll_cons_mk (Below.trod laidOut (by kernel_rfl) (of_decide_eq_true (by kernel_rfl)) k0 bel lt0) (trodAll_cons_mk (Below.trod laidOut (by kernel_rfl) (of_decide_eq_true (by kernel_rfl)) k1 bel lt1) trodAll_mk0)), rfl, bel.frame _, fun h => by cases h⟩

theorem over : Rows.frameChecksRow.holds Try.pinned (OpenSpec.ofChange Rows.frameChecksSpec) :=
  OpenClaim.holds_of_wide 4 Try.f4 rfl rfl rfl rfl rfl rfl rfl ⟨rfl, rfl, rfl, rfl, rfl⟩ rfl rfl rfl rfl rfl (by kernel_rfl) Try.func4 (by kernel_rfl)
    (of_decide_eq_true (by kernel_rfl)) (by unfold Func.isWrapper; first | (rw [if_pos (by decide +kernel)]; kernel_rfl) | (rw [if_neg (by decide +kernel)]; exact ⟨rfl, rfl⟩))
    (fun os started H enc _ => lifted os started H enc)

/-- The given statement. -/
theorem proved : Rows.FrameChecksSaid := over

end Go.Proofs.Ytkkbjngjjeajoaa.frameChecks
