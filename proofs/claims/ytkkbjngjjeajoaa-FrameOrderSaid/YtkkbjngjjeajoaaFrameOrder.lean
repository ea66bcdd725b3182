/-
  Proved: FrameOrder, for any three frames: of two that are not alike in Id and Remote just one goes ahead of the other, and what goes ahead of one that goes ahead of a third one goes ahead of that.
-/
import Derived.Test.YtkkbjngjjeajoaaRows
import Derived.Test.YtkkbjngjjeajoaaFrmLift
import Derived.Test.YtkkbjngjjeajoaaFrmKnown
namespace Go.Proofs.Ytkkbjngjjeajoaa.frameOrder
open Go.ChangeShapes Go.WideShapes Go.ChangeAt Go.RowKit Mem Frm
open Go.ChangeMaps (open_string shut_string)
set_option linter.unusedVariables false
set_option linter.unusedSimpArgs false
set_option maxRecDepth 100000

/-- Three frames in memory, new since w. -/
structure L3 (w W : World) (a b c : Array Value) : Prop where
  r0 : W.heap[w.heap.size]? = some (.cells a 50)
  r1 : W.heap[w.heap.size + 1]? = some (.cells b 50)
  r2 : W.heap[w.heap.size + 1 + 1]? = some (.cells c 50)
  B : Below w.heap.size w W
theorem L3.new (w : World) (a b c : Array Value) : L3 w (((w.alloc (.cells a 50)).alloc (.cells b 50)).alloc (.cells c 50)) a b c := by
  have h2 : ((w.alloc (.cells a 50)).alloc (.cells b 50)).heap.size = w.heap.size + 1 + 1 := by simp
  have hn := one_new ((w.alloc (.cells a 50)).alloc (.cells b 50)) (.cells c 50)
  rw [h2] at hn
  refine ⟨?_, ?_, hn, ((Below.refl _ _).alloc (Nat.le_refl _) _ |>.alloc (by simp) _).alloc (by simp; omega) _⟩
  · exact (heap_alloc_old _ _ (by omega)).trans (heap_alloc2_old w _ _)
  · exact (heap_alloc_old _ _ (by omega)).trans (heap_alloc2_new w _ _)
theorem L3.below {w W W' : World} {a b c : Array Value} (h : L3 w W a b c) (k : Below W.heap.size W W') : L3 w W' a b c :=
  ⟨(k.block _ (Array.getElem?_eq_some_iff.1 h.r0).1).trans h.r0, (k.block _ (Array.getElem?_eq_some_iff.1 h.r1).1).trans h.r1, (k.block _ (Array.getElem?_eq_some_iff.1 h.r2).1).trans h.r2, h.B.trans (k.mono h.B.size)⟩

theorem cases6 (i : Int) (r : Bool) (j : Int) (s : Bool) : (before i r j s = true ∧ before j s i r = false ∧ ((i == j) = false ∨ (i == j) = true ∧ r = false ∧ s = true)) ∨
    (before i r j s = false ∧ ((before j s i r = true ∧ ((i == j) = false ∨ (i == j) = true ∧ r = true ∧ s = false)) ∨ (before j s i r = false ∧ (i == j) = true ∧ r = s))) := by
  unfold before
  rcases Int.lt_trichotomy i j with h | h | h
  · left
    refine ⟨by simp [h], ?_, .inl (by simp; omega)⟩
    simp
    omega
  · subst h
    cases r <;> cases s <;> simp
  · right
    refine ⟨?_, .inl ⟨by simp [h], .inl (by simp; omega)⟩⟩
    simp
    omega
theorem trans3 (i : Int) (r : Bool) (j : Int) (s : Bool) (k : Int) (t : Bool) (h1 : before i r j s = true) (h2 : before j s k t = true) : before i r k t = true := by
  unfold before at *
  simp at *
  rcases h1 with h1 | h1 <;> rcases h2 with h2 | h2
  · omega
  · omega
  · omega
  · obtain ⟨rfl, rfl, rfl⟩ := h1
    obtain ⟨rfl, h, _⟩ := h2
    cases h

set_option maxHeartbeats 4000000 in
theorem walk (i : Int) (r : Bool) (A : Option Addr) (c : Nat) (d : List UInt8) (j : Int) (s : Bool) (A' : Option Addr) (c' : Nat) (d' : List UInt8) (k : Int) (t : Bool) (A'' : Option Addr) (c'' : Nat) (d'' : List UInt8) (w : World)
    (hi : -9223372036854775808 ≤ i ∧ i ≤ 9223372036854775807) (hr : Rd w w.heap.size A d) (hm : d.length ≤ maxLen)
    (hj : -9223372036854775808 ≤ j ∧ j ≤ 9223372036854775807) (hr' : Rd w w.heap.size A' d') (hm' : d'.length ≤ maxLen)
    (hk : -9223372036854775808 ≤ k ∧ k ≤ 9223372036854775807) (hr'' : Rd w w.heap.size A'' d'') (hm'' : d''.length ≤ maxLen) :
    Calls Try.prog 8 #[frm i r (.slice A d.length c), frm j s (.slice A' d'.length c'), frm k t (.slice A'' d''.length c'')] w fun e w' => e = .returned (.bool true) ∧ Below w.heap.size w w' := by
  clear hr hr' hr'' hi hj hk
  unfold maxLen at hm hm' hm''
  have LN := Lib.hid (L3.new w #[.int .i64 i, .bool r, .slice A d.length c] #[.int .i64 j, .bool s, .slice A' d'.length c'] #[.int .i64 k, .bool t, .slice A'' d''.length c''])
  by_cases hbig : 1000 < d.length ∨ 1000 < d'.length ∨ 1000 < d''.length
  · have h3 : 1000 < d.length ∨ (d.length ≤ 1000 ∧ 1000 < d'.length) ∨ (d.length ≤ 1000 ∧ d'.length ≤ 1000 ∧ 1000 < d''.length) := by omega
    clear hbig
    rcases h3 with h | ⟨h, h'⟩ | ⟨h, h', h''⟩
    all_goals
      go_enter Try.func8, Try.ntmps8
      go_wp2_with fail
      refine (known_any _).mono ?_
      rintro e w1 ⟨rfl, b1⟩
      have B1 := Lib.hid (LN.out.below b1).B
      clear b1
      go_wp2_with fail
      go_ret
      exact ⟨rfl, B1.out⟩
  · have g1 : decide (1000 < d.length) = false := by simp; omega
    have g2 : decide (1000 < d'.length) = false := by simp; omega
    have g3 : decide (1000 < d''.length) = false := by simp; omega
    have e1 : d.length ≤ 1000 := by omega
    have e2 : d'.length ≤ 1000 := by omega
    have e3 : d''.length ≤ 1000 := by omega
    clear hbig
    generalize d.length = n at *
    generalize d'.length = n' at *
    generalize d''.length = n'' at *
    have AB := Lib.hid (fun W => before_any i r A n c j s A' n' c' W)
    have BA := Lib.hid (fun W => before_any j s A' n' c' i r A n c W)
    have BC := Lib.hid (fun W => before_any j s A' n' c' k t A'' n'' c'' W)
    have AC := Lib.hid (fun W => before_any i r A n c k t A'' n'' c'' W)
    have HT := Lib.hid (trans3 i r j s k t)
    rcases cases6 i r j s with ⟨h1, h2, h3⟩ | ⟨h1, h2⟩
    · rw [h1] at AB HT
      rw [h2] at BA
      have hx : before j s k t = false ∨ (before j s k t = true ∧ before i r k t = true) := by
        cases hb : before j s k t with
        | false => exact .inl rfl
        | true => exact .inr ⟨rfl, HT.out rfl hb⟩
      clear HT h1 h2
      rcases h3 with h3 | ⟨h3, rfl, rfl⟩ <;> rcases hx with hx | ⟨hx, hy⟩
      all_goals
        rw [hx] at BC
        try rw [hy] at AC
        clear hx
        try clear hy
        go_enter Try.func8, Try.ntmps8
        go_wp2_with fail
        refine (AB.out _).mono ?_
        rintro e w1 ⟨rfl, b1⟩
        have L1 := Lib.hid (LN.out.below b1)
        have q0 := cellof L1.out.r0 0
        have q1 := cellof L1.out.r0 1
        have q2 := cellof L1.out.r0 2
        have u0 := cellof L1.out.r1 0
        have u1 := cellof L1.out.r1 1
        have u2 := cellof L1.out.r1 2
        clear b1
        go_wp2_with fail
        refine (BA.out _).mono ?_
        rintro e w2 ⟨rfl, b2⟩
        have L2 := Lib.hid (L1.out.below b2)
        clear q0 q1 q2 u0 u1 u2 b2
        have q0 := cellof L2.out.r0 0
        have q1 := cellof L2.out.r0 1
        have q2 := cellof L2.out.r0 2
        have u0 := cellof L2.out.r1 0
        have u1 := cellof L2.out.r1 1
        have u2 := cellof L2.out.r1 2
        have v0 := cellof L2.out.r2 0
        have v1 := cellof L2.out.r2 1
        have v2 := cellof L2.out.r2 2
        go_wp2_with fail
        refine (BC.out _).mono ?_
        rintro e w3 ⟨rfl, b3⟩
        have L3 := Lib.hid (L2.out.below b3)
        clear q0 q1 q2 u0 u1 u2 v0 v1 v2 b3
        have q0 := cellof L3.out.r0 0
        have q1 := cellof L3.out.r0 1
        have q2 := cellof L3.out.r0 2
        have v0 := cellof L3.out.r2 0
        have v1 := cellof L3.out.r2 1
        have v2 := cellof L3.out.r2 2
        go_wp2_with fail
      · refine (known_any _).mono ?_
        rintro e w4 ⟨rfl, b4⟩
        have L4 := Lib.hid (L3.out.below b4)
        clear b4
        go_wp2_with fail
        go_ret
        exact ⟨rfl, L4.out.B⟩
      · refine (AC.out _).mono ?_
        rintro e w5 ⟨rfl, b5⟩
        have L5 := Lib.hid (L3.out.below b5)
        clear q0 q1 q2 v0 v1 v2 b5
        go_wp2_with fail
        refine (known_any _).mono ?_
        rintro e w4 ⟨rfl, b4⟩
        have L4 := Lib.hid (L5.out.below b4)
        clear b4
        go_wp2_with fail
        go_ret
        exact ⟨rfl, L4.out.B⟩
      · refine (known_any _).mono ?_
        rintro e w4 ⟨rfl, b4⟩
        have L4 := Lib.hid (L3.out.below b4)
        clear b4
        go_wp2_with fail
        go_ret
        exact ⟨rfl, L4.out.B⟩
      · refine (AC.out _).mono ?_
        rintro e w5 ⟨rfl, b5⟩
        have L5 := Lib.hid (L3.out.below b5)
        clear q0 q1 q2 v0 v1 v2 b5
        go_wp2_with fail
        refine (known_any _).mono ?_
        rintro e w4 ⟨rfl, b4⟩
        have L4 := Lib.hid (L5.out.below b4)
        clear b4
        go_wp2_with fail
        go_ret
        exact ⟨rfl, L4.out.B⟩
    · rw [h1] at AB
      have h4 : (before j s i r = true ∧ (i == j) = false) ∨ (before j s i r = true ∧ (i == j) = true ∧ r = true ∧ s = false) ∨ (before j s i r = false ∧ (i == j) = true ∧ r = false ∧ s = false) ∨ (before j s i r = false ∧ (i == j) = true ∧ r = true ∧ s = true) := by
        rcases h2 with ⟨h2, h3 | h3⟩ | ⟨h2, h3, h4⟩
        · exact .inl ⟨h2, h3⟩
        · exact .inr (.inl ⟨h2, h3⟩)
        · subst h4
          cases r
          · exact .inr (.inr (.inl ⟨h2, h3, rfl, rfl⟩))
          · exact .inr (.inr (.inr ⟨h2, h3, rfl, rfl⟩))
      clear HT h1 h2
      rcases h4 with ⟨h2, h3⟩ | ⟨h2, h3, rfl, rfl⟩ | ⟨h2, h3, rfl, rfl⟩ | ⟨h2, h3, rfl, rfl⟩
      all_goals
        rw [h2] at BA
        clear h2
        go_enter Try.func8, Try.ntmps8
        go_wp2_with fail
        refine (AB.out _).mono ?_
        rintro e w1 ⟨rfl, b1⟩
        have L1 := Lib.hid (LN.out.below b1)
        have q0 := cellof L1.out.r0 0
        have q1 := cellof L1.out.r0 1
        have q2 := cellof L1.out.r0 2
        have u0 := cellof L1.out.r1 0
        have u1 := cellof L1.out.r1 1
        have u2 := cellof L1.out.r1 2
        clear b1
        go_wp2_with fail
        refine (BA.out _).mono ?_
        rintro e w2 ⟨rfl, b2⟩
        have L2 := Lib.hid (L1.out.below b2)
        clear q0 q1 q2 u0 u1 u2 b2
        have q0 := cellof L2.out.r0 0
        have q1 := cellof L2.out.r0 1
        have q2 := cellof L2.out.r0 2
        have u0 := cellof L2.out.r1 0
        have u1 := cellof L2.out.r1 1
        have u2 := cellof L2.out.r1 2
        go_wp2_with fail
        refine (known_any _).mono ?_
        rintro e w4 ⟨rfl, b4⟩
        have L4 := Lib.hid (L2.out.below b4)
        clear b4 q0 q1 q2 u0 u1 u2
        go_wp2_with fail
        go_ret
        exact ⟨rfl, L4.out.B⟩

theorem own : ownKnob Try.prog.godebug = none := by kernel_rfl
theorem laidOut : laidOutB Try.prog = true := by kernel_rfl

set_option maxRecDepth 100000 in
theorem lifted (os : Os) (started : os.Started) (H : Type) (enc : TypeId × Value → H) :
    ReturnsInHanded {} Try.checked os 8 .any (Rows.frameOrderSpec.pre6 enc Try.prog Try.f8 Rows.frameOrderRow.domain false) (Rows.frameOrderSpec.post enc Try.prog Try.f8 false true false false) := by
  refine returnsInHanded_of_change (C := Try.checked) own started (by kernel_rfl) Try.func8
    (ChangeSpec.witness6 (enc := enc) (C := Try.checked) false ⟨#[], #[.agg #[.int .i64 0, .bool false, .slice none 0 0], .agg #[.int .i64 0, .bool false, .slice none 0 0], .agg #[.int .i64 0, .bool false, .slice none 0 0]], []⟩ 8 (by kernel_rfl) (by kernel_rfl) (by kernel_rfl) (by kernel_rfl)) ?_
  intro W base args ds gs before hval0 hW hcnd _
  have hval : ∀ (j : Nat) t v, Try.f8.params[j]? = some t → args[j]? = some v → Value.okWide Try.prog W .any base t v := hval0
  have hW' := hW
  obtain ⟨p, q, hA0, hV, rfl, hfz, hnd⟩ := hW
  have hA : DataW.TrodAll enc Try.prog W 0 (fun _ => true) true Try.f8.params.toList args.toList ds p := hA0
  rw [Try.params8] at hA hval
  obtain ⟨v0, vs0, d0, ds0, p0, q0, hargs, rfl, rfl, h0, r0⟩ := trodAll_cons hA
  obtain ⟨v1, vs1, d1, ds1, p1, q1, rfl, rfl, rfl, h1, r1⟩ := trodAll_cons r0
  obtain ⟨v2, vs2, d2, ds2, p2, q2, rfl, rfl, rfl, h2, r2⟩ := trodAll_cons r1
  obtain ⟨rfl, rfl, rfl⟩ := trodAll_nil r2
  obtain rfl : args = #[v0, v1, v2] := by cases args; simp_all
  obtain ⟨rfl, rfl⟩ := trodVars_none hV
  have k0 := h0
  have lt0 : ∀ x ∈ p0, x.block < W.heap.size := by obtain ⟨m, hm⟩ := k0; exact DataW.trod_lt m _ _ _ hm
  obtain ⟨x0, y0, A0, c0, b0, rfl, wx0, w0, l0⟩ := Frm.open_frm (hval 0 50 v0 rfl rfl) h0
  have k1 := h1
  have lt1 : ∀ x ∈ p1, x.block < W.heap.size := by obtain ⟨m, hm⟩ := k1; exact DataW.trod_lt m _ _ _ hm
  obtain ⟨x1, y1, A1, c1, b1, rfl, wx1, w1, l1⟩ := Frm.open_frm (hval 1 50 v1 rfl rfl) h1
  have k2 := h2
  have lt2 : ∀ x ∈ p2, x.block < W.heap.size := by obtain ⟨m, hm⟩ := k2; exact DataW.trod_lt m _ _ _ hm
  obtain ⟨x2, y2, A2, c2, b2, rfl, wx2, w2, l2⟩ := Frm.open_frm (hval 2 50 v2 rfl rfl) h2
  clear hA0 hval0
  refine (walk x0 y0 A0 c0 b0 x1 y1 A1 c1 b1 x2 y2 A2 c2 b2 W wx0 w0 l0 wx1 w1 l1 wx2 w2 l2).mono fun e W' ⟨he, bel⟩ => ?_
  subst he
  exact ⟨_, rfl, _, _, _, [], _, [], hW', trodAll_mk1 (shut_bool Try.underlying4 _), (trodAll_cons_mk (Below.trod laidOut (by kernel_rfl) (of_decide_eq_true (by kernel_rfl)) k0 bel lt0) (trodAll_cons_mk (Below.trod laidOut (by kernel_rfl) (of_decide_eq_true (by kernel_rfl)) k1 bel lt1) (trodAll_cons_mk (Below.trod laidOut (by kernel_rfl) (of_decide_eq_true (by kernel_rfl)) k2 bel lt2) trodAll_mk0))), rfl, bel.frame _, fun h => by cases h⟩

theorem over : Rows.frameOrderRow.holds Try.pinned (OpenSpec.ofChange Rows.frameOrderSpec) :=
  OpenClaim.holds_of_wide 8 Try.f8 rfl rfl rfl rfl rfl rfl rfl ⟨rfl, rfl, rfl, rfl, rfl⟩ rfl rfl rfl rfl rfl (by kernel_rfl) Try.func8 (by kernel_rfl)
    (of_decide_eq_true (by kernel_rfl)) (by unfold Func.isWrapper; first | (rw [if_pos (by decide +kernel)]; kernel_rfl) | (rw [if_neg (by decide +kernel)]; exact ⟨rfl, rfl⟩))
    (fun os started H enc _ => lifted os started H enc)

/-- The given statement. -/
theorem proved : Rows.FrameOrderSaid := over

end Go.Proofs.Ytkkbjngjjeajoaa.frameOrder
