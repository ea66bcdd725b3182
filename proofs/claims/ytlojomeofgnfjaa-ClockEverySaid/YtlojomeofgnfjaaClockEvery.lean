/-
  Proved: ClockEvery, for any name and any number of ticks: a timer that runs again and again runs out at each multiple of its ticks, and never between.
-/
import Derived.Test.YtlojomeofgnfjaaRows
import Derived.Test.YtlojomeofgnfjaaLift
import Derived.Test.YtlojomeofgnfjaaClkOnly
import Derived.BigQuiet
namespace Go.Proofs.Ytlojomeofgnfjaa.clockEvery
open Go.ChangeShapes Go.WideShapes Go.ChangeAt Go.RowKit Mem Clk
open Go.ChangeMaps (open_string shut_string)
set_option linter.unusedVariables false
set_option linter.unusedSimpArgs false
set_option maxRecDepth 100000

set_option maxHeartbeats 8000000 in
theorem walk (a b : Int) (w : World) (ha : 0 ≤ a ∧ a ≤ 255) (hb : 0 ≤ b ∧ b ≤ 255) :
    Calls Try.prog 6 #[.int .u8 a, .int .u8 b] w fun e w' => e = .returned (.bool true) ∧ Below w.heap.size w w' := by
  obtain ⟨x, rfl⟩ : ∃ x : Nat, a = (x : Int) := ⟨a.toNat, by omega⟩
  obtain ⟨y, rfl⟩ : ∃ y : Nat, b = (y : Int) := ⟨b.toNat, by omega⟩
  have hx : (x : Int).tmod 16 = ((x % 16 : Nat) : Int) := by rw [Int.tmod_eq_emod_of_nonneg (by omega)]; omega
  have hy : (y : Int).tmod 40 = ((y % 40 : Nat) : Int) := by rw [Int.tmod_eq_emod_of_nonneg (by omega)]; omega
  have KN := Lib.hid known_any
  have N0 := Lib.hid (new_K w w (Below.refl _ _))
  obtain ⟨k, hk⟩ : ∃ k, x % 16 = k := ⟨_, rfl⟩
  obtain ⟨n, hn⟩ : ∃ n, y % 40 + 1 = n := ⟨_, rfl⟩
  have hk16 : k < 16 := by omega
  have hn1 : 1 ≤ n := by omega
  have hn40 : n ≤ 40 := by omega
  have hn' := Lib.hid (show (1 : Int) + (y : Int) % 40 = (n : Int) by omega)
  have ST := Lib.hid (Evr.begin (n := n) hk16 hn1 (by omega))
  rw [hk] at hx
  go_enter Try.func6, Try.ntmps6
  go_wp2_with fail
  refine N0.out.mono ?_
  rintro e w1 ⟨rfl, q1, _⟩
  have Q1 := Lib.hid q1
  clear q1
  generalize w.heap.size = p at *
  go_wp2_with fail
  rw [hn'.out]
  have T := Lib.hid (Q1.out.every (k : Int) (n : Int))
  rw [ST.out.1] at T
  have E1 := Lib.hid ST.out.2
  refine T.out.mono ?_
  clear T ST Q1 hn' hx hy hk hn
  generalize (Ck.zero.start (k : Int) (n : Int) (n : Int)).1 = s1 at *
  rintro e w2 ⟨rfl, q2, _⟩
  have Q2 := Lib.hid q2
  clear q2
  go_wp2_with fail
  go_loopw [8, 9, 10, 11, 12, 13] (fun tv a1 a2 a3 a4 a5 wr => ∃ (t : Nat) (s : Ck), 1 ≤ t ∧ t ≤ 3 * n + 2 ∧ tv = .int .i64 (t : Int) ∧ Hid (KC w wr p s) ∧ Hid (Evr n k ((t - 1) % n) s)) (fun tv _ _ _ _ _ _ => 3 * n + 2 - (intOf tv).toNat)
  case atStart => exact ⟨1, s1, by omega, by omega, rfl, Q2, by simpa using E1⟩
  case round =>
    obtain ⟨t, s, ht1, ht2, rfl, hQ, hE⟩ := hrel
    clear Q2 E1
    by_cases hlt : t ≤ 3 * n + 1
    · have hlt' : (t : Int) ≤ 3 * (n : Int) + 1 := by omega
      have TK := Lib.hid (hE.out.tick hk16 (Nat.mod_lt _ (by omega)))
      have HE := Lib.hid (show Evr n k ((t + 1 - 1) % n) s.tick from by
        have := TK.out.2
        rw [← mod_step ht1 hn1] at this
        rw [Nat.add_sub_cancel]
        exact this)
      have LE := Lib.hid (show s.tick.left (k : Int) = (n : Int) - ((t % n : Nat) : Int) from by rw [left_nat _ hk16]; have := HE.out.l; rw [Nat.add_sub_cancel] at this; exact this)
      have NE := Lib.hid (show nx s.tick.l 16 = (n : Int) - ((t % n : Nat) : Int) from by have := HE.out.nx hk16 (Nat.mod_lt _ (by omega)); rw [Nat.add_sub_cancel] at this; exact this)
      have MS := Lib.hid (mod_step ht1 hn1)
      have nz : ((n : Int) == 0) = false := beq_eq_false_iff_ne.2 (by omega)
      have hmod0 := Lib.hid (show (t : Int).tmod (n : Int) = ((t % n : Nat) : Int) by rw [Int.tmod_eq_emod_of_nonneg (by omega)]; omega)
      obtain ⟨R, hR⟩ : ∃ R : Int, ((t % n : Nat) : Int) = R := ⟨_, rfl⟩
      have hR0 : 0 ≤ R ∧ R < (n : Int) := by have := Nat.mod_lt t (show 0 < n by omega); omega
      obtain ⟨hR0, hR1⟩ := hR0
      rw [hR] at LE NE hmod0
      by_cases e : (t - 1) % n + 1 = n
      · obtain rfl : R = 0 := by have := MS.out; rw [if_pos e] at this; omega
        have T := Lib.hid (show Calls Try.prog 25 #[at_ p] wr fun e w' => ∃ A c, e = .returned (.slice A 1 c) ∧ RdI .i64 w' w'.heap.size A [(k : Int)] ∧ KC w w' p s.tick from by
          have h1 := TK.out.1
          rw [if_pos e] at h1
          have := hQ.out.tick
          unfold TickK at this
          rw [h1] at this
          exact this.mono fun e w' ⟨A, c, a1, a2, _, a3, _⟩ => ⟨A, c, a1, a2, a3⟩)
        have LF := Lib.hid (fun W (h : KC w W p s.tick) => show Calls Try.prog 22 #[at_ p, .int .i64 (k : Int)] W fun e w' => e = .returned (.tuple #[.int .i64 (n : Int), .bool true]) ∧ W = w' from (h.left (k : Int)).mono fun e w' h => ⟨by rw [h.1, LE.out]; simp; omega, h.2⟩)
        have NF := Lib.hid (fun W (h : KC w W p s.tick) => show Calls Try.prog 28 #[at_ p] W fun e w' => e = .returned (.tuple #[.int .i64 (n : Int), .bool true]) ∧ KC w w' p s.tick ∧ Below W.heap.size W w' from h.nextc.mono fun e w' h => ⟨by rw [h.1, NE.out]; simp; omega, h.2⟩)
        have hmod := hmod0.out
        clear e hR hR0 hR1 LE NE TK
        go_wp2_with fail
        refine T.out.mono ?_
        rintro e w3 ⟨A3, c3, rfl, r3, q3⟩
        have Q3 := Lib.hid q3
        have R3 := Lib.hid r3
        have T2 := Lib.hid (LF.out _ q3)
        clear q3 r3 T hQ LF
        go_wp2_with fail
        refine T2.out.mono ?_
        rintro e w4 ⟨rfl, rfl⟩
        have T3 := Lib.hid (NF.out _ Q3.out)
        clear T2 NF
        go_wp2_with fail
        refine T3.out.mono ?_
        rintro e w5 ⟨rfl, q5, b5⟩
        have R5 := Lib.hid ((R3.out.below b5).mono b5.size)
        have Q6 := Lib.hid (fun j => (show KC w (w5.drewN j) p s.tick from ⟨below_drewN q5.b j, q5.c, q5.ge, q5.ok⟩))
        clear q5 b5 T3 Q3 R3
        obtain ⟨g, off, rfl, hg, c0'⟩ := R5.out.at_ (j := 0) (by simp)
        have c0 : w5.cell? ⟨g, off, none⟩ = some (.int .i64 (k : Int)) := by simpa using c0'
        clear c0'
        go_wp2_with fail
        go_quiet (fail)
        all_goals go_wp2_with fail
        all_goals go_roundw
        case rel => exact ⟨t + 1, s.tick, by omega, by omega, by go_num, Lib.hid (Q6.out _), HE⟩
        case measure => simp [intOf]; omega
      · have hRn : R ≠ 0 := by have := MS.out; rw [if_neg e] at this; omega
        have T := Lib.hid (show Calls Try.prog 25 #[at_ p] wr fun e w' => ∃ A c, e = .returned (.slice A 0 c) ∧ RdI .i64 w' w'.heap.size A [] ∧ KC w w' p s.tick from by
          have h1 := TK.out.1
          rw [if_neg e] at h1
          have := hQ.out.tick
          unfold TickK at this
          rw [h1] at this
          exact this.mono fun e w' ⟨A, c, a1, a2, _, a3, _⟩ => ⟨A, c, a1, a2, a3⟩)
        have LF := Lib.hid (fun W (h : KC w W p s.tick) => show Calls Try.prog 22 #[at_ p, .int .i64 (k : Int)] W fun e w' => e = .returned (.tuple #[.int .i64 ((n : Int) - R), .bool true]) ∧ W = w' from (h.left (k : Int)).mono fun e w' h => ⟨by rw [h.1, LE.out]; simp; omega, h.2⟩)
        have NF := Lib.hid (fun W (h : KC w W p s.tick) => show Calls Try.prog 28 #[at_ p] W fun e w' => e = .returned (.tuple #[.int .i64 ((n : Int) - R), .bool true]) ∧ KC w w' p s.tick ∧ Below W.heap.size W w' from h.nextc.mono fun e w' h => ⟨by rw [h.1, NE.out]; simp; omega, h.2⟩)
        have hmod := hmod0.out
        have hRb : (R == 0) = false := beq_eq_false_iff_ne.2 hRn
        clear e hR LE NE TK hRn
        go_wp2_with fail
        refine T.out.mono ?_
        rintro e w3 ⟨A3, c3, rfl, r3, q3⟩
        have Q3 := Lib.hid q3
        have R3 := Lib.hid r3
        have T2 := Lib.hid (LF.out _ q3)
        clear q3 r3 T hQ LF
        go_wp2_with fail
        refine T2.out.mono ?_
        rintro e w4 ⟨rfl, rfl⟩
        have T3 := Lib.hid (NF.out _ Q3.out)
        clear T2 NF
        go_wp2_with fail
        refine T3.out.mono ?_
        rintro e w5 ⟨rfl, q5, b5⟩
        have R5 := Lib.hid ((R3.out.below b5).mono b5.size)
        have Q6 := Lib.hid (fun j => (show KC w (w5.drewN j) p s.tick from ⟨below_drewN q5.b j, q5.c, q5.ge, q5.ok⟩))
        clear q5 b5 T3 Q3 R3
        go_wp2_with fail
        go_quiet (fail)
        all_goals go_wp2_with fail
        all_goals go_roundw
        case rel => exact ⟨t + 1, s.tick, by omega, by omega, by go_num, Lib.hid (Q6.out _), HE⟩
        case measure => simp [intOf]; omega
    · obtain rfl : t = 3 * n + 2 := by omega
      have hlt' : decide (((3 * n + 2 : Nat) : Int) ≤ 3 * (n : Int) + 1) = false := decide_eq_false (by omega)
      have S := Lib.hid (hE.out.stop hk16)
      have T := Lib.hid (hQ.out.stop (k : Int))
      clear hE hQ
      go_wp2_with fail
      refine T.out.mono ?_
      rintro e w3 ⟨rfl, q3, _⟩
      have Q3 := Lib.hid q3
      have T2 := Lib.hid (q3.left (k : Int))
      rw [S.out.1] at T2
      clear q3 T
      go_wp2_with fail
      refine T2.out.mono ?_
      rintro e w4 ⟨rfl, rfl⟩
      have T3 := Lib.hid Q3.out.tick
      unfold TickK at T3
      rw [S.out.2] at T3
      clear T2 Q3 S
      go_wp2_with fail
      refine T3.out.mono ?_
      rintro e w5 ⟨A5, c5, rfl, _, _, q5, _⟩
      have B5 := Lib.hid q5.b
      clear q5 T3
      go_wp2_with fail
      refine (KN.out _).mono ?_
      rintro e w6 ⟨rfl, b6⟩
      have B6 := Lib.hid (B5.out.trans (b6.mono B5.out.size))
      clear b6 B5
      go_wp2_with fail
      go_ret
      exact ⟨rfl, B6.out⟩

theorem own : ownKnob Try.prog.godebug = none := by kernel_rfl
theorem laidOut : laidOutB Try.prog = true := by kernel_rfl

set_option maxRecDepth 100000 in
theorem lifted (os : Os) (started : os.Started) (H : Type) (enc : TypeId × Value → H) :
    ReturnsInHanded {} Try.checked os 6 .any (Rows.clockEverySpec.pre6 enc Try.prog Try.f6 Rows.clockEveryRow.domain false) (Rows.clockEverySpec.post enc Try.prog Try.f6 false true false false) := by
  refine returnsInHanded_of_change (C := Try.checked) own started (by kernel_rfl) Try.func6
    (ChangeSpec.witness6 (enc := enc) (C := Try.checked) false ⟨#[], #[.int .u8 0, .int .u8 0], []⟩ 8 (by kernel_rfl) (by kernel_rfl) (by kernel_rfl) (by kernel_rfl)) ?_
  intro W base args ds gs before hval0 hW hcnd _
  have hval : ∀ (j : Nat) t v, Try.f6.params[j]? = some t → args[j]? = some v → Value.okWide Try.prog W .any base t v := hval0
  have hW' := hW
  obtain ⟨p, q, hA0, hV, rfl, hfz, hnd⟩ := hW
  have hA : DataW.TrodAll enc Try.prog W 0 (fun _ => true) true Try.f6.params.toList args.toList ds p := hA0
  rw [Try.params6] at hA hval
  obtain ⟨v0, vs0, d0, ds0, p0, q0, hargs, rfl, rfl, h0, r0⟩ := trodAll_cons hA
  obtain ⟨v1, vs1, d1, ds1, p1, q1, rfl, rfl, rfl, h1, r1⟩ := trodAll_cons r0
  obtain ⟨rfl, rfl, rfl⟩ := trodAll_nil r1
  obtain rfl : args = #[v0, v1] := by cases args; simp_all
  obtain ⟨rfl, rfl⟩ := trodVars_none hV
  obtain ⟨a0, rfl, rfl, rfl, w0⟩ := open_int Try.underlying5 (hval 0 5 v0 rfl rfl) h0
  obtain ⟨a1, rfl, rfl, rfl, w1⟩ := open_int Try.underlying5 (hval 1 5 v1 rfl rfl) h1
  clear hA0 hval0
  refine (walk a0 a1 W (Mem.wf_u8 w0) (Mem.wf_u8 w1)).mono fun e W' ⟨he, bel⟩ => ?_
  subst he
  exact ⟨_, rfl, _, _, _, [], _, [], hW', trodAll_mk1 (shut_bool Try.underlying4 _), (trodAll_cons_mk (shut_int Try.underlying5 w0) (trodAll_cons_mk (shut_int Try.underlying5 w1) trodAll_mk0)), rfl, bel.frame _, fun h => by cases h⟩

theorem over : Rows.clockEveryRow.holds Try.pinned (OpenSpec.ofChange Rows.clockEverySpec) :=
  OpenClaim.holds_of_wide 6 Try.f6 rfl rfl rfl rfl rfl rfl rfl ⟨rfl, rfl, rfl, rfl, rfl⟩ rfl rfl rfl rfl rfl (by kernel_rfl) Try.func6 (by kernel_rfl)
    (of_decide_eq_true (by kernel_rfl)) (by unfold Func.isWrapper; first | (rw [if_pos (by decide +kernel)]; kernel_rfl) | (rw [if_neg (by decide +kernel)]; exact ⟨rfl, rfl⟩))
    (fun os started H enc _ => lifted os started H enc)

/-- The given statement. -/
theorem proved : Rows.ClockEverySaid := over

end Go.Proofs.Ytlojomeofgnfjaa.clockEvery
