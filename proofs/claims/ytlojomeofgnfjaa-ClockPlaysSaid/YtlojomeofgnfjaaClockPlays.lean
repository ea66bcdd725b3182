/-
  Proved: ClockPlays, for whatever is set, stopped, asked and ticked: answers, and what runs out, are as the document says.
-/
import Derived.Test.YtlojomeofgnfjaaRows
import Derived.Test.YtlojomeofgnfjaaClkOps
import Derived.Test.YtlojomeofgnfjaaClkPlay
import Derived.Deep.CutRange
import Derived.Deep.CutBlock
import Derived.Deep.RegionHeld3
namespace Go.Proofs.Ytlojomeofgnfjaa.clockPlays
open Go.ChangeShapes Go.WideShapes Go.ChangeAt Go.RowKit Mem Clk
open Go.ChangeMaps (open_string shut_string)
set_option linter.unusedVariables false
set_option linter.unusedSimpArgs false
set_option maxRecDepth 100000

theorem lt_of {w : World} {g : Nat} {o : Obj} (h : w.heap[g]? = some o) : g < w.heap.size := (Array.getElem?_eq_some_iff.1 h).1
theorem new3 (W : World) (x y z : Value) (t : TypeId) : (W.alloc (.cells #[x, y, z] t)).cell? ⟨W.heap.size, 0, none⟩ = some x ∧ (W.alloc (.cells #[x, y, z] t)).cell? ⟨W.heap.size, 1, none⟩ = some y ∧ (W.alloc (.cells #[x, y, z] t)).cell? ⟨W.heap.size, 2, none⟩ = some z := by
  refine ⟨?_, ?_, ?_⟩ <;> simp [go_sem]

set_option maxHeartbeats 8000000 in
theorem walk (A : Option Addr) (c : Nat) (os : List OpV) (w : World)
    (hr : RdO w w.heap.size A os) (hm : os.length ≤ maxLen) (ho : ∀ j, j < os.length → (os.getD j OpV.zero).Ok) :
    Calls Try.prog 4 #[.slice A os.length c] w fun e w' => e = .returned (.bool true) ∧ Below w.heap.size w w' := by
  unfold maxLen at hm
  have KN := Lib.hid known_any
  have RD := Lib.hid (fun W (b : Below w.heap.size w W) => hr.below b)
  have N0 := Lib.hid (new_any w)
  clear hr ho
  go_enter Try.func4, Try.ntmps4
  go_wp2_with fail
  refine N0.out.mono ?_
  rintro e w1 ⟨rfl, q1, b1⟩
  have Q1 := Lib.hid q1
  have B1 := Lib.hid b1
  clear q1 b1 N0
  have P2 := Lib.hid (fun cs (h : cs = (List.replicate 32 (Value.int .i64 0)).toArray) => show PS w (w1.alloc (.cells cs RT)) w.heap.size w1.heap.size Ck.zero Ck.zero from
    ⟨B1.out.alloc B1.out.size _, Q1.out.alloc _, rzero w1 h, Nat.le_refl _, B1.out.size, .zero, .zero⟩)
  clear Q1 B1
  go_wp2_with fail
  have P3 := Lib.hid (P2.out _ rfl)
  clear P2
  generalize w1.heap.size = q at *
  generalize w.heap.size = p0 at P3
  go_loopw [3, 5] (fun pv iv wr => ∃ (k p : Nat) (x d : Ck), k ≤ os.length ∧ k ≤ 100 ∧ pv = at_ p ∧ iv = .int .i64 (k : Int) ∧ Hid (PS w wr p q x d) ∧ Hid (Clk.Alike x d)) (fun pv iv _ => os.length - (intOf iv).toNat)
  case atStart => exact ⟨0, p0, _, _, by omega, by omega, rfl, rfl, P3, Lib.hid Clk.Alike.zero⟩
  case round =>
    obtain ⟨k, p, x, d, hk, hk1, rfl, rfl, hP, hA⟩ := hrel
    clear P3
    by_cases hlt : k < os.length
    · by_cases h100 : k < 100
      · obtain ⟨g, off, hAd, hg, q0, q1, q2⟩ := (RD.out _ hP.out.b).three hlt rfl
        subst hAd
        have i0 : (0 : Int) ≤ (k : Int) := by omega
        have i1 : (k : Int) < (os.length : Int) := by omega
        generalize os.getD k OpV.zero = O at q0 q1 q2
        obtain ⟨x0, x1, x2⟩ := new3 wr (.int .i64 O.k) (.int .i64 O.n) (.int .i64 O.t) 46
        have X1 := Lib.hid (hP.out.new (.cells #[.int .i64 O.k, .int .i64 O.n, .int .i64 O.t] 46))
        have C10 := Lib.hid (heap_alloc_new wr (.cells #[.int .i64 O.k, .int .i64 O.n, .int .i64 O.t] 46))
        have CE := Lib.hid (fun (W : World) (h : W.heap[wr.heap.size]? = some (.cells #[.int .i64 O.k, .int .i64 O.n, .int .i64 O.t] 46 (0, 0))) => show W.cell? ⟨wr.heap.size, 0, none⟩ = some (.int .i64 O.k) ∧ W.cell? ⟨wr.heap.size, 1, none⟩ = some (.int .i64 O.n) ∧ W.cell? ⟨wr.heap.size, 2, none⟩ = some (.int .i64 O.t) from
          ⟨by simp [World.cell?, h], by simp [World.cell?, h], by simp [World.cell?, h]⟩)
        have NP := Lib.hid (show some wr.heap.size ≠ some p from fun e => by have := hP.out.ic.lt; injection e; omega)
        have S1 := Lib.hid (show wr.heap.size < (wr.alloc (.cells #[.int .i64 O.k, .int .i64 O.n, .int .i64 O.t] 46)).heap.size by simp)
        have d100 : decide ((k : Int) < 100) = true := by simp; omega
        go_upto_block 2 with fail
        generalize wr.alloc (.cells #[.int .i64 O.k, .int .i64 O.n, .int .i64 O.t] 46) = W1 at *
        go_cut [3, 7, 8, 9, 10, 11] from 34 to 135 (fun pv a1 a2 a3 a4 a5 wx => ∃ (p : Nat) (x d : Ck), pv = at_ p ∧ Hid (PS w wx p q x d) ∧ Hid (Clk.Alike x d))
        case first =>
              clear q0 q1 q2
              have hK : O.k = 0 ∨ O.k = 1 ∨ O.k = 2 ∨ O.k = 3 ∨ O.k = 4 ∨ (O.k ≠ 0 ∧ O.k ≠ 1 ∧ O.k ≠ 2 ∧ O.k ≠ 3 ∧ O.k ≠ 4) := by omega
              rcases hK with hK | hK | hK | hK | hK | ⟨h0, h1, h2, h3, h4⟩
              · rw [hK]
                have hE := (hA.out.start O.n O.t 0).1
                have AL := Lib.hid (hA.out.start O.n O.t 0).2
                have QP := Lib.hid (fun W x (P : PS w W p q x d) => P.set O.n O.t)
                have RP := Lib.hid (fun W x (P : PS w W p q x d) => P.rset O.n O.t)
                have X2 := Lib.hid (QP.out W1.drew x (X1.out.next (Below.refl _ _).drew))
                rw [← hE] at RP
                clear hE QP X1
                generalize (x.start O.n O.t 0).1 = x' at *
                generalize (d.start O.n O.t 0).1 = d' at *
                generalize (x.start O.n O.t 0).2 = E at *
                go_wp2_with fail
                go_region_law (first
                  | (go_simp; go_at_call 16; refine X2.out.mono ?_; rintro e w5 ⟨rfl, p5, g5⟩; have P5 := Lib.hid p5; have C5 := Lib.hid ((g5.block _ (lt_of C10.out) NP.out).trans C10.out); obtain ⟨n0, n1, n2⟩ := CE.out _ C5.out; clear p5 g5)
                  | (go_simp; go_at_call 17; refine (RP.out _ _ P5.out).mono ?_; rintro e w6 ⟨rfl, p6, g6⟩; have P6 := Lib.hid p6; clear p6 g6))
                all_goals
                  clear x0 x1 x2
                  go_wp2_with fail
                  go_meet
                  exact ⟨p, x', d', rfl, P6, AL⟩
              · rw [hK]
                have hE := (hA.out.start O.n O.t O.t).1
                have AL := Lib.hid (hA.out.start O.n O.t O.t).2
                have QP := Lib.hid (fun W x (P : PS w W p q x d) => P.every O.n O.t)
                have RP := Lib.hid (fun W x (P : PS w W p q x d) => P.revery O.n O.t)
                have X2 := Lib.hid (QP.out W1.drew x (X1.out.next (Below.refl _ _).drew))
                rw [← hE] at RP
                clear hE QP X1
                generalize (x.start O.n O.t O.t).1 = x' at *
                generalize (d.start O.n O.t O.t).1 = d' at *
                generalize (x.start O.n O.t O.t).2 = E at *
                go_wp2_with fail
                go_region_law (first
                  | (go_simp; go_at_call 18; refine X2.out.mono ?_; rintro e w5 ⟨rfl, p5, g5⟩; have P5 := Lib.hid p5; have C5 := Lib.hid ((g5.block _ (lt_of C10.out) NP.out).trans C10.out); obtain ⟨n0, n1, n2⟩ := CE.out _ C5.out; clear p5 g5)
                  | (go_simp; go_at_call 19; refine (RP.out _ _ P5.out).mono ?_; rintro e w6 ⟨rfl, p6, g6⟩; have P6 := Lib.hid p6; clear p6 g6))
                all_goals
                  clear x0 x1 x2
                  go_wp2_with fail
                  go_meet
                  exact ⟨p, x', d', rfl, P6, AL⟩
              · rw [hK]
                have T := Lib.hid (X1.out.stop O.n)
                have AL := Lib.hid (hA.out.stop O.n)
                clear X1
                go_wp2_with fail
                refine T.out.mono ?_
                rintro e w2 ⟨rfl, p2, g2⟩
                have C2 := Lib.hid ((g2.block _ (lt_of C10.out) NP.out).trans C10.out)
                have T2 := Lib.hid (p2.rstop O.n)
                obtain ⟨n0, n1, n2⟩ := CE.out _ C2.out
                clear p2 T x0 x1 x2 g2
                go_wp2_with fail
                refine T2.out.mono ?_
                rintro e w3 ⟨rfl, p3⟩
                have P4 := Lib.hid p3
                clear p3 T2
                go_wp2_with fail
                go_meet
                exact ⟨p, _, _, rfl, P4, AL⟩
              · rw [hK]
                have T := Lib.hid (left_any X1.out.ic O.n)
                have T2 := Lib.hid (rhas_any X1.out.ir X1.out.okd O.n)
                rw [hA.out.left O.n] at T2
                generalize x.left O.n = y at *
                go_wp2_with fail
                refine T.out.mono ?_
                rintro e w2 ⟨rfl, rfl⟩
                go_wp2_with fail
                refine T2.out.mono ?_
                rintro e w3 ⟨rfl, rfl⟩
                clear T T2
                go_wp2_with fail
                go_meet
                exact ⟨p, x, d, rfl, X1, hA⟩
              · rw [hK]
                have T := Lib.hid X1.out.copy
                clear X1
                go_wp2_with fail
                refine T.out.mono ?_
                rintro e w2 ⟨rfl, p2, i2⟩
                have I2 := Lib.hid i2
                have OKX := Lib.hid p2.ok
                have NE := Lib.hid (show some W1.heap.size ≠ some p from fun e => by have := hP.out.ic.lt; have := S1.out; injection e; omega)
                have GE := Lib.hid (show w.heap.size ≤ W1.heap.size from by have := hP.out.b.size; have := S1.out; omega)
                have T2 := Lib.hid (p2.set 0 1)
                clear p2 T i2
                go_wp2_with fail
                refine T2.out.mono ?_
                rintro e w3 ⟨rfl, p3, g3⟩
                have I3 := Lib.hid (I2.out.grown g3 NE.out)
                have T3 := Lib.hid p3.tick
                clear p3 g3 I2 T2
                go_wp2_with fail
                refine T3.out.mono ?_
                rintro e w4 ⟨A4, k4, rfl, _, p4, g4⟩
                have P5 := Lib.hid (p4.turn (I3.out.grown g4 NE.out) OKX.out GE.out)
                clear p4 g4 I3 T3
                go_wp2_with fail
                go_meet
                exact ⟨W1.heap.size, x, d, rfl, P5, hA⟩
              · have b0 : (O.k == 0) = false := by simpa using h0
                have b1 : (O.k == 1) = false := by simpa using h1
                have b2 : (O.k == 2) = false := by simpa using h2
                have b3 : (O.k == 3) = false := by simpa using h3
                have b4 : (O.k == 4) = false := by simpa using h4
                have T := Lib.hid X1.out.tick
                have AL := Lib.hid hA.out.tick
                have HO := Lib.hid hA.out.outs
                clear x0 x1 x2 h0 h1 h2 h3 h4 X1
                go_wp2_with fail
                refine T.out.mono ?_
                rintro e w2 ⟨A2, k2, rfl, l2, p2, g2⟩
                have T2 := Lib.hid p2.rtick
                rw [HO.out] at T2
                have L2 := Lib.hid l2
                clear p2 T l2 g2
                go_wp2_with fail
                refine T2.out.mono ?_
                rintro e w3 ⟨A3, k3, rfl, r3, p3, g3⟩
                have P4 := Lib.hid p3
                have IN := Lib.hid (ints_same A2 k2 (outs x.l 16) A3 k3 w3 (L2.out.ch g3).r r3 (outs_len _) (fun _ h => outs_bd h))
                clear p3 T2 r3 g3 L2
                go_wp2_with fail
                refine IN.out.mono ?_
                rintro e w4 ⟨rfl, b4'⟩
                have P5 := Lib.hid (P4.out.next b4')
                clear b4' P4 IN
                go_wp2_with fail
                go_meet
                exact ⟨p, _, _, rfl, P5, AL⟩
        obtain ⟨p', x', d', rfl, hQ, hA'⟩ := hcut
        clear hP hA X1 C10 S1 x0 x1 x2 q0 q1 q2 NP CE
        have T := Lib.hid hQ.out.nextc
        have hn := hA'.out.nx
        clear hQ
        go_wp2_with fail
        refine T.out.mono ?_
        rintro e w2 ⟨rfl, p2⟩
        have T2 := Lib.hid (rnext_any p2.ir p2.okd)
        rw [hn] at T2
        have P2 := Lib.hid p2
        clear p2 T hn
        generalize nx x'.l 16 = m at *
        go_wp2_with fail
        refine T2.out.mono ?_
        rintro e w3 ⟨rfl, rfl⟩
        clear T2
        go_wp2_with fail
        go_roundw
        case rel => exact ⟨k + 1, p', x', d', by omega, by omega, rfl, by go_num, P2, hA'⟩
        case measure => simp [intOf]; omega
      · obtain rfl : k = 100 := by omega
        have d1 : decide (((100 : Nat) : Int) < (os.length : Int)) = true := by simp; omega
        go_wp2_with fail
        refine (KN.out _).mono ?_
        rintro e w2 ⟨rfl, b2⟩
        have B2 := Lib.hid (hP.out.b.trans (b2.mono hP.out.b.size))
        clear b2
        go_wp2_with fail
        go_ret
        exact ⟨rfl, B2.out⟩
    · obtain rfl : k = os.length := by omega
      go_wp2_with fail
      refine (KN.out _).mono ?_
      rintro e w2 ⟨rfl, b2⟩
      have B2 := Lib.hid (hP.out.b.trans (b2.mono hP.out.b.size))
      clear b2
      go_wp2_with fail
      go_ret
      exact ⟨rfl, B2.out⟩

theorem own : ownKnob Try.prog.godebug = none := by kernel_rfl
theorem laidOut : laidOutB Try.prog = true := by kernel_rfl

set_option maxRecDepth 100000 in
theorem lifted (os : Os) (started : os.Started) (H : Type) (enc : TypeId × Value → H) :
    ReturnsInHanded {} Try.checked os 4 .any (Rows.clockPlaysSpec.pre6 enc Try.prog Try.f4 Rows.clockPlaysRow.domain false) (Rows.clockPlaysSpec.post enc Try.prog Try.f4 false true false false) := by
  refine returnsInHanded_of_change (C := Try.checked) own started (by kernel_rfl) Try.func4
    (ChangeSpec.witness6 (enc := enc) (C := Try.checked) false ⟨#[], #[.slice none 0 0], []⟩ 8 (by kernel_rfl) (by kernel_rfl) (by kernel_rfl) (by kernel_rfl)) ?_
  intro W base args ds gs before hval0 hW hcnd _
  have hval : ∀ (j : Nat) t v, Try.f4.params[j]? = some t → args[j]? = some v → Value.okWide Try.prog W .any base t v := hval0
  have hW' := hW
  obtain ⟨p, q, hA0, hV, rfl, hfz, hnd⟩ := hW
  have hA : DataW.TrodAll enc Try.prog W 0 (fun _ => true) true Try.f4.params.toList args.toList ds p := hA0
  rw [Try.params4] at hA hval
  obtain ⟨v0, vs0, d0, ds0, p0, q0, hargs, rfl, rfl, h0, r0⟩ := trodAll_cons hA
  obtain ⟨rfl, rfl, rfl⟩ := trodAll_nil r0
  obtain rfl : args = #[v0] := by cases args; simp_all
  obtain ⟨rfl, rfl⟩ := trodVars_none hV
  have k0 := h0
  have lt0 : ∀ x ∈ p0, x.block < W.heap.size := by obtain ⟨m, hm⟩ := k0; exact DataW.trod_lt m _ _ _ hm
  obtain ⟨A0, c0, o0, rfl, w0, l0, z0⟩ := Clk.open_ops (hval 0 38 v0 rfl rfl) h0
  clear hA0 hval0
  refine (walk A0 c0 o0 W w0 l0 z0).mono fun e W' ⟨he, bel⟩ => ?_
  subst he
  exact ⟨_, rfl, _, _, _, [], _, [], hW', trodAll_mk1 (shut_bool Try.underlying4 _), (trodAll_cons_mk (Below.trod laidOut (by kernel_rfl) (of_decide_eq_true (by kernel_rfl)) k0 bel lt0) trodAll_mk0), rfl, bel.frame _, fun h => by cases h⟩

theorem over : Rows.clockPlaysRow.holds Try.pinned (OpenSpec.ofChange Rows.clockPlaysSpec) :=
  OpenClaim.holds_of_wide 4 Try.f4 rfl rfl rfl rfl rfl rfl rfl ⟨rfl, rfl, rfl, rfl, rfl⟩ rfl rfl rfl rfl rfl (by kernel_rfl) Try.func4 (by kernel_rfl)
    (of_decide_eq_true (by kernel_rfl)) (by unfold Func.isWrapper; first | (rw [if_pos (by decide +kernel)]; kernel_rfl) | (rw [if_neg (by decide +kernel)]; exact ⟨rfl, rfl⟩))
    (fun os started H enc _ => lifted os started H enc)

/-- The given statement. -/
theorem proved : Rows.ClockPlaysSaid := over

end Go.Proofs.Ytlojomeofgnfjaa.clockPlays
