/-
  Proved: JournalWork, for any sizes: an Append takes at most one erasing, and as many bytes as its record has.
-/
import Derived.Test.YtppjjdaejhilkaaRows
import Derived.Test.YtppjjdaejhilkaaLift
import Derived.Test.YtppjjdaejhilkaaJouData
import Derived.Test.YtppjjdaejhilkaaJouRun
namespace Go.Proofs.Ytppjjdaejhilkaa.journalWork
open Go.ChangeShapes Go.WideShapes Go.ChangeAt Go.RowKit Mem Fla Rec Jou
open Go.ChangeMaps (open_string shut_string)
set_option linter.unusedVariables false

set_option maxRecDepth 100000 in
set_option maxHeartbeats 4000000 in
theorem walk (A : Option Addr) (c : Nat) (zs : List Int) (w : World)
    (hr : RdI .u16 w w.heap.size A zs) (hm : zs.length ≤ maxLen) (hz : ∀ z ∈ zs, (Lit.int .u16 z).wf = true) :
    Calls Try.prog 5 #[.slice A zs.length c] w fun e w' => e = .returned (.bool true) ∧ Below w.heap.size w w' := by
  have HN := Lib.hid (fun W => Fla.new_yes 4 1000 (by omega) (by omega) (by omega) (by omega) W)
  have e0 : List.replicate (4 * 1024) (255 : UInt8) = blankN 4 := rfl
  rw [e0] at HN
  have W0 := Lib.hid (WI.start 4 (by omega) (by omega))
  have HO := Lib.hid (fun W p D c (S : LS w W p D c (Fl.new (blankN 4) 1000)) => (open_ok S.i rfl (by show 3 ≤ nsec (blankN 4); rw [nsec_blank]; omega)).mono (fun e w' h => opened S h))
  have HK := Lib.hid (fun W => Jou.known_any W)
  generalize Fl.new (blankN 4) 1000 = s0 at *
  clear e0
  go_enter Try.func5, Try.ntmps5
  go_wp2_with fail
  refine (HN.out _).mono ?_
  intro e w1 h1
  obtain ⟨p, rfl, S⟩ := ls_new h1
  have S := Lib.hid S
  clear h1
  generalize w.heap.size = D at S
  go_wp2_with fail
  refine (HO.out _ _ _ _ S.out).mono ?_
  rintro e w2 ⟨rfl, S⟩
  have S := Lib.hid S
  generalize w1.heap.size = q at S ⊢
  go_wp2_with fail
  go_loopw [6] (fun i wr => ∃ (k : Nat) (s : Fl), k ≤ zs.length ∧ k ≤ 30 ∧ i = .int .i64 (k : Int) ∧ JS w wr q (q + 1) p D (4 * 1024) s ∧ WI 4 s k) (fun i _ => 30 - (intOf i).toNat)
  case atStart => exact ⟨0, s0, by omega, by omega, rfl, S.out, W0.out⟩
  case round =>
    obtain ⟨k, s, hkz, hk30, rfl, S, WK⟩ := hrel
    have S := Lib.hid S
    by_cases hlt : k < zs.length
    · by_cases h30 : k < 30
      · obtain ⟨g, off, rfl, hg, hc⟩ := hr.at_ hlt
        have hzc := (S.out.b.cell (p := ⟨g, off + k, none⟩) hg).trans hc
        have hzw := Mem.wf_u16 (hz (zs.getD k 0) (by simp [hlt]))
        generalize zs.getD k 0 = z at *
        have HD := Lib.hid (fun W => dataZ_any (z % 961) 0 (by omega) (by omega) (by omega) (by omega) k (by omega) W)
        go_wp2_with fail
        refine (HD.out _).mono ?_
        rintro e w3 ⟨v, bs, rfl, hbl, o, b⟩
        have hL3 := S.out.j.fsize
        have S := Lib.hid (S.out.next b)
        have hbs : bs.length ≤ 960 := by rw [hbl]; omega
        obtain ⟨Ab, cb, rfl, _⟩ := o.form
        have S : Hid (JB w w3 q (q + 1) p D (4 * 1024) s Ab cb bs) := Lib.hid ⟨S.out, o.lower hL3⟩
        clear o b HD hzc hbl hL3
        have H1 := Lib.hid (S.out.same (fops_any S.out.j.j.fl))
        obtain ⟨b0, b1, b2, b3, hsum⟩ := WK.worn (by omega)
        have HW := Lib.hid (fun W (S : JB w W q (q + 1) p D (4 * 1024) s Ab cb bs) (j : Int) => S.same (fworn_any j S.j.j.fl))
        have hob := S.out.j.j.fl.ok.o0
        have hob1 : s.ops ≤ 30000 := by have := WK.ops; omega
        have HA := Lib.hid (fun W (S : JB w W q (q + 1) p D (4 * 1024) s Ab cb bs) => (append_any 1 Ab cb bs (by omega) (by omega) S.j.j S.rd (by omega) (by omega)).mono (fun e w' h => by
          obtain ⟨h1, h2, h3, h4⟩ := S.lay h
          obtain ⟨st1, st2⟩ := WK.step (by omega) (by omega) (by omega) hbs h2.i.ok
          exact (⟨h1.trans (by rw [st1]), h4 (by rw [st1]; decide), st2⟩ : e = .returned (.int .i64 0) ∧ JB w w' q (q + 1) p D (4 * 1024) (app s 1 bs).1 Ab cb bs ∧ _)))
        have WKs := Lib.hid WK
        clear WK
        generalize (app s 1 bs).1 = s' at *
        obtain ⟨y0, hy0⟩ : ∃ y, s.worn 0 = y := ⟨_, rfl⟩
        obtain ⟨y1, hy1⟩ : ∃ y, s.worn 1 = y := ⟨_, rfl⟩
        obtain ⟨y2, hy2⟩ : ∃ y, s.worn 2 = y := ⟨_, rfl⟩
        obtain ⟨y3, hy3⟩ : ∃ y, s.worn 3 = y := ⟨_, rfl⟩
        rw [hy0, hy1, hy2, hy3] at hsum
        rw [hy0] at b0
        rw [hy1] at b1
        rw [hy2] at b2
        rw [hy3] at b3
        have HW0 := Lib.hid (fun W S => hy0 ▸ HW.out W S 0)
        have HW1 := Lib.hid (fun W S => hy1 ▸ HW.out W S 1)
        have HW2 := Lib.hid (fun W S => hy2 ▸ HW.out W S 2)
        have HW3 := Lib.hid (fun W S => hy3 ▸ HW.out W S 3)
        have HSUM := Lib.hid hsum
        clear hy0 hy1 hy2 hy3 HW hsum
        go_wp2_with fail
        refine H1.out.mono ?_
        rintro e w4 ⟨rfl, S⟩
        have S := Lib.hid S
        go_wp2_with fail
        refine (HW0.out _ S.out).mono ?_
        rintro e w4 ⟨rfl, S⟩
        have S := Lib.hid S
        go_wp2_with fail
        refine (HW1.out _ S.out).mono ?_
        rintro e w4 ⟨rfl, S⟩
        have S := Lib.hid S
        go_wp2_with fail
        refine (HW2.out _ S.out).mono ?_
        rintro e w4 ⟨rfl, S⟩
        have S := Lib.hid S
        go_wp2_with fail
        refine (HW3.out _ S.out).mono ?_
        rintro e w4 ⟨rfl, S⟩
        have S := Lib.hid S
        go_wp2_with fail
        refine (HA.out _ S.out).mono ?_
        clear S
        rintro e w5 ⟨rfl, S, WK, hn, ht, hd, x, hx, hox, hsx⟩
        have S := Lib.hid S
        clear HA HW0 HW1 HW2 HW3 H1
        obtain ⟨d0, d1, d2, d3, dsum⟩ := WK.worn (by omega)
        have HW := Lib.hid (fun W (S : JB w W q (q + 1) p D (4 * 1024) s' Ab cb bs) (j : Int) => S.same (fworn_any j S.j.j.fl))
        have H1 := Lib.hid (fun W (S : JB w W q (q + 1) p D (4 * 1024) s' Ab cb bs) => S.same (fops_any S.j.j.fl))
        have HL := Lib.hid (fun W (S : JB w W q (q + 1) p D (4 * 1024) s' Ab cb bs) => last_any S.j.j)
        rw [hn] at HL
        generalize tell s'.bs = t at *
        obtain ⟨tk, tn, td, tc, te⟩ := t
        simp only at ht hd HL
        subst ht hd
        obtain ⟨v0, hv0⟩ : ∃ y, s'.worn 0 = y := ⟨_, rfl⟩
        obtain ⟨v1, hv1⟩ : ∃ y, s'.worn 1 = y := ⟨_, rfl⟩
        obtain ⟨v2, hv2⟩ : ∃ y, s'.worn 2 = y := ⟨_, rfl⟩
        obtain ⟨v3, hv3⟩ : ∃ y, s'.worn 3 = y := ⟨_, rfl⟩
        rw [hv0, hv1, hv2, hv3] at dsum
        rw [hv0] at d0
        rw [hv1] at d1
        rw [hv2] at d2
        rw [hv3] at d3
        have HW0 := Lib.hid (fun W S => hv0 ▸ HW.out W S 0)
        have HW1 := Lib.hid (fun W S => hv1 ▸ HW.out W S 1)
        have HW2 := Lib.hid (fun W S => hv2 ▸ HW.out W S 2)
        have HW3 := Lib.hid (fun W S => hv3 ▸ HW.out W S 3)
        have hall : v0 + v1 + v2 + v3 = y0 + y1 + y2 + y3 + x := by have := HSUM.out; omega
        rw [hox] at H1
        have hob2 : s.ops + (13 + td.length) + x ≤ 40000 := by omega
        have hall := Lib.hid hall
        have WKs := Lib.hid WK
        clear hv0 hv1 hv2 hv3 HW dsum hsx HSUM hn WK
        go_wp2_with fail
        refine (H1.out _ S.out).mono ?_
        clear S
        rintro e w4 ⟨rfl, S⟩
        have S := Lib.hid S
        go_wp2_with fail
        refine (HW0.out _ S.out).mono ?_
        clear S
        rintro e w4 ⟨rfl, S⟩
        have S := Lib.hid S
        go_wp2_with fail
        refine (HW1.out _ S.out).mono ?_
        clear S
        rintro e w4 ⟨rfl, S⟩
        have S := Lib.hid S
        go_wp2_with fail
        refine (HW2.out _ S.out).mono ?_
        clear S
        rintro e w4 ⟨rfl, S⟩
        have S := Lib.hid S
        go_wp2_with fail
        refine (HW3.out _ S.out).mono ?_
        clear S
        rintro e w4 ⟨rfl, S⟩
        have S := Lib.hid S
        go_wp2_with fail
        refine (HL.out _ S.out).mono ?_
        rintro e w6 ⟨v, rfl, o, b⟩
        have S := Lib.hid (S.out.next b)
        obtain ⟨A6, c6, rfl, r6⟩ := o.form
        have hbR := below1 w6 (.cells #[.int .i64 tk, .int .u32 ((k : Int) + 1), .slice A6 td.length c6] 32)
        have S := Lib.hid (S.out.next hbR)
        have s6 := run_str (r6.below hbR) td.length c6 rfl 30 5 9 Try.underlying30 Try.underlying5 Try.underlying9
        have s7 := run_str S.out.rd td.length cb rfl 30 5 9 Try.underlying30 Try.underlying5 Try.underlying9
        clear o b r6 hbR
        go_wp2_with fail
        go_roundw
        case rel => exact ⟨k + 1, s', by omega, by omega, by go_num, S.out.j, WKs.out⟩
        case measure => simp [intOf]; omega
      · obtain rfl : k = 30 := by omega
        go_wp2_with fail
        refine (HK.out _).mono ?_
        rintro e w3 ⟨rfl, b⟩
        have B := S.out.b.trans (b.mono S.out.b.size)
        go_wp2_with fail
        go_ret
        exact ⟨rfl, B⟩
    · obtain rfl : k = zs.length := by omega
      go_wp2_with fail
      refine (HK.out _).mono ?_
      rintro e w3 ⟨rfl, b⟩
      have B := S.out.b.trans (b.mono S.out.b.size)
      go_wp2_with fail
      go_ret
      exact ⟨rfl, B⟩

theorem own : ownKnob Try.prog.godebug = none := by kernel_rfl
theorem laidOut : laidOutB Try.prog = true := by kernel_rfl

set_option maxRecDepth 100000 in
theorem lifted (os : Os) (started : os.Started) (H : Type) (enc : TypeId × Value → H) :
    ReturnsInHanded {} Try.checked os 5 .any (Rows.journalWorkSpec.pre6 enc Try.prog Try.f5 Rows.journalWorkRow.domain false) (Rows.journalWorkSpec.post enc Try.prog Try.f5 false true false false) := by
  refine returnsInHanded_of_change (C := Try.checked) own started (by kernel_rfl) Try.func5
    (ChangeSpec.witness6 (enc := enc) (C := Try.checked) false ⟨#[], #[.slice none 0 0], []⟩ 8 (by kernel_rfl) (by kernel_rfl) (by kernel_rfl) (by kernel_rfl)) ?_
  intro W base args ds gs before hval0 hW hcnd _
  have hval : ∀ (j : Nat) t v, Try.f5.params[j]? = some t → args[j]? = some v → Value.okWide Try.prog W .any base t v := hval0
  have hW' := hW
  obtain ⟨p, q, hA0, hV, rfl, hfz, hnd⟩ := hW
  have hA : DataW.TrodAll enc Try.prog W 0 (fun _ => true) true Try.f5.params.toList args.toList ds p := hA0
  rw [Try.params5] at hA hval
  obtain ⟨v0, vs0, d0, ds0, p0, q0, hargs, rfl, rfl, h0, r0⟩ := trodAll_cons hA
  obtain ⟨rfl, rfl, rfl⟩ := trodAll_nil r0
  obtain rfl : args = #[v0] := by cases args; simp_all
  obtain ⟨rfl, rfl⟩ := trodVars_none hV
  have k0 := h0
  have lt0 : ∀ x ∈ p0, x.block < W.heap.size := by obtain ⟨m, hm⟩ := k0; exact DataW.trod_lt m _ _ _ hm
  obtain ⟨A0, c0, b0, rfl, w0, l0, z0⟩ := Mem.open_intl Try.underlying54 Try.underlying35 (by kernel_rfl) (hval 0 54 v0 rfl rfl) h0
  clear hA0 hval0
  refine (walk A0 c0 b0 W w0 l0 z0).mono fun e W' ⟨he, bel⟩ => ?_
  subst he
  exact ⟨_, rfl, _, _, _, [], _, [], hW', trodAll_mk1 (shut_bool Try.underlying4 _), (trodAll_cons_mk (Below.trod laidOut (by kernel_rfl) (of_decide_eq_true (by kernel_rfl)) k0 bel lt0) trodAll_mk0), rfl, bel.frame _, fun h => by cases h⟩

theorem over : Rows.journalWorkRow.holds Try.pinned (OpenSpec.ofChange Rows.journalWorkSpec) :=
  OpenClaim.holds_of_wide 5 Try.f5 rfl rfl rfl rfl rfl rfl rfl ⟨rfl, rfl, rfl, rfl, rfl⟩ rfl rfl rfl rfl rfl (by kernel_rfl) Try.func5 (by kernel_rfl)
    (of_decide_eq_true (by kernel_rfl)) (by unfold Func.isWrapper; first | (rw [if_pos (by decide +kernel)]; kernel_rfl) | (rw [if_neg (by decide +kernel)]; exact ⟨rfl, rfl⟩))
    (fun os started H enc _ => lifted os started H enc)

/-- The given statement. -/
theorem proved : Rows.JournalWorkSaid := over

end Go.Proofs.Ytppjjdaejhilkaa.journalWork
