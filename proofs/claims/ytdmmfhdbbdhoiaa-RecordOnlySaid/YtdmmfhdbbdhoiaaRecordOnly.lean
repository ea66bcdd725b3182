/-
  Proved: RecordOnly, for any bytes and any place: whatever is read as a record has just the bytes that it is laid down in; what is none is told as nothing.
-/
import Derived.Test.YtdmmfhdbbdhoiaaRows
import Derived.Test.YtdmmfhdbbdhoiaaRecLift
import Derived.Test.YtdmmfhdbbdhoiaaRecKnown
import Derived.Test.YtdmmfhdbbdhoiaaRecLaid
import Derived.Test.YtdmmfhdbbdhoiaaOctAux
import Derived.Test.YtdmmfhdbbdhoiaaText
import Derived.Test.YtdmmfhdbbdhoiaaRecRParse
import Derived.Deep.RegionHeld
namespace Go.Proofs.Ytdmmfhdbbdhoiaa.recordOnly
open Go.ChangeShapes Go.WideShapes Go.ChangeAt Go.RowKit Mem Rec
open Go.ChangeMaps (open_string shut_string)
set_option linter.unusedVariables false

set_option maxRecDepth 100000 in
set_option maxHeartbeats 1000000 in
theorem walk (A : Option Addr) (c : Nat) (bs : List UInt8) (at_ : Int) (w : World) (hr : Rd w w.heap.size A bs) (hm : bs.length ≤ maxLen) (hz : bs.length ≤ c ∧ c ≤ maxLen) (ha : -9223372036854775808 ≤ at_ ∧ at_ ≤ 9223372036854775807) :
    Calls Try.prog 6 #[.slice A bs.length c, .int .i64 at_] w fun e w' => e = .returned (.bool true) ∧ Below w.heap.size w w' := by
  by_cases h20 : 10000 < bs.length
  · go_enter Try.func6, Try.ntmps6
    go_wp2_with fail
    refine (known_any _).mono ?_
    rintro e w' ⟨rfl, hb⟩
    go_wp2_with fail
    go_ret
    exact ⟨rfl, hb⟩
  · obtain ⟨P, hP⟩ : ∃ P, parseA bs at_ = P := ⟨_, rfl⟩
    have hone := fun h => parse_only (bs := bs) (at_ := at_) h
    have hnone := fun h => parse_none (bs := bs) (at_ := at_) h
    have hDl := parse_len (bs := bs) (at_ := at_)
    rw [hP] at hone hnone hDl
    obtain ⟨K, M, D, TO, E⟩ := P
    simp only at hone hnone hDl
    have HP := Lib.hid hP
    have HO := Lib.hid hone
    have HNo := Lib.hid hnone
    have HZ := Lib.hid hz
    clear hP hone hnone hz hm
    have hK := parse_bd (bs := bs) (at_ := at_)
    rw [HP.out] at hK
    simp only at hK
    by_cases hE : E = 0
    · obtain ⟨a, rfl, e1, e2, e3, e4⟩ := HO.out hE
      subst hE
      obtain ⟨tt, htt⟩ : ∃ tt, a + (13 + D.length) = tt := ⟨_, rfl⟩
      rw [htt] at e2 e3
      subst e2
      obtain ⟨g, off, rfl, _, _⟩ := hr.at_ (k := 0) (by omega)
      have hP := fun (W : World) (h : Rd W w.heap.size (some ⟨g, off, none⟩) bs) => h.part (i := a) (m := 13 + D.length) (by omega)
      rw [e4] at hP
      have hbl := build_length K M D
      generalize hY : build K M D = Y at *
      have HY := Lib.hid hY
      obtain ⟨m, hm⟩ : ∃ m, 13 + D.length = m := ⟨_, rfl⟩
      have hbl' : Y.length = m := by omega
      have hta := Lib.hid (show tt - a = m by omega)
      have HBL := Lib.hid hbl'
      have PT := Lib.hid hP
      have k1 : (0 : Int) ≤ (a : Int) := by omega
      have k2 : (a : Int) ≤ (tt : Int) := by omega
      have k3 : (tt : Int) ≤ (c : Int) := by have := HZ.out.1; omega
      have k4 : IntKind.i64.wrap ((tt : Int) - (a : Int)) = (m : Int) := by
        rw [show (tt : Int) - (a : Int) = (m : Int) by omega]
        rw [IntKind.wrap_i64]
        omega
      have k5 : (tt : Int) ≤ (bs.length : Int) := by omega
      have k6 : ¬ c = a := by have := HZ.out.1; omega
      clear e4 HNo HO hY hP hbl hbl' hm htt
      go_enter Try.func6, Try.ntmps6
      go_wp2_with fail
      refine (parse_any (some ⟨g, off, none⟩) _ c a bs w hr rfl (by omega) HZ.out.1 HZ.out.2 ha.1 ha.2).mono ?_
      rw [HP.out]
      rintro e w2 ⟨v2, rfl, o2, b2⟩
      obtain ⟨A2, c2, rfl, r2⟩ := o2.form
      have b2x := below1 w2 (.cells #[.int .i64 K, .int .u32 M, .slice A2 D.length c2] 25)
      have b2' := b2.alloc b2.size (.cells #[.int .i64 K, .int .u32 M, .slice A2 D.length c2] 25)
      have hr2 := hr.below b2'
      have r2' := (r2.below b2x).mono b2x.size
      clear r2 b2x
      go_wp2_with fail
      refine (build_ok K M A2 c2 D _ r2' (by omega) (by omega) (by omega) (by omega) (by omega) e1).mono ?_
      rw [HY.out]
      rintro e w3 ⟨v3, rfl, o3, b3⟩
      have B3 := b2'.trans (b3.mono b2'.size)
      obtain ⟨A3, c3, rfl, r3⟩ := o3.form_n HBL.out
      have hr3 := hr.below B3
      clear hr2 b3 o3 o2 b2'
      go_wp2_with fail
      have H3 := Lib.hid r3
      have HR := Lib.hid hr3
      have HB := Lib.hid B3
      have z3 := Lib.hid B3.size
      clear r3 hr3 B3
      refine Txt.wp_region_textN 34 (fun W => Below w3.heap.size w3 W) (by kernel_rfl) (by kernel_rfl) (by kernel_rfl) (by kernel_rfl) (fun _ _ _ _ _ h => h) (Below.refl _ _).drew ?_
      repeat (
        apply Txt.step rfl
        · intro W hS K hK
          have s1 := run_str (PT.out W (HR.out.below (hS.mono z3.out))) (tt - a) (c - a) (hta.out.trans HBL.out.symm) 23 5 9 Try.underlying23 Try.underlying5 Try.underlying9
          have s2 := run_str (H3.out.below hS) m c3 HBL.out.symm 23 5 9 Try.underlying23 Try.underlying5 Try.underlying9
          have HS := Lib.hid hS
          clear hS
          go_simp
          first
            | exact hK.out _ HS.out
            | (go_wp2_with (first
                | (go_at_call 9; refine (known_any _).mono ?_; rintro e w' ⟨rfl, b⟩; have S := Lib.hid (HS.out.trans (b.mono HS.out.size)); clear b));
               exact hK.out _ S.out)
        · first | exact ⟨_, rfl⟩ | exact ⟨undef, rfl⟩)
      refine Txt.last fun W hS => ?_
      have B4 := Lib.hid (HB.out.trans (hS.mono z3.out))
      clear hS
      go_wp2_with fail
      go_ret
      exact ⟨rfl, B4.out⟩
    · have hN := HNo.out hE
      simp only [none_, Out.mk.injEq] at hN
      obtain ⟨rfl, rfl, rfl, rfl, _⟩ := hN
      clear HNo HO
      have hEb : (E != 0) = true := by simp [hE]
      go_enter Try.func6, Try.ntmps6
      go_wp2_with fail
      refine (parse_any A _ c at_ bs w hr rfl (by omega) HZ.out.1 HZ.out.2 ha.1 ha.2).mono ?_
      rw [HP.out]
      rintro e w2 ⟨v2, rfl, o2, b2⟩
      obtain ⟨A2, c2, rfl, r2⟩ := o2.form
      go_wp2_with fail
      have b2' := b2.alloc b2.size (.cells #[.int .i64 0, .int .u32 0, .slice A2 0 c2] 25)
      refine (same_any 0 0 0 0 A2 none c2 0 0 [] [] _ Rd.nil Rd.nil (Nat.zero_le _)).mono ?_
      rintro e w3 ⟨rfl, b3⟩
      have B3 := b2'.trans (b3.mono b2'.size)
      rw [show sameB 0 0 [] 0 0 [] = true from rfl]
      go_wp2_with fail
      refine (known_any _).mono ?_
      rintro e w4 ⟨rfl, b4⟩
      have B4 := B3.trans (b4.mono B3.size)
      go_wp2_with fail
      go_ret
      exact ⟨rfl, B4⟩

theorem own : ownKnob Try.prog.godebug = none := by kernel_rfl
theorem laidOut : laidOutB Try.prog = true := by kernel_rfl

set_option maxRecDepth 100000 in
theorem lifted (os : Os) (started : os.Started) (H : Type) (enc : TypeId × Value → H) :
    ReturnsInHanded {} Try.checked os 6 .any (Rows.recordOnlySpec.pre6 enc Try.prog Try.f6 Rows.recordOnlyRow.domain false) (Rows.recordOnlySpec.post enc Try.prog Try.f6 false true false false) := by
  refine returnsInHanded_of_change (C := Try.checked) own started (by kernel_rfl) Try.func6
    (ChangeSpec.witness6 (enc := enc) (C := Try.checked) false ⟨#[], #[.slice none 0 0, .int .i64 0], []⟩ 8 (by kernel_rfl) (by kernel_rfl) (by kernel_rfl) (by kernel_rfl)) ?_
  intro W base args ds gs before hval0 hW hcnd _
  have hval : ∀ (j : Nat) t v, Try.f6.params[j]? = some t → args[j]? = some v → Value.okWide Try.prog W .any base t v := hval0
  have hW' := hW
  obtain ⟨p, q, hA0, hV, rfl, hfz, hnd⟩ := hW
  have hA : DataW.TrodAll enc Try.prog W 0 (fun _ => true) true Try.f6.params.toList args.toList ds p := hA0
  rw [Try.params6] at hA hval
  obtain ⟨v0, vs0, d0, ds0, p0, q0, hargs, rfl, rfl, h0, r0⟩ := trodAll_cons hA
  obtain ⟨v1, vs1, d1, ds1, p1, q1, rfl, rfl, rfl, h1, r1⟩ := trodAll_cons r0
  obtain ⟨rfl, rfl, rfl⟩ := trodAll_nil r1
  obtain rfl : args = #[v0, v1] := by cases args; simp_all
  obtain ⟨rfl, rfl⟩ := trodVars_none hV
  have k0 := h0
  have lt0 : ∀ x ∈ p0, x.block < W.heap.size := by obtain ⟨m, hm⟩ := k0; exact DataW.trod_lt m _ _ _ hm
  obtain ⟨A0, c0, b0, rfl, w0, l0, z0⟩ := Mem.open_bytesc Try.underlying23 Try.underlying5 (by kernel_rfl) (hval 0 23 v0 rfl rfl) h0
  obtain ⟨a1, rfl, rfl, rfl, w1⟩ := open_int Try.underlying3 (hval 1 3 v1 rfl rfl) h1
  clear hA0 hval0
  refine (walk A0 c0 b0 a1 W w0 l0 z0 (Mem.wf_i64 w1)).mono fun e W' ⟨he, bel⟩ => ?_
  subst he
  exact ⟨_, rfl, _, _, _, [], _, [], hW', trodAll_mk1 (shut_bool Try.underlying4 _), (trodAll_cons_mk (Below.trod laidOut (by kernel_rfl) (of_decide_eq_true (by kernel_rfl)) k0 bel lt0) (trodAll_cons_mk (shut_int Try.underlying3 w1) trodAll_mk0)), rfl, bel.frame _, fun h => by cases h⟩

theorem over : Rows.recordOnlyRow.holds Try.pinned (OpenSpec.ofChange Rows.recordOnlySpec) :=
  OpenClaim.holds_of_wide 6 Try.f6 rfl rfl rfl rfl rfl rfl rfl ⟨rfl, rfl, rfl, rfl, rfl⟩ rfl rfl rfl rfl rfl (by kernel_rfl) Try.func6 (by kernel_rfl)
    (of_decide_eq_true (by kernel_rfl)) (by unfold Func.isWrapper; first | (rw [if_pos (by decide +kernel)]; kernel_rfl) | (rw [if_neg (by decide +kernel)]; exact ⟨rfl, rfl⟩))
    (fun os started H enc _ => lifted os started H enc)

/-- The given statement. -/
theorem proved : Rows.RecordOnlySaid := over

end Go.Proofs.Ytdmmfhdbbdhoiaa.recordOnly
