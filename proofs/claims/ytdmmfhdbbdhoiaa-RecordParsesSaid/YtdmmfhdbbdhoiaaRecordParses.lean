/-
  Proved: RecordParses, for any bytes and any place: the record that is read there, or why there is none, is as the document's own functions say; so is whether all bytes are ones; the bytes are as they were.
-/
import Derived.Test.YtdmmfhdbbdhoiaaRows
import Derived.Test.YtdmmfhdbbdhoiaaRecLift
import Derived.Test.YtdmmfhdbbdhoiaaRecKnown
import Derived.Test.YtdmmfhdbbdhoiaaRecLaid
import Derived.Test.YtdmmfhdbbdhoiaaOctAux
import Derived.Test.YtdmmfhdbbdhoiaaText
import Derived.Test.YtdmmfhdbbdhoiaaRecRParse
import Derived.Deep.RegionHeld
namespace Go.Proofs.Ytdmmfhdbbdhoiaa.recordParses
open Go.ChangeShapes Go.WideShapes Go.ChangeAt Go.RowKit Mem Rec
open Go.ChangeMaps (open_string shut_string)
set_option linter.unusedVariables false

theorem rd_own {w : World} {B n c : Nat} {e : TypeId} {A : Option Addr} {bs : List UInt8} (h : Own w B e (.slice A n c) bs) : Rd w w.heap.size A bs := by
  obtain ⟨A', c', hv, hr⟩ := h.form
  injection hv with q1 q2 q3
  rw [q1]; exact hr

set_option maxRecDepth 100000 in
set_option maxHeartbeats 1000000 in
theorem walk (A : Option Addr) (c : Nat) (bs : List UInt8) (at_ : Int) (w : World) (hr : Rd w w.heap.size A bs) (hm : bs.length ≤ maxLen) (hz : bs.length ≤ c ∧ c ≤ maxLen) (ha : -9223372036854775808 ≤ at_ ∧ at_ ≤ 9223372036854775807) :
    Calls Try.prog 4 #[.slice A bs.length c, .int .i64 at_] w fun e w' => e = .returned (.bool true) ∧ Below w.heap.size w w' := by
  by_cases h20 : 10000 < bs.length
  · go_enter Try.func4, Try.ntmps4
    go_wp2_with fail
    refine (known_any _).mono ?_
    rintro e w' ⟨rfl, hb⟩
    go_wp2_with fail
    go_ret
    exact ⟨rfl, hb⟩
  · have HZ := Lib.hid hz
    clear hz hm
    obtain ⟨P, hP⟩ : ∃ P, parseA bs at_ = P := ⟨_, rfl⟩
    have HP := Lib.hid hP
    clear hP
    obtain ⟨K, M, D, TO, E⟩ := P
    go_enter Try.func4, Try.ntmps4
    go_wp2_with fail
    refine (lent_any A _ c bs w hr rfl (by omega)).mono ?_
    rintro e w1 ⟨g, cap, rfl, hl, b1⟩
    have r1 := (hr.below b1).mono b1.size
    have HGL := Lib.hid (show g < w1.heap.size from hl.2.2.2.2)
    have HZ1 := Lib.hid b1.size
    go_wp2_with fail
    refine (parse_any (some ⟨g, 0, none⟩) _ cap at_ bs w1 hl.rd rfl (by omega) (by have := hl.2.1; omega) hl.2.2.1 ha.1 ha.2).mono ?_
    rw [HP.out]
    rintro e w2 ⟨v2, rfl, o2, b2⟩
    have l2 := hl.below b2 (Nat.le_refl _)
    have r2 := (r1.below b2).mono b2.size
    have HZ2 := Lib.hid b2.size
    have B2 := b1.trans (b2.mono b1.size)
    have hDl : D.length ≤ bs.length := by
      have := parse_len (bs := bs) (at_ := at_)
      rwa [HP.out] at this
    obtain ⟨A2, c2, rfl, _⟩ := o2.form
    have rb := heap_alloc_new w2 (.cells #[.int .i64 K, .int .u32 M, .slice A2 D.length c2] 25)
    have hz2 : ∀ o, w2.heap.size < (w2.alloc o).heap.size := fun o => by rw [World.size_alloc]; omega
    have B3 := B2.alloc B2.size (.cells #[.int .i64 K, .int .u32 M, .slice A2 D.length c2] 25)
    have b3 := below1 w2 (.cells #[.int .i64 K, .int .u32 M, .slice A2 D.length c2] 25)
    have l3 := l2.below b3 (Nat.le_refl _)
    have r3 := (r2.below b3).mono b3.size
    have o3 := o2.below b3 (Nat.le_refl _)
    have HS := Lib.hid (hz2 (.cells #[.int .i64 K, .int .u32 M, .slice A2 D.length c2] 25))
    clear hl b1 r1 b2 l2 r2 o2 B2 b3 hz2
    go_wp2_with fail
    refine (rparse_any A _ c at_ bs _ r3 rfl (by omega) HZ.out.1 HZ.out.2 ha.1 ha.2).mono ?_
    rw [HP.out]
    rintro e w4 ⟨v4, rfl, o4, b4⟩
    obtain ⟨A4, c4, rfl, _⟩ := o4.form
    have rb4 := (b4.block _ HS.out).trans rb
    have l4 := l3.below b4 (Nat.le_refl _)
    have r4 := (r3.below b4).mono b4.size
    have o3' := o3.below b4 (Nat.le_refl _)
    have B4 := B3.trans (b4.mono B3.size)
    have B4x := Lib.hid b4.size
    clear rb l3 r3 o3 b4 B3
    have hlt := HS.out
    have b5 := below1 w4 (.cells #[.int .i64 K, .int .u32 M, .slice A4 D.length c4] 25)
    have pb := heap_alloc_new w4 (.cells #[.int .i64 K, .int .u32 M, .slice A4 D.length c4] 25)
    have pa := (b5.block w2.heap.size (Nat.lt_of_lt_of_le hlt B4x.out)).trans rb4
    have l5 := l4.below b5 (Nat.le_refl _)
    have r5 := (r4.below b5).mono b5.size
    have o5 := o3'.below b5 (Nat.le_refl _)
    have o6 := o4.below b5 (Nat.le_refl _)
    have B5 := B4.trans (b5.mono B4.size)
    have hsz : (w4.alloc (.cells #[.int .i64 K, .int .u32 M, .slice A4 D.length c4] 25)).heap.size = w4.heap.size + 1 := World.size_alloc _ _
    have hx4 := B4x.out
    have PA := Lib.hid pa
    have PB := Lib.hid pb
    have L5 := Lib.hid l5
    have R5 := Lib.hid r5
    have O5 := Lib.hid o5
    have O6 := Lib.hid o6
    have B5' := Lib.hid B5
    have Q1 := Lib.hid (show w2.heap.size < (w4.alloc (.cells #[.int .i64 K, .int .u32 M, .slice A4 D.length c4] 25)).heap.size by omega)
    have q0 := cell_of pa 0
    have q1 := cell_of pa 1
    have q2 := cell_of pa 2
    have u0 := cell_of pb 0
    have u1 := cell_of pb 1
    have u2 := cell_of pb 2
    clear pa pb l5 r5 o5 o6 B5 rb4 l4 r4 o3' o4 B4 b5 HS B4x hsz hx4 hlt
    go_wp2_with fail
    clear q0 q1 q2 u0 u1 u2
    generalize w4.alloc (.cells #[.int .i64 K, .int .u32 M, .slice A4 D.length c4] 25) = W0 at *
    refine (same_any K M K M A2 A4 c2 c4 _ D D W0 (rd_own O5.out) (rd_own O6.out) (Nat.le_refl _)).mono ?_
    rintro e w6 ⟨rfl, b6⟩
    rw [show sameB K M D K M D = true by simp [sameB]]
    have l6 := L5.out.below b6 (Nat.le_refl _)
    have r6 := (R5.out.below b6).mono b6.size
    have pa6 := (b6.block _ Q1.out).trans PA.out
    have o6 := O5.out.below b6 (Nat.le_refl _)
    have HZ6 := Lib.hid b6.size
    have B6 := Lib.hid (B5'.out.trans (b6.mono B5'.out.size))
    have q0 := cell_of pa6 0
    have q1 := cell_of pa6 1
    have q2 := cell_of pa6 2
    clear L5 R5 PA PB O5 O6 B5' b6
    go_wp2_with fail
    refine (blank_any (some ⟨g, 0, none⟩) _ cap _ bs w6 l6.rd rfl (by omega)).mono ?_
    rintro e w' ⟨rfl, rfl⟩
    go_wp2_with fail
    refine (rblank_any A _ c _ bs w6 r6 rfl (by omega)).mono ?_
    rintro e w' ⟨rfl, rfl⟩
    go_wp2_with fail
    have z6 : w1.heap.size ≤ w6.heap.size := Nat.le_trans HZ2.out (Nat.le_of_lt (Nat.lt_of_lt_of_le Q1.out HZ6.out))
    refine (spoil_any _ _ D w6 o6 z6 (by omega)).mono ?_
    rintro e w7 ⟨rfl, b7, g7⟩
    have l7 := l6.keep b7 HGL.out
    have B7 := Lib.hid (B6.out.trans (b7.mono HZ1.out))
    have r7 := hr.below B7.out
    clear b7 g7 l6 o6 q0 q1 q2 pa6 r6
    go_wp2_with fail
    refine (kept_yes A _ c _ _ g cap bs w7 l7 r7 rfl (by omega)).mono ?_
    rintro e w' ⟨rfl, rfl⟩
    go_wp2_with fail
    refine (known_any _).mono ?_
    rintro e w8 ⟨rfl, b8⟩
    have B8 := Lib.hid (B7.out.trans (b8.mono B7.out.size))
    clear b8 l7 r7
    go_wp2_with fail
    go_ret
    exact ⟨rfl, B8.out⟩

theorem own : ownKnob Try.prog.godebug = none := by kernel_rfl
theorem laidOut : laidOutB Try.prog = true := by kernel_rfl

set_option maxRecDepth 100000 in
theorem lifted (os : Os) (started : os.Started) (H : Type) (enc : TypeId × Value → H) :
    ReturnsInHanded {} Try.checked os 4 .any (Rows.recordParsesSpec.pre6 enc Try.prog Try.f4 Rows.recordParsesRow.domain false) (Rows.recordParsesSpec.post enc Try.prog Try.f4 false true false false) := by
  refine returnsInHanded_of_change (C := Try.checked) own started (by kernel_rfl) Try.func4
    (ChangeSpec.witness6 (enc := enc) (C := Try.checked) false ⟨#[], #[.slice none 0 0, .int .i64 0], []⟩ 8 (by kernel_rfl) (by kernel_rfl) (by kernel_rfl) (by kernel_rfl)) ?_
  intro W base args ds gs before hval0 hW hcnd _
  have hval : ∀ (j : Nat) t v, Try.f4.params[j]? = some t → args[j]? = some v → Value.okWide Try.prog W .any base t v := hval0
  have hW' := hW
  obtain ⟨p, q, hA0, hV, rfl, hfz, hnd⟩ := hW
  have hA : DataW.TrodAll enc Try.prog W 0 (fun _ => true) true Try.f4.params.toList args.toList ds p := hA0
  rw [Try.params4] at hA hval
  obtain ⟨v0, vs0, d0, ds0, p0, q0, hargs, rfl, rfl, h0, r0⟩ := trodAll_cons hA
  obtain ⟨v1, vs1, d1, ds1, p1, q1, rfl, rfl, rfl, h1, r1⟩ := trodAll_cons r0
  obtain ⟨rfl, rfl, rfl⟩ := trodAll_nil r1
  obtain rfl : args = #[v0, v1] := by cases args; simp_all
  obtain ⟨rfl, rfl⟩ := trodVars_none hV
  have k0 := h0
  have lt0 : ∀ x ∈ p0, x.block < W.heap.size := by obtain ⟨m, hm⟩ := k0; exact DataW.trod_lt m _ _ _ hm
  obtain ⟨A0, c0, b0, rfl, w0, l0, z0⟩ := Mem.open_bytesc Try.underlying23 Try.underlying5 (by kernel_rfl) (hval 0 23 v0 rfl rfl) h0
  obtain ⟨a1, rfl, rfl, rfl, w1⟩ := open_int Try.underlying3 (hval 1 3 v1 rfl rfl) h1
  clear hA0 hval0
  refine (walk A0 c0 b0 a1 W w0 l0 z0 (Mem.wf_i64 w1)).mono fun e W' ⟨he, bel⟩ => ?_
  subst he
  exact ⟨_, rfl, _, _, _, [], _, [], hW', trodAll_mk1 (shut_bool Try.underlying4 _), (trodAll_cons_mk (Below.trod laidOut (by kernel_rfl) (of_decide_eq_true (by kernel_rfl)) k0 bel lt0) (trodAll_cons_mk (shut_int Try.underlying3 w1) trodAll_mk0)), rfl, bel.frame _, fun h => by cases h⟩

theorem over : Rows.recordParsesRow.holds Try.pinned (OpenSpec.ofChange Rows.recordParsesSpec) :=
  OpenClaim.holds_of_wide 4 Try.f4 rfl rfl rfl rfl rfl rfl rfl ⟨rfl, rfl, rfl, rfl, rfl⟩ rfl rfl rfl rfl rfl (by kernel_rfl) Try.func4 (by kernel_rfl)
    (of_decide_eq_true (by kernel_rfl)) (by unfold Func.isWrapper; first | (rw [if_pos (by decide +kernel)]; kernel_rfl) | (rw [if_neg (by decide +kernel)]; exact ⟨rfl, rfl⟩))
    (fun os started H enc _ => lifted os started H enc)

/-- The given statement. -/
theorem proved : Rows.RecordParsesSaid := over

end Go.Proofs.Ytdmmfhdbbdhoiaa.recordParses
