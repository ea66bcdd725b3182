/-
  Proved: SectorLooks, for any bytes: what they hold, as a sector's, is as the document's own functions say; the bytes are as they were, and what is told of them has memory of its own.
-/
import Derived.Test.YtfiojimppbaihaaRows
import Derived.Test.YtfiojimppbaihaaLift
import Derived.Test.YtfiojimppbaihaaSecSame
import Derived.Test.YtfiojimppbaihaaOctAux
import Derived.Deep.RegionHeld
namespace Go.Proofs.Ytfiojimppbaihaa.sectorLooks
open Go.ChangeShapes Go.WideShapes Go.ChangeAt Go.RowKit Mem Rec Sec
open Go.ChangeMaps (open_string shut_string)
set_option linter.unusedVariables false

theorem rd_own {w : World} {B n c : Nat} {e : TypeId} {A : Option Addr} {bs : List UInt8} (h : Own w B e (.slice A n c) bs) : Rd w w.heap.size A bs := by
  obtain ⟨A', c', hv, hr⟩ := h.form
  injection hv with q1 q2 q3
  rw [q1]; exact hr

set_option maxRecDepth 100000 in
set_option maxHeartbeats 1000000 in
theorem walk (A : Option Addr) (c : Nat) (bs : List UInt8) (w : World) (hr : Rd w w.heap.size A bs) (hm : bs.length ≤ maxLen) (hz : bs.length ≤ c ∧ c ≤ maxLen) :
    Calls Try.prog 3 #[.slice A bs.length c] w fun e w' => e = .returned (.bool true) ∧ Below w.heap.size w w' := by
  by_cases h20 : 5000 < bs.length
  · go_enter Try.func3, Try.ntmps3
    go_wp2_with fail
    refine (known_any _).mono ?_
    rintro e w' ⟨rfl, hb⟩
    go_wp2_with fail
    go_ret
    exact ⟨rfl, hb⟩
  · have HZ := Lib.hid hz
    clear hz hm
    have O1 := Lib.hid (fun (W : World) A c (h : Rd W W.heap.size A bs) (h1 : bs.length ≤ c) (h2 : c ≤ maxLen) => of_any A bs.length c bs W h rfl (by omega) h1 h2)
    have O2 := Lib.hid (fun (W : World) A c (h : Rd W W.heap.size A bs) (h1 : bs.length ≤ c) (h2 : c ≤ maxLen) => rof_any A bs.length c bs W h rfl (by omega) h1 h2)
    unfold LooksTo at O1 O2
    have hDl : (Sec.look bs).d.length ≤ 960 := (look_e bs).2.2.2.1
    obtain ⟨CL, hCL⟩ : ∃ CL, blankB (bs.drop (Sec.look bs).e) = CL := ⟨_, rfl⟩
    rw [hCL] at O1 O2
    generalize Sec.look bs = x at *
    clear hCL
    go_enter Try.func3, Try.ntmps3
    go_wp2_with fail
    refine (lent_any A _ c bs w hr rfl (by omega)).mono ?_
    rintro e w1 ⟨g, cap, rfl, hl, b1⟩
    have r1 := (hr.below b1).mono b1.size
    have HGL := Lib.hid (show g < w1.heap.size from hl.2.2.2.2)
    have HZ1 := Lib.hid b1.size
    have HC1 := Lib.hid (show bs.length ≤ cap from by have := hl.2.1; omega)
    have HC2 := Lib.hid hl.2.2.1
    go_wp2_with fail
    refine (O1.out w1 (some ⟨g, 0, none⟩) cap hl.rd HC1.out HC2.out).mono ?_
    rintro e w2 ⟨v2, rfl, o2, b2⟩
    have l2 := hl.below b2 (Nat.le_refl _)
    have r2 := (r1.below b2).mono b2.size
    have HZ2 := Lib.hid b2.size
    have B2 := b1.trans (b2.mono b1.size)
    obtain ⟨A2, c2, rfl, _⟩ := o2.form
    have hz2 : ∀ o, w2.heap.size < (w2.alloc o).heap.size := fun o => by rw [World.size_alloc]; omega
    have rb := heap_alloc_new w2 (.cells #[.int .i64 x.k, .int .u32 x.n, .slice A2 x.d.length c2, .int .i64 (x.cnt : Int), .int .i64 (x.e : Int), .bool CL] 29)
    have b3 := below1 w2 (.cells #[.int .i64 x.k, .int .u32 x.n, .slice A2 x.d.length c2, .int .i64 (x.cnt : Int), .int .i64 (x.e : Int), .bool CL] 29)
    have B3 := B2.trans (b3.mono B2.size)
    have l3 := l2.below b3 (Nat.le_refl _)
    have r3 := (r2.below b3).mono b3.size
    have o3 := o2.below b3 (Nat.le_refl _)
    have HS := Lib.hid (hz2 (.cells #[.int .i64 x.k, .int .u32 x.n, .slice A2 x.d.length c2, .int .i64 (x.cnt : Int), .int .i64 (x.e : Int), .bool CL] 29))
    clear hl b1 r1 b2 l2 r2 o2 B2 b3 hz2
    have q0 := cell_of rb 0
    have q1 := cell_of rb 1
    have q2 := cell_of rb 2
    have q3 := cell_of rb 3
    have q4 := cell_of rb 4
    have q5 := cell_of rb 5
    go_wp2_with fail
    have HR3 := Lib.hid r3
    have HO3 := Lib.hid o3
    have HL3 := Lib.hid l3
    have HB3 := Lib.hid B3
    have RB := Lib.hid rb
    have hq : (w2.alloc (.cells #[.int .i64 x.k, .int .u32 x.n, .slice A2 x.d.length c2, .int .i64 (x.cnt : Int), .int .i64 (x.e : Int), .bool CL] 29)).heap.size = w2.heap.size + 1 := World.size_alloc _ _
    clear r3 o3 l3 B3 rb
    generalize w2.alloc (.cells #[.int .i64 x.k, .int .u32 x.n, .slice A2 x.d.length c2, .int .i64 (x.cnt : Int), .int .i64 (x.e : Int), .bool CL] 29) = w3 at *
    go_region_with (first
      | (go_at_call 9; refine (O2.out w3.drew A c HR3.out HZ.out.1 HZ.out.2).mono ?_; rintro e w4 ⟨v4, rfl, o4, b4⟩; obtain ⟨A4, c4, rfl, _⟩ := o4.form; have b4' : Below w3.heap.size w3 w4 := ⟨b4.os, b4.tape, b4.output, b4.size, b4.block⟩; have s2 := rd_own (HO3.out.below b4' (Nat.le_refl _)); have s4 := rd_own o4; have q4a := cell_of ((b4'.block _ HS.out).trans RB.out) 0; have q4b := cell_of ((b4'.block _ HS.out).trans RB.out) 1; have q4c := cell_of ((b4'.block _ HS.out).trans RB.out) 2; have q4d := cell_of ((b4'.block _ HS.out).trans RB.out) 3; have q4e := cell_of ((b4'.block _ HS.out).trans RB.out) 4; have q4f := cell_of ((b4'.block _ HS.out).trans RB.out) 5)
      | (go_at_call 8; refine (same_yes x CL A2 A4 c2 c4 _ w4 s2 s4 (Nat.le_refl _)).mono ?_; rintro e w5 ⟨rfl, b5⟩))
    all_goals
      have B5 := b4'.trans (b5.mono b4'.size)
      have row5 := (B5.block _ HS.out).trans RB.out
      have l5 := HL3.out.below B5 (Nat.le_refl _)
      have o5 := HO3.out.below B5 (Nat.le_refl _)
      have HB5 := Lib.hid (HB3.out.trans (B5.mono HB3.out.size))
      have z5 : w1.heap.size ≤ w5.heap.size := Nat.le_trans HZ2.out (Nat.le_trans (Nat.le_of_lt HS.out) B5.size)
      have y2 := cell_of row5 2
      clear q0 q1 q2 q3 q4 q5 q4a q4b q4c q4d q4e q4f HR3 HO3 HL3 HB3 RB B5 b5 b4' b4 o4 s2 s4 row5
      go_wp2_with fail
      refine (spoil_any _ _ x.d w5 o5 z5 (by omega)).mono ?_
      rintro e w6 ⟨rfl, b6, g6⟩
      have l6 := l5.keep b6 HGL.out
      have B6 := Lib.hid (HB5.out.trans (b6.mono HZ1.out))
      have r6 := hr.below B6.out
      clear b6 g6 l5 o5 y2
      go_wp2_with fail
      refine (kept_yes A _ c _ _ g cap bs w6 l6 r6 rfl (by omega)).mono ?_
      rintro e w' ⟨rfl, rfl⟩
      go_wp2_with fail
      refine (O1.out w6 (some ⟨g, 0, none⟩) cap l6.rd HC1.out HC2.out).mono ?_
      rintro e w7 ⟨v7, rfl, o7, b7⟩
      obtain ⟨A7, c7, rfl, _⟩ := o7.form
      have B7 := Lib.hid (B6.out.trans (b7.mono B6.out.size))
      have r7 := (hr.below B7.out).mono B7.out.size
      clear l6 r6 b7
      go_wp2_with fail
      refine (O2.out w7 A c r7 HZ.out.1 HZ.out.2).mono ?_
      rintro e w8 ⟨v8, rfl, o8, b8⟩
      obtain ⟨A8, c8, rfl, _⟩ := o8.form
      have s7 := rd_own (o7.below b8 (Nat.le_refl _))
      have s8 := rd_own o8
      have B8 := Lib.hid (B7.out.trans (b8.mono B7.out.size))
      clear o7 o8 r7 b8
      go_wp2_with fail
      refine (same_yes x CL A7 A8 c7 c8 _ w8 s7 s8 (Nat.le_refl _)).mono ?_
      rintro e w9 ⟨rfl, b9⟩
      have B9 := Lib.hid (B8.out.trans (b9.mono B8.out.size))
      clear b9 s7 s8
      go_wp2_with fail
      refine (known_any _).mono ?_
      rintro e w10 ⟨rfl, b10⟩
      have B10 := Lib.hid (B9.out.trans (b10.mono B9.out.size))
      clear b10
      go_wp2_with fail
      go_ret
      exact ⟨rfl, B10.out⟩

theorem own : ownKnob Try.prog.godebug = none := by kernel_rfl
theorem laidOut : laidOutB Try.prog = true := by kernel_rfl

set_option maxRecDepth 100000 in
theorem lifted (os : Os) (started : os.Started) (H : Type) (enc : TypeId × Value → H) :
    ReturnsInHanded {} Try.checked os 3 .any (Rows.sectorLooksSpec.pre6 enc Try.prog Try.f3 Rows.sectorLooksRow.domain false) (Rows.sectorLooksSpec.post enc Try.prog Try.f3 false true false false) := by
  refine returnsInHanded_of_change (C := Try.checked) own started (by kernel_rfl) Try.func3
    (ChangeSpec.witness6 (enc := enc) (C := Try.checked) false ⟨#[], #[.slice none 0 0], []⟩ 8 (by kernel_rfl) (by kernel_rfl) (by kernel_rfl) (by kernel_rfl)) ?_
  intro W base args ds gs before hval0 hW hcnd _
  have hval : ∀ (j : Nat) t v, Try.f3.params[j]? = some t → args[j]? = some v → Value.okWide Try.prog W .any base t v := hval0
  have hW' := hW
  obtain ⟨p, q, hA0, hV, rfl, hfz, hnd⟩ := hW
  have hA : DataW.TrodAll enc Try.prog W 0 (fun _ => true) true Try.f3.params.toList args.toList ds p := hA0
  rw [Try.params3] at hA hval
  obtain ⟨v0, vs0, d0, ds0, p0, q0, hargs, rfl, rfl, h0, r0⟩ := trodAll_cons hA
  obtain ⟨rfl, rfl, rfl⟩ := trodAll_nil r0
  obtain rfl : args = #[v0] := by cases args; simp_all
  obtain ⟨rfl, rfl⟩ := trodVars_none hV
  have k0 := h0
  have lt0 : ∀ x ∈ p0, x.block < W.heap.size := by obtain ⟨m, hm⟩ := k0; exact DataW.trod_lt m _ _ _ hm
  obtain ⟨A0, c0, b0, rfl, w0, l0, z0⟩ := Mem.open_bytesc Try.underlying22 Try.underlying5 (by kernel_rfl) (hval 0 22 v0 rfl rfl) h0
  clear hA0 hval0
  refine (walk A0 c0 b0 W w0 l0 z0).mono fun e W' ⟨he, bel⟩ => ?_
  subst he
  exact ⟨_, rfl, _, _, _, [], _, [], hW', trodAll_mk1 (shut_bool Try.underlying4 _), (trodAll_cons_mk (Below.trod laidOut (by kernel_rfl) (of_decide_eq_true (by kernel_rfl)) k0 bel lt0) trodAll_mk0), rfl, bel.frame _, fun h => by cases h⟩

theorem over : Rows.sectorLooksRow.holds Try.pinned (OpenSpec.ofChange Rows.sectorLooksSpec) :=
  OpenClaim.holds_of_wide 3 Try.f3 rfl rfl rfl rfl rfl rfl rfl ⟨rfl, rfl, rfl, rfl, rfl⟩ rfl rfl rfl rfl rfl (by kernel_rfl) Try.func3 (by kernel_rfl)
    (of_decide_eq_true (by kernel_rfl)) (by unfold Func.isWrapper; first | (rw [if_pos (by decide +kernel)]; kernel_rfl) | (rw [if_neg (by decide +kernel)]; exact ⟨rfl, rfl⟩))
    (fun os started H enc _ => lifted os started H enc)

/-- The given statement. -/
theorem proved : Rows.SectorLooksSaid := over

end Go.Proofs.Ytfiojimppbaihaa.sectorLooks
