/-
  Proved: RecordBuilds, for any record: what is wrong of it, and the bytes in which it is laid down, are as the document's own functions say; what was handed in is as it was.
-/
import Derived.Test.YtdmmfhdbbdhoiaaRows
import Derived.Test.YtdmmfhdbbdhoiaaRecLift
import Derived.Test.YtdmmfhdbbdhoiaaRecKnown
import Derived.Test.YtdmmfhdbbdhoiaaRecLaid
import Derived.Test.YtdmmfhdbbdhoiaaOctAux
import Derived.Test.YtdmmfhdbbdhoiaaText
import Derived.Test.YtdmmfhdbbdhoiaaRecRParse
import Derived.Deep.RegionHeld
namespace Go.Proofs.Ytdmmfhdbbdhoiaa.recordBuilds
open Go.ChangeShapes Go.WideShapes Go.ChangeAt Go.RowKit Mem Rec
open Go.ChangeMaps (open_string shut_string)
set_option linter.unusedVariables false

/-- The document's Build, in one contract. -/
theorem rbuild_any (k n : Int) (A : Option Addr) (c : Nat) (d : List UInt8) (w : World) (hr : Rd w w.heap.size A d) (k1 : -9223372036854775808 ≤ k) (k2 : k ≤ 9223372036854775807) (n1 : 0 ≤ n) (n2 : n ≤ 4294967295) (hl : d.length ≤ 140737488355328) :
    Calls Try.prog 12 #[rec_ k n (.slice A d.length c)] w (Ans 5 w (buildA k n d)) := by
  unfold buildA
  by_cases he : err k n d.length = 0
  · rw [if_pos he]
    refine (rbuild_ok k n A c d w hr k1 k2 n1 n2 hl he).mono ?_
    rintro e w' ⟨v, rfl, o, b⟩
    exact ⟨v, rfl, o, b⟩
  · rw [if_neg he]
    refine (rbuild_no k n A c d w k1 k2 n1 n2 hl he).mono ?_
    rintro e w' ⟨rfl, b⟩
    exact ⟨_, rfl, Own.nil _ _ _, b⟩

set_option maxRecDepth 100000 in
set_option maxHeartbeats 1000000 in
theorem walk (k n : Int) (D : Option Addr) (cd : Nat) (d : List UInt8) (w : World)
    (hk : -9223372036854775808 ≤ k ∧ k ≤ 9223372036854775807) (hn : 0 ≤ n ∧ n ≤ 4294967295) (rd : Rd w w.heap.size D d) (md : d.length ≤ maxLen) (zd : d.length ≤ cd ∧ cd ≤ maxLen) :
    Calls Try.prog 3 #[rec_ k n (.slice D d.length cd)] w fun e w' => e = .returned (.bool true) ∧ Below w.heap.size w w' := by
  have B2 := below2 w (.cells #[.int .i64 k, .int .u32 n, .slice D d.length cd] 25) (.cells #[.int .i64 k, .int .u32 n, .slice D d.length cd] 25)
  have B1 := below1 w (.cells #[.int .i64 k, .int .u32 n, .slice D d.length cd] 25)
  unfold maxLen at md
  by_cases h20 : 3000 < d.length
  · have hE : err 1 1 d.length = 3 := by unfold err; rw [if_pos (by simp), if_pos (by omega)]
    have HE := Lib.hid hE
    clear hE B2
    go_enter Try.func3, Try.ntmps3
    go_wp2_with fail
    refine (Right_any 1 1 D d.length cd _ (by omega) (by omega) (by omega) (by omega) (by omega)).mono ?_
    rintro e w2 ⟨rfl, b2⟩
    rw [HE.out]
    have B3 := B1.trans (b2.mono B1.size)
    clear B1 b2
    go_wp2_with fail
    refine (known_any _).mono ?_
    rintro e w4 ⟨rfl, b4⟩
    have B4 := B3.trans (b4.mono B3.size)
    go_wp2_with fail
    go_ret
    exact ⟨rfl, B4⟩
  · obtain ⟨P, hP⟩ : ∃ P, buildA k n d = P := ⟨_, rfl⟩
    obtain ⟨p1, p2⟩ := P
    have HP := Lib.hid hP
    have hp1 : p1.length ≤ 10000 := by
      have e1 : p1 = (buildA k n d).1 := by rw [hP]
      rw [e1]
      unfold buildA
      split
      · rw [build_length]; omega
      · simp
    clear hP B1
    have rd2 := (rd.below B2).mono B2.size
    have HZ := Lib.hid zd
    clear zd md
    go_enter Try.func3, Try.ntmps3
    go_wp2_with fail
    refine (lent_any D _ cd d _ rd2 rfl (by omega)).mono ?_
    rintro e w1 ⟨g, cap, rfl, hl, b1⟩
    have hs2 : ∀ o o', ((w.alloc o).alloc o').heap.size = w.heap.size + 2 := fun o o' => by rw [World.size_alloc, World.size_alloc]
    have pa := (b1.block w.heap.size (by rw [hs2]; omega)).trans (heap_alloc2_old w _ _)
    have pb := (b1.block (w.heap.size + 1) (by rw [hs2]; omega)).trans (heap_alloc2_new w _ _)
    have B3 := B2.trans (b1.mono B2.size)
    have q0 := cell_of pa 0
    have q1 := cell_of pa 1
    have q2 := cell_of pa 2
    have u0 := cell_of pb 0
    have u1 := cell_of pb 1
    have u2 := cell_of pb 2
    have f2 := frozen_of_row _ _ 2 _ _ pb
    have pa2 := (heap_setCell_other w1 ⟨w.heap.size + 1, 2, none⟩ w.heap.size (.slice (some ⟨g, 0, none⟩) d.length cap) (by show w.heap.size ≠ w.heap.size + 1; omega)).trans pa
    have pb2 := heap_setCell_same w1 (w.heap.size + 1) 2 _ _ (.slice (some ⟨g, 0, none⟩) d.length cap) pb
    have pb3 : (w1.setCell ⟨w.heap.size + 1, 2, none⟩ (.slice (some ⟨g, 0, none⟩) d.length cap)).heap[w.heap.size + 1]? = some (.cells #[.int .i64 k, .int .u32 n, .slice (some ⟨g, 0, none⟩) d.length cap] 25) := pb2
    have B3' := B3.setCell (p := ⟨w.heap.size + 1, 2, none⟩) (by show w.heap.size ≤ w.heap.size + 1; omega) (.slice (some ⟨g, 0, none⟩) d.length cap)
    have hgb := hl.2.2.2.1
    rw [hs2] at hgb
    have l2 : LentAt (w1.setCell ⟨w.heap.size + 1, 2, none⟩ (.slice (some ⟨g, 0, none⟩) d.length cap)) (w.heap.size + 2) 5 g cap d := by
      have hl' := hl
      rw [hs2] at hl'
      exact ⟨hl'.1.kept_block (heap_setCell_other w1 ⟨w.heap.size + 1, 2, none⟩ g _ (by show g ≠ w.heap.size + 1; omega)), hl'.2.1, hl'.2.2.1, hl'.2.2.2.1, by rw [World.size_setCell]; exact hl'.2.2.2.2⟩
    have hz1 : w.heap.size + 2 ≤ (w1.setCell ⟨w.heap.size + 1, 2, none⟩ (.slice (some ⟨g, 0, none⟩) d.length cap)).heap.size := by
      rw [World.size_setCell, ← hs2 (.cells #[] 0) (.cells #[] 0)]
      rw [hs2]
      have := b1.size
      rw [hs2] at this
      exact this
    have PA := Lib.hid pa2
    have PB := Lib.hid pb3
    have L2 := Lib.hid l2
    have BB := Lib.hid B3'
    have HZ1 := Lib.hid hz1
    clear pa pb pa2 pb2 pb3 B3' l2 hz1 hgb hl b1 B3 B2 rd2 hs2
    go_wp2_with fail
    clear q0 q1 q2 u0 u1 u2 f2
    generalize w1.setCell ⟨w.heap.size + 1, 2, none⟩ (.slice (some ⟨g, 0, none⟩) d.length cap) = W0 at *
    have rdA := (rd.below BB.out).mono BB.out.size
    have HGL := Lib.hid (show g < W0.heap.size from L2.out.2.2.2.2)
    have HX0 := Lib.hid BB.out.size
    refine (build_any k n (some ⟨g, 0, none⟩) cap d W0 L2.out.rd hk.1 hk.2 hn.1 hn.2 (by omega)).mono ?_
    rw [HP.out]
    rintro e w2 ⟨v2, rfl, o2, b2⟩
    obtain ⟨A2, c2, rfl, r2⟩ := o2.form
    have pa := (b2.block w.heap.size (by have := HZ1.out; omega)).trans PA.out
    have q0 := cell_of pa 0
    have q1 := cell_of pa 1
    have q2 := cell_of pa 2
    go_wp2_with fail
    have r2d := (rdA.below b2).mono b2.size
    have HX2 := Lib.hid b2.size
    refine (rbuild_any k n D cd d w2 r2d hk.1 hk.2 hn.1 hn.2 (by omega)).mono ?_
    rw [HP.out]
    rintro e w3 ⟨v3, rfl, o3, b3⟩
    obtain ⟨A3, c3, rfl, r3⟩ := o3.form
    have hb := b2.trans (b3.mono b2.size)
    have PA3 := Lib.hid ((hb.block w.heap.size (by have := HZ1.out; omega)).trans PA.out)
    have PB3 := Lib.hid ((hb.block (w.heap.size + 1) (by have := HZ1.out; omega)).trans PB.out)
    have L3 := Lib.hid (L2.out.below hb (Nat.le_refl _))
    have RD3 := Lib.hid ((rdA.below hb).mono hb.size)
    have O2 := Lib.hid (o2.below b3 (Nat.le_refl _))
    have R2 := Lib.hid ((r2.below b3).mono b3.size)
    have R3 := Lib.hid r3
    have B3 := Lib.hid (BB.out.trans (hb.mono BB.out.size))
    have HY := Lib.hid hb.size
    have HQ := Lib.hid (show w.heap.size + 2 ≤ w3.heap.size by have := HZ1.out; have := hb.size; omega)
    clear hb b2 b3 o2 o3 r2 r3 r2d pa q0 q1 q2 PA PB L2 rdA BB
    have KR := Lib.hid (fun W => Right_any k n (some ⟨g, 0, none⟩) d.length cap W hk.1 hk.2 hn.1 hn.2 (by omega))
    have KS := Lib.hid (fun W => rright_any k n D d.length cd W hk.1 hk.2 hn.1 hn.2 (by omega))
    generalize err k n d.length = ER at KR KS
    have hwz := HQ.out
    clear hk hn
    go_wp2_with fail
    refine Txt.wp_region_textN 18 (fun W => Below w3.heap.size w3 W) (by kernel_rfl) (by kernel_rfl) (by kernel_rfl) (by kernel_rfl) (fun _ _ _ _ _ h => h) (Below.refl _ _).drew ?_
    repeat (
      apply Txt.step rfl
      · intro W hS K hK
        have pa := (hS.block _ (show w.heap.size < w3.heap.size by omega)).trans PA3.out
        have pb := (hS.block _ (show w.heap.size + 1 < w3.heap.size by omega)).trans PB3.out
        have q0 := cell_of pa 0
        have q1 := cell_of pa 1
        have q2 := cell_of pa 2
        have u0 := cell_of pb 0
        have u1 := cell_of pb 1
        have u2 := cell_of pb 2
        have s1 := run_str (R2.out.below hS) p1.length c2 rfl 23 5 9 Try.underlying23 Try.underlying5 Try.underlying9
        have s2 := run_str (R3.out.below hS) p1.length c3 rfl 23 5 9 Try.underlying23 Try.underlying5 Try.underlying9
        have HS := Lib.hid hS
        clear hS pa pb
        go_simp
        try (go_wp2_with (first
          | (go_at_call 8; refine (KR.out _).mono ?_; rintro e w' ⟨rfl, b⟩; have S := Lib.hid (HS.out.trans (b.mono HS.out.size)); clear b)
          | (go_at_call 13; refine (KS.out _).mono ?_; rintro e w' ⟨rfl, b⟩; have S := Lib.hid (HS.out.trans (b.mono HS.out.size)); clear b)))
        first | exact hK.out _ HS.out | exact hK.out _ S.out
      · first | exact ⟨_, rfl⟩ | exact ⟨undef, rfl⟩)
    refine Txt.last fun W hS => ?_
    have B4 := Lib.hid (B3.out.trans (hS.mono B3.out.size))
    have L4 := Lib.hid (L3.out.below hS (Nat.le_refl _))
    have O4 := Lib.hid (O2.out.below hS (Nat.le_refl _))
    have PA4 := Lib.hid ((hS.block _ (show w.heap.size < w3.heap.size by omega)).trans PA3.out)
    have PB4 := Lib.hid ((hS.block _ (show w.heap.size + 1 < w3.heap.size by omega)).trans PB3.out)
    have HW := Lib.hid (show W0.heap.size ≤ W.heap.size from Nat.le_trans HY.out hS.size)
    clear hS L3 O2 PA3 PB3 RD3 R2 R3 B3 KR KS
    go_wp2_with fail
    refine (spoil_any _ _ p1 W O4.out HW.out (by omega)).mono ?_
    rintro e w5 ⟨rfl, b5, g5⟩
    have l5 := L4.out.keep b5 HGL.out
    have B5 := Lib.hid (B4.out.trans (b5.mono HX0.out))
    have hwz0 := HZ1.out
    have PA5 := (b5.block w.heap.size (by omega)).trans PA4.out
    have PB5 := (b5.block (w.heap.size + 1) (by omega)).trans PB4.out
    have r5 := rd.below B5.out
    have q0 := cell_of PA5 0
    have q1 := cell_of PA5 1
    have q2 := cell_of PA5 2
    have u0 := cell_of PB5 0
    have u1 := cell_of PB5 1
    have u2 := cell_of PB5 2
    clear b5 g5 L4 O4 PA4 PB4 PA5 PB5 B4
    go_wp2_with fail
    refine (kept_yes D _ cd _ _ g cap d w5 l5 r5 rfl (by omega)).mono ?_
    rintro e w' ⟨rfl, rfl⟩
    clear l5 r5 q0 q1 q2 u0 u1 u2
    go_wp2_with fail
    refine (known_any _).mono ?_
    rintro e w8 ⟨rfl, b8⟩
    have B8 := Lib.hid (B5.out.trans (b8.mono B5.out.size))
    clear b8
    go_wp2_with fail
    go_ret
    exact ⟨rfl, B8.out⟩

theorem own : ownKnob Try.prog.godebug = none := by kernel_rfl
theorem laidOut : laidOutB Try.prog = true := by kernel_rfl

set_option maxRecDepth 100000 in
theorem lifted (os : Os) (started : os.Started) (H : Type) (enc : TypeId × Value → H) :
    ReturnsInHanded {} Try.checked os 3 .any (Rows.recordBuildsSpec.pre6 enc Try.prog Try.f3 Rows.recordBuildsRow.domain false) (Rows.recordBuildsSpec.post enc Try.prog Try.f3 false true false false) := by
  refine returnsInHanded_of_change (C := Try.checked) own started (by kernel_rfl) Try.func3
    (ChangeSpec.witness6 (enc := enc) (C := Try.checked) false ⟨#[], #[.agg #[.int .i64 0, .int .u32 0, .slice none 0 0]], []⟩ 8 (by kernel_rfl) (by kernel_rfl) (by kernel_rfl) (by kernel_rfl)) ?_
  intro W base args ds gs before hval0 hW hcnd _
  have hval : ∀ (j : Nat) t v, Try.f3.params[j]? = some t → args[j]? = some v → Value.okWide Try.prog W .any base t v := hval0
  have hW' := hW
  obtain ⟨p, q, hA0, hV, rfl, hfz, hnd⟩ := hW
  have hA : DataW.TrodAll enc Try.prog W 0 (fun _ => true) true Try.f3.params.toList args.toList ds p := hA0
  rw [Try.params3] at hA hval
  obtain ⟨v0, vs0, d0, ds0, p0, q0, hargs, rfl, rfl, h0, r0⟩ := trodAll_cons hA
  obtain ⟨rfl, rfl, rfl⟩ := trodAll_nil r0
  obtain rfl : args = #[v0] := by cases args; simp_all
  obtain ⟨rfl, rfl⟩ := trodVars_none hV
  have k0 := h0
  have lt0 : ∀ x ∈ p0, x.block < W.heap.size := by obtain ⟨m, hm⟩ := k0; exact DataW.trod_lt m _ _ _ hm
  obtain ⟨x0, y0, A0, c0, b0, rfl, wx0, wy0, w0, l0, z0⟩ := Rec.open_rec (hval 0 25 v0 rfl rfl) h0
  clear hA0 hval0
  refine (walk x0 y0 A0 c0 b0 W (Mem.wf_i64 wx0) (Mem.wf_u32 wy0) w0 l0 z0).mono fun e W' ⟨he, bel⟩ => ?_
  subst he
  exact ⟨_, rfl, _, _, _, [], _, [], hW', trodAll_mk1 (shut_bool Try.underlying4 _), (trodAll_cons_mk (Below.trod laidOut (by kernel_rfl) (of_decide_eq_true (by kernel_rfl)) k0 bel lt0) trodAll_mk0), rfl, bel.frame _, fun h => by cases h⟩

theorem over : Rows.recordBuildsRow.holds Try.pinned (OpenSpec.ofChange Rows.recordBuildsSpec) :=
  OpenClaim.holds_of_wide 3 Try.f3 rfl rfl rfl rfl rfl rfl rfl ⟨rfl, rfl, rfl, rfl, rfl⟩ rfl rfl rfl rfl rfl (by kernel_rfl) Try.func3 (by kernel_rfl)
    (of_decide_eq_true (by kernel_rfl)) (by unfold Func.isWrapper; first | (rw [if_pos (by decide +kernel)]; kernel_rfl) | (rw [if_neg (by decide +kernel)]; exact ⟨rfl, rfl⟩))
    (fun os started H enc _ => lifted os started H enc)

/-- The given statement. -/
theorem proved : Rows.RecordBuildsSaid := over

end Go.Proofs.Ytdmmfhdbbdhoiaa.recordBuilds
