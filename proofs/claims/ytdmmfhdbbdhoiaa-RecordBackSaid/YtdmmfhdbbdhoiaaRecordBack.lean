/-
  Proved: RecordBack, for any bytes, any record and any bytes behind it: a record that was laid down is read as it was, whatever stands about it; as long as its commit is not there it is none.
-/
import Derived.Test.YtdmmfhdbbdhoiaaRows
import Derived.Test.YtdmmfhdbbdhoiaaRecLift
import Derived.Test.YtdmmfhdbbdhoiaaRecKnown
import Derived.Test.YtdmmfhdbbdhoiaaRecLaid
import Derived.Test.YtdmmfhdbbdhoiaaOctAux
import Derived.Test.YtdmmfhdbbdhoiaaText
import Derived.Test.YtdmmfhdbbdhoiaaRecRParse
import Derived.Deep.RegionHeld
namespace Go.Proofs.Ytdmmfhdbbdhoiaa.recordBack
open Go.ChangeShapes Go.WideShapes Go.ChangeAt Go.RowKit Mem Rec
open Go.ChangeMaps (open_string shut_string)
set_option linter.unusedVariables false

theorem rd_own {w : World} {B n c : Nat} {e : TypeId} {A : Option Addr} {bs : List UInt8} (h : Own w B e (.slice A n c) bs) : Rd w w.heap.size A bs := by
  obtain ⟨A', c', hv, hr⟩ := h.form
  injection hv with q1 q2 q3
  rw [q1]; exact hr

set_option maxRecDepth 100000 in
set_option maxHeartbeats 1000000 in
theorem walk (A : Option Addr) (ca : Nat) (as_ : List UInt8) (k n : Int) (D : Option Addr) (cd : Nat) (d : List UInt8) (C : Option Addr) (cc : Nat) (cs : List UInt8) (w : World)
    (ra : Rd w w.heap.size A as_) (ma : as_.length ≤ maxLen) (hk : -9223372036854775808 ≤ k ∧ k ≤ 9223372036854775807) (hn : 0 ≤ n ∧ n ≤ 4294967295) (rd : Rd w w.heap.size D d) (md : d.length ≤ maxLen) (zd : d.length ≤ cd ∧ cd ≤ maxLen)
    (rc : Rd w w.heap.size C cs) (mc : cs.length ≤ maxLen) :
    Calls Try.prog 5 #[.slice A as_.length ca, rec_ k n (.slice D d.length cd), .slice C cs.length cc] w fun e w' => e = .returned (.bool true) ∧ Below w.heap.size w w' := by
  have B1 := below1 w (.cells #[.int .i64 k, .int .u32 n, .slice D d.length cd] 25)
  have R1 := heap_alloc_new w (.cells #[.int .i64 k, .int .u32 n, .slice D d.length cd] 25)
  unfold maxLen at ma md mc
  by_cases h20 : 3000 < as_.length ∨ 3000 < d.length ∨ 3000 < cs.length
  · have BB := Lib.hid B1
    clear B1 R1 rd ra rc
    rcases (by omega : 3000 < as_.length ∨ as_.length ≤ 3000 ∧ 3000 < d.length ∨ as_.length ≤ 3000 ∧ d.length ≤ 3000 ∧ 3000 < cs.length) with h | ⟨h1, h⟩ | ⟨h1, h2, h⟩
    all_goals
      clear h20
      go_enter Try.func5, Try.ntmps5
      go_wp2_with fail
      refine (known_any _).mono ?_
      rintro e w' ⟨rfl, hb⟩
      have B2 := BB.out.trans (hb.mono BB.out.size)
      go_wp2_with fail
      go_ret
      exact ⟨rfl, B2⟩
  · have ha3 : as_.length ≤ 3000 := by omega
    have hd3 : d.length ≤ 3000 := by omega
    have hc3 : cs.length ≤ 3000 := by omega
    clear h20 ma md mc
    have hsz : (w.alloc (.cells #[.int .i64 k, .int .u32 n, .slice D d.length cd] 25)).heap.size = w.heap.size + 1 := World.size_alloc _ _
    have rd1 := (rd.below B1).mono B1.size
    have HSZ := Lib.hid hsz
    clear hsz
    by_cases hE : err k n d.length = 0
    · have hb := parse_built as_ d cs k n hE hn
      have ho := parse_open as_ d cs k n hE hn
      have hbl := build_length k n d
      have kb := Lib.hid (build_ok k n D cd d _ rd1 hk.1 hk.2 hn.1 hn.2 (by omega) hE)
      generalize build k n d = X at *
      obtain ⟨xl, hxl⟩ : ∃ xl, X.length = xl := ⟨_, rfl⟩
      obtain ⟨tm, htm⟩ : ∃ tm, as_.length + (12 + d.length) = tm := ⟨_, rfl⟩
      have htx : tm + 1 = as_.length + xl ∧ xl = d.length + 13 := by omega
      rw [show as_.length + (13 + d.length) = tm + 1 by omega] at hb
      rw [htm] at ho
      have HB := Lib.hid hb
      have HO := Lib.hid ho
      have HX := Lib.hid hxl
      have R1' := Lib.hid R1
      have B1' := Lib.hid B1
      have c1 : ((xl : Int) != (d.length : Int) + 13) = false := by simp; omega
      have c2 : ((tm : Int) + 1 != (as_.length : Int) + (xl : Int)) = false := by simp; omega
      have hxl3 : xl ≤ 3013 := by omega
      have HTX := Lib.hid htx
      clear hb ho hbl hE rd1 R1 B1 hxl htm htx
      have q0 := cell_of R1'.out 0
      have q1 := cell_of R1'.out 1
      have q2 := cell_of R1'.out 2
      go_enter Try.func5, Try.ntmps5
      go_wp2_with fail
      refine kb.out.mono ?_
      rintro e w2 ⟨v2, rfl, o2, b2⟩
      obtain ⟨A2, c2', rfl, r2⟩ := o2.form_n HX.out
      have B2 := B1'.out.trans (b2.mono B1'.out.size)
      have PA := (b2.block w.heap.size (by rw [HSZ.out]; omega)).trans R1'.out
      have ra2 := (ra.below B2).mono B2.size
      have hw2 : w.heap.size < w2.heap.size := block_lt_of_cell (cell_of PA 0)
      clear q0 q1 q2 b2 o2
      go_wp2_with fail
      refine (join_any A A2 as_.length xl ca c2' 0 as_ X w2 ra2 r2 rfl HX.out.symm (by omega) (by omega)).mono ?_
      rintro e w3 ⟨v3, rfl, o3, b3⟩
      obtain ⟨l3, hl3⟩ : ∃ l3, (as_ ++ X).length = l3 := ⟨_, rfl⟩
      have hl3' := Lib.hid (show l3 = as_.length + xl by rw [← hl3, List.length_append, HX.out])
      have HL3 := Lib.hid hl3
      have hl3b : l3 ≤ 6013 := by have := hl3'.out; omega
      obtain ⟨A3, c3, rfl, r3⟩ := o3.form_n hl3
      have B3 := B2.trans (b3.mono B2.size)
      have PA3 := (b3.block w.heap.size hw2).trans PA
      have rc3 := (rc.below B3).mono B3.size
      have z3 := b3.size
      clear ra2 r2 PA o3 b3 hl3
      unfold id
      go_wp2_with fail
      refine (join_any A3 C l3 cs.length c3 cc 0 (as_ ++ X) cs w3 r3 rc3 HL3.out.symm rfl (by omega) (by omega)).mono ?_
      rintro e w4 ⟨v4, rfl, o4, b4⟩
      obtain ⟨l4, hl4⟩ : ∃ l4, (as_ ++ X ++ cs).length = l4 := ⟨_, rfl⟩
      have hl4' : l4 = l3 + cs.length := by rw [← hl4, List.length_append, HL3.out]
      have hxp := HTX.out
      have hl3x := hl3'.out
      obtain ⟨g, cap, rfl, hg, hgs, hcap, hcm⟩ := o4.some_ (by omega)
      rw [hl4] at hcap ⊢
      rw [hl4] at o4
      have hgw : w.heap.size < g := by omega
      have B4 := B3.trans (b4.mono B3.size)
      have PA4 := (b4.block w.heap.size (by omega)).trans PA3
      have z4 := b4.size
      have r4 := rd_own o4
      generalize as_ ++ X ++ cs = T at *
      have HL4 := Lib.hid hl4
      have hl4b : l4 ≤ 10000 ∧ tm < l4 := by omega
      clear PA3 b4 r3 rc3 hl4 hl3x hl4' hg hxp
      unfold id
      go_wp2_with fail
      refine (parse_any (some ⟨g, 0, none⟩) l4 cap as_.length T w4 r4 HL4.out.symm (by omega) hcap hcm (by omega) (by omega)).mono ?_
      rw [HB.out]
      rintro e w5 ⟨v5, rfl, o5, b5⟩
      obtain ⟨A5, c5, rfl, r5⟩ := o5.form
      have hz5 : ∀ o, (w5.alloc o).heap.size = w5.heap.size + 1 := fun o => World.size_alloc _ _
      have z5 := b5.size
      have o5a := o4.below b5 (Nat.le_refl _)
      have B5 := B4.trans (b5.mono B4.size)
      have PA5 := (b5.block w.heap.size (by omega)).trans PA4
      have b6 := below1 w5 (.cells #[.int .i64 k, .int .u32 n, .slice A5 d.length c5] 25)
      have P6 := heap_alloc_new w5 (.cells #[.int .i64 k, .int .u32 n, .slice A5 d.length c5] 25)
      have PA6 := (b6.block w.heap.size (by omega)).trans PA5
      have B6 := B5.trans (b6.mono B5.size)
      have o6a := o5a.below b6 (Nat.le_refl _)
      have r6 := (r5.below b6).mono b6.size
      have rd6 := (rd.below B6).mono B6.size
      have q0 := cell_of PA6 0
      have q1 := cell_of PA6 1
      have q2 := cell_of PA6 2
      have u0 := cell_of P6 0
      have u1 := cell_of P6 1
      have u2 := cell_of P6 2
      have hz6 := hz5 (.cells #[.int .i64 k, .int .u32 n, .slice A5 d.length c5] 25)
      have Z6 := Lib.hid (show w5.heap.size < (w5.alloc (.cells #[.int .i64 k, .int .u32 n, .slice A5 d.length c5] 25)).heap.size by omega)
      have Z7 := Lib.hid (show w.heap.size < (w5.alloc (.cells #[.int .i64 k, .int .u32 n, .slice A5 d.length c5] 25)).heap.size by omega)
      have Z8 := Lib.hid (show g < (w5.alloc (.cells #[.int .i64 k, .int .u32 n, .slice A5 d.length c5] 25)).heap.size by omega)
      have OA := Lib.hid o6a
      have RS := Lib.hid r6
      have RD := Lib.hid rd6
      have BB := Lib.hid B6
      have PP := Lib.hid PA6
      clear o5 b5 o4 B4 PA4 r4 r5 o5a B5 PA5 b6 P6 PA6 B6 o6a r6 rd6 hz5 hz6 z5
      go_wp2_with fail
      clear q0 q1 q2 u0 u1 u2
      generalize w5.alloc (.cells #[.int .i64 k, .int .u32 n, .slice A5 d.length c5] 25) = W0 at *
      refine (same_any k n k n D A5 cd c5 _ d d W0 RD.out RS.out (Nat.le_refl _)).mono ?_
      rintro e w7 ⟨rfl, b7⟩
      rw [show sameB k n d k n d = true by simp [sameB]]
      have o7 := OA.out.below b7 (Nat.le_refl _)
      have PA7 := (b7.block w.heap.size Z7.out).trans PP.out
      have B7 := BB.out.trans (b7.mono BB.out.size)
      have q0 := cell_of PA7 0
      have q1 := cell_of PA7 1
      have q2 := cell_of PA7 2
      have hcell := o7.cell HL4.out.symm (j := tm) (by rw [HL4.out]; omega)
      have hfree := o7.free HL4.out.symm tm
      have o8 := o7.store HL4.out.symm tm (x := 255) (b := 255) rfl
      have B8 := B7.setCell (p := ⟨g, tm, none⟩) (Nat.le_of_lt hgw) (.int .u8 255)
      have r8 := rd_own o8
      have O8 := Lib.hid o8
      have BB8 := Lib.hid B8
      have RR8 := Lib.hid r8
      clear o7 PA7 b7 B7 o8 B8 r8 OA RD RS BB PP
      go_wp2_with fail
      refine (parse_any (some ⟨g, 0, none⟩) l4 cap as_.length (T.set tm 255) _ RR8.out (by rw [List.length_set, HL4.out]) (by omega) hcap hcm (by omega) (by omega)).mono ?_
      rw [HO.out]
      rintro e w9 ⟨v9, rfl, o9, b9⟩
      obtain ⟨A9, c9, rfl, r9⟩ := o9.form
      have B9 := Lib.hid (BB8.out.trans (b9.mono BB8.out.size))
      clear o9 b9 r9 q0 q1 q2 hcell hfree
      unfold none_
      go_wp2_with fail
      refine (same_any 0 0 0 0 A9 none c9 0 0 [] [] _ Rd.nil Rd.nil (Nat.zero_le _)).mono ?_
      rintro e w10 ⟨rfl, b10⟩
      have B10 := Lib.hid ((B9.out.alloc B9.out.size _).trans (b10.mono (B9.out.alloc B9.out.size _).size))
      rw [show sameB 0 0 [] 0 0 [] = true from rfl]
      clear b10
      go_wp2_with fail
      refine (known_any _).mono ?_
      rintro e w11 ⟨rfl, b11⟩
      have B11 := Lib.hid (B10.out.trans (b11.mono B10.out.size))
      clear b11
      go_wp2_with fail
      go_ret
      exact ⟨rfl, B11.out⟩
    · have kn := Lib.hid (fun W => build_no k n D cd d W hk.1 hk.2 hn.1 hn.2 (by omega) hE)
      have kr := Lib.hid (fun W => Right_any k n D d.length cd W hk.1 hk.2 hn.1 hn.2 (by omega))
      have hEb : (err k n d.length != 0) = true := by simp [hE]
      have HB1 := Lib.hid B1
      have HR1 := Lib.hid R1
      have q0 := cell_of R1 0
      have q1 := cell_of R1 1
      have q2 := cell_of R1 2
      clear rd1 hE B1 R1
      generalize err k n d.length = E at *
      go_enter Try.func5, Try.ntmps5
      go_wp2_with fail
      refine (kn.out _).mono ?_
      rintro e w2 ⟨rfl, b2⟩
      have B2 := HB1.out.trans (b2.mono HB1.out.size)
      have PA := (b2.block w.heap.size (by rw [HSZ.out]; omega)).trans HR1.out
      clear b2 q0 q1 q2
      have q0 := cell_of PA 0
      have q1 := cell_of PA 1
      have q2 := cell_of PA 2
      clear PA
      go_wp2_with fail
      refine (kr.out _).mono ?_
      rintro e w3 ⟨rfl, b3⟩
      have B3 := B2.trans (b3.mono B2.size)
      clear b3 q0 q1 q2
      go_wp2_with fail
      refine (known_any _).mono ?_
      rintro e w' ⟨rfl, hb⟩
      have B4 := B3.trans (hb.mono B3.size)
      go_wp2_with fail
      go_ret
      exact ⟨rfl, B4⟩

theorem own : ownKnob Try.prog.godebug = none := by kernel_rfl
theorem laidOut : laidOutB Try.prog = true := by kernel_rfl

set_option maxRecDepth 100000 in
theorem lifted (os : Os) (started : os.Started) (H : Type) (enc : TypeId × Value → H) :
    ReturnsInHanded {} Try.checked os 5 .any (Rows.recordBackSpec.pre6 enc Try.prog Try.f5 Rows.recordBackRow.domain false) (Rows.recordBackSpec.post enc Try.prog Try.f5 false true false false) := by
  refine returnsInHanded_of_change (C := Try.checked) own started (by kernel_rfl) Try.func5
    (ChangeSpec.witness6 (enc := enc) (C := Try.checked) false ⟨#[], #[.slice none 0 0, .agg #[.int .i64 0, .int .u32 0, .slice none 0 0], .slice none 0 0], []⟩ 8 (by kernel_rfl) (by kernel_rfl) (by kernel_rfl) (by kernel_rfl)) ?_
  intro W base args ds gs before hval0 hW hcnd _
  have hval : ∀ (j : Nat) t v, Try.f5.params[j]? = some t → args[j]? = some v → Value.okWide Try.prog W .any base t v := hval0
  have hW' := hW
  obtain ⟨p, q, hA0, hV, rfl, hfz, hnd⟩ := hW
  have hA : DataW.TrodAll enc Try.prog W 0 (fun _ => true) true Try.f5.params.toList args.toList ds p := hA0
  rw [Try.params5] at hA hval
  obtain ⟨v0, vs0, d0, ds0, p0, q0, hargs, rfl, rfl, h0, r0⟩ := trodAll_cons hA
  obtain ⟨v1, vs1, d1, ds1, p1, q1, rfl, rfl, rfl, h1, r1⟩ := trodAll_cons r0
  obtain ⟨v2, vs2, d2, ds2, p2, q2, rfl, rfl, rfl, h2, r2⟩ := trodAll_cons r1
  obtain ⟨rfl, rfl, rfl⟩ := trodAll_nil r2
  obtain rfl : args = #[v0, v1, v2] := by cases args; simp_all
  obtain ⟨rfl, rfl⟩ := trodVars_none hV
  have k0 := h0
  have lt0 : ∀ x ∈ p0, x.block < W.heap.size := by obtain ⟨m, hm⟩ := k0; exact DataW.trod_lt m _ _ _ hm
  obtain ⟨A0, c0, b0, rfl, w0, l0⟩ := Mem.open_bytes Try.underlying23 Try.underlying5 (by kernel_rfl) (hval 0 23 v0 rfl rfl) h0
  have k1 := h1
  have lt1 : ∀ x ∈ p1, x.block < W.heap.size := by obtain ⟨m, hm⟩ := k1; exact DataW.trod_lt m _ _ _ hm
  obtain ⟨x1, y1, A1, c1, b1, rfl, wx1, wy1, w1, l1, z1⟩ := Rec.open_rec (hval 1 25 v1 rfl rfl) h1
  have k2 := h2
  have lt2 : ∀ x ∈ p2, x.block < W.heap.size := by obtain ⟨m, hm⟩ := k2; exact DataW.trod_lt m _ _ _ hm
  obtain ⟨A2, c2, b2, rfl, w2, l2⟩ := Mem.open_bytes Try.underlying23 Try.underlying5 (by kernel_rfl) (hval 2 23 v2 rfl rfl) h2
  clear hA0 hval0
  refine (walk A0 c0 b0 x1 y1 A1 c1 b1 A2 c2 b2 W w0 l0 (Mem.wf_i64 wx1) (Mem.wf_u32 wy1) w1 l1 z1 w2 l2).mono fun e W' ⟨he, bel⟩ => ?_
  subst he
  exact ⟨_, rfl, _, _, _, [], _, [], hW', trodAll_mk1 (shut_bool Try.underlying4 _), (trodAll_cons_mk (Below.trod laidOut (by kernel_rfl) (of_decide_eq_true (by kernel_rfl)) k0 bel lt0) (trodAll_cons_mk (Below.trod laidOut (by kernel_rfl) (of_decide_eq_true (by kernel_rfl)) k1 bel lt1) (trodAll_cons_mk (Below.trod laidOut (by kernel_rfl) (of_decide_eq_true (by kernel_rfl)) k2 bel lt2) trodAll_mk0))), rfl, bel.frame _, fun h => by cases h⟩

theorem over : Rows.recordBackRow.holds Try.pinned (OpenSpec.ofChange Rows.recordBackSpec) :=
  OpenClaim.holds_of_wide 5 Try.f5 rfl rfl rfl rfl rfl rfl rfl ⟨rfl, rfl, rfl, rfl, rfl⟩ rfl rfl rfl rfl rfl (by kernel_rfl) Try.func5 (by kernel_rfl)
    (of_decide_eq_true (by kernel_rfl)) (by unfold Func.isWrapper; first | (rw [if_pos (by decide +kernel)]; kernel_rfl) | (rw [if_neg (by decide +kernel)]; exact ⟨rfl, rfl⟩))
    (fun os started H enc _ => lifted os started H enc)

/-- The given statement. -/
theorem proved : Rows.RecordBackSaid := over

end Go.Proofs.Ytdmmfhdbbdhoiaa.recordBack
