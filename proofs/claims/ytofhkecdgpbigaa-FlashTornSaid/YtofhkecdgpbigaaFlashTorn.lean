/-
  Proved: FlashTorn, for any bytes, any place and any cut: a torn programming has each bit of each byte as it was or as it was to be, and done again with the same bytes it is whole; a torn erasing has erased a beginning of the sector, and nothing else is changed.
-/
import Derived.Test.YtofhkecdgpbigaaRows
import Derived.Test.YtofhkecdgpbigaaLift
import Derived.Test.YtofhkecdgpbigaaFlaBytes
import Derived.Test.YtofhkecdgpbigaaFlaTwo
import Derived.Test.YtofhkecdgpbigaaText
import Derived.IntWalk
namespace Go.Proofs.Ytofhkecdgpbigaa.flashTorn
open Go.ChangeShapes Go.WideShapes Go.ChangeAt Go.RowKit Mem Fla
open Go.ChangeMaps (open_string shut_string)
set_option linter.unusedVariables false

theorem two_edge {R : List UInt8} {k : Nat} {x : List UInt8} {a : Nat} {m : Int} {s s0 s1 s3 g0 g1 : Fl} (C : TL R k x a m s s0 s1 s3 g0 g1) (j : Nat) (hj : j < 2048) :
    (¬ j / 1024 = k / 1024 ∧ byt g1.bs j = byt R j) ∨
    (j / 1024 = k / 1024 ∧ j < k / 1024 * 1024 + m.toNat % 1025 ∧ byt g1.bs j = 255) ∨
    (j / 1024 = k / 1024 ∧ k / 1024 * 1024 + m.toNat % 1025 ≤ j ∧ byt g1.bs j = byt R j) := by
  by_cases h : j / 1024 = k / 1024
  · by_cases h2 : j < k / 1024 * 1024 + m.toNat % 1025
    · exact .inr (.inl ⟨h, h2, C.d1 j hj h h2⟩)
    · exact .inr (.inr ⟨h, by omega, C.d2 j hj h h2⟩)
  · exact .inl ⟨h, C.d0 j hj h⟩

set_option maxRecDepth 100000 in
set_option maxHeartbeats 8000000 in
theorem walk (A : Option Addr) (c : Nat) (l : List UInt8) (A0 : Option Addr) (cx : Nat) (x : List UInt8) (z0 z1 z2 : Int) (w : World)
    (hr : Rd w w.heap.size A l) (hl : l.length ≤ maxLen) (hr0 : Rd w w.heap.size A0 x) (hx : x.length ≤ maxLen) (hz0 : 0 ≤ z0 ∧ z0 ≤ 4294967295) (hz1 : 0 ≤ z1 ∧ z1 ≤ 4294967295) (hz2 : 0 ≤ z2 ∧ z2 ≤ 4294967295) :
    Calls Try.prog 5 #[.slice A l.length c, .slice A0 x.length cx, .agg #[.int .u32 z0, .int .u32 z1, .int .u32 z2]] w fun e w' => e = .returned (.bool true) ∧ Below w.heap.size w w' := by
  obtain ⟨wa, hwa⟩ : ∃ wa, w.alloc (Obj.cells #[Value.int IntKind.u32 z0, Value.int IntKind.u32 z1, Value.int IntKind.u32 z2] 42) = wa := ⟨_, rfl⟩
  have hba : Below w.heap.size w wa := by rw [← hwa]; exact (Below.refl _ _).alloc (Nat.le_refl _) _
  have hsz : w.heap.size < wa.heap.size := by rw [← hwa]; simp
  have hc0 : wa.cell? ⟨w.heap.size, 0, none⟩ = some (.int .u32 z0) := by rw [← hwa]; simp
  have hc1 : wa.cell? ⟨w.heap.size, 1, none⟩ = some (.int .u32 z1) := by rw [← hwa]; simp
  have hc2 : wa.cell? ⟨w.heap.size, 2, none⟩ = some (.int .u32 z2) := by rw [← hwa]; simp
  have Q0 := Lib.hid (fun W (b : Below wa.heap.size wa W) => (World.cell?_of_block (w := wa) (w' := W) (a := ⟨w.heap.size, 0, none⟩) (b.block _ hsz)).trans hc0)
  have Q1 := Lib.hid (fun W (b : Below wa.heap.size wa W) => (World.cell?_of_block (w := wa) (w' := W) (a := ⟨w.heap.size, 1, none⟩) (b.block _ hsz)).trans hc1)
  have Q2 := Lib.hid (fun W (b : Below wa.heap.size wa W) => (World.cell?_of_block (w := wa) (w' := W) (a := ⟨w.heap.size, 2, none⟩) (b.block _ hsz)).trans hc2)
  have H1 := Lib.hid (rows_any A c l wa ((hr.below hba).mono hba.size) hl)
  have H2 := Lib.hid (fun W (hb : Below wa.heap.size wa W) => rows_any A c l W ((((hr.below hba).mono hba.size).below hb).mono hb.size) hl)
  have KN := Lib.hid (fun W => known_any W)
  have HR := Lib.hid ((hr0.below hba).mono hba.size)
  have HA := Lib.hid hba
  have WA := Lib.hid hwa
  clear hwa hba hsz hc0 hc1 hc2
  unfold maxLen at hx hl
  by_cases h5 : 500 < x.length ∨ x.length = 0
  · clear hr hr0
    have h5' : 500 < (x.length : Int) ∨ (x.length : Int) = 0 := by omega
    clear h5
    rcases h5' with h5 | h5
    all_goals
      go_enter Try.func5, Try.ntmps5
      go_wp2_with fail
      rw [WA.out]
      refine H1.out.mono ?_
      rintro e w1 ⟨p, D, cc, rfl, S⟩
      have S := Lib.hid S
      go_wp2_with fail
      refine (H2.out _ S.out.b).mono ?_
      rintro e w2 ⟨p2, D2, cc2, rfl, S2⟩
      have T := Lib.hid (LT.of (w1 := w) S.out S2)
      clear S S2
      go_wp2_with fail
      refine (KN.out _).mono ?_
      rintro e w3 ⟨rfl, b3⟩
      have B3 := Lib.hid (HA.out.trans ((T.out.f.b.trans (b3.mono T.out.f.b.size)).mono HA.out.size))
      clear b3 T
      go_wp2_with fail
      go_ret
      exact ⟨rfl, B3.out⟩
  · have hx1 : 0 < x.length ∧ x.length ≤ 500 := by omega
    obtain ⟨k, hk, hk1⟩ : ∃ k : Nat, z0.tmod (2048 - (x.length : Int)) = (k : Int) ∧ k + x.length < 2048 := by
      have e := Int.tmod_eq_emod_of_nonneg (b := 2048 - (x.length : Int)) hz0.1
      have h0 := Int.emod_nonneg z0 (show 2048 - (x.length : Int) ≠ 0 by omega)
      have h1 := Int.emod_lt_of_pos z0 (show 0 < 2048 - (x.length : Int) by omega)
      exact ⟨_, e.trans (Int.toNat_of_nonneg h0).symm, by omega⟩
    obtain ⟨a, ha, ha1⟩ : ∃ a : Nat, z1.tmod (x.length : Int) = (a : Int) ∧ a < x.length := by
      have e := Int.tmod_eq_emod_of_nonneg (b := (x.length : Int)) hz1.1
      have h0 := Int.emod_nonneg z1 (show (x.length : Int) ≠ 0 by omega)
      have h1 := Int.emod_lt_of_pos z1 (show 0 < (x.length : Int) by omega)
      exact ⟨_, e.trans (Int.toNat_of_nonneg h0).symm, by omega⟩
    clear hr hr0
    obtain ⟨s0, s1, s3, g0, g1, hC⟩ := tl_of (rowL l 2048) k x a z2 (rowL_len _ _) (by omega) (by omega) (by omega) ha1 hz2.1
    have C := Lib.hid hC
    clear hC
    have hRl := Lib.hid (rowL_len l 2048)
    obtain ⟨R, hR⟩ : ∃ R, rowL l 2048 = R := ⟨_, rfl⟩
    rw [hR] at H1 H2 C hRl
    clear hR
    obtain ⟨s, hs⟩ : ∃ s, Fl.new R 5 = s := ⟨_, rfl⟩
    rw [hs] at H1 H2 C
    clear hs
    obtain ⟨q, hq⟩ : ∃ q : Nat, k / 1024 = q := ⟨_, rfl⟩
    have hq1 : (k : Int) / 1024 = (q : Int) := by omega
    have hq2 : (q : Int) ≤ 2 := by omega
    have hxi : (x.length : Int) ≤ 500 := by omega
    have hai : (a : Int) ≤ 500 := by omega
    have hki : (k : Int) ≤ 2048 := by omega
    have K1 := Lib.hid (fun W p D cc p2 D2 cc2 (S : LT wa W p D cc s p2 D2 cc2 s) => bytes_any S.f.i)
    rw [C.out.b] at K1
    have K2 := Lib.hid (fun W p D cc p2 D2 cc2 (S : LT wa W p D cc s p2 D2 cc2 s) => S.ends (cut_any (a : Int) z2 (by omega) (by omega) hz2.1 hz2.2 S.f.i))
    rw [C.out.c1] at K2
    generalize Fl.cutC (a : Int) = y1 at K2
    have K3 := Lib.hid (fun W p D cc p2 D2 cc2 (S : LT wa W p D cc s0 p2 D2 cc2 s) => S.ends2 (cut_any 0 z2 (by omega) (by omega) hz2.1 hz2.2 S.g.i))
    rw [C.out.c2] at K3
    generalize Fl.cutC 0 = y2 at K3
    have K4 := Lib.hid (fun W p D cc p2 D2 cc2 (S : LT wa W p D cc s0 p2 D2 cc2 g0) => S.ends (program_any (A := A0) x.length cx (k : Int) x (by omega) (by omega) (RdN.of_rd (HR.out.below S.f.b) S.f.b.size S.f.hp S.f.hD) rfl (by omega) S.f.i (by rw [C.out.o0]; omega)))
    rw [C.out.p] at K4
    have K5 := Lib.hid (fun W p D cc p2 D2 cc2 (S : LT wa W p D cc s1 p2 D2 cc2 g0) => S.ends2 (erase_any (q : Int) (by omega) (by omega) S.g.i (by have := C.out.og; omega)))
    rw [← hq, C.out.e0, C.out.e, hq] at K5
    have K6 := Lib.hid (fun W p D cc p2 D2 cc2 (S : LT wa W p D cc s1 p2 D2 cc2 g1) => fon_any S.f.i)
    rw [C.out.n1] at K6
    have K7 := Lib.hid (fun W p D cc p2 D2 cc2 (S : LT wa W p D cc s1 p2 D2 cc2 g1) => fon_any S.g.i)
    rw [C.out.ng] at K7
    have K8 := Lib.hid (fun W p D cc p2 D2 cc2 (S : LT wa W p D cc s1 p2 D2 cc2 g1) => bytes_any S.f.i)
    have K9 := Lib.hid (fun W p D cc p2 D2 cc2 (S : LT wa W p D cc s1 p2 D2 cc2 g1) => bytes_any S.g.i)
    have K10 := Lib.hid (fun W p D cc p2 D2 cc2 (S : LT wa W p D cc s1 p2 D2 cc2 g1) => S.ends0 (start_any S.f.i))
    have K11 := Lib.hid (fun W p D cc p2 D2 cc2 (S : LT wa W p D cc s1.start p2 D2 cc2 g1) => S.ends (program_any (A := A0) x.length cx (k : Int) x (by omega) (by omega) (RdN.of_rd (HR.out.below S.f.b) S.f.b.size S.f.hp S.f.hD) rfl (by omega) S.f.i (by have := C.out.o1; omega)))
    rw [C.out.p3] at K11
    have K12 := Lib.hid (fun W p D cc p2 D2 cc2 (S : LT wa W p D cc s3 p2 D2 cc2 g1) => bytes_any S.f.i)
    have K13 := Lib.hid (fun W p D cc p2 D2 cc2 (S : LT wa W p D cc s3 p2 D2 cc2 g1) => fworn_any (q : Int) S.g.i)
    rw [← hq, C.out.wg, hq] at K13
    have L1 := Lib.hid C.out.l1
    have L3 := Lib.hid C.out.l3
    have LG := Lib.hid C.out.lg
    have HQ := Lib.hid hq
    have hxp : 0 < (x.length : Int) := by omega
    have hxne : ¬ x = [] := fun h => by rw [h] at hx1; exact absurd hx1.1 (by decide)
    have hwz1 : IntKind.i64.wrap z1 = z1 := IntWalk.i64_in _ (by omega)
    have hxz : ((x.length : Int) == 0) = false := beq_eq_false_iff_ne.2 (by omega)
    clear hq h5
    go_enter Try.func5, Try.ntmps5
    go_wp2_with fail
    rw [WA.out]
    refine H1.out.mono ?_
    rintro e w1 ⟨p, D, cc, rfl, S⟩
    have S := Lib.hid S
    go_wp2_with fail
    refine (H2.out _ S.out.b).mono ?_
    rintro e w2 ⟨p2, D2, cc2, rfl, S2⟩
    have T := Lib.hid (LT.of (w1 := w) S.out S2)
    have q0 := Q0.out _ T.out.f.b
    have q1 := Q1.out _ T.out.f.b
    have q2 := Q2.out _ T.out.f.b
    clear S S2 H1 H2
    go_wp2_with fail
    refine (K1.out _ _ _ _ _ _ _ T.out).mono ?_
    rintro e w3 ⟨v1, rfl, o1, b1⟩
    obtain ⟨A1, c1, hv, r1⟩ := rdT_own o1 T.out.f.i.lt T.out.f.i.ltD T.out.g.i.lt T.out.g.i.ltD
    rw [hRl.out] at hv
    simp only [id] at hv ⊢
    subst hv
    have T2 := Lib.hid (T.out.next b1)
    have R1 := Lib.hid r1
    clear T o1 b1 r1 q0 q1 q2
    go_wp2_with fail
    refine Txt.wp_region_tail 9 (fun W => LT wa W p D cc s p2 D2 cc2 s ∧ RdT W p D p2 D2 A1 R) (by kernel_rfl) (by kernel_rfl) (by kernel_rfl) (by kernel_rfl) (by kernel_rfl) (fun _ _ _ _ _ h => h) ⟨T2.out.drew, R1.out⟩ ?_
    clear T2 R1
    iterate 9 (
      apply Txt.stepR rfl
      · intro W hS K hK
        have q1 := Q1.out _ hS.1.f.b
        have q2 := Q2.out _ hS.1.f.b
        go_simp
        exact hK.out _ hS
      · first | exact ⟨_, rfl⟩ | exact ⟨undef, rfl⟩)
    refine Txt.lastR rfl ?_
    intro W hS K hK
    have HT := Lib.hid hS
    clear hS
    go_simp
    go_wp2_with (go_at_call 20; refine (K2.out _ _ _ _ _ _ _ HT.out.1).mono ?_; rintro e w4 ⟨rfl, S, F⟩; have T := Lib.hid S; have R1 := Lib.hid (HT.out.2.far F); clear S F)
    refine hK.out _ _ ?_
    have q2 := Q2.out _ T.out.f.b
    clear hK K HT K1 K2
    go_wp2_with fail
    refine (K3.out _ _ _ _ _ _ _ T.out).mono ?_
    rintro e w5 ⟨rfl, S, F⟩
    have T2 := Lib.hid S
    have R1b := Lib.hid (R1.out.far2 F)
    clear T R1 S F q2
    go_wp2_with fail
    refine (K4.out _ _ _ _ _ _ _ T2.out).mono ?_
    rintro e w6 ⟨rfl, S, F⟩
    have T := Lib.hid S
    have R1 := Lib.hid (R1b.out.far F)
    clear T2 R1b S F K3 K4
    go_wp2_with fail
    refine (K5.out _ _ _ _ _ _ _ T.out).mono ?_
    rintro e w7 ⟨rfl, S, F⟩
    have T2 := Lib.hid S
    have R1b := Lib.hid (R1.out.far2 F)
    clear T R1 S F
    go_wp2_with fail
    refine (K6.out _ _ _ _ _ _ _ T2.out).mono ?_
    rintro e w8 ⟨rfl, rfl⟩
    go_wp2_with fail
    refine (K7.out _ _ _ _ _ _ _ T2.out).mono ?_
    rintro e w8 ⟨rfl, rfl⟩
    go_wp2_with fail
    refine (K8.out _ _ _ _ _ _ _ T2.out).mono ?_
    rintro e w8 ⟨v2, rfl, o2, b2⟩
    obtain ⟨A2, c2, hv, r2⟩ := rdT_own o2 T2.out.f.i.lt T2.out.f.i.ltD T2.out.g.i.lt T2.out.g.i.ltD
    rw [L1.out] at hv
    simp only [id] at hv ⊢
    subst hv
    have T := Lib.hid (T2.out.next b2)
    have R1 := Lib.hid (R1b.out.next b2)
    have R2 := Lib.hid r2
    clear T2 R1b o2 b2 r2 K5 K6 K7 K8
    go_wp2_with fail
    refine (K9.out _ _ _ _ _ _ _ T.out).mono ?_
    rintro e w9 ⟨v3, rfl, o3, b3⟩
    obtain ⟨A3, c3, hv, r3⟩ := rdT_own o3 T.out.f.i.lt T.out.f.i.ltD T.out.g.i.lt T.out.g.i.ltD
    rw [LG.out] at hv
    simp only [id] at hv ⊢
    subst hv
    have T2 := Lib.hid (T.out.next b3)
    have R1b := Lib.hid (R1.out.next b3)
    have R2b := Lib.hid (R2.out.next b3)
    have R3b := Lib.hid r3
    clear T R1 R2 o3 b3 r3 K9
    go_wp2_with fail
    refine (K10.out _ _ _ _ _ _ _ T2.out).mono ?_
    rintro e w10 ⟨rfl, S, F⟩
    have T := Lib.hid S
    have R1 := Lib.hid (R1b.out.far F)
    have R2 := Lib.hid (R2b.out.far F)
    have R3 := Lib.hid (R3b.out.far F)
    clear T2 R1b R2b R3b S F K10
    go_wp2_with fail
    refine (K11.out _ _ _ _ _ _ _ T.out).mono ?_
    rintro e w11 ⟨rfl, S, F⟩
    have T2 := Lib.hid S
    have R1b := Lib.hid (R1.out.far F)
    have R2b := Lib.hid (R2.out.far F)
    have R3b := Lib.hid (R3.out.far F)
    clear T R1 R2 R3 S F K11
    go_wp2_with fail
    refine (K12.out _ _ _ _ _ _ _ T2.out).mono ?_
    rintro e w12 ⟨v4, rfl, o4, b4⟩
    obtain ⟨A4, c4, hv, r4⟩ := rdT_own o4 T2.out.f.i.lt T2.out.f.i.ltD T2.out.g.i.lt T2.out.g.i.ltD
    rw [L3.out] at hv
    simp only [id] at hv ⊢
    subst hv
    have T := Lib.hid (T2.out.next b4)
    have R1 := Lib.hid (R1b.out.next b4)
    have R2 := Lib.hid (R2b.out.next b4)
    have R3 := Lib.hid (R3b.out.next b4)
    have R4 := Lib.hid r4
    clear T2 R1b R2b R3b o4 b4 r4 K12
    go_wp2_with fail
    refine (K13.out _ _ _ _ _ _ _ T.out).mono ?_
    rintro e w13 ⟨rfl, rfl⟩
    have hbb := HR.out.below T.out.f.b
    have CT0 : Hid (CT wa w12 A0 x A1 R A2 s1.bs A3 g1.bs A4 s3.bs) := Lib.hid ⟨T.out.f.b, hbb.mono T.out.f.b.size, R1.out.rd, R2.out.rd, R3.out.rd, R4.out.rd⟩
    clear T R1 R2 R3 R4 hbb K13 HR Q0 Q1 Q2
    go_wp2_with fail
    obtain ⟨E0, hE⟩ : ∃ E0, k / 1024 * 1024 + z2.toNat % 1025 = E0 := ⟨_, rfl⟩
    have ED := Lib.hid (fun j (hj : j < 2048) => two_edge C.out j hj)
    rw [hE, HQ.out] at ED
    clear hE HQ
    go_loopw [18, 19] (fun m i wr => ∃ (mb : Bool) (j : Nat), m = .bool mb ∧ j ≤ 2048 ∧ i = .int .i64 (j : Int) ∧ (mb = true → E0 ≤ j) ∧ CT wa wr A0 x A1 R A2 s1.bs A3 g1.bs A4 s3.bs) (fun _ i _ => 2048 - (intOf i).toNat)
    case atStart => exact ⟨false, 0, rfl, Nat.zero_le _, rfl, (fun h => by cases h), CT0.out⟩
    case round =>
      clear CT0
      obtain ⟨mb, j, rfl, hj, rfl, hmb, hS⟩ := hrel
      by_cases hlt : j < 2048
      · obtain ⟨g0', o0, rfl, -, -⟩ := hS.r0.at_ (k := 0) (by omega)
        obtain ⟨g1', o1, rfl, -, -⟩ := hS.r1.at_ (k := j) (by rw [hRl.out]; omega)
        obtain ⟨g2', o2, rfl, -, -⟩ := hS.r2.at_ (k := j) (by rw [L1.out]; omega)
        obtain ⟨g3', o3, rfl, -, -⟩ := hS.r3.at_ (k := j) (by rw [LG.out]; omega)
        obtain ⟨g4', o4, rfl, -, -⟩ := hS.r4.at_ (k := j) (by rw [L3.out]; omega)
        have G1 := Lib.hid (fun W (S : CT wa W (some ⟨g0', o0, none⟩) x (some ⟨g1', o1, none⟩) R (some ⟨g2', o2, none⟩) s1.bs (some ⟨g3', o3, none⟩) g1.bs (some ⟨g4', o4, none⟩) s3.bs) => rd_cell S.r1 (j := j) (by rw [hRl.out]; omega))
        have G2 := Lib.hid (fun W (S : CT wa W (some ⟨g0', o0, none⟩) x (some ⟨g1', o1, none⟩) R (some ⟨g2', o2, none⟩) s1.bs (some ⟨g3', o3, none⟩) g1.bs (some ⟨g4', o4, none⟩) s3.bs) => rd_cell S.r2 (j := j) (by rw [L1.out]; omega))
        have G3 := Lib.hid (fun W (S : CT wa W (some ⟨g0', o0, none⟩) x (some ⟨g1', o1, none⟩) R (some ⟨g2', o2, none⟩) s1.bs (some ⟨g3', o3, none⟩) g1.bs (some ⟨g4', o4, none⟩) s3.bs) => rd_cell S.r3 (j := j) (by rw [LG.out]; omega))
        have G4 := Lib.hid (fun W (S : CT wa W (some ⟨g0', o0, none⟩) x (some ⟨g1', o1, none⟩) R (some ⟨g2', o2, none⟩) s1.bs (some ⟨g3', o3, none⟩) g1.bs (some ⟨g4', o4, none⟩) s3.bs) => rd_cell S.r4 (j := j) (by rw [L3.out]; omega))
        have hjlt : (j : Int) < 2048 := by omega
        have HJ := Lib.hid hlt
        have U1 := C.out.u1 j
        have U2 := C.out.u2 j
        have ed := Lib.hid (ED.out j hlt)
        obtain ⟨jq, hjq⟩ : ∃ jq : Nat, j / 1024 = jq := ⟨_, rfl⟩
        have HJ1 : Hid ((j : Int) / 1024 = (jq : Int)) := Lib.hid (by omega)
        rw [hjq] at ed
        clear hjq ED
        have HM := Lib.hid hmb
        clear hmb
        have V1 : k ≤ j → j < k + x.length → bits .and .u8 (byt R j) (byt x (j - k)) = byt s3.bs j := C.out.v1 j
        have V2 : ¬ (k ≤ j ∧ j < k + x.length) → byt R j = byt s3.bs j := C.out.v2 j
        have h3 : (k ≤ j ∧ j < k + x.length) ∨ (j : Int) < (k : Int) ∨ ((k : Int) ≤ (j : Int) ∧ (k : Int) + (x.length : Int) ≤ (j : Int)) := by omega
        have V1 := Lib.hid V1
        have V2 := Lib.hid V2
        have U1 := Lib.hid U1
        have U2 := Lib.hid U2
        have q1 := G1.out _ hS
        generalize byt R j = b1 at *
        generalize byt s1.bs j = b2 at *
        generalize byt g1.bs j = b3 at *
        generalize byt s3.bs j = b4 at *
        have HS := Lib.hid hS
        clear hS
        apply wp_seq_k
        intro KA hKA
        have HKA := Lib.hid hKA
        clear hKA
        go_wp2_with fail
        refine HKA.out _ _ ?_
        clear HKA KA
        apply wp_seq_k
        intro KB hKB
        have HKB := Lib.hid hKB
        clear hKB
        apply wp_block
        apply wp_seq_k
        intro KC hKC
        have HKC := Lib.hid hKC
        clear hKC
        go_wp2_with fail
        refine HKC.out _ _ ?_
        clear HKC KC q1
        apply wp_seq_k
        intro K2 hK2
        have HK2 := Lib.hid hK2
        clear hK2
        have T2 : ∀ (u140 u141 u142 u143 u144 u145 u146 u147 u148 u149 u150 u151 u152 u153 u154 u155 u156 u157 u158 u159 u160 u161 u162 u163 u164 u165 u166 u167 u168 u169 : Value) (W : World), CT wa W (some ⟨g0', o0, none⟩) x (some ⟨g1', o1, none⟩) R (some ⟨g2', o2, none⟩) s1.bs (some ⟨g3', o3, none⟩) g1.bs (some ⟨g4', o4, none⟩) s3.bs → K2 { tmps := #[Value.slice A l.length c, Value.slice (some ⟨g0', o0, none⟩) x.length cx, Value.agg #[Value.int IntKind.u32 z0, Value.int IntKind.u32 z1, Value.int IntKind.u32 z2], undef, undef, Value.pointer (some { block := w.heap.size, off := 0 }), u6, at_ p, at_ p2, Value.int IntKind.i64 (k : Int), Value.slice (some ⟨g1', o1, none⟩) 2048 c1, Value.int IntKind.i64 7, Value.int IntKind.i64 7, Value.bool false, Value.slice (some ⟨g2', o2, none⟩) 2048 c2, Value.slice (some ⟨g3', o3, none⟩) 2048 c3, Value.int IntKind.i64 0, Value.slice (some ⟨g4', o4, none⟩) 2048 c4, Value.bool mb, Value.int IntKind.i64 (j : Int), Value.int IntKind.u8 b4, u21, Value.slice A l.length c, at_ p, Value.slice A l.length c, at_ p2, at_ p, Value.bool false, Value.bool false, at_ p2, Value.bool false, Value.bool false, Value.bool false, Value.slice (some ⟨g0', o0, none⟩) x.length cx, Value.int IntKind.i64 (x.length : Int), Value.bool (decide (500 < (x.length : Int))), Value.bool (decide (500 < (x.length : Int))), Value.bool (decide (500 < (x.length : Int))), Value.slice (some ⟨g0', o0, none⟩) x.length cx, Value.int IntKind.i64 (x.length : Int), Value.bool false, Value.bool (decide (500 < (x.length : Int))), undef, undef, undef, undef, undef, undef, undef, undef, undef, Value.pointer (some { block := w.heap.size, off := 0 }), Value.int IntKind.u32 z0, Value.int IntKind.i64 z0, Value.slice (some ⟨g0', o0, none⟩) x.length cx, Value.int IntKind.i64 (x.length : Int), Value.int IntKind.i64 (2048 - (x.length : Int)), Value.int IntKind.i64 (k : Int), at_ p, Value.slice (some ⟨g1', o1, none⟩) 2048 c1, at_ p, Value.pointer (some { block := w.heap.size, off := 1 }), Value.int IntKind.u32 z1, Value.int IntKind.i64 z1, Value.slice (some ⟨g0', o0, none⟩) x.length cx, Value.int IntKind.i64 (x.length : Int), Value.int IntKind.i64 (a : Int), Value.pointer (some { block := w.heap.size, off := 2 }), Value.int IntKind.u32 z2, Value.int IntKind.i64 y1, at_ p2, Value.pointer (some { block := w.heap.size, off := 2 }), Value.int IntKind.u32 z2, Value.int IntKind.i64 y2, at_ p, Value.int IntKind.i64 (k : Int), Value.slice (some ⟨g0', o0, none⟩) x.length cx, Value.int IntKind.i64 7, at_ p2, Value.int IntKind.i64 (k : Int), Value.int IntKind.i64 (q : Int), Value.int IntKind.i64 7, at_ p, Value.bool false, Value.bool false, at_ p2, Value.bool false, Value.bool false, at_ p, Value.slice (some ⟨g2', o2, none⟩) 2048 c2, at_ p2, Value.slice (some ⟨g3', o3, none⟩) 2048 c3, at_ p, Value.tuple #[], at_ p, Value.int IntKind.i64 (k : Int), Value.slice (some ⟨g0', o0, none⟩) x.length cx, Value.int IntKind.i64 0, at_ p, Value.slice (some ⟨g4', o4, none⟩) 2048 c4, Value.int IntKind.i64 7, Value.bool false, Value.bool false, Value.int IntKind.i64 7, Value.bool false, Value.bool false, Value.bool false, Value.bool false, Value.bool false, Value.bool false, Value.int IntKind.i64 0, Value.bool false, Value.bool false, Value.bool false, Value.slice (some ⟨g1', o1, none⟩) 2048 c1, Value.int IntKind.i64 2048, Value.bool false, Value.bool false, Value.bool false, Value.slice (some ⟨g2', o2, none⟩) 2048 c2, Value.int IntKind.i64 2048, Value.bool false, Value.bool false, Value.bool false, Value.slice (some ⟨g3', o3, none⟩) 2048 c3, Value.int IntKind.i64 2048, Value.bool false, Value.bool false, Value.bool false, Value.slice (some ⟨g4', o4, none⟩) 2048 c4, Value.int IntKind.i64 2048, Value.bool false, Value.bool false, Value.bool false, at_ p2, Value.int IntKind.i64 (k : Int), Value.int IntKind.i64 (q : Int), Value.int IntKind.i64 1, Value.bool false, Value.bool false, u140, u141, u142, u143, u144, u145, u146, u147, u148, u149, u150, u151, u152, u153, u154, u155, u156, u157, u158, u159, u160, u161, u162, u163, u164, u165, u166, u167, u168, u169, u170, u171, u172, u173, u174, u175, u176, u177, u178, u179, u180, u181, u182, u183, u184, u185, u186, u187, u188, u189, u190, u191, u192, u193, u194, u195, u196, u197, u198, u199, u200, u201, u202, u203, u204, u205, u206, u207, u208, u209, u210, u211, u212, u213, u214, u215, u216, u217, u218, u219, u220, u221, u222, u223, u224, u225, u226, u227, u228, u229, u230, u231, u232, u233, u234, u235, u236, u237, u238, u239, u240, u241, u242, u243, u244, undef], defers := [] } W := by
          intro u140 u141 u142 u143 u144 u145 u146 u147 u148 u149 u150 u151 u152 u153 u154 u155 u156 u157 u158 u159 u160 u161 u162 u163 u164 u165 u166 u167 u168 u169 W hS
          refine HK2.out _ _ ?_
          as_aux_lemma =>
            clear HK2 V1 V2 h3 HS
            have U1 := U1.out
            have U2 := U2.out
            have HS := Lib.hid hS
            clear hS
            go_wp2_with fail
            refine Txt.wp_region_textN 27 (fun W => CT wa W (some ⟨g0', o0, none⟩) x (some ⟨g1', o1, none⟩) R (some ⟨g2', o2, none⟩) s1.bs (some ⟨g3', o3, none⟩) g1.bs (some ⟨g4', o4, none⟩) s3.bs) (by kernel_rfl) (by kernel_rfl) (by kernel_rfl) (by kernel_rfl) (fun _ _ _ _ _ h => h) HS.out.drew ?_
            clear HS
            try clear q1
            repeat (
              apply Txt.step rfl
              · intro W hS K hK
                have q1 := G1.out _ hS
                have q2 := G2.out _ hS
                have q4 := G4.out _ hS
                go_simp
                exact hK.out _ hS
              · first | exact ⟨_, rfl⟩ | exact ⟨undef, rfl⟩)
            refine Txt.last fun W hS => ?_
            have HS := Lib.hid hS
            clear hS U1 U2
            rcases ed.out with ⟨hne, hb⟩ | ⟨hsec, hjE, hb⟩ | ⟨hsec, hEj, hb⟩
            · rw [hb] at G3
              clear hb ed
              have hj1 := HJ1.out
              have hnz : ¬ (jq : Int) = (q : Int) := by omega
              have hzw : IntKind.i64.wrap (jq : Int) = (jq : Int) := IntWalk.i64_in _ (by omega)
              have hqw : IntKind.i64.wrap (q : Int) = (q : Int) := IntWalk.i64_in _ (by omega)
              clear HJ1 hne
              generalize (jq : Int) = z at hj1 hnz hzw
              have hs1 : (z == (q : Int)) = false := beq_eq_false_iff_ne.2 hnz
              have hs2 : (z != (q : Int)) = true := bne_iff_ne.2 hnz
              go_wp2_with fail
              refine Txt.wp_region_textN 16 (fun W => CT wa W (some ⟨g0', o0, none⟩) x (some ⟨g1', o1, none⟩) R (some ⟨g2', o2, none⟩) s1.bs (some ⟨g3', o3, none⟩) g1.bs (some ⟨g4', o4, none⟩) s3.bs) (by kernel_rfl) (by kernel_rfl) (by kernel_rfl) (by kernel_rfl) (fun _ _ _ _ _ h => h) HS.out.drew ?_
              clear HS
              repeat (
                apply Txt.step rfl
                · intro W hS K hK
                  have q1 := G1.out _ hS
                  have q3 := G3.out _ hS
                  go_simp
                  exact hK.out _ hS
                · first | exact ⟨_, rfl⟩ | exact ⟨undef, rfl⟩)
              refine Txt.last fun W hS => ?_
              have HS := Lib.hid hS
              clear hS
              go_wp2_with fail
              refine HKB.out _ _ ?_
              clear HKB
              go_wp2_with fail
              refine ⟨⟨mb, j + 1, rfl, by have := HJ.out; omega, by go_num, (fun h => Nat.le_succ_of_le (HM.out h)), HS.out⟩, ?_⟩
              have hjj := HJ.out
              show 2048 - ((j : Int) + 1).toNat < 2048 - ((j : Int)).toNat
              omega
            · rw [hb] at G3
              clear hb ed
              have hj1 := HJ1.out
              rw [hsec] at hj1
              have hmf : mb = false := by
                cases mb with
                | false => rfl
                | true => have := HM.out rfl; omega
              subst hmf
              clear HJ1 hsec
              go_wp2_with fail
              refine Txt.wp_region_textN 16 (fun W => CT wa W (some ⟨g0', o0, none⟩) x (some ⟨g1', o1, none⟩) R (some ⟨g2', o2, none⟩) s1.bs (some ⟨g3', o3, none⟩) g1.bs (some ⟨g4', o4, none⟩) s3.bs) (by kernel_rfl) (by kernel_rfl) (by kernel_rfl) (by kernel_rfl) (fun _ _ _ _ _ h => h) HS.out.drew ?_
              clear HS
              repeat (
                apply Txt.step rfl
                · intro W hS K hK
                  have q1 := G1.out _ hS
                  have q3 := G3.out _ hS
                  go_simp
                  exact hK.out _ hS
                · first | exact ⟨_, rfl⟩ | exact ⟨undef, rfl⟩)
              refine Txt.last fun W hS => ?_
              have q3 := G3.out _ hS
              have HS := Lib.hid hS
              clear hS
              go_wp2_with fail
              refine Txt.wp_region_textN 13 (fun W => CT wa W (some ⟨g0', o0, none⟩) x (some ⟨g1', o1, none⟩) R (some ⟨g2', o2, none⟩) s1.bs (some ⟨g3', o3, none⟩) g1.bs (some ⟨g4', o4, none⟩) s3.bs) (by kernel_rfl) (by kernel_rfl) (by kernel_rfl) (by kernel_rfl) (fun _ _ _ _ _ h => h) HS.out.drew ?_
              clear HS
              try clear q3
              repeat (
                apply Txt.step rfl
                · intro W hS K hK
                  have q1 := G1.out _ hS
                  have q3 := G3.out _ hS
                  go_simp
                  exact hK.out _ hS
                · first | exact ⟨_, rfl⟩ | exact ⟨undef, rfl⟩)
              refine Txt.last fun W hS => ?_
              have HS := Lib.hid hS
              clear hS
              go_wp2_with fail
              refine HKB.out _ _ ?_
              clear HKB
              go_wp2_with fail
              refine ⟨⟨false, j + 1, rfl, by have := HJ.out; omega, by go_num, (fun h => by cases h), HS.out⟩, ?_⟩
              have hjj := HJ.out
              show 2048 - ((j : Int) + 1).toNat < 2048 - ((j : Int)).toNat
              omega
            · rw [hb] at G3
              clear hb ed
              have hj1 := HJ1.out
              rw [hsec] at hj1
              have HE : Hid (E0 ≤ j + 1) := Lib.hid (Nat.le_succ_of_le hEj)
              clear HJ1 hsec HM hEj
              go_wp2_with fail
              refine Txt.wp_region_textN 16 (fun W => CT wa W (some ⟨g0', o0, none⟩) x (some ⟨g1', o1, none⟩) R (some ⟨g2', o2, none⟩) s1.bs (some ⟨g3', o3, none⟩) g1.bs (some ⟨g4', o4, none⟩) s3.bs) (by kernel_rfl) (by kernel_rfl) (by kernel_rfl) (by kernel_rfl) (fun _ _ _ _ _ h => h) HS.out.drew ?_
              clear HS
              repeat (
                apply Txt.step rfl
                · intro W hS K hK
                  have q1 := G1.out _ hS
                  have q3 := G3.out _ hS
                  go_simp
                  exact hK.out _ hS
                · first | exact ⟨_, rfl⟩ | exact ⟨undef, rfl⟩)
              refine Txt.last fun W hS => ?_
              have q3 := G3.out _ hS
              have HS := Lib.hid hS
              clear hS
              cases mb
              · by_cases h255 : b1 = 255
                · subst h255
                  go_wp2_with fail
                  refine Txt.wp_region_textN 13 (fun W => CT wa W (some ⟨g0', o0, none⟩) x (some ⟨g1', o1, none⟩) R (some ⟨g2', o2, none⟩) s1.bs (some ⟨g3', o3, none⟩) g1.bs (some ⟨g4', o4, none⟩) s3.bs) (by kernel_rfl) (by kernel_rfl) (by kernel_rfl) (by kernel_rfl) (fun _ _ _ _ _ h => h) HS.out.drew ?_
                  clear HS
                  try clear q3
                  repeat (
                    apply Txt.step rfl
                    · intro W hS K hK
                      have q1 := G1.out _ hS
                      have q3 := G3.out _ hS
                      go_simp
                      exact hK.out _ hS
                    · first | exact ⟨_, rfl⟩ | exact ⟨undef, rfl⟩)
                  refine Txt.last fun W hS => ?_
                  have HS := Lib.hid hS
                  clear hS
                  go_wp2_with fail
                  refine HKB.out _ _ ?_
                  clear HKB
                  go_wp2_with fail
                  refine ⟨⟨_, j + 1, rfl, by have := HJ.out; omega, by go_num, (fun _ => HE.out), HS.out⟩, ?_⟩
                  have hjj := HJ.out
                  show 2048 - ((j : Int) + 1).toNat < 2048 - ((j : Int)).toNat
                  omega
                · have hb255 : (b1 == 255) = false := beq_eq_false_iff_ne.2 h255
                  clear h255
                  go_wp2_with fail
                  refine Txt.wp_region_textN 13 (fun W => CT wa W (some ⟨g0', o0, none⟩) x (some ⟨g1', o1, none⟩) R (some ⟨g2', o2, none⟩) s1.bs (some ⟨g3', o3, none⟩) g1.bs (some ⟨g4', o4, none⟩) s3.bs) (by kernel_rfl) (by kernel_rfl) (by kernel_rfl) (by kernel_rfl) (fun _ _ _ _ _ h => h) HS.out.drew ?_
                  clear HS
                  try clear q3
                  repeat (
                    apply Txt.step rfl
                    · intro W hS K hK
                      have q1 := G1.out _ hS
                      have q3 := G3.out _ hS
                      go_simp
                      exact hK.out _ hS
                    · first | exact ⟨_, rfl⟩ | exact ⟨undef, rfl⟩)
                  refine Txt.last fun W hS => ?_
                  have HS := Lib.hid hS
                  clear hS
                  go_wp2_with fail
                  refine HKB.out _ _ ?_
                  clear HKB
                  go_wp2_with fail
                  refine ⟨⟨_, j + 1, rfl, by have := HJ.out; omega, by go_num, (fun _ => HE.out), HS.out⟩, ?_⟩
                  have hjj := HJ.out
                  show 2048 - ((j : Int) + 1).toNat < 2048 - ((j : Int)).toNat
                  omega
              · by_cases h255 : b1 = 255
                · subst h255
                  go_wp2_with fail
                  refine Txt.wp_region_textN 13 (fun W => CT wa W (some ⟨g0', o0, none⟩) x (some ⟨g1', o1, none⟩) R (some ⟨g2', o2, none⟩) s1.bs (some ⟨g3', o3, none⟩) g1.bs (some ⟨g4', o4, none⟩) s3.bs) (by kernel_rfl) (by kernel_rfl) (by kernel_rfl) (by kernel_rfl) (fun _ _ _ _ _ h => h) HS.out.drew ?_
                  clear HS
                  try clear q3
                  repeat (
                    apply Txt.step rfl
                    · intro W hS K hK
                      have q1 := G1.out _ hS
                      have q3 := G3.out _ hS
                      go_simp
                      exact hK.out _ hS
                    · first | exact ⟨_, rfl⟩ | exact ⟨undef, rfl⟩)
                  refine Txt.last fun W hS => ?_
                  have HS := Lib.hid hS
                  clear hS
                  go_wp2_with fail
                  refine HKB.out _ _ ?_
                  clear HKB
                  go_wp2_with fail
                  refine ⟨⟨_, j + 1, rfl, by have := HJ.out; omega, by go_num, (fun _ => HE.out), HS.out⟩, ?_⟩
                  have hjj := HJ.out
                  show 2048 - ((j : Int) + 1).toNat < 2048 - ((j : Int)).toNat
                  omega
                · have hb255 : (b1 == 255) = false := beq_eq_false_iff_ne.2 h255
                  clear h255
                  go_wp2_with fail
                  refine Txt.wp_region_textN 13 (fun W => CT wa W (some ⟨g0', o0, none⟩) x (some ⟨g1', o1, none⟩) R (some ⟨g2', o2, none⟩) s1.bs (some ⟨g3', o3, none⟩) g1.bs (some ⟨g4', o4, none⟩) s3.bs) (by kernel_rfl) (by kernel_rfl) (by kernel_rfl) (by kernel_rfl) (fun _ _ _ _ _ h => h) HS.out.drew ?_
                  clear HS
                  try clear q3
                  repeat (
                    apply Txt.step rfl
                    · intro W hS K hK
                      have q1 := G1.out _ hS
                      have q3 := G3.out _ hS
                      go_simp
                      exact hK.out _ hS
                    · first | exact ⟨_, rfl⟩ | exact ⟨undef, rfl⟩)
                  refine Txt.last fun W hS => ?_
                  have HS := Lib.hid hS
                  clear hS
                  go_wp2_with fail
                  refine HKB.out _ _ ?_
                  clear HKB
                  go_wp2_with fail
                  refine ⟨⟨_, j + 1, rfl, by have := HJ.out; omega, by go_num, (fun _ => HE.out), HS.out⟩, ?_⟩
                  have hjj := HJ.out
                  show 2048 - ((j : Int) + 1).toNat < 2048 - ((j : Int)).toNat
                  omega
        clear HK2 HKB ed HM G2 G3 G4 U1 U2
        rcases h3 with hin | hcase | ⟨hcase, hcase2⟩
        · obtain ⟨m, hm⟩ : ∃ m, j - k = m := ⟨_, rfl⟩
          have E1 := V1.out hin.1 hin.2
          have hml : m < x.length := by omega
          have hji : (j : Int) - (k : Int) = (m : Int) := by omega
          have hwr : IntKind.i64.wrap (m : Int) = (m : Int) := IntWalk.i64_in _ (by omega)
          have hm0 : (0 : Int) ≤ (m : Int) := by omega
          have hmi : (m : Int) < (x.length : Int) := by omega
          rw [hm] at E1
          have G0 := Lib.hid (fun W (S : CT wa W (some ⟨g0', o0, none⟩) x (some ⟨g1', o1, none⟩) R (some ⟨g2', o2, none⟩) s1.bs (some ⟨g3', o3, none⟩) g1.bs (some ⟨g4', o4, none⟩) s3.bs) => rd_cell S.r0 (j := m) hml)
          have hkj : (k : Int) ≤ (j : Int) := by omega
          have hkx : (j : Int) < (k : Int) + (x.length : Int) := by omega
          clear hm hin hml V2 V1
          generalize byt x m = b0 at *
          go_wp2_with fail
          refine Txt.wp_region_textN 12 (fun W => CT wa W (some ⟨g0', o0, none⟩) x (some ⟨g1', o1, none⟩) R (some ⟨g2', o2, none⟩) s1.bs (some ⟨g3', o3, none⟩) g1.bs (some ⟨g4', o4, none⟩) s3.bs) (by kernel_rfl) (by kernel_rfl) (by kernel_rfl) (by kernel_rfl) (fun _ _ _ _ _ h => h) HS.out.drew ?_
          clear HS
          repeat (
            apply Txt.step rfl
            · intro W hS K hK
              have q0 := G0.out _ hS
              have q1 := G1.out _ hS
              go_simp
              exact hK.out _ hS
            · first | exact ⟨_, rfl⟩ | exact ⟨undef, rfl⟩)
          refine Txt.last fun W hS => ?_
          have HS := Lib.hid hS
          clear hS hwr hji G0 E1
          go_wp2_with fail
          exact HS.out
        · have E1 := V2.out (by omega)
          clear V2 V1
          subst E1
          go_wp2_with fail
          exact HS.out
        · have E1 := V2.out (by omega)
          clear V2 V1
          subst E1
          go_wp2_with fail
          exact HS.out
      · have S := Lib.hid hS.b
        clear hS
        go_wp2_with fail
        refine (KN.out _).mono ?_
        rintro e w9 ⟨rfl, b9⟩
        have B9 := Lib.hid (HA.out.trans ((S.out.trans (b9.mono S.out.size)).mono HA.out.size))
        clear b9 S
        go_wp2_with fail
        go_ret
        exact ⟨rfl, B9.out⟩

theorem own : ownKnob Try.prog.godebug = none := by kernel_rfl
theorem laidOut : laidOutB Try.prog = true := by kernel_rfl

set_option maxRecDepth 100000 in
theorem lifted (os : Os) (started : os.Started) (H : Type) (enc : TypeId × Value → H) :
    ReturnsInHanded {} Try.checked os 5 .any (Rows.flashTornSpec.pre6 enc Try.prog Try.f5 Rows.flashTornRow.domain false) (Rows.flashTornSpec.post enc Try.prog Try.f5 false true false false) := by
  refine returnsInHanded_of_change (C := Try.checked) own started (by kernel_rfl) Try.func5
    (ChangeSpec.witness6 (enc := enc) (C := Try.checked) false ⟨#[], #[.slice none 0 0, .slice none 0 0, .agg #[.int .u32 0, .int .u32 0, .int .u32 0]], []⟩ 8 (by kernel_rfl) (by kernel_rfl) (by kernel_rfl) (by kernel_rfl)) ?_
  intro W base args ds gs before hval0 hW hcnd _
  have hval : ∀ (j : Nat) t v, Try.f5.params[j]? = some t → args[j]? = some v → Value.okWide Try.prog W .any base t v := hval0
  have hW' := hW
  obtain ⟨p, q, hA0, hV, rfl, hfz, hnd⟩ := hW
  have hA : DataW.TrodAll enc Try.prog W 0 (fun _ => true) true Try.f5.params.toList args.toList ds p := hA0
  rw [Try.params5] at hA hval
  obtain ⟨v0, vs0, d0, ds0, p0, q0, hargs, rfl, rfl, h0, r0⟩ := trodAll_cons hA
  obtain ⟨v1, vs1, d1, ds1, p1, q1, rfl, rfl, rfl, h1, r1⟩ := trodAll_cons r0
  obtain ⟨v2, vs2, d2, ds2, p2, q2, rfl, rfl, rfl, h2, r2⟩ := trodAll_cons r1
  obtain ⟨rfl, rfl, rfl⟩ := trodAll_nil r2
  obtain rfl : args = #[v0, v1, v2] := by cases args; simp_all
  obtain ⟨rfl, rfl⟩ := trodVars_none hV
  have k0 := h0
  have lt0 : ∀ x ∈ p0, x.block < W.heap.size := by obtain ⟨m, hm⟩ := k0; exact DataW.trod_lt m _ _ _ hm
  obtain ⟨A0, c0, b0, rfl, w0, l0⟩ := Mem.open_bytes Try.underlying22 Try.underlying5 (by kernel_rfl) (hval 0 22 v0 rfl rfl) h0
  have k1 := h1
  have lt1 : ∀ x ∈ p1, x.block < W.heap.size := by obtain ⟨m, hm⟩ := k1; exact DataW.trod_lt m _ _ _ hm
  obtain ⟨A1, c1, b1, rfl, w1, l1⟩ := Mem.open_bytes Try.underlying22 Try.underlying5 (by kernel_rfl) (hval 1 22 v1 rfl rfl) h1
  have k2 := h2
  have lt2 : ∀ x ∈ p2, x.block < W.heap.size := by obtain ⟨m, hm⟩ := k2; exact DataW.trod_lt m _ _ _ hm
  obtain ⟨x2, y2, z2, rfl, wx2, wy2, wz2⟩ := Mem.open_iarr3 Try.underlying42 Try.underlying41 (by kernel_rfl) (by kernel_rfl) (hval 2 42 v2 rfl rfl) h2
  clear hA0 hval0
  refine (walk A0 c0 b0 A1 c1 b1 x2 y2 z2 W w0 l0 w1 l1 (Mem.wf_u32 wx2) (Mem.wf_u32 wy2) (Mem.wf_u32 wz2)).mono fun e W' ⟨he, bel⟩ => ?_
  subst he
  exact ⟨_, rfl, _, _, _, [], _, [], hW', trodAll_mk1 (shut_bool Try.underlying4 _), (trodAll_cons_mk (Below.trod laidOut (by kernel_rfl) (of_decide_eq_true (by kernel_rfl)) k0 bel lt0) (trodAll_cons_mk (Below.trod laidOut (by kernel_rfl) (of_decide_eq_true (by kernel_rfl)) k1 bel lt1) (trodAll_cons_mk (Below.trod laidOut (by kernel_rfl) (of_decide_eq_true (by kernel_rfl)) k2 bel lt2) trodAll_mk0))), rfl, bel.frame _, fun h => by cases h⟩

theorem over : Rows.flashTornRow.holds Try.pinned (OpenSpec.ofChange Rows.flashTornSpec) :=
  OpenClaim.holds_of_wide 5 Try.f5 rfl rfl rfl rfl rfl rfl rfl ⟨rfl, rfl, rfl, rfl, rfl⟩ rfl rfl rfl rfl rfl (by kernel_rfl) Try.func5 (by kernel_rfl)
    (of_decide_eq_true (by kernel_rfl)) (by unfold Func.isWrapper; first | (rw [if_pos (by decide +kernel)]; kernel_rfl) | (rw [if_neg (by decide +kernel)]; exact ⟨rfl, rfl⟩))
    (fun os started H enc _ => lifted os started H enc)

/-- The given statement. -/
theorem proved : Rows.FlashTornSaid := over

end Go.Proofs.Ytofhkecdgpbigaa.flashTorn
