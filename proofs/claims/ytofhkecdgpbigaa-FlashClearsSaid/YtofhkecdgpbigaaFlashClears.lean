/-
  Proved: FlashClears, for any bytes and any place: programming clears just the bits that the bytes have not, and changes no other byte; a sector that is erased has ones alone, and one wear more, and the other one is as it was.
-/
import Derived.Test.YtofhkecdgpbigaaRows
import Derived.Test.YtofhkecdgpbigaaLift
import Derived.Test.YtofhkecdgpbigaaFlaBytes
import Derived.Test.YtofhkecdgpbigaaFlaZip
import Derived.Test.YtofhkecdgpbigaaOctCount
import Derived.Test.YtofhkecdgpbigaaText
import Derived.IntWalk
namespace Go.Proofs.Ytofhkecdgpbigaa.flashClears
open Go.ChangeShapes Go.WideShapes Go.ChangeAt Go.RowKit Mem Fla
open Go.ChangeMaps (open_string shut_string)
set_option linter.unusedVariables false

/-- What comes of the law's operations. -/
structure CL (R : List UInt8) (k : Nat) (x : List UInt8) (s s1 s2 : Fl) : Prop where
  p : s.program (k : Int) x = (s1, 0)
  e0 : s1.eraseC ((k / 1024 : Nat) : Int) = 0
  e : s1.erase ((k / 1024 : Nat) : Int) = s2
  o0 : s.ops = 0
  o1 : s1.ops ≤ 500
  b : s.bs = R
  l1 : s1.bs.length = 2048
  l2 : s2.bs.length = 2048
  w1 : s2.worn ((k / 1024 : Nat) : Int) = 1
  w0 : s2.worn (1 - ((k / 1024 : Nat) : Int)) = 0
  c1 : ∀ i, k ≤ i → i < k + x.length → bits .and .u8 (byt R i) (byt x (i - k)) = byt s1.bs i
  c2 : ∀ i, ¬ (k ≤ i ∧ i < k + x.length) → byt R i = byt s1.bs i
  d1 : ∀ i, i < 2048 → i / 1024 = k / 1024 → byt s2.bs i = 255
  d2 : ∀ i, i < 2048 → ¬ i / 1024 = k / 1024 → byt s2.bs i = byt s1.bs i
theorem ones_getD {bs : List UInt8} {a m i : Nat} (h : a + m ≤ bs.length) (hi : i < bs.length) : (ones bs a m).getD i 0 = if a ≤ i ∧ i < a + m then 255 else bs.getD i 0 := by
  have hl : (ones bs a m).length = bs.length := ones_length h
  rw [List.getD_eq_getElem?_getD, List.getD_eq_getElem?_getD, List.getElem?_eq_getElem (by omega), List.getElem?_eq_getElem hi]
  simp only [Option.getD_some]
  simp only [ones, List.append_assoc, List.getElem_append, List.length_take, List.length_replicate, List.getElem_replicate, List.getElem_take, List.getElem_drop]
  have hm : min a bs.length = a := by omega
  simp only [hm]
  by_cases h1 : i < a
  · rw [dif_pos h1, if_neg (by omega)]
  · rw [dif_neg h1]
    by_cases h2 : i - a < m
    · rw [dif_pos h2, if_pos (by omega)]
    · rw [dif_neg h2, if_neg (by omega)]
      congr 1
      omega
theorem cl_of (R : List UInt8) (k : Nat) (x : List UInt8) (hR : R.length = 2048) (hk : k + x.length < 2048 ∨ (k + x.length = 2048 ∧ k < 2048)) (hx : x.length ≤ 500) :
    ∃ s1 s2, CL R k x (Fl.new R 5) s1 s2 := by
  have hin : (Fl.new R 5).inside (k : Int) (x.length : Int) = true := by
    have e : (Fl.new R 5).bs.length = 2048 := hR
    unfold Fl.inside; rw [e]; simp; omega
  have hp : (Fl.new R 5).program (k : Int) x = ({ (Fl.new R 5) with bs := zipA R k x, ops := (x.length : Int) }, 0) := by
    unfold Fl.program
    rw [if_pos (by rw [reach_on _ _ rfl, hin]; rfl), Int.toNat_natCast, prog_plain _ _ _ rfl]
    simp [Fl.new]
  generalize hs1 : ({ (Fl.new R 5) with bs := zipA R k x, ops := (x.length : Int) } : Fl) = s1 at hp
  have a1 : s1.bs = zipA R k x := by rw [← hs1]
  have l1 : s1.bs.length = 2048 := by rw [a1, zipA_len, hR]
  have q2 : k / 1024 < 2 := by omega
  have hh : s1.has ((k / 1024 : Nat) : Int) = true := by unfold Fl.has; rw [l1]; simp; omega
  have hw : ∀ j, s1.wearAt j = 0 := fun j => by
    rw [← hs1]; unfold Fl.wearAt Fl.new
    simp only [List.getD_eq_getElem?_getD, List.getElem?_replicate]
    split <;> rfl
  have hleft : ¬ s1.left ((k / 1024 : Nat) : Int) = 0 := by unfold Fl.left; rw [hh, if_pos rfl, hw, ← hs1]; show ¬ (5 : Int) - 0 = 0; decide
  obtain ⟨e2, e1⟩ := erase_go (by rw [← hs1]; rfl) hh hleft
  have hpl : s1.pl = false := by rw [← hs1]; rfl
  rw [cuts_no hpl, if_neg (by decide)] at e2
  rw [Int.toNat_natCast, cuts_no (s := s1.wearUp (k / 1024)) hpl, if_neg (by decide), past_no (s := (s1.wearUp (k / 1024)).with_ _) hpl] at e1
  generalize hs2 : s1.erase ((k / 1024 : Nat) : Int) = s2 at e1
  have b1 : s2.bs = ones s1.bs (k / 1024 * 1024) 1024 := by rw [e1]; rfl
  have l2 : s2.bs.length = 2048 := by rw [b1, ones_length (by omega)]; exact l1
  have w8 : s1.wear.length = 8 := by rw [← hs1]; rfl
  have bw : ∀ j, s2.wearAt j = if j = k / 1024 then 1 else 0 := fun j => by
    have := wear_set s1 (k / 1024) (by omega) j
    rw [hw, hw] at this
    rw [show s2.wearAt j = (s1.wearUp (k / 1024)).wearAt j by rw [e1]; rfl, this]
    rfl
  have zat := zipA_at x R k
  refine ⟨s1, s2, hp, e2, hs2, rfl, ?_, rfl, l1, l2, ?_, ?_, fun i h1 h2 => ?_, fun i h1 => ?_, fun i h1 h2 => ?_, fun i h1 h2 => ?_⟩
  · rw [← hs1]; show (x.length : Int) ≤ 500; omega
  · unfold Fl.worn
    rw [show s2.has ((k / 1024 : Nat) : Int) = true by unfold Fl.has; rw [l2]; simp; omega, if_pos rfl, Int.toNat_natCast, bw, if_pos rfl]
  · unfold Fl.worn
    rw [show s2.has (1 - ((k / 1024 : Nat) : Int)) = true by unfold Fl.has; rw [l2]; simp; omega, if_pos rfl, bw, if_neg (by omega)]
  · unfold byt
    rw [and_byte, a1, zat i (by omega), if_pos ⟨h1, h2⟩]
  · unfold byt
    rw [a1, zat i (by omega), if_neg h1]
  · unfold byt
    rw [b1, ones_getD (by omega) (by omega), if_pos (by omega)]
    rfl
  · unfold byt
    rw [b1, ones_getD (by omega) (by omega), if_neg (by omega)]

theorem rd_cell {w : World} {B g o : Nat} {bs : List UInt8} (h : Rd w B (some ⟨g, o, none⟩) bs) {j : Nat} (hj : j < bs.length) : w.cell? ⟨g, o + j, none⟩ = some (.int .u8 (byt bs j)) := by
  rcases h with rfl | ⟨g', o', e, _, hc⟩
  · simp at hj
  · cases e
    exact hc j hj
/-- What the law's loop reads. -/
structure CS (w W : World) (A0 : Option Addr) (x : List UInt8) (A1 : Option Addr) (R : List UInt8) (A2 : Option Addr) (R2 : List UInt8) (A3 : Option Addr) (R3 : List UInt8) : Prop where
  b : Below w.heap.size w W
  r0 : Rd W W.heap.size A0 x
  r1 : Rd W W.heap.size A1 R
  r2 : Rd W W.heap.size A2 R2
  r3 : Rd W W.heap.size A3 R3
theorem CS.drew {w W : World} {A0 A1 A2 A3 : Option Addr} {x R R2 R3 : List UInt8} (S : CS w W A0 x A1 R A2 R2 A3 R3) : CS w W.drew A0 x A1 R A2 R2 A3 R3 := ⟨S.b.drew, S.r0, S.r1, S.r2, S.r3⟩
theorem CS.drewN {w W : World} {A0 A1 A2 A3 : Option Addr} {x R R2 R3 : List UInt8} (S : CS w W A0 x A1 R A2 R2 A3 R3) (n : Nat) : CS w (W.drewN n) A0 x A1 R A2 R2 A3 R3 := ⟨below_drewN S.b n, S.r0, S.r1, S.r2, S.r3⟩

set_option maxRecDepth 100000 in
set_option maxHeartbeats 8000000 in
theorem walk (A : Option Addr) (c : Nat) (l : List UInt8) (a : Int) (A0 : Option Addr) (c0 : Nat) (x : List UInt8) (w : World)
    (hr : Rd w w.heap.size A l) (hl : l.length ≤ maxLen) (ha : -9223372036854775808 ≤ a ∧ a ≤ 9223372036854775807) (hr0 : Rd w w.heap.size A0 x) (hx : x.length ≤ maxLen) :
    Calls Try.prog 4 #[.slice A l.length c, .int .i64 a, .slice A0 x.length c0] w fun e w' => e = .returned (.bool true) ∧ Below w.heap.size w w' := by
  have H1 := Lib.hid (rows_any A c l w hr hl)
  have KN := Lib.hid (fun W => known_any W)
  have HR := Lib.hid hr0
  unfold maxLen at hx hl
  obtain ⟨a0, a1⟩ := ha
  by_cases h5 : 500 < x.length
  · clear hr hr0
    go_enter Try.func4, Try.ntmps4
    go_wp2_with fail
    refine H1.out.mono ?_
    rintro e w1 ⟨p, D, cc, rfl, S⟩
    have S := Lib.hid S
    go_wp2_with fail
    refine (KN.out _).mono ?_
    rintro e w2 ⟨rfl, b2⟩
    have B2 := Lib.hid (S.out.b.trans (b2.mono S.out.b.size))
    clear b2 S
    go_wp2_with fail
    go_ret
    exact ⟨rfl, B2.out⟩
  · have hm1 : 1 ≤ 2048 - (x.length : Int) := by omega
    have HC := Lib.hid (fun W => count_any a (2048 - (x.length : Int)) W hm1 (by omega))
    have hk0 := Int.emod_nonneg a (show 2048 - (x.length : Int) ≠ 0 by omega)
    have hk1 := Int.emod_lt_of_pos a (show 0 < 2048 - (x.length : Int) by omega)
    obtain ⟨k, hk⟩ : ∃ k : Nat, a % (2048 - (x.length : Int)) = (k : Int) := ⟨_, (Int.toNat_of_nonneg hk0).symm⟩
    rw [hk] at HC hk1
    clear hk hk0 hr hr0
    obtain ⟨s1, s2, hC⟩ := cl_of (rowL l 2048) k x (rowL_len _ _) (by omega) (by omega)
    have C := Lib.hid hC
    clear hC
    have hRl := Lib.hid (rowL_len l 2048)
    obtain ⟨R, hR⟩ : ∃ R, rowL l 2048 = R := ⟨_, rfl⟩
    rw [hR] at H1 C hRl
    clear hR
    obtain ⟨s, hs⟩ : ∃ s, Fl.new R 5 = s := ⟨_, rfl⟩
    rw [hs] at H1 C
    clear hs
    obtain ⟨q, hq⟩ : ∃ q : Nat, k / 1024 = q := ⟨_, rfl⟩
    have hq1 : (k : Int) / 1024 = (q : Int) := by omega
    have K1 := Lib.hid (fun W p D cc (S : LS w W p D cc s) => bytes_any S.i)
    rw [C.out.b] at K1
    have K2 := Lib.hid (fun W p D cc (S : LS w W p D cc s) => S.endsF (program_any (A := A0) x.length c0 (k : Int) x (by omega) (by omega) (RdN.of_rd (HR.out.below S.b) S.b.size S.hp S.hD) rfl (by omega) S.i (by rw [C.out.o0]; omega)))
    rw [C.out.p] at K2
    have K3 := Lib.hid (fun W p D cc (S : LS w W p D cc s1) => bytes_any S.i)
    have hq2 : (q : Int) ≤ 2 := by omega
    have K4 := Lib.hid (fun W p D cc (S : LS w W p D cc s1) => S.endsF (erase_any (q : Int) (by omega) (by omega) S.i (by have := C.out.o1; omega)))
    rw [← hq, C.out.e0, C.out.e, hq] at K4
    have K5 := Lib.hid (fun W p D cc (S : LS w W p D cc s2) => bytes_any S.i)
    have K6 := Lib.hid (fun W p D cc (S : LS w W p D cc s2) => fworn_any (q : Int) S.i)
    rw [← hq, C.out.w1, hq] at K6
    have K7 := Lib.hid (fun W p D cc (S : LS w W p D cc s2) => fworn_any (1 - (q : Int)) S.i)
    rw [← hq, C.out.w0, hq] at K7
    have L1 := Lib.hid C.out.l1
    have L2 := Lib.hid C.out.l2
    have HQ := Lib.hid hq
    have hx5 : (x.length : Int) ≤ 500 := by omega
    clear hq
    go_enter Try.func4, Try.ntmps4
    go_wp2_with fail
    refine H1.out.mono ?_
    rintro e w1 ⟨p, D, cc, rfl, S⟩
    have S := Lib.hid S
    go_wp2_with fail
    refine (HC.out _).mono ?_
    rintro e w2 ⟨rfl, rfl⟩
    go_wp2_with fail
    refine (K1.out _ _ _ _ S.out).mono ?_
    rintro e w2 ⟨v1, rfl, o1, b1⟩
    obtain ⟨A1, c1, hv, r1⟩ := rdN_own o1 S.out.i.lt S.out.i.ltD
    rw [hRl.out] at hv
    simp only [id] at hv ⊢
    subst hv
    have S2 := Lib.hid (S.out.next b1)
    have R1 := Lib.hid r1
    clear S o1 b1 r1
    go_wp2_with fail
    refine (K2.out _ _ _ _ S2.out).mono ?_
    rintro e w3 ⟨rfl, S, F⟩
    have S := Lib.hid S
    have R1b := Lib.hid (R1.out.far F)
    clear S2 R1 F
    go_wp2_with fail
    refine (K3.out _ _ _ _ S.out).mono ?_
    rintro e w4 ⟨v2, rfl, o2, b2⟩
    obtain ⟨A2, c2, hv, r2⟩ := rdN_own o2 S.out.i.lt S.out.i.ltD
    rw [L1.out] at hv
    simp only [id] at hv ⊢
    subst hv
    have S2 := Lib.hid (S.out.next b2)
    have R1 := Lib.hid (R1b.out.far (.of_below b2 (Nat.le_refl _)))
    have R2 := Lib.hid r2
    clear S o2 b2 r2 R1b
    go_wp2_with fail
    refine (K4.out _ _ _ _ S2.out).mono ?_
    rintro e w5 ⟨rfl, S, F⟩
    have S := Lib.hid S
    have R1b := Lib.hid (R1.out.far F)
    have R2b := Lib.hid (R2.out.far F)
    clear S2 R1 F R2
    go_wp2_with fail
    refine (K5.out _ _ _ _ S.out).mono ?_
    rintro e w6 ⟨v3, rfl, o3, b3⟩
    obtain ⟨A3, c3, hv, r3⟩ := rdN_own o3 S.out.i.lt S.out.i.ltD
    rw [L2.out] at hv
    simp only [id] at hv ⊢
    subst hv
    have S2 := Lib.hid (S.out.next b3)
    have R1 := Lib.hid (R1b.out.far (.of_below b3 (Nat.le_refl _)))
    have R2 := Lib.hid (R2b.out.far (.of_below b3 (Nat.le_refl _)))
    have R3 := Lib.hid r3
    clear S o3 b3 r3 R1b R2b
    go_wp2_with fail
    refine (K6.out _ _ _ _ S2.out).mono ?_
    rintro e w7 ⟨rfl, rfl⟩
    go_wp2_with fail
    refine (K7.out _ _ _ _ S2.out).mono ?_
    rintro e w7 ⟨rfl, rfl⟩
    have hbb := HR.out.below S2.out.b
    have CS0 : Hid (CS w w6 A0 x A1 R A2 s1.bs A3 s2.bs) := Lib.hid ⟨S2.out.b, hbb.mono S2.out.b.size, R1.out.rd, R2.out.rd, R3.out.rd⟩
    clear S2 R1 R2 R3 hbb K1 K2 K3 K4 K5 K6 K7 H1 HR HC
    go_wp2_with fail
    go_loopw [14] (fun i wr => ∃ j : Nat, j ≤ 2048 ∧ i = .int .i64 (j : Int) ∧ CS w wr A0 x A1 R A2 s1.bs A3 s2.bs) (fun i _ => 2048 - (intOf i).toNat)
    case atStart => exact ⟨0, Nat.zero_le _, rfl, CS0.out⟩
    case round =>
      obtain ⟨j, hj, rfl, hS⟩ := hrel
      by_cases hlt : j < 2048
      · have hr1 := hS.r1
        have hr2 := hS.r2
        have hr3 := hS.r3
        obtain ⟨g1, o1, rfl, -, -⟩ := hr1.at_ (k := j) (by rw [hRl.out]; omega)
        obtain ⟨g2, o2, rfl, -, -⟩ := hr2.at_ (k := j) (by rw [L1.out]; omega)
        obtain ⟨g3, o3, rfl, -, -⟩ := hr3.at_ (k := j) (by rw [L2.out]; omega)
        clear hr1 hr2 hr3
        have G1 := Lib.hid (fun W (S : CS w W A0 x (some ⟨g1, o1, none⟩) R (some ⟨g2, o2, none⟩) s1.bs (some ⟨g3, o3, none⟩) s2.bs) => rd_cell S.r1 (j := j) (by rw [hRl.out]; omega))
        have G2 := Lib.hid (fun W (S : CS w W A0 x (some ⟨g1, o1, none⟩) R (some ⟨g2, o2, none⟩) s1.bs (some ⟨g3, o3, none⟩) s2.bs) => rd_cell S.r2 (j := j) (by rw [L1.out]; omega))
        have G3 := Lib.hid (fun W (S : CS w W A0 x (some ⟨g1, o1, none⟩) R (some ⟨g2, o2, none⟩) s1.bs (some ⟨g3, o3, none⟩) s2.bs) => rd_cell S.r3 (j := j) (by rw [L2.out]; omega))
        have hjlt : (j : Int) < 2048 := by omega
        have HJ := Lib.hid hlt
        have B1 := byt_bd R j
        have B2 := byt_bd s1.bs j
        have B3 := byt_bd s2.bs j
        have D1 := Lib.hid (C.out.d1 j hlt)
        have D2 := Lib.hid (C.out.d2 j hlt)
        obtain ⟨jq, hjq⟩ : ∃ jq : Nat, j / 1024 = jq := ⟨_, rfl⟩
        have HJ1 : Hid ((j : Int) / 1024 = (jq : Int)) := Lib.hid (by omega)
        rw [hjq, HQ.out] at D1 D2
        clear hjq
        by_cases hin : k ≤ j ∧ j < k + x.length
        · obtain ⟨m, hm⟩ : ∃ m, j - k = m := ⟨_, rfl⟩
          have E1 := C.out.c1 j hin.1 hin.2
          have hml : m < x.length := by omega
          have hji : (j : Int) - (k : Int) = (m : Int) := by omega
          have hwr : IntKind.i64.wrap (m : Int) = (m : Int) := IntWalk.i64_in _ (by omega)
          have hm0 : (0 : Int) ≤ (m : Int) := by omega
          have hmi : (m : Int) < (x.length : Int) := by omega
          rw [hm] at E1
          have hr0 := hS.r0
          obtain ⟨g0, o0, rfl, -, -⟩ := hr0.at_ (k := m) hml
          clear hr0
          have G0 := Lib.hid (fun W (S : CS w W (some ⟨g0, o0, none⟩) x (some ⟨g1, o1, none⟩) R (some ⟨g2, o2, none⟩) s1.bs (some ⟨g3, o3, none⟩) s2.bs) => rd_cell S.r0 (j := m) hml)
          have B0 := byt_bd x m
          have hkj : (k : Int) ≤ (j : Int) := by omega
          have hkx : (j : Int) < (k : Int) + (x.length : Int) := by omega
          clear hm hin hml
          generalize byt R j = b1 at *
          generalize byt s1.bs j = b2 at *
          generalize byt s2.bs j = b3 at *
          generalize byt x m = b0 at *
          have q1 := G1.out _ hS
          have HS := Lib.hid hS
          clear hS
          go_wp2_with fail
          refine Txt.wp_region_textN 12 (fun W => CS w W (some ⟨g0, o0, none⟩) x (some ⟨g1, o1, none⟩) R (some ⟨g2, o2, none⟩) s1.bs (some ⟨g3, o3, none⟩) s2.bs) (by kernel_rfl) (by kernel_rfl) (by kernel_rfl) (by kernel_rfl) (fun _ _ _ _ _ h => h) HS.out.drew ?_
          clear HS q1
          repeat (
            apply Txt.step rfl
            · intro W hS K hK
              have q0 := G0.out _ hS
              have q1 := G1.out _ hS
              go_simp
              exact hK.out _ hS
            · first | exact ⟨_, rfl⟩ | exact ⟨undef, rfl⟩)
          refine Txt.last fun W hS => ?_
          have q2 := G2.out _ hS
          have HS := Lib.hid hS
          clear hS hwr hji
          by_cases hsec : jq = q
          · have D := D1.out hsec
            subst D
            have hj1 := HJ1.out
            rw [hsec] at hj1
            clear hsec
            go_wp2_with fail
            refine Txt.wp_region_textN 30 (fun W => CS w W (some ⟨g0, o0, none⟩) x (some ⟨g1, o1, none⟩) R (some ⟨g2, o2, none⟩) s1.bs (some ⟨g3, o3, none⟩) s2.bs) (by kernel_rfl) (by kernel_rfl) (by kernel_rfl) (by kernel_rfl) (fun _ _ _ _ _ h => h) HS.out.drew ?_
            clear HS q2
            repeat (
              apply Txt.step rfl
              · intro W hS K hK
                have q2 := G2.out _ hS
                have q3 := G3.out _ hS
                go_simp
                exact hK.out _ hS
              · first | exact ⟨_, rfl⟩ | exact ⟨undef, rfl⟩)
            refine Txt.last fun W hS => ?_
            have S := Lib.hid hS
            clear hS
            go_wp2_with fail
            refine ⟨⟨j + 1, by have := HJ.out; omega, by go_num, S.out⟩, ?_⟩
            have hjj := HJ.out
            show 2048 - ((j : Int) + 1).toNat < 2048 - ((j : Int)).toNat
            omega
          · have D := D2.out hsec
            subst D
            have hj1 := HJ1.out
            have hne : ¬ (jq : Int) = (q : Int) := by omega
            have hzw : IntKind.i64.wrap (jq : Int) = (jq : Int) := IntWalk.i64_in _ (by omega)
            have hqw : IntKind.i64.wrap (q : Int) = (q : Int) := IntWalk.i64_in _ (by omega)
            generalize (jq : Int) = z at hj1 hne hzw
            have hs1 : (z == (q : Int)) = false := beq_eq_false_iff_ne.2 hne
            have hs2 : (z != (q : Int)) = true := bne_iff_ne.2 hne
            clear hsec
            go_wp2_with fail
            refine Txt.wp_region_textN 30 (fun W => CS w W (some ⟨g0, o0, none⟩) x (some ⟨g1, o1, none⟩) R (some ⟨g2, o2, none⟩) s1.bs (some ⟨g3, o3, none⟩) s2.bs) (by kernel_rfl) (by kernel_rfl) (by kernel_rfl) (by kernel_rfl) (fun _ _ _ _ _ h => h) HS.out.drew ?_
            clear HS q2
            repeat (
              apply Txt.step rfl
              · intro W hS K hK
                have q2 := G2.out _ hS
                have q3 := G3.out _ hS
                go_simp
                exact hK.out _ hS
              · first | exact ⟨_, rfl⟩ | exact ⟨undef, rfl⟩)
            refine Txt.last fun W hS => ?_
            have S := Lib.hid hS
            clear hS
            go_wp2_with fail
            refine ⟨⟨j + 1, by have := HJ.out; omega, by go_num, S.out⟩, ?_⟩
            have hjj := HJ.out
            show 2048 - ((j : Int) + 1).toNat < 2048 - ((j : Int)).toNat
            omega
        · have E1 := C.out.c2 j hin
          have G1' := G1
          rw [E1] at G1'
          clear E1 G1
          have hcase : (j : Int) < (k : Int) ∨ ((k : Int) ≤ (j : Int) ∧ (k : Int) + (x.length : Int) ≤ (j : Int)) := by omega
          clear hin
          generalize byt s1.bs j = b2 at *
          generalize byt s2.bs j = b3 at *
          have q1 := G1'.out _ hS
          have q2 := G2.out _ hS
          have HS := Lib.hid hS
          clear hS
          rcases hcase with hcase | ⟨hcase, hcase2⟩
          · skip
            by_cases hsec : jq = q
            · have D := D1.out hsec
              subst D
              have hj1 := HJ1.out
              rw [hsec] at hj1
              clear hsec
              go_wp2_with fail
              refine Txt.wp_region_textN 30 (fun W => CS w W A0 x (some ⟨g1, o1, none⟩) R (some ⟨g2, o2, none⟩) s1.bs (some ⟨g3, o3, none⟩) s2.bs) (by kernel_rfl) (by kernel_rfl) (by kernel_rfl) (by kernel_rfl) (fun _ _ _ _ _ h => h) HS.out.drew ?_
              clear HS q1 q2
              repeat (
                apply Txt.step rfl
                · intro W hS K hK
                  have q2 := G2.out _ hS
                  have q3 := G3.out _ hS
                  go_simp
                  exact hK.out _ hS
                · first | exact ⟨_, rfl⟩ | exact ⟨undef, rfl⟩)
              refine Txt.last fun W hS => ?_
              have S := Lib.hid hS
              clear hS
              go_wp2_with fail
              refine ⟨⟨j + 1, by have := HJ.out; omega, by go_num, S.out⟩, ?_⟩
              have hjj := HJ.out
              show 2048 - ((j : Int) + 1).toNat < 2048 - ((j : Int)).toNat
              omega
            · have D := D2.out hsec
              subst D
              have hj1 := HJ1.out
              have hne : ¬ (jq : Int) = (q : Int) := by omega
              have hzw : IntKind.i64.wrap (jq : Int) = (jq : Int) := IntWalk.i64_in _ (by omega)
              have hqw : IntKind.i64.wrap (q : Int) = (q : Int) := IntWalk.i64_in _ (by omega)
              generalize (jq : Int) = z at hj1 hne hzw
              have hs1 : (z == (q : Int)) = false := beq_eq_false_iff_ne.2 hne
              have hs2 : (z != (q : Int)) = true := bne_iff_ne.2 hne
              clear hsec
              go_wp2_with fail
              refine Txt.wp_region_textN 30 (fun W => CS w W A0 x (some ⟨g1, o1, none⟩) R (some ⟨g2, o2, none⟩) s1.bs (some ⟨g3, o3, none⟩) s2.bs) (by kernel_rfl) (by kernel_rfl) (by kernel_rfl) (by kernel_rfl) (fun _ _ _ _ _ h => h) HS.out.drew ?_
              clear HS q1 q2
              repeat (
                apply Txt.step rfl
                · intro W hS K hK
                  have q2 := G2.out _ hS
                  have q3 := G3.out _ hS
                  go_simp
                  exact hK.out _ hS
                · first | exact ⟨_, rfl⟩ | exact ⟨undef, rfl⟩)
              refine Txt.last fun W hS => ?_
              have S := Lib.hid hS
              clear hS
              go_wp2_with fail
              refine ⟨⟨j + 1, by have := HJ.out; omega, by go_num, S.out⟩, ?_⟩
              have hjj := HJ.out
              show 2048 - ((j : Int) + 1).toNat < 2048 - ((j : Int)).toNat
              omega
          · skip
            by_cases hsec : jq = q
            · have D := D1.out hsec
              subst D
              have hj1 := HJ1.out
              rw [hsec] at hj1
              clear hsec
              go_wp2_with fail
              refine Txt.wp_region_textN 30 (fun W => CS w W A0 x (some ⟨g1, o1, none⟩) R (some ⟨g2, o2, none⟩) s1.bs (some ⟨g3, o3, none⟩) s2.bs) (by kernel_rfl) (by kernel_rfl) (by kernel_rfl) (by kernel_rfl) (fun _ _ _ _ _ h => h) HS.out.drew ?_
              clear HS q1 q2
              repeat (
                apply Txt.step rfl
                · intro W hS K hK
                  have q2 := G2.out _ hS
                  have q3 := G3.out _ hS
                  go_simp
                  exact hK.out _ hS
                · first | exact ⟨_, rfl⟩ | exact ⟨undef, rfl⟩)
              refine Txt.last fun W hS => ?_
              have S := Lib.hid hS
              clear hS
              go_wp2_with fail
              refine ⟨⟨j + 1, by have := HJ.out; omega, by go_num, S.out⟩, ?_⟩
              have hjj := HJ.out
              show 2048 - ((j : Int) + 1).toNat < 2048 - ((j : Int)).toNat
              omega
            · have D := D2.out hsec
              subst D
              have hj1 := HJ1.out
              have hne : ¬ (jq : Int) = (q : Int) := by omega
              have hzw : IntKind.i64.wrap (jq : Int) = (jq : Int) := IntWalk.i64_in _ (by omega)
              have hqw : IntKind.i64.wrap (q : Int) = (q : Int) := IntWalk.i64_in _ (by omega)
              generalize (jq : Int) = z at hj1 hne hzw
              have hs1 : (z == (q : Int)) = false := beq_eq_false_iff_ne.2 hne
              have hs2 : (z != (q : Int)) = true := bne_iff_ne.2 hne
              clear hsec
              go_wp2_with fail
              refine Txt.wp_region_textN 30 (fun W => CS w W A0 x (some ⟨g1, o1, none⟩) R (some ⟨g2, o2, none⟩) s1.bs (some ⟨g3, o3, none⟩) s2.bs) (by kernel_rfl) (by kernel_rfl) (by kernel_rfl) (by kernel_rfl) (fun _ _ _ _ _ h => h) HS.out.drew ?_
              clear HS q1 q2
              repeat (
                apply Txt.step rfl
                · intro W hS K hK
                  have q2 := G2.out _ hS
                  have q3 := G3.out _ hS
                  go_simp
                  exact hK.out _ hS
                · first | exact ⟨_, rfl⟩ | exact ⟨undef, rfl⟩)
              refine Txt.last fun W hS => ?_
              have S := Lib.hid hS
              clear hS
              go_wp2_with fail
              refine ⟨⟨j + 1, by have := HJ.out; omega, by go_num, S.out⟩, ?_⟩
              have hjj := HJ.out
              show 2048 - ((j : Int) + 1).toNat < 2048 - ((j : Int)).toNat
              omega
      · have S := Lib.hid hS.b
        clear hS
        go_wp2_with fail
        refine (KN.out _).mono ?_
        rintro e w9 ⟨rfl, b9⟩
        have B9 := Lib.hid (S.out.trans (b9.mono S.out.size))
        clear b9 S
        go_wp2_with fail
        go_ret
        exact ⟨rfl, B9.out⟩

theorem own : ownKnob Try.prog.godebug = none := by kernel_rfl
theorem laidOut : laidOutB Try.prog = true := by kernel_rfl

set_option maxRecDepth 100000 in
theorem lifted (os : Os) (started : os.Started) (H : Type) (enc : TypeId × Value → H) :
    ReturnsInHanded {} Try.checked os 4 .any (Rows.flashClearsSpec.pre6 enc Try.prog Try.f4 Rows.flashClearsRow.domain false) (Rows.flashClearsSpec.post enc Try.prog Try.f4 false true false false) := by
  refine returnsInHanded_of_change (C := Try.checked) own started (by kernel_rfl) Try.func4
    (ChangeSpec.witness6 (enc := enc) (C := Try.checked) false ⟨#[], #[.slice none 0 0, .int .i64 0, .slice none 0 0], []⟩ 8 (by kernel_rfl) (by kernel_rfl) (by kernel_rfl) (by kernel_rfl)) ?_
  intro W base args ds gs before hval0 hW hcnd _
  have hval : ∀ (j : Nat) t v, Try.f4.params[j]? = some t → args[j]? = some v → Value.okWide Try.prog W .any base t v := hval0
  have hW' := hW
  obtain ⟨p, q, hA0, hV, rfl, hfz, hnd⟩ := hW
  have hA : DataW.TrodAll enc Try.prog W 0 (fun _ => true) true Try.f4.params.toList args.toList ds p := hA0
  rw [Try.params4] at hA hval
  obtain ⟨v0, vs0, d0, ds0, p0, q0, hargs, rfl, rfl, h0, r0⟩ := trodAll_cons hA
  obtain ⟨v1, vs1, d1, ds1, p1, q1, rfl, rfl, rfl, h1, r1⟩ := trodAll_cons r0
  obtain ⟨v2, vs2, d2, ds2, p2, q2, rfl, rfl, rfl, h2, r2⟩ := trodAll_cons r1
  obtain ⟨rfl, rfl, rfl⟩ := trodAll_nil r2
  obtain rfl : args = #[v0, v1, v2] := by cases args; simp_all
  obtain ⟨rfl, rfl⟩ := trodVars_none hV
  have k0 := h0
  have lt0 : ∀ x ∈ p0, x.block < W.heap.size := by obtain ⟨m, hm⟩ := k0; exact DataW.trod_lt m _ _ _ hm
  obtain ⟨A0, c0, b0, rfl, w0, l0⟩ := Mem.open_bytes Try.underlying22 Try.underlying5 (by kernel_rfl) (hval 0 22 v0 rfl rfl) h0
  obtain ⟨a1, rfl, rfl, rfl, w1⟩ := open_int Try.underlying3 (hval 1 3 v1 rfl rfl) h1
  have k2 := h2
  have lt2 : ∀ x ∈ p2, x.block < W.heap.size := by obtain ⟨m, hm⟩ := k2; exact DataW.trod_lt m _ _ _ hm
  obtain ⟨A2, c2, b2, rfl, w2, l2⟩ := Mem.open_bytes Try.underlying22 Try.underlying5 (by kernel_rfl) (hval 2 22 v2 rfl rfl) h2
  clear hA0 hval0
  refine (walk A0 c0 b0 a1 A2 c2 b2 W w0 l0 (Mem.wf_i64 w1) w2 l2).mono fun e W' ⟨he, bel⟩ => ?_
  subst he
  exact ⟨_, rfl, _, _, _, [], _, [], hW', trodAll_mk1 (shut_bool Try.underlying4 _), (trodAll_cons_mk (Below.trod laidOut (by kernel_rfl) (of_decide_eq_true (by kernel_rfl)) k0 bel lt0) (trodAll_cons_mk (shut_int Try.underlying3 w1) (trodAll_cons_mk (Below.trod laidOut (by kernel_rfl) (of_decide_eq_true (by kernel_rfl)) k2 bel lt2) trodAll_mk0))), rfl, bel.frame _, fun h => by cases h⟩

theorem over : Rows.flashClearsRow.holds Try.pinned (OpenSpec.ofChange Rows.flashClearsSpec) :=
  OpenClaim.holds_of_wide 4 Try.f4 rfl rfl rfl rfl rfl rfl rfl ⟨rfl, rfl, rfl, rfl, rfl⟩ rfl rfl rfl rfl rfl (by kernel_rfl) Try.func4 (by kernel_rfl)
    (of_decide_eq_true (by kernel_rfl)) (by unfold Func.isWrapper; first | (rw [if_pos (by decide +kernel)]; kernel_rfl) | (rw [if_neg (by decide +kernel)]; exact ⟨rfl, rfl⟩))
    (fun os started H enc _ => lifted os started H enc)

/-- The given statement. -/
theorem proved : Rows.FlashClearsSaid := over

end Go.Proofs.Ytofhkecdgpbigaa.flashClears
