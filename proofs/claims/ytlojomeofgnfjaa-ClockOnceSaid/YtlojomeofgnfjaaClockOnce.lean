/-
  Proved: ClockOnce, for any name, any number of ticks and whatever is done with others beside: a timer that was set runs out at just the tick with that number, and not again.
-/
import Derived.Test.YtlojomeofgnfjaaRows
import Derived.Test.YtlojomeofgnfjaaClkOps
import Derived.Test.YtlojomeofgnfjaaClkRise
import Derived.Test.YtlojomeofgnfjaaText
import Derived.BigQuiet
import Derived.Deep.CutRange
import Derived.Deep.CutBlock
namespace Go.Proofs.Ytlojomeofgnfjaa.clockOnce
open Go.ChangeShapes Go.WideShapes Go.ChangeAt Go.RowKit Mem Clk
open Go.ChangeMaps (open_string shut_string)
set_option linter.unusedVariables false
set_option linter.unusedSimpArgs false
set_option maxRecDepth 100000

theorem lt_of {w : World} {g : Nat} {o : Obj} (h : w.heap[g]? = some o) : g < w.heap.size := (Array.getElem?_eq_some_iff.1 h).1
/-- An Op's cells. -/
theorem ocells {W : World} {B : Nat} {x y z : Value} {t : TypeId} (h : W.heap[B]? = some (.cells #[x, y, z] t (0, 0))) : W.cell? ⟨B, 0, none⟩ = some x ∧ W.cell? ⟨B, 1, none⟩ = some y ∧ W.cell? ⟨B, 2, none⟩ = some z :=
  ⟨by simp [World.cell?, h], by simp [World.cell?, h], by simp [World.cell?, h]⟩
/-- How often it was met before T + 1. -/
def gone (n T : Nat) : Nat := if n ≤ T then 1 else 0
theorem gone_next (n T : Nat) : gone n (T + 1) = gone n T + if decide (T + 1 = n) = true then 1 else 0 := by
  unfold gone
  by_cases h1 : n ≤ T
  · rw [if_pos h1, if_pos (by omega), if_neg (by simp; omega)]
  · by_cases h2 : T + 1 = n
    · rw [if_neg h1, if_pos (by omega), if_pos (by simpa using h2)]
    · rw [if_neg h1, if_neg (by omega), if_neg (by simpa using h2)]

set_option maxHeartbeats 8000000 in
theorem walk (a b : Int) (A : Option Addr) (c : Nat) (os : List OpV) (w : World) (ha : 0 ≤ a ∧ a ≤ 255) (hb : 0 ≤ b ∧ b ≤ 255)
    (hr : RdO w w.heap.size A os) (hm : os.length ≤ maxLen) (ho : ∀ j, j < os.length → (os.getD j OpV.zero).Ok) :
    Calls Try.prog 5 #[.int .u8 a, .int .u8 b, .slice A os.length c] w fun e w' => e = .returned (.bool true) ∧ Below w.heap.size w w' := by
  obtain ⟨x, rfl⟩ : ∃ x : Nat, a = (x : Int) := ⟨a.toNat, by omega⟩
  obtain ⟨y, rfl⟩ : ∃ y : Nat, b = (y : Int) := ⟨b.toNat, by omega⟩
  unfold maxLen at hm
  have hx : (x : Int).tmod 16 = ((x % 16 : Nat) : Int) := by rw [Int.tmod_eq_emod_of_nonneg (by omega)]; omega
  have hy : (y : Int).tmod 60 = ((y % 60 : Nat) : Int) := by rw [Int.tmod_eq_emod_of_nonneg (by omega)]; omega
  have KN := Lib.hid known_any
  have RD := Lib.hid (fun W (b : Below w.heap.size w W) => hr.below b)
  have N0 := Lib.hid (new_K w w (Below.refl _ _))
  obtain ⟨k, hk⟩ : ∃ k, x % 16 = k := ⟨_, rfl⟩
  obtain ⟨n, hn⟩ : ∃ n, y % 60 + 1 = n := ⟨_, rfl⟩
  have hk16 : k < 16 := by omega
  have hn1 : 1 ≤ n := by omega
  have hn60 : n ≤ 60 := by omega
  have hn' := Lib.hid (show (1 : Int) + (y : Int) % 60 = (n : Int) by omega)
  have ST := Lib.hid (Onc.begin (n := n) hk16 hn1 (by omega))
  rw [hk] at hx
  clear hr ho
  go_enter Try.func5, Try.ntmps5
  go_wp2_with fail
  refine N0.out.mono ?_
  rintro e w1 ⟨rfl, q1, _⟩
  have Q1 := Lib.hid q1
  clear q1 N0
  generalize w.heap.size = p at Q1
  go_wp2_with fail
  rw [hn'.out]
  have T := Lib.hid (Q1.out.set (k : Int) (n : Int))
  rw [ST.out.1] at T
  have E1 := Lib.hid ST.out.2
  refine T.out.mono ?_
  clear T ST Q1 hn' hx hy hk hn
  generalize (Ck.zero.start (k : Int) (n : Int) 0).1 = s1 at *
  rintro e w2 ⟨rfl, q2, _⟩
  have Q2 := Lib.hid q2
  clear q2
  go_wp2_with fail
  go_loopw [10, 11] (fun mv tv wr => ∃ (T : Nat) (s : Ck), T ≤ n + 10 ∧ tv = .int .i64 ((T : Int) + 1) ∧ mv = .int .i64 ((gone n T : Nat) : Int) ∧ Hid (KC w wr p s) ∧ Hid (Onc n k T s)) (fun _ tv _ => n + 11 - (intOf tv).toNat)
  case atStart => exact ⟨0, s1, by omega, rfl, by unfold gone; rw [if_neg (by omega)]; rfl, Q2, E1⟩
  case round =>
    obtain ⟨T, s, hT, rfl, rfl, hQ, hE⟩ := hrel
    clear Q2 E1
    have hg1 : gone n T ≤ 1 := by unfold gone; split <;> omega
    by_cases hlt : T < n + 10
    · have hlt' : decide ((T : Int) + 1 ≤ (n : Int) + 10) = true := by simp; omega
      have hT1 : IntKind.i64.wrap ((T : Int) + 1 - 1) = (T : Int) := by rw [show (T : Int) + 1 - 1 = (T : Int) by omega]; exact IntWalk.i64_in _ (by omega)
      go_upto_if 42 with fail
      go_cut [12] from 42 to 90 (fun ov wx => ∃ s' : Ck, Hid (KC w wx p s') ∧ Hid (Onc n k T s'))
      case first =>
        by_cases hlen : T < os.length
        · obtain ⟨g, off, hAd, hg, q0, q1, q2⟩ := (RD.out _ hQ.out.b).three hlen rfl
          subst hAd
          have i0 : (0 : Int) ≤ (T : Int) := by omega
          have i1 : (T : Int) < (os.length : Int) := by omega
          generalize os.getD T OpV.zero = O at q0 q1 q2
          have X1 := Lib.hid (hQ.out.new (.cells #[.int .i64 O.k, .int .i64 O.n, .int .i64 O.t] 46))
          have C10 := Lib.hid (heap_alloc_new wr (.cells #[.int .i64 O.k, .int .i64 O.n, .int .i64 O.t] 46))
          have NP := Lib.hid (show some wr.heap.size ≠ some p from fun e => by have := hQ.out.c.lt; injection e; omega)
          have hP := Lib.hid hQ.out.c.lt
          clear hQ
          by_cases hn : O.n = (k : Int)
          · have X2 := Lib.hid X1.out
            obtain ⟨x0, x1, x2⟩ := ocells C10.out
            rw [hn] at x1 q1
            rw [hn] at X2 x0 x2
            clear X1 C10 hn
            go_wp2_with fail
            go_meet
            exact ⟨s, X2, hE⟩
          · have hne : (O.n == (k : Int)) = false := beq_eq_false_iff_ne.2 hn
            have HN := Lib.hid hn
            have hK : O.k = 0 ∨ O.k = 1 ∨ O.k = 2 ∨ (O.k ≠ 0 ∧ O.k ≠ 1 ∧ O.k ≠ 2) := by omega
            clear hn
            rcases hK with hK | hK | hK | ⟨h0, h1, h2⟩
            · rw [hK] at q0 X1 C10
              have T5 := Lib.hid (X1.out.set O.n O.t)
              obtain ⟨x0, x1, x2⟩ := ocells C10.out
              clear X1
              go_wp2_with fail
              refine T5.out.mono ?_
              rintro e w5 ⟨rfl, q5, g5⟩
              have Q5 := Lib.hid q5
              have C5 := Lib.hid ((g5.block _ (lt_of C10.out) NP.out).trans C10.out)
              have E5 := Lib.hid (hE.out.start HN.out O.t 0)
              clear q5 g5 T5 x0 x1 x2
              obtain ⟨x0, x1, x2⟩ := ocells C5.out
              go_wp2_with fail
              go_meet
              exact ⟨_, Q5, E5⟩
            · rw [hK] at q0 X1 C10
              have T5 := Lib.hid (X1.out.every O.n O.t)
              obtain ⟨x0, x1, x2⟩ := ocells C10.out
              clear X1
              go_wp2_with fail
              refine T5.out.mono ?_
              rintro e w5 ⟨rfl, q5, g5⟩
              have Q5 := Lib.hid q5
              have C5 := Lib.hid ((g5.block _ (lt_of C10.out) NP.out).trans C10.out)
              have E5 := Lib.hid (hE.out.start HN.out O.t O.t)
              clear q5 g5 T5 x0 x1 x2
              obtain ⟨x0, x1, x2⟩ := ocells C5.out
              go_wp2_with fail
              go_meet
              exact ⟨_, Q5, E5⟩
            · rw [hK] at q0 X1 C10
              have T5 := Lib.hid (X1.out.stop O.n)
              obtain ⟨x0, x1, x2⟩ := ocells C10.out
              clear X1
              go_wp2_with fail
              refine T5.out.mono ?_
              rintro e w5 ⟨rfl, q5, g5⟩
              have Q5 := Lib.hid q5
              have C5 := Lib.hid ((g5.block _ (lt_of C10.out) NP.out).trans C10.out)
              have E5 := Lib.hid (hE.out.stop HN.out)
              clear q5 g5 T5 x0 x1 x2
              obtain ⟨x0, x1, x2⟩ := ocells C5.out
              go_wp2_with fail
              go_meet
              exact ⟨_, Q5, E5⟩
            · have b0 : (O.k == 0) = false := by simpa using h0
              have b1 : (O.k == 1) = false := by simpa using h1
              have b2 : (O.k == 2) = false := by simpa using h2
              obtain ⟨x0, x1, x2⟩ := ocells C10.out
              clear h0 h1 h2 C10
              go_wp2_with fail
              go_meet
              exact ⟨s, X1, hE⟩
        · go_wp2_with fail
          go_meet
          exact ⟨s, hQ, hE⟩
      obtain ⟨s', hQ', hE'⟩ := hcut
      clear hQ hE
      have TKK := Lib.hid hQ'.out.tick
      unfold TickK at TKK
      have EN := Lib.hid (hE'.out.tick hk16)
      have TD := Lib.hid (show Clk.Told (outs s'.l 16) (k : Int) (decide (T + 1 = n)) from by
        have := told_outs s'.l hk16
        rwa [show decide (s'.l k = 1) = decide (T + 1 = n) from decide_eq_decide.2 hE'.out.one] at this)
      clear hQ' hE'
      generalize outs s'.l 16 = zs at *
      go_wp2_with fail
      refine TKK.out.mono ?_
      rintro e w5 ⟨A5, c5, rfl, r5, aa5, q5, gg5⟩
      have Q5 := Lib.hid q5
      have R5 := Lib.hid r5
      have hzl := TD.out.len
      clear q5 r5 TKK aa5 gg5
      go_wp2_with fail
      go_loopw [10, 14] (fun mv iv w6 => ∃ j : Nat, j ≤ zs.length ∧ iv = .int .i64 (j : Int) ∧ mv = .int .i64 (((gone n T : Nat) : Int) + (((zs.take j).count (k : Int) : Nat) : Int)) ∧ Hid (Below w5.heap.size w5 w6)) (fun _ iv _ => zs.length - (intOf iv).toNat)
      case atStart => exact ⟨0, by omega, rfl, by simp, Lib.hid (.refl _ _)⟩
      case round =>
        obtain ⟨j, hj, rfl, rfl, hB⟩ := hrel
        by_cases hjl : j < zs.length
        · obtain ⟨g5, off5, hA5, hg5, c0⟩ := (R5.out.below hB.out).at_ hjl
          have i0 : (0 : Int) ≤ (j : Int) := by omega
          have i1 : (j : Int) < (zs.length : Int) := by omega
          obtain ⟨z0, z1⟩ := TD.out.bd j hjl
          cases j with
          | zero =>
            have c1 : wr.cell? ⟨g5, off5, none⟩ = some (.int .i64 (zs.getD 0 0)) := c0
            clear c0
            subst hA5
            have e0 : ((0 : Nat) : Int) = 0 := rfl
            rw [e0] at i1 ⊢
            clear e0 i0
            by_cases hh : zs.getD 0 0 = (k : Int)
            · have ho := TD.out.hit 0 hjl hh
              have hTn : T + 1 = n := of_decide_eq_true ho
              have hTn' : ((T : Int) + 1 == (n : Int)) = true := by simp; omega
              have CM := Lib.hid (show (((zs.take (0 + 1)).count (k : Int) : Nat) : Int) = (((zs.take 0).count (k : Int) : Nat) : Int) + 1 from by rw [count_more hjl, if_pos hh]; simp)
              have zk : (zs.getD 0 0 == (k : Int)) = true := by simpa using hh
              have cl := count_le 0 (k : Int) TD.out.len
              obtain ⟨C, hC⟩ : ∃ C : Nat, (zs.take 0).count (k : Int) = C := ⟨_, rfl⟩
              rw [hC] at CM cl ⊢
              have HJ := Lib.hid hj
              clear hC ho hTn hh hj
              generalize zs.getD 0 0 = z at *
              have d1 : decide (z < 0) = false := decide_eq_false (by omega)
              have d2 : decide ((16 : Int) ≤ z) = false := decide_eq_false (by omega)
              have CC := Lib.hid (fun W (b : Below wr.heap.size wr W) => (b.cell (p := ⟨g5, off5, none⟩) (Nat.lt_of_lt_of_le hg5 hB.out.size)).trans c1)
              go_wp2_with fail
              refine Txt.wp_region_textN 28 (fun W => Below wr.heap.size wr W) (by kernel_rfl) (by kernel_rfl) (by kernel_rfl) (by kernel_rfl) (fun _ _ _ _ _ h => h) (Below.refl _ _).drew ?_
              iterate 28 (
                apply Txt.step rfl
                · intro W hS K hK
                  have y1 := CC.out W hS
                  have HS := Lib.hid hS
                  clear hS
                  go_simp
                  exact hK.out _ HS.out
                · first | exact ⟨_, rfl⟩ | exact ⟨undef, rfl⟩)
              refine Txt.last fun W hS => ?_
              have y1 := CC.out W hS
              have B7 := Lib.hid (hB.out.trans (hS.mono hB.out.size))
              clear hS CC
              go_wp2_with fail
              go_roundw
              case rel => exact ⟨0 + 1, by omega, by go_num, by rw [CM.out]; first | go_num | (congr 1; omega), B7⟩
              case measure => simp [intOf]; omega
            · have CM := Lib.hid (show (((zs.take (0 + 1)).count (k : Int) : Nat) : Int) = (((zs.take 0).count (k : Int) : Nat) : Int) from by rw [count_more hjl, if_neg hh]; simp)
              have zk : (zs.getD 0 0 == (k : Int)) = false := beq_eq_false_iff_ne.2 hh
              have cl := count_le 0 (k : Int) TD.out.len
              obtain ⟨C, hC⟩ : ∃ C : Nat, (zs.take 0).count (k : Int) = C := ⟨_, rfl⟩
              rw [hC] at CM cl ⊢
              have HJ := Lib.hid hj
              clear hC hh hj
              generalize zs.getD 0 0 = z at *
              have d1 : decide (z < 0) = false := decide_eq_false (by omega)
              have d2 : decide ((16 : Int) ≤ z) = false := decide_eq_false (by omega)
              have CC := Lib.hid (fun W (b : Below wr.heap.size wr W) => (b.cell (p := ⟨g5, off5, none⟩) (Nat.lt_of_lt_of_le hg5 hB.out.size)).trans c1)
              go_wp2_with fail
              refine Txt.wp_region_textN 28 (fun W => Below wr.heap.size wr W) (by kernel_rfl) (by kernel_rfl) (by kernel_rfl) (by kernel_rfl) (fun _ _ _ _ _ h => h) (Below.refl _ _).drew ?_
              iterate 28 (
                apply Txt.step rfl
                · intro W hS K hK
                  have y1 := CC.out W hS
                  have HS := Lib.hid hS
                  clear hS
                  go_simp
                  exact hK.out _ HS.out
                · first | exact ⟨_, rfl⟩ | exact ⟨undef, rfl⟩)
              refine Txt.last fun W hS => ?_
              have y1 := CC.out W hS
              have B7 := Lib.hid (hB.out.trans (hS.mono hB.out.size))
              clear hS CC
              go_wp2_with fail
              go_roundw
              case rel => exact ⟨0 + 1, by omega, by go_num, by rw [CM.out], B7⟩
              case measure => simp [intOf]; omega
          | succ m =>
            obtain ⟨g6, off6, hA6, hg6, c1⟩ := (R5.out.below hB.out).at_ (show m < zs.length by omega)
            rw [hA5] at hA6
            cases hA6
            subst hA5
            have rs := TD.out.rise m hjl
            have j0 : (0 : Int) ≤ (m : Int) := by omega
            have j1 : (m : Int) < (zs.length : Int) := by omega
            have rs' : decide (zs.getD (m + 1) 0 ≤ zs.getD m 0) = false := decide_eq_false (by omega)
            have e0 : ((m + 1 : Nat) : Int) = (m : Int) + 1 := by omega
            rw [e0] at i0 i1 ⊢
            clear e0
            have d3 : decide ((0 : Int) < (m : Int) + 1) = true := decide_eq_true (by omega)
            have w1 : IntKind.i64.wrap (m : Int) = (m : Int) := IntWalk.i64_in _ (by omega)
            have tn : ((m : Int) + 1).toNat = m + 1 := by omega
            by_cases hh : zs.getD (m + 1) 0 = (k : Int)
            · have ho := TD.out.hit (m + 1) hjl hh
              have hTn : T + 1 = n := of_decide_eq_true ho
              have hTn' : ((T : Int) + 1 == (n : Int)) = true := by simp; omega
              have CM := Lib.hid (show (((zs.take ((m + 1) + 1)).count (k : Int) : Nat) : Int) = (((zs.take (m + 1)).count (k : Int) : Nat) : Int) + 1 from by rw [count_more hjl, if_pos hh]; simp)
              have zk : (zs.getD (m + 1) 0 == (k : Int)) = true := by simpa using hh
              have cl := count_le (m + 1) (k : Int) TD.out.len
              obtain ⟨C, hC⟩ : ∃ C : Nat, (zs.take (m + 1)).count (k : Int) = C := ⟨_, rfl⟩
              rw [hC] at CM cl ⊢
              have HJ := Lib.hid hj
              clear hC ho hTn hh hj
              generalize zs.getD (m + 1) 0 = z at *
              generalize zs.getD m 0 = z' at *
              have d1 : decide (z < 0) = false := decide_eq_false (by omega)
              have d2 : decide ((16 : Int) ≤ z) = false := decide_eq_false (by omega)
              have CC := Lib.hid (fun W (b : Below wr.heap.size wr W) => (And.intro ((b.cell (p := ⟨g5, off5 + (m + 1), none⟩) (Nat.lt_of_lt_of_le hg5 hB.out.size)).trans c0) ((b.cell (p := ⟨g5, off5 + m, none⟩) (Nat.lt_of_lt_of_le hg5 hB.out.size)).trans c1)))
              go_wp2_with fail
              refine Txt.wp_region_textN 28 (fun W => Below wr.heap.size wr W) (by kernel_rfl) (by kernel_rfl) (by kernel_rfl) (by kernel_rfl) (fun _ _ _ _ _ h => h) (Below.refl _ _).drew ?_
              iterate 28 (
                apply Txt.step rfl
                · intro W hS K hK
                  obtain ⟨y1, y2⟩ := CC.out W hS
                  have HS := Lib.hid hS
                  clear hS
                  go_simp
                  exact hK.out _ HS.out
                · first | exact ⟨_, rfl⟩ | exact ⟨undef, rfl⟩)
              refine Txt.last fun W hS => ?_
              obtain ⟨y1, y2⟩ := CC.out W hS
              have B7 := Lib.hid (hB.out.trans (hS.mono hB.out.size))
              clear hS CC
              go_wp2_with fail
              go_roundw
              case rel => exact ⟨(m + 1) + 1, by omega, by go_num, by rw [CM.out]; first | go_num | (congr 1; omega), B7⟩
              case measure => simp [intOf]; omega
            · have CM := Lib.hid (show (((zs.take ((m + 1) + 1)).count (k : Int) : Nat) : Int) = (((zs.take (m + 1)).count (k : Int) : Nat) : Int) from by rw [count_more hjl, if_neg hh]; simp)
              have zk : (zs.getD (m + 1) 0 == (k : Int)) = false := beq_eq_false_iff_ne.2 hh
              have cl := count_le (m + 1) (k : Int) TD.out.len
              obtain ⟨C, hC⟩ : ∃ C : Nat, (zs.take (m + 1)).count (k : Int) = C := ⟨_, rfl⟩
              rw [hC] at CM cl ⊢
              have HJ := Lib.hid hj
              clear hC hh hj
              generalize zs.getD (m + 1) 0 = z at *
              generalize zs.getD m 0 = z' at *
              have d1 : decide (z < 0) = false := decide_eq_false (by omega)
              have d2 : decide ((16 : Int) ≤ z) = false := decide_eq_false (by omega)
              have CC := Lib.hid (fun W (b : Below wr.heap.size wr W) => (And.intro ((b.cell (p := ⟨g5, off5 + (m + 1), none⟩) (Nat.lt_of_lt_of_le hg5 hB.out.size)).trans c0) ((b.cell (p := ⟨g5, off5 + m, none⟩) (Nat.lt_of_lt_of_le hg5 hB.out.size)).trans c1)))
              go_wp2_with fail
              refine Txt.wp_region_textN 28 (fun W => Below wr.heap.size wr W) (by kernel_rfl) (by kernel_rfl) (by kernel_rfl) (by kernel_rfl) (fun _ _ _ _ _ h => h) (Below.refl _ _).drew ?_
              iterate 28 (
                apply Txt.step rfl
                · intro W hS K hK
                  obtain ⟨y1, y2⟩ := CC.out W hS
                  have HS := Lib.hid hS
                  clear hS
                  go_simp
                  exact hK.out _ HS.out
                · first | exact ⟨_, rfl⟩ | exact ⟨undef, rfl⟩)
              refine Txt.last fun W hS => ?_
              obtain ⟨y1, y2⟩ := CC.out W hS
              have B7 := Lib.hid (hB.out.trans (hS.mono hB.out.size))
              clear hS CC
              go_wp2_with fail
              go_roundw
              case rel => exact ⟨(m + 1) + 1, by omega, by go_num, by rw [CM.out], B7⟩
              case measure => simp [intOf]; omega
        · obtain rfl : j = zs.length := by omega
          have AL := TD.out.all
          have M := Lib.hid (show ((gone n T : Nat) : Int) + (((zs.take zs.length).count (k : Int) : Nat) : Int) = ((gone n (T + 1) : Nat) : Int) from by
            rw [List.take_length, AL, gone_next]; simp)
          have Q6 := Lib.hid (Q5.out.next hB.out)
          rw [M.out]
          clear AL hB Q5 R5 TD
          have hT1' : IntKind.i64.wrap ((T : Int) + 1 + 1) = (T : Int) + 1 + 1 := IntWalk.i64_in _ (by omega)
          go_wp2_with fail
          go_roundw
          case rel => exact ⟨T + 1, _, by omega, by first | rfl | go_num, rfl, Q6, EN⟩
          case measure => simp [intOf]; omega
    · obtain rfl : T = n + 10 := by omega
      have hlt' : decide (((n + 10 : Nat) : Int) + 1 ≤ (n : Int) + 10) = false := decide_eq_false (by omega)
      have hg : gone n (n + 10) = 1 := by unfold gone; rw [if_pos (by omega)]
      have L0 := Lib.hid (show s.left (k : Int) = 0 from by rw [left_nat _ hk16, hE.out.l]; simp)
      have TL := Lib.hid (hQ.out.left (k : Int))
      rw [L0.out] at TL
      rw [hg]
      have BQ := Lib.hid hQ.out.b
      clear hE hQ hg L0
      go_wp2_with fail
      refine TL.out.mono ?_
      rintro e w4 ⟨rfl, rfl⟩
      clear TL
      go_wp2_with fail
      refine (KN.out _).mono ?_
      rintro e w6 ⟨rfl, b6⟩
      have B6 := Lib.hid (BQ.out.trans (b6.mono BQ.out.size))
      clear b6 BQ
      go_wp2_with fail
      go_ret
      exact ⟨rfl, B6.out⟩

theorem own : ownKnob Try.prog.godebug = none := by kernel_rfl
theorem laidOut : laidOutB Try.prog = true := by kernel_rfl

set_option maxRecDepth 100000 in
theorem lifted (os : Os) (started : os.Started) (H : Type) (enc : TypeId × Value → H) :
    ReturnsInHanded {} Try.checked os 5 .any (Rows.clockOnceSpec.pre6 enc Try.prog Try.f5 Rows.clockOnceRow.domain false) (Rows.clockOnceSpec.post enc Try.prog Try.f5 false true false false) := by
  refine returnsInHanded_of_change (C := Try.checked) own started (by kernel_rfl) Try.func5
    (ChangeSpec.witness6 (enc := enc) (C := Try.checked) false ⟨#[], #[.int .u8 0, .int .u8 0, .slice none 0 0], []⟩ 8 (by kernel_rfl) (by kernel_rfl) (by kernel_rfl) (by kernel_rfl)) ?_
  intro W base args ds gs before hval0 hW hcnd _
  have hval : ∀ (j : Nat) t v, Try.f5.params[j]? = some t → args[j]? = some v → Value.okWide Try.prog W .any base t v := hval0
  have hW' := hW
  obtain ⟨p, q, hA0, hV, rfl, hfz, hnd⟩ := hW
  have hA : DataW.TrodAll enc Try.prog W 0 (fun _ => true) true Try.f5.params.toList args.toList ds p := hA0
  rw [Try.params5] at hA hval
  obtain ⟨v0, vs0, d0, ds0, p0, q0, hargs, rfl, rfl, h0, r0⟩ := trodAll_cons hA
  obtain ⟨v1, vs1, d1, ds1, p1, q1, rfl, rfl, rfl, h1, r1⟩ := trodAll_cons r0
  obtain ⟨v2, vs2, d2, ds2, p2, q2, rfl, rfl, rfl, h2, r2⟩ := trodAll_cons r1
  obtain ⟨rfl, rfl, rfl⟩ := trodAll_nil r2
  obtain rfl : args = #[v0, v1, v2] := by cases args; simp_all
  obtain ⟨rfl, rfl⟩ := trodVars_none hV
  obtain ⟨a0, rfl, rfl, rfl, w0⟩ := open_int Try.underlying5 (hval 0 5 v0 rfl rfl) h0
  obtain ⟨a1, rfl, rfl, rfl, w1⟩ := open_int Try.underlying5 (hval 1 5 v1 rfl rfl) h1
  have k2 := h2
  have lt2 : ∀ x ∈ p2, x.block < W.heap.size := by obtain ⟨m, hm⟩ := k2; exact DataW.trod_lt m _ _ _ hm
  obtain ⟨A2, c2, o2, rfl, w2, l2, z2⟩ := Clk.open_ops (hval 2 38 v2 rfl rfl) h2
  clear hA0 hval0
  refine (walk a0 a1 A2 c2 o2 W (Mem.wf_u8 w0) (Mem.wf_u8 w1) w2 l2 z2).mono fun e W' ⟨he, bel⟩ => ?_
  subst he
  exact ⟨_, rfl, _, _, _, [], _, [], hW', trodAll_mk1 (shut_bool Try.underlying4 _), (trodAll_cons_mk (shut_int Try.underlying5 w0) (trodAll_cons_mk (shut_int Try.underlying5 w1) (trodAll_cons_mk (Below.trod laidOut (by kernel_rfl) (of_decide_eq_true (by kernel_rfl)) k2 bel lt2) trodAll_mk0))), rfl, bel.frame _, fun h => by cases h⟩

theorem over : Rows.clockOnceRow.holds Try.pinned (OpenSpec.ofChange Rows.clockOnceSpec) :=
  OpenClaim.holds_of_wide 5 Try.f5 rfl rfl rfl rfl rfl rfl rfl ⟨rfl, rfl, rfl, rfl, rfl⟩ rfl rfl rfl rfl rfl (by kernel_rfl) Try.func5 (by kernel_rfl)
    (of_decide_eq_true (by kernel_rfl)) (by unfold Func.isWrapper; first | (rw [if_pos (by decide +kernel)]; kernel_rfl) | (rw [if_neg (by decide +kernel)]; exact ⟨rfl, rfl⟩))
    (fun os started H enc _ => lifted os started H enc)

/-- The given statement. -/
theorem proved : Rows.ClockOnceSaid := over

end Go.Proofs.Ytlojomeofgnfjaa.clockOnce
