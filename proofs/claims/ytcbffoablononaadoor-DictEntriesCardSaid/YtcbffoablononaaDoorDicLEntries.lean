/-
  DictEntries: its walk.
-/
import Derived.Test.YtcbffoablononaaDoorDicLaws
namespace Go.Proofs.YtcbffoablononaaDoor
namespace Dic
open Go.RowKit Mem Ent
set_option linter.unusedVariables false
set_option linter.unusedSimpArgs false
set_option maxRecDepth 100000

set_option maxHeartbeats 8000000 in
theorem entries_law (A : Option Addr) (c : Nat) (es : List En) (i : Int) (w : World) (hr : RdE w w.heap.size A es) (hn : es.length ≤ maxLen) (hok : ∀ j, j < es.length → (es.getD j enZ).Ok w) (h0 : -9223372036854775808 ≤ i) (h1 : i ≤ 9223372036854775807) (hg : TG w) :
    Calls Tryd.prog 4 #[.slice A es.length c, .int .i64 i] w fun e w' => e = .returned (.bool true) ∧ Below w.heap.size w w' := by
  have HL := Lib.hid (light_law (c := c) hr hn hok)
  have KN := Lib.hid (fun X (b : Below w.heap.size w X) => known_any X (hg.below b (Nat.le_refl _)))
  cases hl : lightB es with
  | false =>
    rw [hl] at HL
    have HK := Lib.hid (KN.out w (Below.refl _ _))
    clear hr hn hok hg hl h0 h1 KN
    generalize es.length = n at *
    go_enter Tryd.func4, Tryd.ntmps4
    go_wp2_with fail
    refine HL.out.mono ?_
    rintro e w' ⟨rfl, rfl⟩
    go_wp2_with fail
    refine HK.out.mono ?_
    rintro e w' ⟨rfl, b⟩
    have B := Lib.hid b
    clear b
    go_wp2_with fail
    go_ret
    exact ⟨rfl, B.out⟩
  | true =>
    rw [hl] at HL
    have HNW := Lib.hid (new_law (c := c) hr hn hok hl hg (Below.refl _ _))
    obtain ⟨l200, lj⟩ := light_ok hl
    have HLJ := Lib.hid lj
    have HR := Lib.hid (fun X (b : Below w.heap.size w X) => hr.below b)
    clear hr hn hg hl lj
    go_enter Tryd.func4, Tryd.ntmps4
    go_wp2_with fail
    refine HL.out.mono ?_
    rintro e w' ⟨rfl, rfl⟩
    go_wp2_with fail
    refine HNW.out.mono ?_
    intro e w1 h
    clear HL HNW
    rcases h with ⟨v, hz, rfl, L⟩ | ⟨hz, rfl, b⟩
    rotate_left
    · have hd : ((newA (es.map ev)).1 != 0) = true := by simpa using hz
      have HK := Lib.hid (KN.out w1 b)
      have B := Lib.hid b
      clear hok hz b HLJ HR KN
      generalize (newA (es.map ev)).1 = E at *
      generalize (newA (es.map ev)).2 = F at *
      generalize es.length = n at *
      go_wp2_with fail
      refine HK.out.mono ?_
      rintro e w' ⟨rfl, b⟩
      have B2 := Lib.hid (B.out.trans (b.mono B.out.size))
      clear b
      go_wp2_with fail
      go_ret
      exact ⟨rfl, B2.out⟩
    · have LN := L.len
      rw [first_len] at LN
      have LN := Lib.hid LN
      clear hz L
      go_wp2_with fail
      refine LN.out.mono ?_
      rintro e w2 ⟨rfl, L⟩
      have L := Lib.hid L
      clear LN
      go_wp2_with fail
      go_loopw [8] (fun iv wr => ∃ k : Nat, k ≤ es.length ∧ iv = .int .i64 (k : Int) ∧ Hid (LD w wr w.heap.size v w.heap.size (first (es.map ev)))) (fun iv _ => es.length - (intOf iv).toNat)
      case atStart => exact ⟨0, by omega, rfl, L⟩
      case round =>
        obtain ⟨k, hk, rfl, hL⟩ := hrel
        clear L
        by_cases hlt : k < es.length
        · have HE := entry_yes hL.out.d (k := k) (by rw [first_len]; exact hlt)
          rw [first_at] at HE
          have HE := Lib.hid HE
          have FA := find_at hL.out (k := k) (by rw [first_len]; exact hlt)
          rw [first_at] at FA
          have FA := Lib.hid FA
          have ROWS := Lib.hid (fun X (b : Below w.heap.size w X) => (HR.out X b).at hlt rfl)
          have SH := (HLJ.out k hlt).1
          have j1 : (0 : Int) ≤ (k : Int) := by omega
          have j2 : (k : Int) < (es.length : Int) := by omega
          obtain ⟨g, off, hA, hgB, R11, _⟩ := ROWS.out w (Below.refl _ _)
          have R := Lib.hid (fun X (b : Below w.heap.size w X) => R11.below hgB b)
          have RX := Lib.hid (fun X (b : Below w.heap.size w X) => ((HR.out X b).data k hlt))
          have HLT := Lib.hid hlt
          subst hA
          clear ROWS R11 hgB
          generalize es.getD k enZ = x at *
          have SH : (ev x).d.length ≤ 1000 := SH
          have RX : Hid (∀ X, Below w.heap.size w X → Rd X w.heap.size x.A (ev x).d) := RX
          have FD := Lib.hid (fun X (b : Below wr.heap.size wr X) => (hL.out.next b).find (ev x).ix (ev x).sub)
          rw [FA.out] at FD
          clear FA
          go_wp2_with fail
          refine HE.out.mono ?_
          rintro e w3 ⟨u, rfl, o, b⟩
          obtain ⟨A3, c3, rfl, r3⟩ := o.form
          have b4 := one_b w3 (.cells ((ev x).row (.slice A3 (ev x).d.length c3)) 38)
          have box := heap_alloc_new w3 (.cells ((ev x).row (.slice A3 (ev x).d.length c3)) 38)
          have B4 := Lib.hid (b.trans (b4.mono b.size))
          have BOX := Lib.hid box
          have O4 := Lib.hid (show Own _ wr.heap.size YT _ _ from o.below b4 (Nat.le_refl _))
          clear HE b box o r3
          go_wp2_with fail
          generalize w3.alloc (.cells ((ev x).row (.slice A3 (ev x).d.length c3)) 38) = w4 at *
          clear b4
          have LC := Lib.hid (fun X (b : Below w4.heap.size w4 X) => row_cells ((b.block _ (Array.getElem?_eq_some_iff.1 BOX.out).1).trans BOX.out))
          have BW := Lib.hid (fun X (b : Below w4.heap.size w4 X) => hL.out.b.trans ((B4.out.trans (b.mono B4.out.size)).mono hL.out.b.size))
          have BR := Lib.hid (fun X (b : Below w4.heap.size w4 X) => B4.out.trans (b.mono B4.out.size))
          refine Txt.wp_region_textN 17 (fun X => Below w4.heap.size w4 X) (by kernel_rfl) (by kernel_rfl) (by kernel_rfl) (by kernel_rfl) (fun _ _ _ _ _ h => h) (Below.refl _ _).drew ?_
          iterate 17 (
            apply Txt.step rfl
            · intro X hS K hK
              obtain ⟨q0, q1, q2, q3, q4, q5, q6, q7, q8, q9, q10⟩ := R.out X (BW.out X hS)
              have FDX := Lib.hid (FD.out X (BR.out X hS))
              have HS := Lib.hid hS
              clear hS
              go_simp
              first
                | exact hK.out _ HS.out
                | (go_wp2_with (go_at_call 23; refine FDX.out.mono ?_; rintro e w' ⟨rfl, b⟩; have T := Lib.hid (HS.out.trans (b.mono HS.out.size)); clear b)
                   first | exact hK.out _ HS.out | exact hK.out _ T.out)
            · first | exact ⟨_, rfl⟩ | exact ⟨undef, rfl⟩)
          refine Txt.last fun w5 hS5 => ?_
          have S5 := Lib.hid hS5
          clear hS5 FD
          go_wp2_with fail
          have YS := Lib.hid (fun X (b : Below w4.heap.size w4 X) => same_yes (ev x) A3 x.A c3 x.c X (own_rd (O4.out.below b (Nat.le_refl _))) ((RX.out X (BW.out X b)).mono (BW.out X b).size) SH)
          refine Txt.wp_region_textN 20 (fun X => Below w5.heap.size w5 X) (by kernel_rfl) (by kernel_rfl) (by kernel_rfl) (by kernel_rfl) (fun _ _ _ _ _ h => h) (Below.refl _ _).drew ?_
          iterate 20 (
            apply Txt.step rfl
            · intro X hS K hK
              have S4 := S5.out.trans (hS.mono S5.out.size)
              obtain ⟨q0, q1, q2, q3, q4, q5, q6, q7, q8, q9, q10⟩ := R.out X (BW.out X S4)
              obtain ⟨y0, y1, y2, y3, y4, y5, y6, y7, y8, y9, y10⟩ := LC.out X S4
              have YX := Lib.hid (YS.out X S4)
              have HS := Lib.hid hS
              clear hS S4
              go_simp
              first
                | exact hK.out _ HS.out
                | (go_wp2_with (go_at_call 24; refine YX.out.mono ?_; rintro e w' ⟨rfl, b⟩; have T := Lib.hid (HS.out.trans (b.mono HS.out.size)); clear b)
                   first | exact hK.out _ HS.out | exact hK.out _ T.out)
            · first | exact ⟨_, rfl⟩ | exact ⟨undef, rfl⟩)
          refine Txt.last fun w6 hS6 => ?_
          have S6 := Lib.hid (S5.out.trans (hS6.mono S5.out.size))
          have SP := Lib.hid (spoil_any (.slice A3 (ev x).d.length c3) wr.heap.size (ev x).d w6 (O4.out.below S6.out (Nat.le_refl _)) (BR.out w6 S6.out).size (by omega))
          obtain ⟨y0, y1, y2, y3, y4, y5, y6, y7, y8, y9, y10⟩ := LC.out w6 S6.out
          have BR6 := Lib.hid (BR.out w6 S6.out)
          have NX := Lib.hid (fun X b => hL.out.next (W' := X) b)
          clear hS6 S5 YS LC BW BR R RX O4 BOX B4 S6 hL
          go_wp2_with fail
          refine SP.out.mono ?_
          rintro e w7 ⟨rfl, b, _⟩
          have L7 := Lib.hid (NX.out w7 (BR6.out.trans b))
          clear b NX BR6 SP y0 y1 y2 y3 y4 y5 y6 y7 y8 y9 y10
          go_wp2_with fail
          go_roundw
          case rel => exact ⟨k + 1, by have := HLT.out; omega, by go_num, L7⟩
          case measure => have := HLT.out; simp [intOf]; omega
        · clear HLJ HR
          by_cases hi : 0 ≤ i ∧ i < (es.length : Int)
          · obtain ⟨m, rfl⟩ : ∃ m : Nat, i = (m : Int) := ⟨i.toNat, by omega⟩
            have hm : m < es.length := by omega
            have HE := entry_yes hL.out.d (k := m) (by rw [first_len]; exact hm)
            rw [first_at] at HE
            have HE := Lib.hid HE
            have d1 : decide (0 ≤ (m : Int)) = true := decide_eq_true (by omega)
            have d2 : decide ((m : Int) < (es.length : Int)) = true := decide_eq_true (by omega)
            have d3 : decide (m < es.length) = true := decide_eq_true hm
            generalize es.getD m enZ = x at *
            go_wp2_with fail
            refine HE.out.mono ?_
            rintro e w3 ⟨u, rfl, o, b⟩
            obtain ⟨A3, c3, rfl, r3⟩ := o.form
            have b4 := one_b w3 (.cells ((ev x).row (.slice A3 (ev x).d.length c3)) 38)
            have B4 := Lib.hid (hL.out.b.trans ((b.trans (b4.mono b.size)).mono hL.out.b.size))
            clear o b b4 HE r3
            go_wp2_with fail
            refine (KN.out _ B4.out).mono ?_
            rintro e w4 ⟨rfl, b⟩
            have B5 := Lib.hid (B4.out.trans (b.mono B4.out.size))
            clear b B4
            go_wp2_with fail
            go_ret
            exact ⟨rfl, B5.out⟩
          · have HE := entry_no hL.out.d i (by rw [first_len]; omega)
            have HE := Lib.hid HE
            by_cases hi0 : 0 ≤ i
            · have d1 : decide (0 ≤ i) = true := decide_eq_true hi0
              have d2 : decide (i < (es.length : Int)) = false := decide_eq_false (by omega)
              go_wp2_with fail
              refine HE.out.mono ?_
              rintro e w3 ⟨u, rfl, o, b⟩
              obtain ⟨A3, c3, rfl, r3⟩ := o.form
              have b4 := one_b w3 (.cells (Ev.zero.row (.slice A3 0 c3)) 38)
              have B4 := Lib.hid (hL.out.b.trans ((b.trans (b4.mono b.size)).mono hL.out.b.size))
              have Y := Lib.hid (same_yes Ev.zero A3 none c3 0 (w3.alloc (.cells (Ev.zero.row (.slice A3 0 c3)) 38)) (.inl rfl) (.inl rfl) (by decide))
              clear o b b4 HE r3
              go_wp2_with fail
              refine Y.out.mono ?_
              rintro e w5 ⟨rfl, b⟩
              have B5 := Lib.hid (B4.out.trans (b.mono B4.out.size))
              clear b B4
              go_wp2_with fail
              refine (KN.out _ B5.out).mono ?_
              rintro e w4 ⟨rfl, b⟩
              have B6 := Lib.hid (B5.out.trans (b.mono B5.out.size))
              clear b B5
              go_wp2_with fail
              go_ret
              exact ⟨rfl, B6.out⟩
            · have d1 : decide (0 ≤ i) = false := decide_eq_false hi0
              go_wp2_with fail
              refine HE.out.mono ?_
              rintro e w3 ⟨u, rfl, o, b⟩
              obtain ⟨A3, c3, rfl, r3⟩ := o.form
              have b4 := one_b w3 (.cells (Ev.zero.row (.slice A3 0 c3)) 38)
              have B4 := Lib.hid (hL.out.b.trans ((b.trans (b4.mono b.size)).mono hL.out.b.size))
              have Y := Lib.hid (same_yes Ev.zero A3 none c3 0 (w3.alloc (.cells (Ev.zero.row (.slice A3 0 c3)) 38)) (.inl rfl) (.inl rfl) (by decide))
              clear o b b4 HE r3
              go_wp2_with fail
              refine Y.out.mono ?_
              rintro e w5 ⟨rfl, b⟩
              have B5 := Lib.hid (B4.out.trans (b.mono B4.out.size))
              clear b B4
              go_wp2_with fail
              refine (KN.out _ B5.out).mono ?_
              rintro e w4 ⟨rfl, b⟩
              have B6 := Lib.hid (B5.out.trans (b.mono B5.out.size))
              clear b B5
              go_wp2_with fail
              go_ret
              exact ⟨rfl, B6.out⟩
end Dic
end Go.Proofs.YtcbffoablononaaDoor
