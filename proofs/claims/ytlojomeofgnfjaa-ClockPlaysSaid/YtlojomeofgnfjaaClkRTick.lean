/-
  The document's Next and Tick.
-/
import Derived.Test.YtlojomeofgnfjaaClkRef
namespace Go.Proofs.Ytlojomeofgnfjaa
namespace Clk
open Go.RowKit Mem
set_option linter.unusedVariables false
set_option linter.unusedSimpArgs false
set_option maxRecDepth 100000

section
variable {W W' : World} {p : Nat} {s : Ck}
set_option maxHeartbeats 2000000 in
theorem rnext_any (h : IsR W p s) (ok : s.Ok) :
    Calls Try.prog 29 #[at_ p] W fun e w' => e = .returned (.tuple #[.int .i64 (nx s.l 16), .bool (decide (0 < nx s.l 16))]) ∧ W = w' := by
  go_enter Try.func29, Try.ntmps29
  go_wp2_with fail
  go_loop [4, 5] (fun nv iv => ∃ k : Nat, k ≤ 16 ∧ nv = .int .i64 (nx s.l k) ∧ iv = .int .i64 (k : Int)) (fun _ iv => 16 - (intOf iv).toNat)
  case atStart => exact ⟨0, by omega, rfl, rfl⟩
  case round =>
    obtain ⟨k, hk, rfl, rfl⟩ := hrel
    by_cases hlt : k < 16
    · have q0 := h.cl hlt
      have d1 := ok.l k hlt
      have d2 := nx_bd ok.l k (by omega)
      obtain ⟨d1a, d1b⟩ := d1
      obtain ⟨d2a, d2b⟩ := d2
      have i0 : (0 : Int) ≤ (k : Int) := by omega
      have i1 : (k : Int) < 16 := by omega
      by_cases h1 : 0 < s.l k ∧ (nx s.l k = 0 ∨ s.l k < nx s.l k)
      · have E := Lib.hid (show nx s.l (k + 1) = s.l k by simp only [nx]; rw [if_pos h1])
        obtain ⟨h2, h3⟩ := h1
        rcases h3 with h0 | h0
        · rw [h0]
          clear h0 d2a d2b h
          generalize s.l k = x at *
          go_wp2_with fail
          go_round
          case rel => exact ⟨k + 1, by omega, by rw [E.out], by go_num⟩
          case measure => simp [intOf]; omega
        · have h4 : (nx s.l k == 0) = false := beq_eq_false_iff_ne.2 (by omega)
          clear h
          generalize nx s.l k = m at *
          generalize s.l k = x at *
          go_wp2_with fail
          go_round
          case rel => exact ⟨k + 1, by omega, by rw [E.out], by go_num⟩
          case measure => simp [intOf]; omega
      · have E := Lib.hid (show nx s.l (k + 1) = nx s.l k by simp only [nx]; rw [if_neg h1])
        by_cases h2 : 0 < s.l k
        · have h3 : ¬ nx s.l k = 0 := fun e => h1 ⟨h2, .inl e⟩
          have h4 : (nx s.l k == 0) = false := beq_eq_false_iff_ne.2 h3
          have h5 : ¬ s.l k < nx s.l k := fun e => h1 ⟨h2, .inr e⟩
          clear h h1
          generalize nx s.l k = m at *
          generalize s.l k = x at *
          go_wp2_with fail
          go_round
          case rel => exact ⟨k + 1, by omega, by rw [E.out], by go_num⟩
          case measure => simp [intOf]; omega
        · have h3 : s.l k = 0 := by omega
          rw [h3] at q0
          clear h h1
          generalize nx s.l k = m at *
          go_wp2_with fail
          go_round
          case rel => exact ⟨k + 1, by omega, by rw [E.out], by go_num⟩
          case measure => simp [intOf]; omega
    · obtain rfl : k = 16 := by omega
      go_wp2_with fail
      go_ret2
      exact ⟨rfl, rfl⟩

/-- What the document's Tick ends with. -/
def RTickEnds (w : World) (p : Nat) (s : Ck) (e : Ending) (w' : World) : Prop :=
  ∃ v, e = .returned v ∧ OwnI .i64 w' w.heap.size 3 v (outs s.l 16) ∧ IsR w' p s.tick ∧ w.grownBy w' (some p)

/-- Between two rounds. -/
structure RI (w : World) (p : Nat) (s : Ck) (k : Nat) (v : Value) (zs : List Int) (t : Ck) (W : World) : Prop where
  o : OwnI .i64 W w.heap.size 3 v zs
  r : IsR W p t
  g : w.grownBy W (some p)
theorem RI.below {w : World} {k : Nat} {v : Value} {zs : List Int} {t : Ck} (h : RI w p s k v zs t W) (b : Below W.heap.size W W') : RI w p s k v zs t W' := by
  refine ⟨?_, h.r.below b h.r.lt, ⟨b.os.trans h.g.os, b.tape.trans h.g.tape, b.output.trans h.g.output, Nat.le_trans h.g.size b.size, fun r h1 h2 => (b.block r (Nat.lt_of_lt_of_le h1 h.g.size)).trans (h.g.block r h1 h2)⟩⟩
  refine ⟨h.o.1, ?_⟩
  rcases h.o.2 with h1 | ⟨g, cap, cur, hv, hb, hh, hr⟩
  · exact .inl h1
  · exact .inr ⟨g, cap, cur, hv, hb, (b.block g (Array.getElem?_eq_some_iff.1 hh).1).trans hh, hr⟩
theorem RI.set {w : World} {k : Nat} {v : Value} {zs : List Int} {t : Ck} (h : RI w p s k v zs t W) (hp : p < w.heap.size) {j : Nat} (hj : j < 16) (x : Int) : RI w p s k v zs ⟨upd t.l j x, t.a⟩ (W.setCell ⟨p, j, none⟩ (.int .i64 x)) :=
  ⟨ownsRow_setCell_below h.o hp _, h.r.setl hj x, grown_trans h.g (grown_set W p j _)⟩

set_option maxHeartbeats 4000000 in
theorem rtick_any (h : IsR W p s) (ok : s.Ok) :
    Calls Try.prog 27 #[at_ p] W (RTickEnds W p s) := by
  have hp := h.lt
  obtain ⟨i0, hi, hz0, hz1, hz2⟩ := info_parts infoI
  have S0 := Lib.hid (show RI W p s 0 (.slice none 0 0) [] (tk s 0) W from ⟨World.ownsRow_nil _ _ _ _, by rw [tk_zero]; exact h, .refl _ _⟩)
  unfold RTickEnds
  clear h
  go_enter Try.func27, Try.ntmps27
  go_wp2_with fail
  go_loopw [3, 4] (fun v iv wr => ∃ (k : Nat) (vv : Value), vv = v ∧ k ≤ 16 ∧ iv = .int .i64 (k : Int) ∧ Hid (RI W p s k vv (outs s.l k) (tk s k) wr)) (fun _ iv _ => 16 - (intOf iv).toNat)
  case atStart => exact ⟨0, _, rfl, by omega, rfl, S0⟩
  case round =>
    obtain ⟨k, v, rfl, hk, rfl, hR⟩ := hrel
    clear S0
    by_cases hlt : k < 16
    · have q0 := hR.out.r.cl hlt
      have el : (tk s k).l k = s.l k := by simp [tk]
      have ea : (tk s k).a k = s.a k := rfl
      rw [el] at q0
      have d1 := ok.l k hlt
      obtain ⟨d1a, d1b⟩ := d1
      have j0 : (0 : Int) ≤ (k : Int) := by omega
      have j1 : (k : Int) < 16 := by omega
      have j2 : (k : Int) ≤ 9223372036854775807 := by omega
      by_cases h0 : s.l k = 0
      · have T := Lib.hid (show RI W p s (k + 1) v (outs s.l (k + 1)) (tk s (k + 1)) wr from by
          rw [tk_skip (by omega)]
          have e : outs s.l (k + 1) = outs s.l k := by simp only [outs]; rw [if_neg (by omega)]
          rw [e]
          exact ⟨hR.out.o, hR.out.r, hR.out.g⟩)
        rw [h0] at q0
        go_wp2_with fail
        go_roundw
        case rel => exact ⟨k + 1, _, rfl, by omega, by go_num, T⟩
        case measure => simp [intOf]; omega
      · have hb : (s.l k == 0) = false := beq_eq_false_iff_ne.2 h0
        have wrp : IntKind.i64.wrap (s.l k - 1) = s.l k - 1 := IntWalk.i64_in _ (by omega)
        go_wp2_with fail
        refine Txt.wp_region_tail 12 (fun W' => Below wr.heap.size wr W') (by kernel_rfl) (by kernel_rfl) (by kernel_rfl) (by kernel_rfl) (by kernel_rfl) (fun _ _ _ _ _ h => h) (Below.refl _ _).drew ?_
        iterate 12 (
          apply Txt.stepR rfl
          · intro W1 hS K hK
            have q1 := (hR.out.below hS).r.cl hlt
            rw [el] at q1
            have HS := Lib.hid hS
            clear hS
            go_simp
            exact hK.out _ HS.out
          · first | exact ⟨_, rfl⟩ | exact ⟨undef, rfl⟩)
        refine Txt.lastR rfl ?_
        intro W1 hS K hK
        have R1 := hR.out.below hS
        have q1 := R1.r.cl hlt
        have f1 := R1.r.free k
        have R2 := Lib.hid (R1.set (by omega) hlt (s.l k - 1))
        clear hS R1 hR q0
        go_simp
        refine hK.out _ _ ?_
        clear hK K
        obtain ⟨W2, hW2⟩ : ∃ W2, W1.setCell ⟨p, k, none⟩ (.int .i64 (s.l k - 1)) = W2 := ⟨_, rfl⟩
        rw [hW2] at R2 ⊢
        clear hW2 q1 f1
        have q2 := R2.out.r.cl hlt
        rw [show (⟨upd (tk s k).l k (s.l k - 1), (tk s k).a⟩ : Ck).l k = s.l k - 1 from upd_same _ _ _] at q2
        by_cases h1 : s.l k = 1
        · rw [show s.l k - 1 = 0 by omega] at q2
          have hol : (outs s.l k).length ≤ 16 := Nat.le_trans (outs_length _ _) (by omega)
          have HO := Lib.hid (R2.out.o.alloc (.cells #[.int .i64 (k : Int)] 3))
          have NW := Lib.hid (RdI.new1 .i64 W2 3 (k : Int))
          have BS := Lib.hid (Nat.le_trans R2.out.g.size (show W2.heap.size ≤ (W2.alloc (.cells #[.int .i64 (k : Int)] 3)).heap.size by simp))
          have E := Lib.hid (show outs s.l (k + 1) = outs s.l k ++ [(k : Int)] by simp only [outs]; rw [if_pos h1])
          have AP := Lib.hid (fun v' W3 (o : OwnI .i64 W3 W.heap.size 3 v' (outs s.l k ++ [(k : Int)])) (g : (W2.alloc (.cells #[.int .i64 (k : Int)] 3)).grownBy W3 v.ownBlock) => show RI W p s k v' (outs s.l k ++ [(k : Int)]) ⟨upd (tk s k).l k (s.l k - 1), (tk s k).a⟩ W3 from by
            have hv : some p ≠ v.ownBlock := fun e => by
              rcases R2.out.o.2 with ⟨rfl, _⟩ | ⟨g', cap, cur, rfl, hb', _⟩
              · cases e
              · have e' : p = g' := by simpa [Value.ownBlock] using e
                omega
            have g0 : W.grownBy (W2.alloc (.cells #[.int .i64 (k : Int)] 3)) (some p) := grown_trans R2.out.g (World.grownBy_alloc W2 _ _)
            refine ⟨o, (R2.out.r.keep ((World.grownBy_alloc W2 (.cells #[.int .i64 (k : Int)] 3) none).block p R2.out.r.lt (by simp))).grown g hv, ?_⟩
            refine ⟨g.os.trans g0.os, g.tape.trans g0.tape, g.output.trans g0.output, Nat.le_trans g0.size g.size, fun r h1 h2 => (g.block r (Nat.lt_of_lt_of_le h1 g0.size) (fun e => ?_)).trans (g0.block r h1 h2)⟩
            rcases R2.out.o.2 with ⟨rfl, _⟩ | ⟨g', cap, cur, rfl, hb', _⟩
            · cases e
            · have e' : r = g' := by simpa [Value.ownBlock] using e
              omega)
          clear R2
          go_wp2_with (at_builtin; refine wpList_appI _ .i64 rfl (.tmp 35) (.tmp 37) 51 rfl W.heap.size 3 i0 8 Try.underlying51 hi hz0 hz1 hz2 (by omega) _ _ rfl HO.out _ _ _ [(k : Int)] rfl rfl _ NW.out (by simp; omega) BS.out ?_; intro v' W3 o3 g3; have R3 := Lib.hid (AP.out v' W3 o3 g3); clear AP o3 g3)
          have q3 := R3.out.r.ca hlt
          rw [show (⟨upd (tk s k).l k (s.l k - 1), (tk s k).a⟩ : Ck).a k = s.a k from rfl] at q3
          have j16 : ((16 + k : Nat) : Int) = 16 + (k : Int) := by omega
          refine Txt.wp_region_tail 11 (fun W' => Below W3.heap.size W3 W') (by kernel_rfl) (by kernel_rfl) (by kernel_rfl) (by kernel_rfl) (by kernel_rfl) (fun _ _ _ _ _ h => h) (Below.refl _ _).drew ?_
          iterate 11 (
            apply Txt.stepR rfl
            · intro W4 hS K hK
              have q4 := (R3.out.below hS).r.ca hlt
              rw [show (⟨upd (tk s k).l k (s.l k - 1), (tk s k).a⟩ : Ck).a k = s.a k from rfl] at q4
              have HS := Lib.hid hS
              clear hS
              go_simp
              exact hK.out _ HS.out
            · first | exact ⟨_, rfl⟩ | exact ⟨undef, rfl⟩)
          refine Txt.lastR rfl ?_
          intro W4 hS K hK
          have R4 := R3.out.below hS
          have q4 := R4.r.cl hlt
          have f4 := R4.r.free k
          have R5 := Lib.hid (R4.set (by omega) hlt (s.a k))
          clear hS R4
          go_simp
          refine hK.out _ _ ?_
          clear hK K
          have T := Lib.hid (show RI W p s (k + 1) v' (outs s.l (k + 1)) (tk s (k + 1)) (W4.setCell ⟨p, k, none⟩ (.int .i64 (s.a k))) from by
            rw [E.out, ← tk_out h1 (s.l k - 1)]
            exact ⟨R5.out.o, R5.out.r, R5.out.g⟩)
          clear R5 q4 f4
          go_wp2_with fail
          go_roundw
          case rel => exact ⟨k + 1, _, rfl, by omega, by go_num, T⟩
          case measure => simp [intOf]; omega
        · have T := Lib.hid (show RI W p s (k + 1) v (outs s.l (k + 1)) (tk s (k + 1)) W2 from by
            rw [← tk_less (by omega) h1]
            have e : outs s.l (k + 1) = outs s.l k := by simp only [outs]; rw [if_neg h1]
            rw [e]
            exact ⟨R2.out.o, R2.out.r, R2.out.g⟩)
          have hb1 : (s.l k - 1 == 0) = false := beq_eq_false_iff_ne.2 (by omega)
          go_wp2_with fail
          go_roundw
          case rel => exact ⟨k + 1, _, rfl, by omega, by go_num, T⟩
          case measure => simp [intOf]; omega
    · obtain rfl : k = 16 := by omega
      have HR := hR
      clear hR
      go_wp2_with fail
      go_ret
      exact ⟨_, rfl, HR.out.o, HR.out.r, HR.out.g⟩
end
end Clk
end Go.Proofs.Ytlojomeofgnfjaa
