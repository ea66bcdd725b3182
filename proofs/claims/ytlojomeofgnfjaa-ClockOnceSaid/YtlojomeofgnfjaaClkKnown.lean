/-
  Two lists of numbers compared; a clock among what a law made; the laws' known.
-/
import Derived.Test.YtlojomeofgnfjaaClkTick
namespace Go.Proofs.Ytlojomeofgnfjaa
namespace Clk
open Go.RowKit Mem
set_option linter.unusedVariables false
set_option linter.unusedSimpArgs false
set_option maxRecDepth 100000

set_option maxHeartbeats 1000000 in
theorem ints_any (A : Option Addr) (c : Nat) (zs : List Int) (A' : Option Addr) (c' : Nat) (ys : List Int) (w : World) (hr : RdI .i64 w w.heap.size A zs) (hr' : RdI .i64 w w.heap.size A' ys)
    (hz : zs.length ≤ 1000) (hy : ys.length ≤ 1000) (hzb : ∀ x ∈ zs, -1000000 ≤ x ∧ x ≤ 1000000) (hyb : ∀ x ∈ ys, -1000000 ≤ x ∧ x ≤ 1000000) :
    Calls Try.prog 26 #[.slice A zs.length c, .slice A' ys.length c'] w fun e w' => e = .returned (.bool (decide (zs = ys))) ∧ Below w.heap.size w w' := by
  by_cases hl : zs.length = ys.length
  · have hl0 : decide ((zs.length : Int) = (ys.length : Int)) = true := by simp [hl]
    have hl1 : ((zs.length : Int) == (ys.length : Int)) = true := by simp [hl]
    go_enter Try.func26, Try.ntmps26
    go_wp2_with fail
    go_loopw [5] (fun iv wr => ∃ k : Nat, k ≤ zs.length ∧ iv = .int .i64 (k : Int) ∧ Below w.heap.size w wr ∧ Hid (∀ j, j < k → zs.getD j 0 = ys.getD j 0)) (fun iv _ => zs.length - (intOf iv).toNat)
    case atStart => exact ⟨0, by omega, rfl, .refl _ _, Lib.hid (fun j hj => by omega)⟩
    case round =>
      obtain ⟨k, hk, rfl, hb, hq⟩ := hrel
      by_cases hlt : k < zs.length
      · obtain ⟨g, off, rfl, hg, q0⟩ := (hr.below hb).at_ hlt
        obtain ⟨g', off', rfl, hg', q1⟩ := (hr'.below hb).at_ (show k < ys.length by omega)
        have i0 : (0 : Int) ≤ (k : Int) := by omega
        have i1 : (k : Int) < (zs.length : Int) := by omega
        have i2 : (k : Int) < (ys.length : Int) := by omega
        have hB := Lib.hid hb
        have hB2 := Lib.hid (fun n => below_drewN hb n)
        by_cases he : zs.getD k 0 = ys.getD k 0
        · have R := Lib.hid (show ∀ j, j < k + 1 → zs.getD j 0 = ys.getD j 0 from fun j hj => by
            by_cases e : j = k
            · subst e; exact he
            · exact hq.out j (by omega))
          rw [he] at q0
          generalize ys.getD k 0 = y at *
          clear hb hq he
          go_wp2_with fail
          go_quiet (fail)
          all_goals go_wp2_with fail
          all_goals go_roundw
          case rel => exact ⟨k + 1, by omega, by go_num, by first | exact hB.out | exact hB2.out _, R⟩
          case measure => simp [intOf]; omega
        · have E := Lib.hid (show decide (zs = ys) = false from by
            apply decide_eq_false
            rintro rfl
            exact he rfl)
          generalize zs.getD k 0 = x at *
          generalize ys.getD k 0 = y at *
          clear hb hq
          go_wp2_with fail
          go_quiet (fail)
          all_goals go_wp2_with fail
          all_goals go_ret
          all_goals exact ⟨by rw [E.out]; rfl, by first | exact hB.out | exact hB2.out _⟩
      · obtain rfl : k = zs.length := by omega
        have E := Lib.hid (show decide (zs = ys) = true from by
          apply decide_eq_true
          apply List.ext_getElem hl
          intro j h1 h2
          have := hq.out j h1
          simpa [h1, h2] using this)
        go_wp2_with fail
        go_ret
        exact ⟨by rw [E.out]; rfl, hb⟩
  · have E := Lib.hid (show decide (zs = ys) = false from decide_eq_false (fun e => hl (by rw [e])))
    have hl1 : ((zs.length : Int) == (ys.length : Int)) = false := by simp; omega
    go_enter Try.func26, Try.ntmps26
    go_wp2_with fail
    go_ret
    exact ⟨by rw [E.out]; rfl, .refl _ _⟩

/-- A clock that a law made, in block p; nothing that was there was touched. -/
structure KC (w W : World) (p : Nat) (s : Ck) : Prop where
  b : Below w.heap.size w W
  c : IsC W p s
  ge : w.heap.size ≤ p
  ok : s.Ok
section
variable {w W W' : World} {p : Nat} {s : Ck}
theorem KC.next (h : KC w W p s) (b : Below W.heap.size W W') : KC w W' p s := ⟨h.b.trans (b.mono h.b.size), h.c.below b h.c.lt, h.ge, h.ok⟩
theorem KC.new (h : KC w W p s) (o : Obj) : KC w (W.alloc o) p s := h.next ((Below.refl _ _).alloc (Nat.le_refl _) o)
theorem KC.drew (h : KC w W p s) : KC w W.drew p s := h.next ((Below.refl _ _).drew)
theorem KC.ch (h : KC w W p s) {s' : Ck} (c : IsC W' p s') (ok : s'.Ok) (g : W.grownBy W' (some p)) : KC w W' p s' :=
  ⟨h.b.grown g h.b.size (fun k e => by cases e; exact h.ge), c, h.ge, ok⟩
theorem KC.set (h : KC w W p s) (n t : Int) :
    Calls Try.prog 16 #[at_ p, .int .i64 n, .int .i64 t] W fun e w' => e = .returned (.int .i64 (s.start n t 0).2) ∧ KC w w' p (s.start n t 0).1 ∧ W.grownBy w' (some p) :=
  (set_any h.c n t).mono fun e w' ⟨h1, h2, h3⟩ => ⟨h1, h.ch h2 (Ck.start_ok h.ok _ _ _ (.inl rfl)) h3, h3⟩
theorem KC.every (h : KC w W p s) (n t : Int) :
    Calls Try.prog 18 #[at_ p, .int .i64 n, .int .i64 t] W fun e w' => e = .returned (.int .i64 (s.start n t t).2) ∧ KC w w' p (s.start n t t).1 ∧ W.grownBy w' (some p) :=
  (every_any h.c n t).mono fun e w' ⟨h1, h2, h3⟩ => ⟨h1, h.ch h2 (Ck.start_ok h.ok _ _ _ (.inr rfl)) h3, h3⟩
theorem KC.stop (h : KC w W p s) (n : Int) :
    Calls Try.prog 20 #[at_ p, .int .i64 n] W fun e w' => e = .returned (.tuple #[]) ∧ KC w w' p (s.stop n) ∧ W.grownBy w' (some p) :=
  (stop_any h.c n).mono fun e w' ⟨h1, h2, h3⟩ => ⟨h1, h.ch h2 (Ck.stop_ok h.ok _) h3, h3⟩
/-- What Tick ends with in a law. -/
def TickK (w W : World) (p : Nat) (s : Ck) (e : Ending) (w' : World) : Prop :=
  ∃ A c, e = .returned (.slice A (outs s.l 16).length c) ∧ RdI .i64 w' w'.heap.size A (outs s.l 16) ∧ (∀ g off, A = some ⟨g, off, none⟩ → W.heap.size ≤ g ∧ off = 0) ∧ KC w w' p s.tick ∧ W.grownBy w' (some p)
theorem KC.tick (h : KC w W p s) : Calls Try.prog 25 #[at_ p] W (TickK w W p s) :=
  (tick_any W p s h.c h.ok).mono fun e w' ⟨v, h1, h2, h3, h4⟩ => by
    obtain ⟨A, c, rfl, hr⟩ := h2.form
    refine ⟨A, c, h1, hr, fun g off e => ?_, h.ch h3 (Ck.tick_ok h.ok) h4, h4⟩
    rcases h2.2 with ⟨e', _⟩ | ⟨g', cap, cur, e', hb, _⟩
    · injection e' with e1; rw [e] at e1; cases e1
    · injection e' with e1; rw [e] at e1; injection e1 with e1; injection e1 with e1 e2; subst e1; exact ⟨hb, e2⟩
theorem KC.left (h : KC w W p s) (n : Int) :
    Calls Try.prog 22 #[at_ p, .int .i64 n] W fun e w' => e = .returned (.tuple #[.int .i64 (s.left n), .bool (decide (0 < s.left n))]) ∧ W = w' := left_any h.c n
theorem KC.nextc (h : KC w W p s) :
    Calls Try.prog 28 #[at_ p] W fun e w' => e = .returned (.tuple #[.int .i64 (nx s.l 16), .bool (decide (0 < nx s.l 16))]) ∧ KC w w' p s ∧ Below W.heap.size W w' :=
  (next_any W p s h.c h.ok).mono fun e w' ⟨h1, h2⟩ => ⟨h1, h.next h2, h2⟩
end
theorem new_K (w W : World) (b : Below w.heap.size w W) :
    Calls Try.prog 15 #[] W fun e w' => e = .returned (at_ W.heap.size) ∧ KC w w' W.heap.size Ck.zero ∧ Below W.heap.size W w' :=
  (new_any W).mono fun e w' ⟨h1, h2, h3⟩ => ⟨h1, ⟨b.trans (h3.mono b.size), h2, b.size, .zero⟩, h3⟩
theorem outs_bd {L : Nat → Int} {x : Int} (h : x ∈ outs L 16) : -1000000 ≤ x ∧ x ≤ 1000000 := by
  obtain ⟨j, a, rfl, _⟩ := (mem_outs 16).1 h
  omega
theorem outs_len (L : Nat → Int) : (outs L 16).length ≤ 1000 := Nat.le_trans (outs_length L 16) (by omega)

/-- A list of numbers that lies apart from block p. -/
structure Lst (W : World) (p : Nat) (A : Option Addr) (zs : List Int) : Prop where
  r : RdI .i64 W W.heap.size A zs
  a : ∀ g off, A = some ⟨g, off, none⟩ → g ≠ p
theorem Lst.ch {W W' : World} {p : Nat} {A : Option Addr} {zs : List Int} (h : Lst W p A zs) (g : W.grownBy W' (some p)) : Lst W' p A zs := by
  refine ⟨?_, h.a⟩
  rcases h.r with h1 | ⟨b, off, e, hb, hc⟩
  · exact .inl h1
  · refine .inr ⟨b, off, e, Nat.lt_of_lt_of_le hb g.size, fun j hj => ?_⟩
    rw [← hc j hj]
    exact World.cell?_of_block (w := W) (a := ⟨b, off + j, none⟩) (g.block b hb (by simpa using h.a b off e))
theorem Lst.next {W W' : World} {p : Nat} {A : Option Addr} {zs : List Int} (h : Lst W p A zs) (b : Below W.heap.size W W') : Lst W' p A zs := ⟨(h.r.below b).mono b.size, h.a⟩
def s1 : Ck := (Ck.zero.start 3 2 0).1
def s2 : Ck := (s1.start 1 1 1).1
set_option maxHeartbeats 4000000 in
theorem known_any (w : World) : Calls Try.prog 30 #[] w fun e w' => e = .returned (.bool true) ∧ Below w.heap.size w w' := by
  have K0 := Lib.hid (new_K w w (Below.refl _ _))
  have K1 := Lib.hid (fun W p (k : KC w W p Ck.zero) => show Calls Try.prog 16 #[at_ p, .int .i64 3, .int .i64 2] W fun e w' => e = .returned (.int .i64 0) ∧ KC w w' p s1 ∧ W.grownBy w' (some p) from k.set 3 2)
  have K2 := Lib.hid (fun W p (k : KC w W p s1) => show Calls Try.prog 18 #[at_ p, .int .i64 1, .int .i64 1] W fun e w' => e = .returned (.int .i64 0) ∧ KC w w' p s2 ∧ W.grownBy w' (some p) from k.every 1 1)
  have T := Lib.hid (fun W p s (k : KC w W p s) => k.tick)
  have K6 := Lib.hid (fun W p (k : KC w W p s2.tick.tick.tick) => show Calls Try.prog 16 #[at_ p, .int .i64 16, .int .i64 1] W fun e w' => e = .returned (.int .i64 1) ∧ KC w w' p s2.tick.tick.tick ∧ W.grownBy w' (some p) from k.set 16 1)
  have o1 : outs s2.l 16 = [1] := by decide
  have o2 : outs s2.tick.l 16 = [1, 3] := by decide
  have o3 : outs s2.tick.tick.l 16 = [1] := by decide
  have I := Lib.hid (fun A c zs A' c' ys W h h' x1 x2 x3 x4 => ints_any A c zs A' c' ys W h h' x1 x2 x3 x4)
  go_enter Try.func30, Try.ntmps30
  go_wp2_with fail
  refine K0.out.mono ?_
  rintro e w1 ⟨rfl, q1, _⟩
  have Q1 := Lib.hid q1
  clear q1
  generalize w.heap.size = p at *
  go_wp2_with fail
  refine (K1.out _ _ Q1.out).mono ?_
  rintro e w2 ⟨rfl, q2, _⟩
  have Q2 := Lib.hid q2
  clear q2 Q1
  go_wp2_with fail
  refine (K2.out _ _ Q2.out).mono ?_
  rintro e w3 ⟨rfl, q3, _⟩
  have Q3 := Lib.hid q3
  clear q3 Q2
  go_wp2_with fail
  refine (T.out _ _ _ Q3.out).mono ?_
  rintro e w4 ⟨A1, c1, rfl, r1, a1, q4, _⟩
  rw [o1] at r1 ⊢
  have Q4 := Lib.hid q4
  have R1 := Lib.hid (show Lst w4 p A1 [1] from ⟨r1, fun g off e => by have := (a1 g off e).1; have := Q3.out.c.lt; omega⟩)
  clear q4 Q3 r1 a1
  go_wp2_with fail
  refine (T.out _ _ _ Q4.out).mono ?_
  rintro e w5 ⟨A2, c2, rfl, r2, a2, q5, g5⟩
  rw [o2] at r2 ⊢
  have Q5 := Lib.hid q5
  have R2 := Lib.hid (show Lst w4 p A1 [1] ∧ Lst w5 p A1 [1] ∧ Lst w5 p A2 [1, 3] from ⟨R1.out, R1.out.ch g5, r2, fun g off e => by have := (a2 g off e).1; have := Q4.out.c.lt; omega⟩)
  clear q5 r2 g5 a2 R1 Q4
  go_wp2_with fail
  refine (T.out _ _ _ Q5.out).mono ?_
  rintro e w6 ⟨A3, c3, rfl, r3, a3, q6, g6⟩
  rw [o3] at r3 ⊢
  have R := Lib.hid (show ∀ W', Below w6.heap.size w6 W' → Lst W' p A1 [1] ∧ Lst W' p A2 [1, 3] ∧ Lst W' p A3 [1] ∧ KC w W' p s2.tick.tick.tick from fun W' b =>
    ⟨(R2.out.2.1.ch g6).next b, (R2.out.2.2.ch g6).next b, Lst.next ⟨r3, fun g off e => by have := (a3 g off e).1; have := Q5.out.c.lt; omega⟩ b, q6.next b⟩)
  clear q6 r3 g6 a3 R2 Q5
  have step : ∀ W o, Below w6.heap.size w6 W → Below w6.heap.size w6 (W.alloc o) := fun W o b => b.trans (((Below.refl _ _).alloc (Nat.le_refl _) _).mono b.size)
  have L1 := Lib.hid (fun W (b : Below w6.heap.size w6 W) => I.out A1 c1 [1] (some ⟨W.heap.size, 0, none⟩) 1 [1] (W.alloc (.cells #[.int .i64 1] 3)) ((R.out _ (step _ _ b)).1.r) ((RdI.new1 .i64 W _ 1).mono (by simp)) (by decide) (by decide) (by decide) (by decide))
  have L2 := Lib.hid (fun W (b : Below w6.heap.size w6 W) => I.out A2 c2 [1, 3] (some ⟨W.heap.size, 0, none⟩) 2 [1, 3] (W.alloc (.cells #[.int .i64 1, .int .i64 3] 3)) ((R.out _ (step _ _ b)).2.1.r) (.inr ⟨_, 0, rfl, by simp, fun j hj => by
    rcases (by simp at hj; omega : j = 0 ∨ j = 1) with e | e <;> subst e <;> simp [go_sem]⟩) (by decide) (by decide) (by decide) (by decide))
  have L3 := Lib.hid (fun W (b : Below w6.heap.size w6 W) => I.out A3 c3 [1] (some ⟨W.heap.size, 0, none⟩) 1 [1] (W.alloc (.cells #[.int .i64 1] 3)) ((R.out _ (step _ _ b)).2.2.1.r) ((RdI.new1 .i64 W _ 1).mono (by simp)) (by decide) (by decide) (by decide) (by decide))
  have S := Lib.hid step
  clear step
  go_wp2_with fail
  refine (L1.out w6 (.refl _ _)).mono ?_
  rintro e w7 ⟨rfl, b7⟩
  have B7 := Lib.hid ((S.out _ (.cells #[.int .i64 1] 3) (.refl _ _)).trans (b7.mono (by simp)))
  clear b7 L1
  go_wp2_with fail
  refine (L2.out w7 B7.out).mono ?_
  rintro e w8 ⟨rfl, b8⟩
  have B8 := Lib.hid ((S.out _ (.cells #[.int .i64 1, .int .i64 3] 3) B7.out).trans (b8.mono (by have := B7.out.size; simp; omega)))
  clear b8 L2 B7
  go_wp2_with fail
  refine (L3.out w8 B8.out).mono ?_
  rintro e w9 ⟨rfl, b9⟩
  have B9 := Lib.hid ((S.out _ (.cells #[.int .i64 1] 3) B8.out).trans (b9.mono (by have := B8.out.size; simp; omega)))
  clear b9 L3 B8
  go_wp2_with fail
  refine (K6.out _ _ (R.out _ B9.out).2.2.2).mono ?_
  rintro e w10 ⟨rfl, q10, _⟩
  have Q10 := Lib.hid q10.b
  clear q10
  go_wp2_with fail
  go_ret
  exact ⟨rfl, Q10.out⟩
end Clk
end Go.Proofs.Ytlojomeofgnfjaa
