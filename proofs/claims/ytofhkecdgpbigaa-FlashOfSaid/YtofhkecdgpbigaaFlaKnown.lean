/-
  The laws' fixed calls.
-/
import Derived.Test.YtofhkecdgpbigaaFlaRest
namespace Go.Proofs.Ytofhkecdgpbigaa
namespace Fla
open Go.RowKit Mem
set_option linter.unusedVariables false

/-- What a law holds on to: a flash of its own, and nothing that was there is changed. -/
structure LS (w W : World) (p D c : Nat) (s : Fl) : Prop where
  b : Below w.heap.size w W
  i : IsF W p D c s
  hp : w.heap.size ≤ p
  hD : w.heap.size ≤ D
section
variable {w W : World} {p D c : Nat} {s s' : Fl} {f : Nat} {args : Array Value} {v : Value} {x : Int}
theorem LS.ends (S : LS w W p D c s) (h : Calls Try.prog f args W (Ends p D c W x s')) : Calls Try.prog f args W fun e w' => e = .returned (.int .i64 x) ∧ LS w w' p D c s' :=
  h.mono (by rintro e w' ⟨rfl, i, g⟩; exact ⟨rfl, S.b.trans (g.below S.b.size S.hp S.hD), i, S.hp, S.hD⟩)
theorem LS.ends0 (S : LS w W p D c s) (h : Calls Try.prog f args W (Ends0 p D c W s')) : Calls Try.prog f args W fun e w' => e = .returned (.tuple #[]) ∧ LS w w' p D c s' :=
  h.mono (by rintro e w' ⟨rfl, i, g⟩; exact ⟨rfl, S.b.trans (g.below S.b.size S.hp S.hD), i, S.hp, S.hD⟩)
theorem LS.next {W' : World} (S : LS w W p D c s) (h : Below W.heap.size W W') : LS w W' p D c s := ⟨S.b.trans (h.mono S.b.size), S.i.below h (Nat.le_refl _), S.hp, S.hD⟩
theorem LS.alloc (S : LS w W p D c s) (o : Obj) : LS w (W.alloc o) p D c s := S.next ((Below.refl _ _).alloc (Nat.le_refl _) o)
theorem LS.same (S : LS w W p D c s) (h : Calls Try.prog f args W fun e w' => e = .returned v ∧ W = w') : Calls Try.prog f args W fun e w' => e = .returned v ∧ LS w w' p D c s :=
  h.mono (by rintro e w' ⟨rfl, rfl⟩; exact ⟨rfl, S⟩)
theorem LS.call (S : LS w W p D c s) (h : Calls Try.prog f args W fun e w' => e = .returned v ∧ Below W.heap.size W w') : Calls Try.prog f args W fun e w' => e = .returned v ∧ LS w w' p D c s :=
  h.mono (by rintro e w' ⟨rfl, b⟩; exact ⟨rfl, S.next b⟩)
theorem rdN_own {base : Nat} {bs : List UInt8} (o : Own W base E v bs) (hp : p < base) (hD : D < base) : ∃ A c', v = .slice A bs.length c' ∧ RdN W p D A bs := by
  rcases Nat.eq_zero_or_pos bs.length with h0 | h0
  · have : bs = [] := List.eq_nil_of_length_eq_zero h0
    subst this
    obtain ⟨A, c', h, _⟩ := o.form
    exact ⟨A, c', h, .inl rfl⟩
  · obtain ⟨A, c', rfl, hr⟩ := o.form
    obtain ⟨g, cap, hv, hb, hg, _, _⟩ := o.some_ h0
    injection hv with e1 e2 e3
    subst e1
    refine ⟨_, _, rfl, ?_⟩
    rcases hr with rfl | ⟨g', off, e, _, hc⟩
    · simp at h0
    · cases e
      exact .inr ⟨_, _, rfl, hg, by omega, by omega, hc⟩
theorem RdN.rd {A : Option Addr} {bs : List UInt8} (h : RdN W p D A bs) : Rd W W.heap.size A bs := by
  rcases h with rfl | ⟨g, off, e, hg, h1, h2, hc⟩
  · exact .inl rfl
  · exact .inr ⟨g, off, e, hg, hc⟩
theorem LS.endsF (S : LS w W p D c s) (h : Calls Try.prog f args W (Ends p D c W x s')) : Calls Try.prog f args W fun e w' => e = .returned (.int .i64 x) ∧ LS w w' p D c s' ∧ Far p D W w' :=
  h.mono (by rintro e w' ⟨rfl, i, g⟩; exact ⟨rfl, ⟨S.b.trans (g.below S.b.size S.hp S.hD), i, S.hp, S.hD⟩, g⟩)
theorem LS.ans {a : List UInt8 × Int} (S : LS w W p D c s) (h : Calls Try.prog f args W (Ans E W a)) : Calls Try.prog f args W fun e w' => ∃ A c', e = .returned (.tuple #[.slice A a.1.length c', .int .i64 a.2]) ∧ RdN w' p D A a.1 ∧ LS w w' p D c s :=
  h.mono (by
    rintro e w' ⟨v, rfl, o, b⟩
    obtain ⟨A, c', rfl, hr⟩ := rdN_own o S.i.lt S.i.ltD
    exact ⟨A, c', rfl, hr, S.next b⟩)
theorem ls_new {e : Ending} {w' : World} (h : MadeF w w.heap.size c s e w') : ∃ p, e = .returned (at_ p) ∧ LS w w' p w.heap.size c s := by
  obtain ⟨p, rfl, i, hp, b⟩ := h
  exact ⟨p, rfl, b, i, hp, Nat.le_refl _⟩
theorem ls_new' {e : Ending} {w' : World} (h : MadeF w D c s e w') (hD : D = w.heap.size) : ∃ p D' c', e = .returned (at_ p) ∧ LS w w' p D' c' s := by
  subst hD
  obtain ⟨p, rfl, i, hp, b⟩ := h
  exact ⟨p, _, _, rfl, b, i, hp, Nat.le_refl _⟩
end

def K0 : Fl := Fl.new (List.replicate 1024 255) 2
def K1 : Fl := (K0.program 3 [15]).1
def K2 : Fl := K1.cut 1 15
def K3 : Fl := (K2.program 4 [0, 0]).1
def K4 : Fl := K3.start
def K5 : Fl := K4.erase 0
def K6 : Fl := K5.erase 0
def K7 : Fl := K6.erase 0
theorem fixed1 : (K0.program 3 [15]).2 = 0 ∧ Fl.cutC 1 = 0 ∧ (K2.program 4 [0, 0]).2 = 7 ∧ K4.read 3 3 = ([15, 0, 240], 0) ∧ K6.eraseC 0 = 10 ∧ K7.worn 0 = 2 ∧ K7.left 0 = 0 ∧ K7.ops = 4 := by decide +kernel
theorem fixed2 : K0.ops = 0 ∧ K2.ops = 1 ∧ K4.ops = 2 ∧ K5.ops = 3 ∧ K6.ops = 4 ∧ K0.bs.length = 1024 ∧ K0.on = true := by decide +kernel

set_option maxRecDepth 100000 in
set_option maxHeartbeats 4000000 in
theorem known_any (w : World) :
    Calls Try.prog 8 #[] w fun e w' => e = .returned (.bool true) ∧ Below w.heap.size w w' := by
  obtain ⟨f1, f2, f3, f4, f5, f6, f7, f8⟩ := fixed1
  obtain ⟨o0, o2, o4, o5, o6, l0, n0⟩ := fixed2
  have HN := Lib.hid (fun W => new_yes 1 2 (by omega) (by omega) (by omega) (by omega) W)
  have HN0 := Lib.hid (fun W => new_no 0 1 rfl W)
  have H1 := Lib.hid (fun W p D c (S : LS w W p D c K0) => S.same (flen_any S.i))
  rw [l0] at H1
  have H2 := Lib.hid (fun W p D c (S : LS w W p D c K0) => S.same (fon_any S.i))
  rw [n0] at H2
  have H3 := Lib.hid (fun W p D c A c' (S : LS w W p D c K0) hx => S.ends (program_any (A := A) 1 c' 3 [15] (by omega) (by omega) hx rfl (by omega) S.i (by rw [o0]; omega)))
  rw [f1] at H3
  have H4 := Lib.hid (fun W p D c (S : LS w W p D c K1) => S.ends (cut_any 1 15 (by omega) (by omega) (by omega) (by omega) S.i))
  rw [f2] at H4
  have H5 := Lib.hid (fun W p D c A c' (S : LS w W p D c K2) hx => S.ends (program_any (A := A) 2 c' 4 [0, 0] (by omega) (by omega) hx rfl (by omega) S.i (by rw [o2]; omega)))
  rw [f3] at H5
  have H6 := Lib.hid (fun W p D c (S : LS w W p D c K3) => S.ends0 (start_any S.i))
  have H7 := Lib.hid (fun W p D c (S : LS w W p D c K4) => S.ans (read_any 3 3 (by omega) (by omega) (by omega) (by omega) S.i))
  rw [f4] at H7
  have H8 := Lib.hid (fun W p D c (S : LS w W p D c K4) => S.endsF (erase_any 0 (by omega) (by omega) S.i (by rw [o4]; omega)))
  have H9 := Lib.hid (fun W p D c (S : LS w W p D c K5) => S.endsF (erase_any 0 (by omega) (by omega) S.i (by rw [o5]; omega)))
  have H10 := Lib.hid (fun W p D c (S : LS w W p D c K6) => S.endsF (erase_any 0 (by omega) (by omega) S.i (by rw [o6]; omega)))
  rw [f5] at H10
  have H11 := Lib.hid (fun W p D c (S : LS w W p D c K7) => S.same (fworn_any 0 S.i))
  rw [f6] at H11
  have H12 := Lib.hid (fun W p D c (S : LS w W p D c K7) => S.call (fleft_any 0 S.i))
  rw [f7] at H12
  have H13 := Lib.hid (fun W p D c (S : LS w W p D c K7) => S.same (fops_any S.i))
  rw [f8] at H13
  clear f1 f2 f3 f4 f5 f6 f7 f8 o0 o2 o4 o5 o6 l0 n0
  generalize K4.eraseC 0 = e8 at *
  generalize K5.eraseC 0 = e9 at *
  go_enter Try.func8, Try.ntmps8
  go_wp2_with fail
  refine (HN.out _).mono ?_
  intro e w1 h1
  obtain ⟨p, rfl, S⟩ := ls_new h1
  have S : Hid (LS w w1 p w.heap.size (1 * 1024) K0) := Lib.hid S
  clear h1
  generalize w.heap.size = D at S
  go_wp2_with fail
  refine (H1.out _ _ _ _ S.out).mono ?_
  clear S
  rintro e w2 ⟨rfl, S⟩
  have S := Lib.hid S
  go_wp2_with fail
  refine (H2.out _ _ _ _ S.out).mono ?_
  clear S
  rintro e w3 ⟨rfl, S⟩
  have S := Lib.hid S
  go_wp2_with fail
  refine (HN0.out _).mono ?_
  rintro e w4 ⟨rfl, rfl⟩
  go_wp2_with fail
  refine (H3.out _ _ _ _ _ _ (S.out.alloc _) (RdN.new (cs := #[.int .u8 15]) w3 5 [15] rfl S.out.i.lt S.out.i.ltD)).mono ?_
  clear S
  rintro e w4 ⟨rfl, S⟩
  have S := Lib.hid S
  go_wp2_with fail
  refine (H4.out _ _ _ _ S.out).mono ?_
  clear S
  rintro e w5 ⟨rfl, S⟩
  have S := Lib.hid S
  go_wp2_with fail
  refine (H5.out _ _ _ _ _ _ (S.out.alloc _) (RdN.new (cs := #[.int .u8 0, .int .u8 0]) w5 5 [0, 0] rfl S.out.i.lt S.out.i.ltD)).mono ?_
  clear S
  rintro e w6 ⟨rfl, S⟩
  have S := Lib.hid S
  go_wp2_with fail
  refine (H6.out _ _ _ _ S.out).mono ?_
  clear S
  rintro e w7 ⟨rfl, S⟩
  have S := Lib.hid S
  go_wp2_with fail
  refine (H7.out _ _ _ _ S.out).mono ?_
  clear S
  rintro e w8 ⟨A8, c8, rfl, r8, S⟩
  have S := Lib.hid S
  have R8 := Lib.hid r8
  clear r8
  go_wp2_with fail
  refine (H8.out _ _ _ _ S.out).mono ?_
  clear S
  rintro e w9 ⟨rfl, S, F⟩
  have S := Lib.hid S
  have R9 := Lib.hid (R8.out.far F)
  clear R8 F
  go_wp2_with fail
  refine (H9.out _ _ _ _ S.out).mono ?_
  clear S
  rintro e w10 ⟨rfl, S, F⟩
  have S := Lib.hid S
  have hs := run_str (R9.out.far F).rd 3 c8 rfl 22 5 9 Try.underlying22 Try.underlying5 Try.underlying9
  clear R9 F
  go_wp2_with fail
  refine (H10.out _ _ _ _ S.out).mono ?_
  clear S
  rintro e w11 ⟨rfl, S, F⟩
  have S := Lib.hid S
  clear F hs
  go_wp2_with fail
  refine (H11.out _ _ _ _ S.out).mono ?_
  clear S
  rintro e w12 ⟨rfl, S⟩
  have S := Lib.hid S
  go_wp2_with fail
  refine (H12.out _ _ _ _ S.out).mono ?_
  clear S
  rintro e w13 ⟨rfl, S⟩
  have S := Lib.hid S
  go_wp2_with fail
  refine (H13.out _ _ _ _ S.out).mono ?_
  clear S
  rintro e w14 ⟨rfl, S⟩
  have S := Lib.hid S
  go_wp2_with fail
  go_ret
  exact ⟨rfl, S.out.b⟩
end Fla
end Go.Proofs.Ytofhkecdgpbigaa
