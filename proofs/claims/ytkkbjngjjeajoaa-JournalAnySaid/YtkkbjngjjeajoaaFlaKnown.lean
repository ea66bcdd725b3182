/-
  The laws' fixed calls.
-/
import Derived.Test.YtkkbjngjjeajoaaFlaRest
namespace Go.Proofs.Ytkkbjngjjeajoaa
namespace Fla
open Go.RowKit Mem
set_option linter.unusedVariables false

/-- What a law holds on to: a flash of its own, and nothing that was there is changed. -/
structure LS (w W : World) (p D c : Nat) (s : Fl) : Prop where
  b : Below w.heap.size w W
  i : IsF W p D c s
  hp : w.heap.size ≤ p
  hD : w.heap.size ≤ D
section
variable {w W : World} {p D c : Nat} {s s' : Fl} {f : Nat} {args : Array Value} {v : Value} {x : Int}
theorem LS.ends (S : LS w W p D c s) (h : Calls Try.prog f args W (Ends p D c W x s')) : Calls Try.prog f args W fun e w' => e = .returned (.int .i64 x) ∧ LS w w' p D c s' :=
  h.mono (by rintro e w' ⟨rfl, i, g⟩; exact ⟨rfl, S.b.trans (g.below S.b.size S.hp S.hD), i, S.hp, S.hD⟩)
theorem LS.ends0 (S : LS w W p D c s) (h : Calls Try.prog f args W (Ends0 p D c W s')) : Calls Try.prog f args W fun e w' => e = .returned (.tuple #[]) ∧ LS w w' p D c s' :=
  h.mono (by rintro e w' ⟨rfl, i, g⟩; exact ⟨rfl, S.b.trans (g.below S.b.size S.hp S.hD), i, S.hp, S.hD⟩)
theorem LS.next {W' : World} (S : LS w W p D c s) (h : Below W.heap.size W W') : LS w W' p D c s := ⟨S.b.trans (h.mono S.b.size), S.i.below h (Nat.le_refl _), S.hp, S.hD⟩
theorem LS.alloc (S : LS w W p D c s) (o : Obj) : LS w (W.alloc o) p D c s := S.next ((Below.refl _ _).alloc (Nat.le_refl _) o)
theorem LS.same (S : LS w W p D c s) (h : Calls Try.prog f args W fun e w' => e = .returned v ∧ W = w') : Calls Try.prog f args W fun e w' => e = .returned v ∧ LS w w' p D c s :=
  h.mono (by rintro e w' ⟨rfl, rfl⟩; exact ⟨rfl, S⟩)
theorem LS.call (S : LS w W p D c s) (h : Calls Try.prog f args W fun e w' => e = .returned v ∧ Below W.heap.size W w') : Calls Try.prog f args W fun e w' => e = .returned v ∧ LS w w' p D c s :=
  h.mono (by rintro e w' ⟨rfl, b⟩; exact ⟨rfl, S.next b⟩)
theorem rdN_own {base : Nat} {bs : List UInt8} (o : Own W base E v bs) (hp : p < base) (hD : D < base) : ∃ A c', v = .slice A bs.length c' ∧ RdN W p D A bs := by
  rcases Nat.eq_zero_or_pos bs.length with h0 | h0
  · have : bs = [] := List.eq_nil_of_length_eq_zero h0
    subst this
    obtain ⟨A, c', h, _⟩ := o.form
    exact ⟨A, c', h, .inl rfl⟩
  · obtain ⟨A, c', rfl, hr⟩ := o.form
    obtain ⟨g, cap, hv, hb, hg, _, _⟩ := o.some_ h0
    injection hv with e1 e2 e3
    subst e1
    refine ⟨_, _, rfl, ?_⟩
    rcases hr with rfl | ⟨g', off, e, _, hc⟩
    · simp at h0
    · cases e
      exact .inr ⟨_, _, rfl, hg, by omega, by omega, hc⟩
theorem RdN.rd {A : Option Addr} {bs : List UInt8} (h : RdN W p D A bs) : Rd W W.heap.size A bs := by
  rcases h with rfl | ⟨g, off, e, hg, h1, h2, hc⟩
  · exact .inl rfl
  · exact .inr ⟨g, off, e, hg, hc⟩
theorem LS.endsF (S : LS w W p D c s) (h : Calls Try.prog f args W (Ends p D c W x s')) : Calls Try.prog f args W fun e w' => e = .returned (.int .i64 x) ∧ LS w w' p D c s' ∧ Far p D W w' :=
  h.mono (by rintro e w' ⟨rfl, i, g⟩; exact ⟨rfl, ⟨S.b.trans (g.below S.b.size S.hp S.hD), i, S.hp, S.hD⟩, g⟩)
theorem LS.ans {a : List UInt8 × Int} (S : LS w W p D c s) (h : Calls Try.prog f args W (Ans E W a)) : Calls Try.prog f args W fun e w' => ∃ A c', e = .returned (.tuple #[.slice A a.1.length c', .int .i64 a.2]) ∧ RdN w' p D A a.1 ∧ LS w w' p D c s :=
  h.mono (by
    rintro e w' ⟨v, rfl, o, b⟩
    obtain ⟨A, c', rfl, hr⟩ := rdN_own o S.i.lt S.i.ltD
    exact ⟨A, c', rfl, hr, S.next b⟩)
theorem ls_new {e : Ending} {w' : World} (h : MadeF w w.heap.size c s e w') : ∃ p, e = .returned (at_ p) ∧ LS w w' p w.heap.size c s := by
  obtain ⟨p, rfl, i, hp, b⟩ := h
  exact ⟨p, rfl, b, i, hp, Nat.le_refl _⟩
theorem ls_new' {e : Ending} {w' : World} (h : MadeF w D c s e w') (hD : D = w.heap.size) : ∃ p D' c', e = .returned (at_ p) ∧ LS w w' p D' c' s := by
  subst hD
  obtain ⟨p, rfl, i, hp, b⟩ := h
  exact ⟨p, _, _, rfl, b, i, hp, Nat.le_refl _⟩
end

def K0 : Fl := Fl.new (List.replicate 1024 255) 2
def K1 : Fl := (K0.program 3 [15]).1
def K2 : Fl := K1.cut 1 15
def K3 : Fl := (K2.program 4 [0, 0]).1
def K4 : Fl := K3.start
def K5 : Fl := K4.erase 0
def K6 : Fl := K5.erase 0
def K7 : Fl := K6.erase 0
theorem fixed1 : (K0.program 3 [15]).2 = 0 ∧ Fl.cutC 1 = 0 ∧ (K2.program 4 [0, 0]).2 = 7 ∧ K4.read 3 3 = ([15, 0, 240], 0) ∧ K6.eraseC 0 = 10 ∧ K7.worn 0 = 2 ∧ K7.left 0 = 0 ∧ K7.ops = 4 := by decide +kernel
theorem fixed2 : K0.ops = 0 ∧ K2.ops = 1 ∧ K4.ops = 2 ∧ K5.ops = 3 ∧ K6.ops = 4 ∧ K0.bs.length = 1024 ∧ K0.on = true := by decide +kernel

end Fla
end Go.Proofs.Ytkkbjngjjeajoaa
