/-
  Two flashes at once, and what is read beside them.
-/
import Derived.Test.YtofhkecdgpbigaaFlaTorn
namespace Go.Proofs.Ytofhkecdgpbigaa
namespace Fla
open Go.RowKit Mem
set_option linter.unusedVariables false

structure LT (w W : World) (p D c : Nat) (s : Fl) (p2 D2 c2 : Nat) (g : Fl) : Prop where
  f : LS w W p D c s
  g : LS w W p2 D2 c2 g
  n1 : p ≠ p2
  n2 : p ≠ D2
  n3 : D ≠ p2
  n4 : D ≠ D2
section
variable {w W W' w' : World} {p D c p2 D2 c2 : Nat} {s s' g : Fl} {fn : Nat} {args : Array Value} {v : Value} {x : Int}
theorem LT.swap (S : LT w W p D c s p2 D2 c2 g) : LT w W p2 D2 c2 g p D c s := ⟨S.g, S.f, S.n1.symm, S.n3.symm, S.n2.symm, S.n4.symm⟩
theorem LT.next (S : LT w W p D c s p2 D2 c2 g) (h : Below W.heap.size W W') : LT w W' p D c s p2 D2 c2 g := ⟨S.f.next h, S.g.next h, S.n1, S.n2, S.n3, S.n4⟩
theorem LT.drew (S : LT w W p D c s p2 D2 c2 g) : LT w W.drew p D c s p2 D2 c2 g := ⟨⟨S.f.b.drew, S.f.i.drew, S.f.hp, S.f.hD⟩, ⟨S.g.b.drew, S.g.i.drew, S.g.hp, S.g.hD⟩, S.n1, S.n2, S.n3, S.n4⟩
theorem LT.far (S : LT w W p D c s p2 D2 c2 g) (i : IsF W' p D c s') (k : Far p D W W') : LT w W' p D c s' p2 D2 c2 g := by
  have b := S.f.b.trans (k.below S.f.b.size S.f.hp S.f.hD)
  exact ⟨⟨b, i, S.f.hp, S.f.hD⟩, ⟨b, S.g.i.far k S.n1.symm S.n3.symm S.n2.symm S.n4.symm, S.g.hp, S.g.hD⟩, S.n1, S.n2, S.n3, S.n4⟩
theorem LT.ends (S : LT w W p D c s p2 D2 c2 g) (h : Calls Try.prog fn args W (Ends p D c W x s')) : Calls Try.prog fn args W fun e w' => e = .returned (.int .i64 x) ∧ LT w w' p D c s' p2 D2 c2 g ∧ Far p D W w' :=
  h.mono (by rintro e w' ⟨rfl, i, k⟩; exact ⟨rfl, S.far i k, k⟩)
theorem LT.ends2 (S : LT w W p D c s p2 D2 c2 g) (h : Calls Try.prog fn args W (Ends p2 D2 c2 W x s')) : Calls Try.prog fn args W fun e w' => e = .returned (.int .i64 x) ∧ LT w w' p D c s p2 D2 c2 s' ∧ Far p2 D2 W w' :=
  h.mono (by rintro e w' ⟨rfl, i, k⟩; exact ⟨rfl, (S.swap.far i k).swap, k⟩)
theorem LT.ends0 (S : LT w W p D c s p2 D2 c2 g) (h : Calls Try.prog fn args W (Ends0 p D c W s')) : Calls Try.prog fn args W fun e w' => e = .returned (.tuple #[]) ∧ LT w w' p D c s' p2 D2 c2 g ∧ Far p D W w' :=
  h.mono (by rintro e w' ⟨rfl, i, k⟩; exact ⟨rfl, S.far i k, k⟩)
theorem LT.of {w1 : World} (S : LS w W p D c s) (S2 : LS W W' p2 D2 c2 g) : LT w W' p D c s p2 D2 c2 g := by
  have h1 := S.i.lt
  have h2 := S.i.ltD
  have h3 := S2.hp
  have h4 := S2.hD
  exact ⟨S.next S2.b, ⟨S.b.trans (S2.b.mono S.b.size), S2.i, Nat.le_trans S.b.size S2.hp, Nat.le_trans S.b.size S2.hD⟩, by omega, by omega, by omega, by omega⟩
end

/-- Bytes that are read, in a block that is none of the two flashes'. -/
def RdT (w : World) (p D p2 D2 : Nat) (A : Option Addr) (bs : List UInt8) : Prop :=
  bs = [] ∨ ∃ g off, A = some ⟨g, off, none⟩ ∧ g < w.heap.size ∧ (g ≠ p ∧ g ≠ D ∧ g ≠ p2 ∧ g ≠ D2) ∧ ∀ j, j < bs.length → w.cell? ⟨g, off + j, none⟩ = some (.int .u8 (byt bs j))
section
variable {w w' W : World} {p D p2 D2 : Nat} {A : Option Addr} {bs : List UInt8}
theorem RdT.far (h : RdT w p D p2 D2 A bs) (hf : Far p D w w') : RdT w' p D p2 D2 A bs := by
  rcases h with rfl | ⟨g, off, e, hg, hn, hc⟩
  · exact .inl rfl
  · exact .inr ⟨g, off, e, Nat.lt_of_lt_of_le hg hf.size, hn, fun j hj => (World.cell?_of_block (w := w) (hf.block g hg hn.1 hn.2.1)).trans (hc j hj)⟩
theorem RdT.far2 (h : RdT w p D p2 D2 A bs) (hf : Far p2 D2 w w') : RdT w' p D p2 D2 A bs := by
  rcases h with rfl | ⟨g, off, e, hg, hn, hc⟩
  · exact .inl rfl
  · exact .inr ⟨g, off, e, Nat.lt_of_lt_of_le hg hf.size, hn, fun j hj => (World.cell?_of_block (w := w) (hf.block g hg hn.2.2.1 hn.2.2.2)).trans (hc j hj)⟩
theorem RdT.next (h : RdT w p D p2 D2 A bs) (b : Below w.heap.size w w') : RdT w' p D p2 D2 A bs := h.far (.of_below b (Nat.le_refl _))
theorem RdT.rd (h : RdT w p D p2 D2 A bs) : Rd w w.heap.size A bs := by
  rcases h with rfl | ⟨g, off, e, hg, _, hc⟩
  · exact .inl rfl
  · exact .inr ⟨g, off, e, hg, hc⟩
theorem rdT_own {base : Nat} {v : Value} (o : Own w base E v bs) (hp : p < base) (hD : D < base) (hp2 : p2 < base) (hD2 : D2 < base) : ∃ A c', v = .slice A bs.length c' ∧ RdT w p D p2 D2 A bs := by
  rcases Nat.eq_zero_or_pos bs.length with h0 | h0
  · have : bs = [] := List.eq_nil_of_length_eq_zero h0
    subst this
    obtain ⟨A, c', h, _⟩ := o.form
    exact ⟨A, c', h, .inl rfl⟩
  · obtain ⟨A, c', rfl, hr⟩ := o.form
    obtain ⟨g, cap, hv, hb, hg, _, _⟩ := o.some_ h0
    injection hv with e1 e2 e3
    subst e1
    refine ⟨_, _, rfl, ?_⟩
    rcases hr with rfl | ⟨g', off, e, _, hc⟩
    · simp at h0
    · cases e
      exact .inr ⟨_, _, rfl, hg, ⟨by omega, by omega, by omega, by omega⟩, hc⟩
end

/-- What the law's loop reads. -/
structure CT (w W : World) (A0 : Option Addr) (x : List UInt8) (A1 : Option Addr) (R : List UInt8) (A2 : Option Addr) (R2 : List UInt8) (A3 : Option Addr) (R3 : List UInt8) (A4 : Option Addr) (R4 : List UInt8) : Prop where
  b : Below w.heap.size w W
  r0 : Rd W W.heap.size A0 x
  r1 : Rd W W.heap.size A1 R
  r2 : Rd W W.heap.size A2 R2
  r3 : Rd W W.heap.size A3 R3
  r4 : Rd W W.heap.size A4 R4
theorem CT.drew {w W : World} {A0 A1 A2 A3 A4 : Option Addr} {x R R2 R3 R4 : List UInt8} (S : CT w W A0 x A1 R A2 R2 A3 R3 A4 R4) : CT w W.drew A0 x A1 R A2 R2 A3 R3 A4 R4 := ⟨S.b.drew, S.r0, S.r1, S.r2, S.r3, S.r4⟩
theorem rd_cell {w : World} {B g o : Nat} {bs : List UInt8} (h : Rd w B (some ⟨g, o, none⟩) bs) {j : Nat} (hj : j < bs.length) : w.cell? ⟨g, o + j, none⟩ = some (.int .u8 (byt bs j)) := by
  rcases h with rfl | ⟨g', o', e, _, hc⟩
  · simp at hj
  · cases e
    exact hc j hj
end Fla
end Go.Proofs.Ytofhkecdgpbigaa
