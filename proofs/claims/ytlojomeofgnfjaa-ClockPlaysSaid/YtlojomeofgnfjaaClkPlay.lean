/-
  The clock and the document's, side by side.
-/
import Derived.Test.YtlojomeofgnfjaaClkKnown
import Derived.Test.YtlojomeofgnfjaaClkRTick
import Derived.Test.YtlojomeofgnfjaaClkCopy
namespace Go.Proofs.Ytlojomeofgnfjaa
namespace Clk
open Go.RowKit Mem
set_option linter.unusedVariables false
set_option linter.unusedSimpArgs false
set_option maxRecDepth 100000

/-- Alike: each timer's ticks left; for how many it runs again, if it runs. -/
def Alike (c d : Ck) : Prop := ∀ k, k < 16 → c.l k = d.l k ∧ (0 < c.l k → c.a k = d.a k)
theorem Alike.zero : Alike Ck.zero Ck.zero := fun _ _ => ⟨rfl, fun _ => rfl⟩
section
variable {c d : Ck}
theorem Alike.start (h : Alike c d) (n t g : Int) : (c.start n t g).2 = (d.start n t g).2 ∧ Alike (c.start n t g).1 (d.start n t g).1 := by
  unfold Ck.start
  split
  · refine ⟨rfl, fun k hk => ?_⟩
    by_cases e : k = n.toNat
    · subst e; exact ⟨by simp [upd], fun _ => by simp [upd]⟩
    · simpa [upd, e] using h k hk
  · exact ⟨rfl, h⟩
theorem Alike.stop (h : Alike c d) (n : Int) : Alike (c.stop n) (d.halt n) := by
  unfold Ck.stop Ck.halt
  split
  · intro k hk
    by_cases e : k = n.toNat
    · subst e; exact ⟨by simp [upd], fun h => by simp [upd] at h⟩
    · simpa [upd, e] using h k hk
  · exact h
theorem Alike.left (h : Alike c d) (n : Int) : d.left n = c.left n := by
  unfold Ck.left named
  split
  · rename_i e
    simp at e
    exact ((h n.toNat (by omega)).1).symm
  · rfl
theorem Alike.outs (h : Alike c d) : outs d.l 16 = outs c.l 16 := outs_congr 16 fun j hj => ((h j hj).1).symm
theorem Alike.nx (h : Alike c d) : nx d.l 16 = nx c.l 16 := nx_congr 16 fun j hj => ((h j hj).1).symm
theorem Alike.tick (h : Alike c d) : Alike c.tick d.tick := by
  intro k hk
  have e1 : c.tick.l k = tl c k := by simp [Ck.tick, tk, hk]
  have e2 : d.tick.l k = tl d k := by simp [Ck.tick, tk, hk]
  have a1 : c.tick.a k = c.a k := rfl
  have a2 : d.tick.a k = d.a k := rfl
  obtain ⟨h1, h2⟩ := h k hk
  rw [e1, e2, a1, a2]
  unfold tl
  rw [← h1]
  by_cases h0 : 0 < c.l k
  · rw [if_pos h0, if_pos h0]
    rw [h2 h0]
    exact ⟨rfl, fun _ => rfl⟩
  · rw [if_neg h0, if_neg h0]
    exact ⟨rfl, fun h => absurd h h0⟩
end
theorem Ck.halt_ok {s : Ck} (h : s.Ok) (n : Int) : (s.halt n).Ok := by
  unfold Ck.halt
  split
  · exact h.updl _ ⟨by omega, by omega⟩
  · exact h

/-- Both clocks, which the law made. -/
structure PS (w W : World) (p q : Nat) (c d : Ck) : Prop where
  b : Below w.heap.size w W
  ic : IsC W p c
  ir : IsR W q d
  gp : w.heap.size ≤ p
  gq : w.heap.size ≤ q
  ok : c.Ok
  okd : d.Ok
section
variable {w W W' : World} {p q : Nat} {c d c' d' : Ck}
theorem PS.ne (h : PS w W p q c d) : p ≠ q := by
  rintro rfl
  obtain ⟨o, h1, cs, rfl, _⟩ := h.ic
  obtain ⟨cs', h2, _⟩ := h.ir
  rw [h1] at h2
  injection h2 with h2
  injection h2 with _ h2
  exact absurd h2 (by decide)
theorem PS.next (h : PS w W p q c d) (b : Below W.heap.size W W') : PS w W' p q c d := ⟨h.b.trans (b.mono h.b.size), h.ic.below b h.ic.lt, h.ir.below b h.ir.lt, h.gp, h.gq, h.ok, h.okd⟩
theorem PS.new (h : PS w W p q c d) (o : Obj) : PS w (W.alloc o) p q c d := h.next ((Below.refl _ _).alloc (Nat.le_refl _) o)
theorem PS.chc (h : PS w W p q c d) (i : IsC W' p c') (ok : c'.Ok) (g : W.grownBy W' (some p)) : PS w W' p q c' d :=
  ⟨h.b.grown g h.b.size (fun k e => by cases e; exact h.gp), i, h.ir.grown g (by simpa using h.ne.symm), h.gp, h.gq, ok, h.okd⟩
theorem PS.chr (h : PS w W p q c d) (i : IsR W' q d') (ok : d'.Ok) (g : W.grownBy W' (some q)) : PS w W' p q c d' :=
  ⟨h.b.grown g h.b.size (fun k e => by cases e; exact h.gq), h.ic.grown g (by simpa using h.ne), i, h.gp, h.gq, h.ok, ok⟩
theorem PS.set (h : PS w W p q c d) (n t : Int) :
    Calls Try.prog 16 #[at_ p, .int .i64 n, .int .i64 t] W fun e w' => e = .returned (.int .i64 (c.start n t 0).2) ∧ PS w w' p q (c.start n t 0).1 d ∧ W.grownBy w' (some p) :=
  (set_any h.ic n t).mono fun e w' ⟨h1, h2, h3⟩ => ⟨h1, h.chc h2 (Ck.start_ok h.ok _ _ _ (.inl rfl)) h3, h3⟩
theorem PS.every (h : PS w W p q c d) (n t : Int) :
    Calls Try.prog 18 #[at_ p, .int .i64 n, .int .i64 t] W fun e w' => e = .returned (.int .i64 (c.start n t t).2) ∧ PS w w' p q (c.start n t t).1 d ∧ W.grownBy w' (some p) :=
  (every_any h.ic n t).mono fun e w' ⟨h1, h2, h3⟩ => ⟨h1, h.chc h2 (Ck.start_ok h.ok _ _ _ (.inr rfl)) h3, h3⟩
theorem PS.stop (h : PS w W p q c d) (n : Int) :
    Calls Try.prog 20 #[at_ p, .int .i64 n] W fun e w' => e = .returned (.tuple #[]) ∧ PS w w' p q (c.stop n) d ∧ W.grownBy w' (some p) :=
  (stop_any h.ic n).mono fun e w' ⟨h1, h2, h3⟩ => ⟨h1, h.chc h2 (Ck.stop_ok h.ok _) h3, h3⟩
theorem PS.rset (h : PS w W p q c d) (n t : Int) :
    Calls Try.prog 17 #[at_ q, .int .i64 n, .int .i64 t] W fun e w' => e = .returned (.int .i64 (d.start n t 0).2) ∧ PS w w' p q c (d.start n t 0).1 ∧ W.grownBy w' (some q) :=
  (rset_any h.ir n t).mono fun e w' ⟨h1, h2, h3⟩ => ⟨h1, h.chr h2 (Ck.start_ok h.okd _ _ _ (.inl rfl)) h3, h3⟩
theorem PS.revery (h : PS w W p q c d) (n t : Int) :
    Calls Try.prog 19 #[at_ q, .int .i64 n, .int .i64 t] W fun e w' => e = .returned (.int .i64 (d.start n t t).2) ∧ PS w w' p q c (d.start n t t).1 ∧ W.grownBy w' (some q) :=
  (revery_any h.ir n t).mono fun e w' ⟨h1, h2, h3⟩ => ⟨h1, h.chr h2 (Ck.start_ok h.okd _ _ _ (.inr rfl)) h3, h3⟩
theorem PS.rstop (h : PS w W p q c d) (n : Int) :
    Calls Try.prog 21 #[at_ q, .int .i64 n] W fun e w' => e = .returned (.tuple #[]) ∧ PS w w' p q c (d.halt n) :=
  (rstop_any h.ir n).mono fun e w' ⟨h1, h2, h3⟩ => ⟨h1, h.chr h2 (Ck.halt_ok h.okd _) h3⟩
/-- What Tick ends with, among both. -/
def TickP (w W : World) (p q : Nat) (c d : Ck) (e : Ending) (w' : World) : Prop :=
  ∃ A k, e = .returned (.slice A (outs c.l 16).length k) ∧ Lst w' q A (outs c.l 16) ∧ PS w w' p q c.tick d ∧ W.grownBy w' (some p)
theorem PS.tick (h : PS w W p q c d) : Calls Try.prog 25 #[at_ p] W (TickP w W p q c d) :=
  (tick_any W p c h.ic h.ok).mono fun e w' ⟨v, h1, h2, h3, h4⟩ => by
    obtain ⟨A, k, rfl, hr⟩ := h2.form
    refine ⟨A, k, h1, ⟨hr, fun g off e => ?_⟩, h.chc h3 (Ck.tick_ok h.ok) h4, h4⟩
    rcases h2.2 with ⟨e', _⟩ | ⟨g', cap, cur, e', hb, _⟩
    · injection e' with e1; rw [e] at e1; cases e1
    · injection e' with e1; rw [e] at e1; injection e1 with e1; injection e1 with e1 e2; subst e1; have := h.ir.lt; omega
theorem PS.rtick (h : PS w W p q c d) : Calls Try.prog 27 #[at_ q] W fun e w' => ∃ A k, e = .returned (.slice A (outs d.l 16).length k) ∧ RdI .i64 w' w'.heap.size A (outs d.l 16) ∧ PS w w' p q c d.tick ∧ W.grownBy w' (some q) :=
  (rtick_any h.ir h.okd).mono fun e w' ⟨v, h1, h2, h3, h4⟩ => by
    obtain ⟨A, k, rfl, hr⟩ := h2.form
    exact ⟨A, k, h1, hr, h.chr h3 (Ck.tick_ok h.okd) h4, h4⟩
theorem PS.nextc (h : PS w W p q c d) :
    Calls Try.prog 28 #[at_ p] W fun e w' => e = .returned (.tuple #[.int .i64 (nx c.l 16), .bool (decide (0 < nx c.l 16))]) ∧ PS w w' p q c d :=
  (next_any W p c h.ic h.ok).mono fun e w' ⟨h1, h2⟩ => ⟨h1, h.next h2⟩
theorem PS.copy (h : PS w W p q c d) :
    Calls Try.prog 24 #[at_ p] W fun e w' => e = .returned (at_ W.heap.size) ∧ PS w w' p q c d ∧ IsC w' W.heap.size c :=
  (copy_any h.ic).mono fun e w' ⟨h1, h2, h3⟩ => ⟨h1, h.next h3, h2⟩
/-- The copy takes the clock's place. -/
theorem PS.turn (h : PS w W p q c' d) {p' : Nat} (i : IsC W p' c) (ok : c.Ok) (g : w.heap.size ≤ p') : PS w W p' q c d := ⟨h.b, i, h.ir, g, h.gq, ok, h.okd⟩
end
theorem ints_same (A : Option Addr) (c : Nat) (zs : List Int) (A' : Option Addr) (c' : Nat) (w : World) (hr : RdI .i64 w w.heap.size A zs) (hr' : RdI .i64 w w.heap.size A' zs) (hz : zs.length ≤ 1000) (hzb : ∀ x ∈ zs, -1000000 ≤ x ∧ x ≤ 1000000) :
    Calls Try.prog 26 #[.slice A zs.length c, .slice A' zs.length c'] w fun e w' => e = .returned (.bool true) ∧ Below w.heap.size w w' :=
  (ints_any A c zs A' c' zs w hr hr' hz hz hzb hzb).mono fun e w' h => ⟨by rw [h.1]; simp, h.2⟩
theorem rzero (W : World) {cs : Array Value} (h : cs = (List.replicate 32 (Value.int .i64 0)).toArray) : IsR (W.alloc (.cells cs RT)) W.heap.size Ck.zero := by
  subst h
  refine ⟨_, heap_alloc_new W _, by simp, fun k hk => ?_⟩
  rcases (by omega : k = 0 ∨ k = 1 ∨ k = 2 ∨ k = 3 ∨ k = 4 ∨ k = 5 ∨ k = 6 ∨ k = 7 ∨ k = 8 ∨ k = 9 ∨ k = 10 ∨ k = 11 ∨ k = 12 ∨ k = 13 ∨ k = 14 ∨ k = 15) with h | h | h | h | h | h | h | h | h | h | h | h | h | h | h | h <;> subst h <;> exact ⟨by rfl, by rfl⟩
end Clk
end Go.Proofs.Ytlojomeofgnfjaa
