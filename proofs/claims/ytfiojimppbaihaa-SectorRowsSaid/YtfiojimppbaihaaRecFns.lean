/-
  What package record does: right, Right, Build and its closure, Parse and its closure, Blank.
-/
import Derived.Test.YtfiojimppbaihaaProg
import Derived.Test.YtfiojimppbaihaaRecMath
import Derived.Test.YtfiojimppbaihaaSumSeal
namespace Go.Proofs.Ytfiojimppbaihaa
namespace Rec
open Go.RowKit Mem
set_option linter.unusedVariables false

/-- A record as a value. -/
abbrev rec_ (k n : Int) (v : Value) : Value := .agg #[.int .i64 k, .int .u32 n, v]

set_option maxHeartbeats 400000 in
theorem right_any (k n : Int) (l : Nat) (w : World) (k1 : -9223372036854775808 ≤ k) (k2 : k ≤ 9223372036854775807) (n1 : 0 ≤ n) (n2 : n ≤ 4294967295) (hl : l ≤ 9223372036854775807) :
    Calls Try.prog 32 #[.int .i64 k, .int .u32 n, .int .i64 (l : Int)] w fun e w' => e = .returned (.int .i64 (err k n l)) ∧ w = w' := by
  have h : ∀ z : Int, (z = 1 ∧ ¬ ((k = 1 ∨ k = 2 ∧ l = 0) ∧ n ≠ 0)) ∨ (((k = 1 ∨ k = 2 ∧ l = 0) ∧ n ≠ 0) ∧ (960 < l ∧ z = 3 ∨ ¬ 960 < l ∧ z = 0)) → (Ending.returned (.int .i64 z) = .returned (.int .i64 (err k n l))) := by
    intro z hz
    unfold err
    split
    · split
      · rw [show z = 3 by omega]
      · rw [show z = 0 by omega]
    · rw [show z = 1 by omega]
  have H := Lib.hid h
  clear h
  go_enter Try.func32, Try.ntmps32
  go_wp2_with fail
  all_goals
    go_ret
    refine ⟨H.out _ ?_, rfl⟩
    clear H
    simp only [beq_iff_eq, beq_eq_false_iff_ne, ne_eq] at *
    simp only [true_and, and_true]
    omega

/-- The cell at g, at or above base, holds a slice of its own above it, which reads as bs. -/
def Bc (w : World) (base g : Nat) (bs : List UInt8) : Prop :=
  base ≤ g ∧ g < w.heap.size ∧ ∃ v, w.cell? ⟨g, 0, none⟩ = some v ∧ w.frozen? ⟨g, 0, none⟩ = false ∧ Own w (g + 1) 5 v bs

/-- A cell at g, at or above base, that may be written. -/
def Cl (w : World) (base g : Nat) : Prop := base ≤ g ∧ g < w.heap.size ∧ (∃ u, w.cell? ⟨g, 0, none⟩ = some u) ∧ w.frozen? ⟨g, 0, none⟩ = false
theorem Bc.cl {w : World} {base g : Nat} {bs : List UInt8} (h : Bc w base g bs) : Cl w base g := by
  obtain ⟨hb, hg, u, hc, hf, ho⟩ := h
  exact ⟨hb, hg, ⟨u, hc⟩, hf⟩
theorem Cl.kept {w w' : World} {base g : Nat} (h : Cl w base g) (hg : w'.heap[g]? = w.heap[g]?) (hs : w.heap.size ≤ w'.heap.size) : Cl w' base g := by
  obtain ⟨hb, hl, ⟨u, hc⟩, hf⟩ := h
  refine ⟨hb, by omega, ⟨u, ?_⟩, ?_⟩
  · rw [← hc]
    simp [World.cell?, hg]
  · unfold World.frozen? at hf ⊢
    simpa [hg] using hf
/-- An own slice in the cell's place. -/
theorem Cl.set {w w2 : World} {base g : Nat} (h : Cl w base g) (b2 : Below w.heap.size w w2) {v : Value} {xs : List UInt8} (o : Own w2 w.heap.size 5 v xs) :
    Bc (w2.setCell ⟨g, 0, none⟩ v) base g xs ∧ w.grownBy (w2.setCell ⟨g, 0, none⟩ v) (some g) := by
  have h2 := h.kept (b2.block g h.2.1) b2.size
  obtain ⟨hb, hg, _, _⟩ := h
  obtain ⟨_, hg2, ⟨u, hc2⟩, hf2⟩ := h2
  have hz := b2.size
  refine ⟨⟨hb, by simp [World.setCell]; omega, v, World.cell?_setCell_same _ _ _ hc2, ?_, ?_⟩, ?_⟩
  · rw [World.frozen?_setCell]
    exact hf2
  · refine ⟨o.1, ?_⟩
    rcases o.2 with hn | ⟨g', cap, cur, hv, hbg, hgg, rest⟩
    · exact .inl hn
    · refine .inr ⟨g', cap, cur, hv, by omega, ?_, rest⟩
      rw [Below.heap_setCell w2 ⟨g, 0, none⟩ v g' (by show ¬ g' = g; omega)]
      exact hgg
  · exact grown_far ⟨b2.os, b2.tape, b2.output, b2.size, fun i hi _ => b2.block i hi⟩ (.inl rfl) _
theorem Bc.grown {w w2 : World} {base g : Nat} {bs : List UInt8} (h : Bc w base g bs) {B : Nat} (b2 : Below B w w2) (hB : w.heap.size ≤ B) : Bc w2 base g bs := by
  obtain ⟨hb, hg, u, hc, hf, ho⟩ := h
  have hz := b2.size
  refine ⟨hb, by omega, u, (b2.cell (p := ⟨g, 0, none⟩) (by show g < B; omega)).trans hc, ?_, ho.below b2 hB⟩
  have := b2.block g (by omega)
  unfold World.frozen? at hf ⊢
  simpa [this] using hf

/-- The cells of a record that stands at block p. -/
def Rc (W : World) (p : Nat) (k n : Int) (v : Value) : Prop := W.cell? ⟨p, 0, none⟩ = some (.int .i64 k) ∧ W.cell? ⟨p, 1, none⟩ = some (.int .u32 n) ∧ W.cell? ⟨p, 2, none⟩ = some v
theorem Rc.new (w : World) (k n : Int) (v : Value) (t : TypeId) : Rc (w.alloc (.cells #[.int .i64 k, .int .u32 n, v] t)) w.heap.size k n v := by
  refine ⟨?_, ?_, ?_⟩ <;> simp
theorem Rc.kept {W W' : World} {p : Nat} {k n : Int} {v : Value} (h : Rc W p k n v) (hg : W'.heap[p]? = W.heap[p]?) : Rc W' p k n v := by
  have e : ∀ j, W'.cell? ⟨p, j, none⟩ = W.cell? ⟨p, j, none⟩ := fun j => by simp [World.cell?, hg]
  exact ⟨(e 0).trans h.1, (e 1).trans h.2.1, (e 2).trans h.2.2⟩
/-- While Build runs: the record at w's next block, the bytes so far at g. -/
structure BS (w W : World) (g : Nat) (k n : Int) (v : Value) (bs : List UInt8) : Prop where
  c : Bc W (w.heap.size + 1) g bs
  r : Rc W w.heap.size k n v
  b : Below w.heap.size w W
theorem BS.grown {w W W' : World} {g : Nat} {k n : Int} {v : Value} {bs bs' : List UInt8} (h : BS w W g k n v bs) (hg : W.grownBy W' (some g)) (hc : Bc W' (w.heap.size + 1) g bs') : BS w W' g k n v bs' := by
  have h1 := h.c.1
  have h2 := h.c.2.1
  exact ⟨hc, h.r.kept (hg.block _ (by omega) (by intro e; injection e with e; omega)), h.b.grown hg h.b.size (fun i hi => by injection hi with hi; omega)⟩
theorem BS.load {w W : World} {g : Nat} {k n : Int} {v : Value} {bs : List UInt8} (h : BS w W g k n v bs) : ∃ A c, W.cell? ⟨g, 0, none⟩ = some (.slice A bs.length c) ∧ Own W (g + 1) 5 (.slice A bs.length c) bs := by
  obtain ⟨_, _, u, hc, _, ho⟩ := h.c
  obtain ⟨A, c, rfl, _⟩ := ho.form
  exact ⟨A, c, hc, ho⟩

end Rec
end Go.Proofs.Ytfiojimppbaihaa
