/-
  Slices of integers that came in.
-/
import Derived.Test.YtlojomeofgnfjaaLift
namespace Go.Proofs.Ytlojomeofgnfjaa
namespace Mem
open Go.ChangeShapes Go.WideShapes Go.ChangeAt Go.RowKit

/-- The slice at A reads as zs, and lies below block B. -/
def RdI (k : IntKind) (w : World) (B : Nat) (A : Option Addr) (zs : List Int) : Prop :=
  zs = [] ∨ ∃ g off, A = some ⟨g, off, none⟩ ∧ g < B ∧ ∀ j, j < zs.length → w.cell? ⟨g, off + j, none⟩ = some (.int k (zs.getD j 0))

section
variable {k : IntKind} {w w' : World} {B B' : Nat} {A : Option Addr} {zs : List Int}
theorem RdI.at_ (h : RdI k w B A zs) {j : Nat} (hj : j < zs.length) : ∃ g off, A = some ⟨g, off, none⟩ ∧ g < B ∧ w.cell? ⟨g, off + j, none⟩ = some (.int k (zs.getD j 0)) := by
  rcases h with rfl | ⟨g, off, e, hg, hc⟩
  · simp at hj
  · exact ⟨g, off, e, hg, hc j hj⟩
theorem RdI.below (h : RdI k w B A zs) (hb : Below B w w') : RdI k w' B A zs := by
  rcases h with rfl | ⟨g, off, e, hg, hc⟩
  · exact .inl rfl
  · exact .inr ⟨g, off, e, hg, fun j hj => (hb.cell (p := ⟨g, off + j, none⟩) hg).trans (hc j hj)⟩
theorem RdI.drew (h : RdI k w B A zs) : RdI k w.drew B A zs := h
theorem RdI.mono (h : RdI k w B A zs) (hB : B ≤ B') : RdI k w B' A zs := by
  rcases h with rfl | ⟨g, off, e, hg, hc⟩
  · exact .inl rfl
  · exact .inr ⟨g, off, e, by omega, hc⟩
end

theorem open_intl {H : Type} {enc : TypeId × Value → H} {P : Program} {W : World} {t e : TypeId} {k : IntKind} {v : Value} {d : DataW H} {p : List MemPlace} {r : Reach} {base : Nat}
    (ht : P.underlying t = some (.slice e)) (he : P.underlying e = some (.int k)) (hc : P.cellsOf e = 1) (hval : Value.okWide P W r base t v)
    (h0 : DataW.Trod enc P W 0 (fun _ => true) true t v d p) : ∃ A c zs, v = .slice A (List.length zs) c ∧ RdI k W W.heap.size A zs ∧ List.length zs ≤ maxLen ∧ ∀ z ∈ zs, (Lit.int k z).wf = true := by
  obtain ⟨a0, len0, cap0, rfl⟩ := okWide_slice ht hval
  obtain ⟨fuel, hf⟩ := h0
  rcases open_ints ht he hc hf with ⟨hcs, _⟩ | ⟨x, l, c, zs, hcs, _, hl, hm, hz, _, hcell, hwz⟩
  · simp [Value.cells] at hcs
    obtain ⟨rfl, rfl, rfl⟩ := hcs
    exact ⟨none, 0, [], rfl, .inl rfl, by simp, by simp⟩
  · simp [Value.cells] at hcs
    obtain ⟨rfl, rfl, rfl⟩ := hcs
    have hzc : zs.length = cap0 := by simpa using hz
    refine ⟨some x, cap0, zs.take len0, by simp [hzc, Nat.min_eq_left hl], ?_, by simp [hzc]; omega, fun z hz => hwz z (List.mem_of_mem_take hz)⟩
    by_cases hz0 : len0 = 0
    · subst hz0; exact .inl (by simp)
    · obtain ⟨g, off, spot⟩ := x
      have hc0 := hcell 0 (by omega)
      have hspot : spot = none := by simpa [Addr.add] using World.cell?_spot hc0
      subst hspot
      have hlt : g < W.heap.size := World.block_lt_of_cell? W _ hc0
      refine .inr ⟨g, off, rfl, hlt, fun j hj => ?_⟩
      have hj' : j < len0 := by simp at hj; omega
      have h1 := hcell j (by omega)
      rw [Addr.add_lit] at h1
      rw [h1]
      have hjz : j < zs.length := by omega
      simp [hj', hjz]
end Mem
end Go.Proofs.Ytlojomeofgnfjaa
