/-
  Entry of a dictionary.
-/
import Derived.Test.YtpdnfdpoebhjoaaDoorDicApi
namespace Go.Proofs.YtpdnfdpoebhjoaaDoor
namespace Dic
open Go.RowKit Mem Ent
set_option linter.unusedVariables false
set_option linter.unusedSimpArgs false
set_option maxRecDepth 100000

theorem results_row2 {P : Program} {fn : Func} {p u : Tmp} {ty : TypeId} (h : fn.results = #[.cell p ty, .tmp u]) (tmps : Array Value) (w : World) (g : Nat) (t : TypeId) (cs : Array Value) (fr : Nat × Nat) (d : TypeDesc)
    (hp : tmps.getD p undef = .pointer (some ⟨g, 0, none⟩)) (hg : w.heap[g]? = some (.cells cs t fr))
    (hu : P.underlying ty = some d) (hd : (match d with | .struct _ | .array _ _ => true | _ => false) = true) (hi : (P.info? ty).map (·.size) = some cs.size) :
    (results fn tmps).run P w = .ok (.tuple #[.agg cs, tmps.getD u undef]) w := by
  have hp' : tmps[p]?.getD undef = .pointer (some ⟨g, 0, none⟩) := by simpa using hp
  simp [results, h, hp', asAddr, run_loadVar_row w g t ty cs fr d hg hu hd hi, Result.andThen]
theorem size_ent : (Tryd.prog.info? 38).map (·.size) = some 11 := by kernel_rfl

/-- An entry as Go's value. -/
abbrev Ev.go (e : Ev) (v : Value) : Value := Ent.ent e.ix e.sub e.nm e.ty e.ac e.mp e.st e.mx e.lo e.hi v
abbrev Ev.row (e : Ev) (v : Value) : Array Value := Ent.row e.ix e.sub e.nm e.ty e.ac e.mp e.st e.mx e.lo e.hi v
/-- A whole entry is stored. -/
def put11 (w : World) (g : Nat) (a0 a1 a2 a3 a4 a5 a6 a7 a8 a9 a10 : Value) : World :=
  ((((((((((w.setCell ⟨g, 0, none⟩ a0).setCell ⟨g, 1, none⟩ a1).setCell ⟨g, 2, none⟩ a2).setCell ⟨g, 3, none⟩ a3).setCell ⟨g, 4, none⟩ a4).setCell ⟨g, 5, none⟩ a5).setCell ⟨g, 6, none⟩ a6).setCell ⟨g, 7, none⟩ a7).setCell ⟨g, 8, none⟩ a8).setCell ⟨g, 9, none⟩ a9).setCell ⟨g, 10, none⟩ a10
set_option maxHeartbeats 1000000 in
theorem put11_row {w : World} {g : Nat} {t : TypeId} {b0 b1 b2 b3 b4 b5 b6 b7 b8 b9 b10 : Value} (h : w.heap[g]? = some (.cells #[b0, b1, b2, b3, b4, b5, b6, b7, b8, b9, b10] t)) (a0 a1 a2 a3 a4 a5 a6 a7 a8 a9 a10 : Value) :
    (put11 w g a0 a1 a2 a3 a4 a5 a6 a7 a8 a9 a10).heap[g]? = some (.cells #[a0, a1, a2, a3, a4, a5, a6, a7, a8, a9, a10] t) := by
  have h0 : (w.setCell ⟨g, 0, none⟩ a0).heap[g]? = some (.cells #[a0, b1, b2, b3, b4, b5, b6, b7, b8, b9, b10] t) := heap_setCell_same _ g 0 _ t a0 h
  have h1 : ((w.setCell ⟨g, 0, none⟩ a0).setCell ⟨g, 1, none⟩ a1).heap[g]? = some (.cells #[a0, a1, b2, b3, b4, b5, b6, b7, b8, b9, b10] t) := heap_setCell_same _ g 1 _ t a1 h0
  have h2 : (((w.setCell ⟨g, 0, none⟩ a0).setCell ⟨g, 1, none⟩ a1).setCell ⟨g, 2, none⟩ a2).heap[g]? = some (.cells #[a0, a1, a2, b3, b4, b5, b6, b7, b8, b9, b10] t) := heap_setCell_same _ g 2 _ t a2 h1
  have h3 : ((((w.setCell ⟨g, 0, none⟩ a0).setCell ⟨g, 1, none⟩ a1).setCell ⟨g, 2, none⟩ a2).setCell ⟨g, 3, none⟩ a3).heap[g]? = some (.cells #[a0, a1, a2, a3, b4, b5, b6, b7, b8, b9, b10] t) := heap_setCell_same _ g 3 _ t a3 h2
  have h4 : (((((w.setCell ⟨g, 0, none⟩ a0).setCell ⟨g, 1, none⟩ a1).setCell ⟨g, 2, none⟩ a2).setCell ⟨g, 3, none⟩ a3).setCell ⟨g, 4, none⟩ a4).heap[g]? = some (.cells #[a0, a1, a2, a3, a4, b5, b6, b7, b8, b9, b10] t) := heap_setCell_same _ g 4 _ t a4 h3
  have h5 : ((((((w.setCell ⟨g, 0, none⟩ a0).setCell ⟨g, 1, none⟩ a1).setCell ⟨g, 2, none⟩ a2).setCell ⟨g, 3, none⟩ a3).setCell ⟨g, 4, none⟩ a4).setCell ⟨g, 5, none⟩ a5).heap[g]? = some (.cells #[a0, a1, a2, a3, a4, a5, b6, b7, b8, b9, b10] t) := heap_setCell_same _ g 5 _ t a5 h4
  have h6 : (((((((w.setCell ⟨g, 0, none⟩ a0).setCell ⟨g, 1, none⟩ a1).setCell ⟨g, 2, none⟩ a2).setCell ⟨g, 3, none⟩ a3).setCell ⟨g, 4, none⟩ a4).setCell ⟨g, 5, none⟩ a5).setCell ⟨g, 6, none⟩ a6).heap[g]? = some (.cells #[a0, a1, a2, a3, a4, a5, a6, b7, b8, b9, b10] t) := heap_setCell_same _ g 6 _ t a6 h5
  have h7 : ((((((((w.setCell ⟨g, 0, none⟩ a0).setCell ⟨g, 1, none⟩ a1).setCell ⟨g, 2, none⟩ a2).setCell ⟨g, 3, none⟩ a3).setCell ⟨g, 4, none⟩ a4).setCell ⟨g, 5, none⟩ a5).setCell ⟨g, 6, none⟩ a6).setCell ⟨g, 7, none⟩ a7).heap[g]? = some (.cells #[a0, a1, a2, a3, a4, a5, a6, a7, b8, b9, b10] t) := heap_setCell_same _ g 7 _ t a7 h6
  have h8 : (((((((((w.setCell ⟨g, 0, none⟩ a0).setCell ⟨g, 1, none⟩ a1).setCell ⟨g, 2, none⟩ a2).setCell ⟨g, 3, none⟩ a3).setCell ⟨g, 4, none⟩ a4).setCell ⟨g, 5, none⟩ a5).setCell ⟨g, 6, none⟩ a6).setCell ⟨g, 7, none⟩ a7).setCell ⟨g, 8, none⟩ a8).heap[g]? = some (.cells #[a0, a1, a2, a3, a4, a5, a6, a7, a8, b9, b10] t) := heap_setCell_same _ g 8 _ t a8 h7
  have h9 : ((((((((((w.setCell ⟨g, 0, none⟩ a0).setCell ⟨g, 1, none⟩ a1).setCell ⟨g, 2, none⟩ a2).setCell ⟨g, 3, none⟩ a3).setCell ⟨g, 4, none⟩ a4).setCell ⟨g, 5, none⟩ a5).setCell ⟨g, 6, none⟩ a6).setCell ⟨g, 7, none⟩ a7).setCell ⟨g, 8, none⟩ a8).setCell ⟨g, 9, none⟩ a9).heap[g]? = some (.cells #[a0, a1, a2, a3, a4, a5, a6, a7, a8, a9, b10] t) := heap_setCell_same _ g 9 _ t a9 h8
  have h10 : (((((((((((w.setCell ⟨g, 0, none⟩ a0).setCell ⟨g, 1, none⟩ a1).setCell ⟨g, 2, none⟩ a2).setCell ⟨g, 3, none⟩ a3).setCell ⟨g, 4, none⟩ a4).setCell ⟨g, 5, none⟩ a5).setCell ⟨g, 6, none⟩ a6).setCell ⟨g, 7, none⟩ a7).setCell ⟨g, 8, none⟩ a8).setCell ⟨g, 9, none⟩ a9).setCell ⟨g, 10, none⟩ a10).heap[g]? = some (.cells #[a0, a1, a2, a3, a4, a5, a6, a7, a8, a9, a10] t) := heap_setCell_same _ g 10 _ t a10 h9
  exact h10
theorem put11_below {w0 w : World} {g : Nat} (b : Below w0.heap.size w0 w) (hg : w0.heap.size ≤ g) (a0 a1 a2 a3 a4 a5 a6 a7 a8 a9 a10 : Value) : Below w0.heap.size w0 (put11 w g a0 a1 a2 a3 a4 a5 a6 a7 a8 a9 a10) := by
  have st : ∀ {x : World} (j : Nat) (a : Value), Below w0.heap.size w0 x → Below w0.heap.size w0 (x.setCell ⟨g, j, none⟩ a) := fun j a h => h.setCell (p := ⟨g, j, none⟩) hg a
  unfold put11
  iterate 11 apply st
  exact b
theorem put11_other {w : World} {g q : Nat} (hq : q ≠ g) (a0 a1 a2 a3 a4 a5 a6 a7 a8 a9 a10 : Value) : (put11 w g a0 a1 a2 a3 a4 a5 a6 a7 a8 a9 a10).heap[q]? = w.heap[q]? := by
  have st : ∀ (x : World) (j : Nat) (a : Value), (x.setCell ⟨g, j, none⟩ a).heap[q]? = x.heap[q]? := fun x j a => Below.heap_setCell x ⟨g, j, none⟩ a q hq
  unfold put11
  rw [st, st, st, st, st, st, st, st, st, st, st]
/-- What Entry ends with. -/
def EntryEnds (W : World) (e : Ev) (b : Bool) (x : Ending) (w' : World) : Prop := ∃ u, x = .returned (.tuple #[e.go u, .bool b]) ∧ Own w' W.heap.size YT u e.d ∧ Below W.heap.size W w'
section
variable {W : World} {p : Nat} {v : Value} {N : Nat → Prop} {s : Ds}

end

end Dic
end Go.Proofs.YtpdnfdpoebhjoaaDoor
