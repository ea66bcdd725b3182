/-
  What package fault's variables hold, behind start-up and for good: five errors at five places; and the two other words that the library reads.
-/
import Derived.Test.YtielbmhaidjioaaDoorProg
import Derived.Test.YtielbmhaidjioaaDoorFltMath
import Derived.Test.YtielbmhaidjioaaDoorMem
import Derived.LaidEql
import Derived.Stop.Asserts
import Derived.RowKitTokens
namespace Go.Proofs.YtielbmhaidjioaaDoor
open Go.RowKit Mem Go.Extern.Stop Go.Stop Go.Extern
set_option linter.unusedVariables false

/-- A pointer to an errors.errorString, as an error. -/
def errV (p : Addr) : Value := .iface 129 (.pointer (some p))
/-- The five errors, one behind the other. -/
structure Glob (w : World) (a : Nat → Addr) : Prop where
  c1 : w.cell? ⟨0, 0, none⟩ = some (.iface 129 (.pointer (some (a 1))))
  c2 : w.cell? ⟨1, 0, none⟩ = some (.iface 129 (.pointer (some (a 2))))
  c3 : w.cell? ⟨2, 0, none⟩ = some (.iface 129 (.pointer (some (a 3))))
  c4 : w.cell? ⟨3, 0, none⟩ = some (.iface 129 (.pointer (some (a 4))))
  c5 : w.cell? ⟨4, 0, none⟩ = some (.iface 129 (.pointer (some (a 5))))
  ty : w.cell? ⟨5, 0, none⟩ = some (.iface 104 (.agg #[.pointer (some ⟨10, 24, none⟩)]))
  four : w.cell? ⟨9, 15, none⟩ = some (.int .u8 4)
  apart : ∀ j k, 1 ≤ j → j < k → k ≤ 5 → a j ≠ a k
  lies : ∀ k, 1 ≤ k → k ≤ 5 → ∃ c t, w.heap[(a k).block]? = some (.cells c t (0, 0))

theorem below_cell {w w' : World} {B : Nat} {p : Addr} {v : Value} (hb : Below B w w') (hB : w.heap.size ≤ B) (h : w.cell? p = some v) : w'.cell? p = some v := by
  have hlt : p.block < w.heap.size := by
    rcases Nat.lt_or_ge p.block w.heap.size with h' | h'
    · exact h'
    · simp [World.cell?, Array.getElem?_eq_none h'] at h
  have e := hb.block p.block (by omega)
  unfold World.cell? at h ⊢
  rw [e]
  exact h

theorem Glob.below {w w' : World} {a : Nat → Addr} {B : Nat} (h : Glob w a) (hb : Below B w w') (hB : w.heap.size ≤ B) : Glob w' a where
  c1 := below_cell hb hB h.c1
  c2 := below_cell hb hB h.c2
  c3 := below_cell hb hB h.c3
  c4 := below_cell hb hB h.c4
  c5 := below_cell hb hB h.c5
  ty := below_cell hb hB h.ty
  four := below_cell hb hB h.four
  apart := h.apart
  lies := fun k h1 h2 => by
    obtain ⟨c, t, e⟩ := h.lies k h1 h2
    have hlt : (a k).block < w.heap.size := (Array.getElem?_eq_some_iff.1 e).1
    exact ⟨c, t, (hb.block _ (by omega)).trans e⟩
theorem Glob.drewN {w : World} {a : Nat → Addr} (h : Glob w a) (k : Nat) : Glob (w.drewN k) a := ⟨h.c1, h.c2, h.c3, h.c4, h.c5, h.ty, h.four, h.apart, h.lies⟩
theorem Glob.drew {w : World} {a : Nat → Addr} (h : Glob w a) : Glob w.drew a := ⟨h.c1, h.c2, h.c3, h.c4, h.c5, h.ty, h.four, h.apart, h.lies⟩
theorem cell_lt {w : World} {p : Addr} {v : Value} (h : w.cell? p = some v) : p.block < w.heap.size := by
  rcases Nat.lt_or_ge p.block w.heap.size with h' | h'
  · exact h'
  · simp [World.cell?, Array.getElem?_eq_none h'] at h
/-- What was there is there, and is as it was: as two rules. -/
theorem bcell {W w1 : World} (hb : Below W.heap.size W w1) : (∀ b o, b < W.heap.size → w1.cell? ⟨b, o, none⟩ = W.cell? ⟨b, o, none⟩) ∧ (∀ b o, b < W.heap.size → w1.frozen? ⟨b, o, none⟩ = W.frozen? ⟨b, o, none⟩) :=
  ⟨fun b o h => hb.cell (p := ⟨b, o, none⟩) h, fun b o h => hb.frozen (p := ⟨b, o, none⟩) h⟩

/-- The error of a family; nil: none. -/
def famV (a : Nat → Addr) (k : Nat) : Value := if k = 0 then .nilIface else errV (a k)
/-- A link. -/
def fltV (c : Int) (cause : Value) : Value := .agg #[.int .u32 c, cause]
def fltI (c : Int) (cause : Value) : Value := .iface 26 (.agg #[.int .u32 c, cause])
def saidI (s : ByteArray) : Value := .iface 56 (.string s)
/-- Links with these codes, the outermost first, behind them an error. -/
def chainV : List Int → Value → Value
  | [], base => base
  | c :: r, base => .iface 26 (.agg #[.int .u32 c, chainV r base])
/-- The fault of links. -/
def topV : List Int → Value → Value
  | [], base => .agg #[.int .u32 0, .nilIface]
  | c :: r, base => .agg #[.int .u32 c, chainV r base]
end Go.Proofs.YtielbmhaidjioaaDoor
