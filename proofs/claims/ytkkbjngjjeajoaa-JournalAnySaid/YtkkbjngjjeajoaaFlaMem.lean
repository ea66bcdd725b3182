/-
  A flash in memory: the block of its struct, and the block of its bytes.
-/
import Derived.Test.YtkkbjngjjeajoaaProg
import Derived.Test.YtkkbjngjjeajoaaFlaMath
namespace Go.Proofs.Ytkkbjngjjeajoaa
namespace Fla
open Go.RowKit Mem
set_option linter.unusedVariables false

/-- Nothing that was there is changed but the blocks p and D. -/
structure Far (p D : Nat) (w w' : World) : Prop where
  os : w'.os = w.os
  tape : w'.tape = w.tape
  output : w'.output = w.output
  size : w.heap.size ≤ w'.heap.size
  block : ∀ k, k < w.heap.size → k ≠ p → k ≠ D → w'.heap[k]? = w.heap[k]?
section
variable {p D : Nat} {a b c w w' : World}
theorem Far.refl (p D : Nat) (w : World) : Far p D w w := ⟨rfl, rfl, rfl, Nat.le_refl _, fun _ _ _ _ => rfl⟩
theorem Far.trans (h : Far p D a b) (k : Far p D b c) : Far p D a c :=
  ⟨k.os.trans h.os, k.tape.trans h.tape, k.output.trans h.output, Nat.le_trans h.size k.size, fun i hi h1 h2 => (k.block i (Nat.lt_of_lt_of_le hi h.size) h1 h2).trans (h.block i hi h1 h2)⟩
theorem Far.of_below {B : Nat} (h : Below B w w') (hB : w.heap.size ≤ B) : Far p D w w' := ⟨h.os, h.tape, h.output, h.size, fun k hk _ _ => h.block k (by omega)⟩
theorem Far.alloc (h : Far p D a w) (o : Obj) : Far p D a (w.alloc o) := h.trans (.of_below ((Below.refl _ _).alloc (Nat.le_refl _) o) (Nat.le_refl _))
theorem Far.set_p (h : Far p D a w) (j : Nat) (u : Value) : Far p D a (w.setCell ⟨p, j, none⟩ u) :=
  h.trans ⟨rfl, rfl, rfl, by simp [World.setCell], fun k _ hp _ => Below.heap_setCell w ⟨p, j, none⟩ u k hp⟩
theorem Far.set_D (h : Far p D a w) (j : Nat) (u : Value) : Far p D a (w.setCell ⟨D, j, none⟩ u) :=
  h.trans ⟨rfl, rfl, rfl, by simp [World.setCell], fun k _ _ hD => Below.heap_setCell w ⟨D, j, none⟩ u k hD⟩
theorem Far.drew (h : Far p D a w) : Far p D a w.drew := ⟨h.os, h.tape, h.output, h.size, h.block⟩
theorem Far.below (h : Far p D w w') {B : Nat} (hB : B ≤ w.heap.size) (hp : B ≤ p) (hD : B ≤ D) : Below B w w' :=
  ⟨h.os, h.tape, h.output, h.size, fun k hk => h.block k (by omega) (by omega) (by omega)⟩
end

def T : TypeId := 113
def E : TypeId := 5
def Fl.cells (s : Fl) (D c : Nat) : List Value :=
  .slice (some ⟨D, 0, none⟩) s.bs.length c :: (s.wear.map (Value.int .i64) ++ [.int .i64 s.most, .bool s.on, .bool s.pl, .int .i64 s.ahead, .int .u32 s.mask, .int .i64 s.ops])
/-- The flash s stands in block p, its bytes in block D. -/
structure IsF (W : World) (p D c : Nat) (s : Fl) : Prop where
  blk : W.heap[p]? = some (.cells (s.cells D c).toArray T (0, 0))
  own : Own W 0 E (.slice (some ⟨D, 0, none⟩) s.bs.length c) s.bs
  ne : p ≠ D
  cap : c ≤ maxLen
  ge : s.bs.length ≤ c
  ok : s.Ok

theorem cell_of {W : World} {p j : Nat} {l : List Value} {t : TypeId} {v : Value} (h : W.heap[p]? = some (.cells l.toArray t (0, 0))) (hj : l[j]? = some v) : W.cell? ⟨p, j, none⟩ = some v := by
  simp [World.cell?, h, hj]
theorem set_of {W : World} {p j : Nat} {l l' : List Value} {t : TypeId} {v : Value} (h : W.heap[p]? = some (.cells l.toArray t (0, 0))) (hl : l.set j v = l') : (W.setCell ⟨p, j, none⟩ v).heap[p]? = some (.cells l'.toArray t (0, 0)) := by
  rw [heap_setCell_same W p j _ t v h, ← hl]
  simp
theorem cell_lt' {w : World} {p : Addr} {v : Value} (h : w.cell? p = some v) : p.block < w.heap.size := by
  rcases Nat.lt_or_ge p.block w.heap.size with h' | h'
  · exact h'
  · simp [World.cell?, Array.getElem?_eq_none h'] at h

section
variable {W W' : World} {p D c : Nat} {s : Fl}
theorem IsF.lt (h : IsF W p D c s) : p < W.heap.size := (Array.getElem?_eq_some_iff.1 h.blk).1
theorem IsF.ltD (h : IsF W p D c s) : D < W.heap.size := (h.own.lt D rfl).2
theorem IsF.free (h : IsF W p D c s) (j : Nat) : W.frozen? ⟨p, j, none⟩ = false := frozen_of_row W p j _ T h.blk
theorem IsF.freeD (h : IsF W p D c s) (j : Nat) : W.frozen? ⟨D, j, none⟩ = false := h.own.free rfl j
theorem IsF.c0 (h : IsF W p D c s) : W.cell? ⟨p, 0, none⟩ = some (.slice (some ⟨D, 0, none⟩) s.bs.length c) := cell_of h.blk rfl
theorem IsF.cw (h : IsF W p D c s) {n : Nat} (hn : n < 8) : W.cell? ⟨p, 1 + n, none⟩ = some (.int .i64 (s.wearAt n)) := by
  refine cell_of h.blk ?_
  have hw := h.ok.w8
  rw [Nat.add_comm 1 n]
  simp [Fl.cells, Fl.wearAt, List.getElem?_append_left, hw, hn]
theorem IsF.tail (h : IsF W p D c s) (j : Nat) : (s.cells D c)[9 + j]? = [Value.int .i64 s.most, .bool s.on, .bool s.pl, .int .i64 s.ahead, .int .u32 s.mask, .int .i64 s.ops][j]? := by
  have hw := h.ok.w8
  rw [show 9 + j = 8 + j + 1 by omega]
  unfold Fl.cells
  rw [List.getElem?_cons_succ, List.getElem?_append_right (by simp [hw]), List.length_map, hw, Nat.add_sub_cancel_left]
theorem IsF.c9 (h : IsF W p D c s) : W.cell? ⟨p, 9, none⟩ = some (.int .i64 s.most) := cell_of h.blk (h.tail 0)
theorem IsF.c10 (h : IsF W p D c s) : W.cell? ⟨p, 10, none⟩ = some (.bool s.on) := cell_of h.blk (h.tail 1)
theorem IsF.c11 (h : IsF W p D c s) : W.cell? ⟨p, 11, none⟩ = some (.bool s.pl) := cell_of h.blk (h.tail 2)
theorem IsF.c12 (h : IsF W p D c s) : W.cell? ⟨p, 12, none⟩ = some (.int .i64 s.ahead) := cell_of h.blk (h.tail 3)
theorem IsF.c13 (h : IsF W p D c s) : W.cell? ⟨p, 13, none⟩ = some (.int .u32 s.mask) := cell_of h.blk (h.tail 4)
theorem IsF.c14 (h : IsF W p D c s) : W.cell? ⟨p, 14, none⟩ = some (.int .i64 s.ops) := cell_of h.blk (h.tail 5)
theorem IsF.keep (h : IsF W p D c s) (h1 : W'.heap[p]? = W.heap[p]?) (h2 : W'.heap[D]? = W.heap[D]?) : IsF W' p D c s :=
  ⟨h1.trans h.blk, h.own.kept_block h2, h.ne, h.cap, h.ge, h.ok⟩
theorem IsF.below (h : IsF W p D c s) {B : Nat} (hb : Below B W W') (hB : W.heap.size ≤ B) : IsF W' p D c s :=
  h.keep (hb.block p (Nat.lt_of_lt_of_le h.lt hB)) (hb.block D (Nat.lt_of_lt_of_le h.ltD hB))
theorem IsF.alloc (h : IsF W p D c s) (o : Obj) : IsF (W.alloc o) p D c s := h.below ((Below.refl _ _).alloc (Nat.le_refl _) o) (Nat.le_refl _)
theorem IsF.drew (h : IsF W p D c s) : IsF W.drew p D c s := ⟨h.blk, h.own, h.ne, h.cap, h.ge, h.ok⟩
theorem IsF.far (h : IsF W p D c s) {p' D' : Nat} (hf : Far p' D' W W') (h1 : p ≠ p') (h2 : p ≠ D') (h3 : D ≠ p') (h4 : D ≠ D') : IsF W' p D c s :=
  h.keep (hf.block p h.lt h1 h2) (hf.block D h.ltD h3 h4)
theorem IsF.rd (h : IsF W p D c s) : Rd W W.heap.size (some ⟨D, 0, none⟩) s.bs := by
  obtain ⟨A, k, e, hr⟩ := h.own.form
  cases e
  exact hr
/-- A store into the struct. -/
theorem IsF.set (h : IsF W p D c s) (j : Nat) (v : Value) (s' : Fl) (hb : s'.bs = s.bs) (hs : (s.cells D c).set j v = s'.cells D c) (ok : s'.Ok) : IsF (W.setCell ⟨p, j, none⟩ v) p D c s' :=
  ⟨set_of h.blk hs, by rw [hb]; exact h.own.kept_block (Below.heap_setCell W ⟨p, j, none⟩ v D (fun e => h.ne e.symm)), h.ne, h.cap, by rw [hb]; exact h.ge, ok⟩
/-- A store into the bytes. -/
theorem IsF.setD (h : IsF W p D c s) (j : Nat) {x : Int} {b : UInt8} (hx : x = (b.toNat : Int)) : IsF (W.setCell ⟨D, j, none⟩ (.int .u8 x)) p D c (s.with_ (s.bs.set j b)) := by
  have h1 := h.own.store rfl j hx
  refine ⟨?_, ?_, h.ne, h.cap, by simpa [Fl.with_] using h.ge, h.ok.with_ (by simp)⟩
  · rw [Below.heap_setCell W ⟨D, j, none⟩ _ p h.ne, h.blk]
    simp [Fl.cells, Fl.with_]
  · simpa [Fl.with_] using h1
theorem IsF.cb (h : IsF W p D c s) {j : Nat} (hj : j < s.bs.length) : W.cell? ⟨D, j, none⟩ = some (.int .u8 (byt s.bs j)) := h.own.cell rfl hj
end
end Fla
end Go.Proofs.Ytkkbjngjjeajoaa
