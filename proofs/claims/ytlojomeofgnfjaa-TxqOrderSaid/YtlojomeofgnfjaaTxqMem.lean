/-
  A queue in memory: the block of its struct; its row and the bytes of its frames, which lie apart from all blocks that are written to.
-/
import Derived.Test.YtlojomeofgnfjaaProg
import Derived.Test.YtlojomeofgnfjaaFrmOwn
import Derived.Test.YtlojomeofgnfjaaTxqMath
import Derived.Test.YtlojomeofgnfjaaOctAux
import Derived.Test.YtlojomeofgnfjaaClone
namespace Go.Proofs.Ytlojomeofgnfjaa
namespace Txq
open Go.RowKit Mem Frm
set_option linter.unusedVariables false
set_option linter.unusedSimpArgs false
set_option maxRecDepth 100000

/-- The slice at A reads as bs, in a block that G allows. -/
def RdB (G : Nat → Prop) (w : World) (A : Option Addr) (bs : List UInt8) : Prop :=
  bs = [] ∨ ∃ g off, A = some ⟨g, off, none⟩ ∧ G g ∧ ∀ j, j < bs.length → w.cell? ⟨g, off + j, none⟩ = some (.int .u8 (byt bs j))
/-- The slice at A reads as frames, in blocks that G allows. -/
def RdG (G : Nat → Prop) (W : World) (A : Option Addr) (fs : List Fv) : Prop :=
  (fs = [] ∨ ∃ g off, A = some ⟨g, off, none⟩ ∧ G g ∧ ∀ j, j < fs.length → ∀ i, i < 3 → W.cell? ⟨g, off + j * 3 + i, none⟩ = (fs.getD j Fv.zero).vals[i]?) ∧ ∀ j, j < fs.length → RdB G W (fs.getD j Fv.zero).A (fs.getD j Fv.zero).d
section
variable {G G' : Nat → Prop} {W W' : World} {A : Option Addr} {fs : List Fv} {bs : List UInt8} {B : Nat}
theorem RdB.keep (h : RdB G W A bs) (k : ∀ g, G g → W'.heap[g]? = W.heap[g]?) : RdB G W' A bs := by
  rcases h with h | ⟨g, off, e, hg, hc⟩
  · exact .inl h
  · exact .inr ⟨g, off, e, hg, fun j hj => (World.cell?_of_block (w := W) (a := ⟨g, off + j, none⟩) (k g hg)).trans (hc j hj)⟩
theorem RdB.mono (h : RdB G W A bs) (k : ∀ g, G g → G' g) : RdB G' W A bs := by
  rcases h with h | ⟨g, off, e, hg, hc⟩
  · exact .inl h
  · exact .inr ⟨g, off, e, k g hg, hc⟩
theorem RdB.rd (h : RdB G W A bs) (k : ∀ g, G g → g < B) : Rd W B A bs := h.mono k
theorem rdB_of (h : Rd W B A bs) : RdB (fun g => g < B) W A bs := h
theorem RdG.keep (h : RdG G W A fs) (k : ∀ g, G g → W'.heap[g]? = W.heap[g]?) : RdG G W' A fs := by
  refine ⟨?_, fun j hj => (h.2 j hj).keep k⟩
  rcases h.1 with h | ⟨g, off, e, hg, hc⟩
  · exact .inl h
  · exact .inr ⟨g, off, e, hg, fun j hj i hi => (World.cell?_of_block (w := W) (a := ⟨g, off + j * 3 + i, none⟩) (k g hg)).trans (hc j hj i hi)⟩
theorem RdG.mono (h : RdG G W A fs) (k : ∀ g, G g → G' g) : RdG G' W A fs := by
  refine ⟨?_, fun j hj => (h.2 j hj).mono k⟩
  rcases h.1 with h | ⟨g, off, e, hg, hc⟩
  · exact .inl h
  · exact .inr ⟨g, off, e, k g hg, hc⟩
theorem RdG.rd (h : RdG G W A fs) (k : ∀ g, G g → g < B) : RdF W B A fs := h.mono k
theorem RdG.nil : RdG G W A [] := ⟨.inl rfl, fun j hj => by simp at hj⟩
end

def QT : TypeId := 60
abbrev at_ (p : Nat) : Value := .pointer (some ⟨p, 0, none⟩)
def qcells (v : Value) (room lost : Nat) (sp : Bool) : List Value := [v, .int .i64 (room : Int), .int .i64 (lost : Int), .bool sp]
/-- The blocks that are there and that nobody writes to. -/
abbrev Clear (W : World) (N : Nat → Prop) (g : Nat) : Prop := g < W.heap.size ∧ ¬ N g
/-- A queue stands in block p; what it holds lies apart from the blocks N. -/
structure IsQ (W : World) (p : Nat) (N : Nat → Prop) (A : Option Addr) (c : Nat) (fs : List Fv) (room lost : Nat) (sp : Bool) : Prop where
  blk : W.heap[p]? = some (.cells (qcells (.slice A fs.length c) room lost sp).toArray QT (0, 0))
  np : N p
  rd : RdG (Clear W N) W A fs
  ok : ∀ f ∈ fs, Frm.err f.id f.r f.d.length = 0
  len : fs.length ≤ room
  r1 : 1 ≤ room
  r64 : room ≤ 64
  cap : fs.length ≤ c
  capm : c ≤ maxLen
  at0 : (A = none ∧ c = 0) ∨ ∃ g, A = some ⟨g, 0, none⟩
/-- A queue as a value: its frames, its room, how many were lost, was one lost since it was asked. -/
structure Qs where
  l : List Fr
  room : Nat
  lost : Nat
  sp : Bool
def key (f : Fr) : Int := rank f.id f.r
/-- Put: in order. -/
def Qs.put (s : Qs) (f : Fr) : Qs × Int :=
  if f.err = 0 then (if s.l.length = s.room then ({ s with lost := s.lost + 1, sp := true }, 6) else ({ s with l := ins key f s.l }, 0)) else (s, f.err)
def Qs.take (s : Qs) : Qs × Fr × Bool :=
  match s.l with
  | [] => (s, Fr.zero, false)
  | f :: r => ({ s with l := r }, f, true)
/-- The same, its frames as values. -/
def HasQ (W : World) (p : Nat) (N : Nat → Prop) (s : Qs) : Prop := ∃ A c fs, IsQ W p N A c fs s.room s.lost s.sp ∧ fs.map Fv.fr = s.l

theorem cell_of {W : World} {p j : Nat} {l : List Value} {t : TypeId} {v : Value} (h : W.heap[p]? = some (.cells l.toArray t (0, 0))) (hj : l[j]? = some v) : W.cell? ⟨p, j, none⟩ = some v := by
  simp [World.cell?, h, hj]
theorem set_of {W : World} {p j : Nat} {l l' : List Value} {t : TypeId} {v : Value} (h : W.heap[p]? = some (.cells l.toArray t (0, 0))) (hl : l.set j v = l') : (W.setCell ⟨p, j, none⟩ v).heap[p]? = some (.cells l'.toArray t (0, 0)) := by
  rw [heap_setCell_same W p j _ t v h, ← hl]
  simp

section
variable {W W' : World} {p : Nat} {N N' : Nat → Prop} {A : Option Addr} {c : Nat} {fs : List Fv} {room lost : Nat} {sp : Bool}
theorem IsQ.lt (h : IsQ W p N A c fs room lost sp) : p < W.heap.size := (Array.getElem?_eq_some_iff.1 h.blk).1
theorem IsQ.free (h : IsQ W p N A c fs room lost sp) (j : Nat) : W.frozen? ⟨p, j, none⟩ = false := frozen_of_row W p j _ QT h.blk
theorem IsQ.c0 (h : IsQ W p N A c fs room lost sp) : W.cell? ⟨p, 0, none⟩ = some (.slice A fs.length c) := cell_of h.blk rfl
theorem IsQ.c1 (h : IsQ W p N A c fs room lost sp) : W.cell? ⟨p, 1, none⟩ = some (.int .i64 (room : Int)) := cell_of h.blk rfl
theorem IsQ.c2 (h : IsQ W p N A c fs room lost sp) : W.cell? ⟨p, 2, none⟩ = some (.int .i64 (lost : Int)) := cell_of h.blk rfl
theorem IsQ.c3 (h : IsQ W p N A c fs room lost sp) : W.cell? ⟨p, 3, none⟩ = some (.bool sp) := cell_of h.blk rfl
theorem IsQ.rdf (h : IsQ W p N A c fs room lost sp) : RdF W W.heap.size A fs := h.rd.rd fun g hg => hg.1
/-- Kept, when the blocks N alone are written to, but not p. -/
theorem IsQ.keep (h : IsQ W p N A c fs room lost sp) (hs : W.heap.size ≤ W'.heap.size) (hp : W'.heap[p]? = W.heap[p]?) (hk : ∀ g, g < W.heap.size → ¬ N g → W'.heap[g]? = W.heap[g]?) (hN : ∀ g, g < W.heap.size → N' g → N g) (np : N' p) : IsQ W' p N' A c fs room lost sp :=
  ⟨hp.trans h.blk, np, (h.rd.keep fun g hg => hk g hg.1 hg.2).mono fun g hg => ⟨Nat.lt_of_lt_of_le hg.1 hs, fun n => hg.2 (hN g hg.1 n)⟩, h.ok, h.len, h.r1, h.r64, h.cap, h.capm, h.at0⟩
theorem IsQ.below (h : IsQ W p N A c fs room lost sp) (b : Below W.heap.size W W') : IsQ W' p N A c fs room lost sp :=
  h.keep b.size (b.block p h.lt) (fun g hg _ => b.block g hg) (fun _ _ n => n) h.np
theorem IsQ.other (h : IsQ W p N A c fs room lost sp) (hN : ∀ g, g < W.heap.size → N' g → N g) (np : N' p) : IsQ W p N' A c fs room lost sp :=
  h.keep (Nat.le_refl _) rfl (fun _ _ _ => rfl) hN np
/-- A store into the struct's cells but the row. -/
theorem IsQ.set (h : IsQ W p N A c fs room lost sp) (j : Nat) (v : Value) {lost' : Nat} {sp' : Bool} (hs : (qcells (.slice A fs.length c) room lost sp).set j v = qcells (.slice A fs.length c) room lost' sp') : IsQ (W.setCell ⟨p, j, none⟩ v) p N A c fs room lost' sp' :=
  ⟨set_of h.blk hs, h.np, (h.rd.keep fun g hg => Below.heap_setCell W ⟨p, j, none⟩ v g fun e => hg.2 (e ▸ h.np)).mono fun g hg => ⟨by simpa [World.setCell] using hg.1, hg.2⟩, h.ok, h.len, h.r1, h.r64, h.cap, h.capm, h.at0⟩
/-- The row is another one. -/
theorem IsQ.row (h : IsQ W p N A c fs room lost sp) {A' : Option Addr} {c' : Nat} {fs' : List Fv} (rd : RdG (Clear W N) W A' fs') (ok : ∀ f ∈ fs', Frm.err f.id f.r f.d.length = 0) (len : fs'.length ≤ room) (cap : fs'.length ≤ c') (capm : c' ≤ maxLen) (at0 : (A' = none ∧ c' = 0) ∨ ∃ g, A' = some ⟨g, 0, none⟩) : IsQ (W.setCell ⟨p, 0, none⟩ (.slice A' fs'.length c')) p N A' c' fs' room lost sp :=
  ⟨set_of h.blk rfl, h.np, (rd.keep fun g hg => Below.heap_setCell W ⟨p, 0, none⟩ _ g fun e => hg.2 (e ▸ h.np)).mono fun g hg => ⟨by simpa [World.setCell] using hg.1, hg.2⟩, ok, len, h.r1, h.r64, cap, capm, at0⟩
end
section
variable {W W' : World} {p : Nat} {N N' : Nat → Prop} {s : Qs}
theorem HasQ.keep (h : HasQ W p N s) (hs : W.heap.size ≤ W'.heap.size) (hp : W'.heap[p]? = W.heap[p]?) (hk : ∀ g, g < W.heap.size → ¬ N g → W'.heap[g]? = W.heap[g]?) (hN : ∀ g, g < W.heap.size → N' g → N g) (np : N' p) : HasQ W' p N' s := by
  obtain ⟨A, c, fs, h, e⟩ := h
  exact ⟨A, c, fs, h.keep hs hp hk hN np, e⟩
theorem HasQ.below (h : HasQ W p N s) (b : Below W.heap.size W W') : HasQ W' p N s := by
  obtain ⟨A, c, fs, h, e⟩ := h
  exact ⟨A, c, fs, h.below b, e⟩
theorem HasQ.lt (h : HasQ W p N s) : p < W.heap.size := by
  obtain ⟨A, c, fs, h, e⟩ := h
  exact h.lt
theorem HasQ.len (h : HasQ W p N s) : s.l.length ≤ s.room ∧ s.room ≤ 64 := by
  obtain ⟨A, c, fs, h, e⟩ := h
  rw [← e]
  exact ⟨by simpa using h.len, h.r64⟩
theorem HasQ.ok (h : HasQ W p N s) : ∀ f ∈ s.l, f.err = 0 := by
  obtain ⟨A, c, fs, h, e⟩ := h
  rw [← e]
  intro f hf
  obtain ⟨x, hx, rfl⟩ := List.mem_map.1 hf
  exact h.ok x hx
end

/-- Nothing that was there is changed but block p and the block of v. -/
structure Ch (p : Nat) (v : Option Nat) (w w' : World) : Prop where
  os : w'.os = w.os
  tape : w'.tape = w.tape
  output : w'.output = w.output
  size : w.heap.size ≤ w'.heap.size
  block : ∀ k, k < w.heap.size → k ≠ p → v ≠ some k → w'.heap[k]? = w.heap[k]?
section
variable {p : Nat} {v : Option Nat} {a b c w w' : World}
theorem Ch.refl (p : Nat) (v : Option Nat) (w : World) : Ch p v w w := ⟨rfl, rfl, rfl, Nat.le_refl _, fun _ _ _ _ => rfl⟩
theorem Ch.trans (h : Ch p v a b) (k : Ch p v b c) : Ch p v a c :=
  ⟨k.os.trans h.os, k.tape.trans h.tape, k.output.trans h.output, Nat.le_trans h.size k.size, fun i hi h1 h2 => (k.block i (Nat.lt_of_lt_of_le hi h.size) h1 h2).trans (h.block i hi h1 h2)⟩
theorem Ch.of_below (h : Below w.heap.size w w') : Ch p v w w' := ⟨h.os, h.tape, h.output, h.size, fun k hk _ _ => h.block k hk⟩
theorem Ch.next (h : Ch p v a w) (b : Below w.heap.size w w') : Ch p v a w' := h.trans (.of_below b)
theorem Ch.set (h : Ch p v a w) (j : Nat) (u : Value) : Ch p v a (w.setCell ⟨p, j, none⟩ u) :=
  h.trans ⟨rfl, rfl, rfl, by simp [World.setCell], fun k _ hp _ => Below.heap_setCell w ⟨p, j, none⟩ u k hp⟩
theorem Ch.wide (h : Ch p none w w') : Ch p v w w' := ⟨h.os, h.tape, h.output, h.size, fun k hk h1 _ => h.block k hk h1 (by simp)⟩
theorem Ch.grown (h : Ch p v a w) {r : Option Nat} (g : w.grownBy w' r) (hr : ∀ k, r = some k → k < a.heap.size → v = some k) : Ch p v a w' :=
  ⟨g.os.trans h.os, g.tape.trans h.tape, g.output.trans h.output, Nat.le_trans h.size g.size, fun k hk h1 h2 => (g.block k (Nat.lt_of_lt_of_le hk h.size) fun e => h2 (hr k e.symm hk)).trans (h.block k hk h1 h2)⟩
theorem Ch.below (h : Ch p v w w') {B : Nat} (hB : B ≤ w.heap.size) (hp : B ≤ p) (hv : ∀ k, v = some k → B ≤ k) : Below B w w' :=
  ⟨h.os, h.tape, h.output, h.size, fun k hk => h.block k (by omega) (by omega) fun e => by have := hv k e; omega⟩
end
end Txq
end Go.Proofs.Ytlojomeofgnfjaa
