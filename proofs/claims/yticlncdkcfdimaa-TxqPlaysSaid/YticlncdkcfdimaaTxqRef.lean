/-
  The document's queue in memory; New, Spilt, Put.
-/
import Derived.Test.YticlncdkcfdimaaTxqList
import Derived.Test.YticlncdkcfdimaaOctRef
namespace Go.Proofs.Yticlncdkcfdimaa
namespace Txq
open Go.RowKit Mem Frm
set_option linter.unusedVariables false
set_option linter.unusedSimpArgs false
set_option maxRecDepth 100000

def rcells (room : Nat) (v : Value) (lost : Nat) (sp : Bool) : List Value := [.int .i64 (room : Int), v, .int .i64 (lost : Int), .bool sp]
/-- The blocks that the document's queue writes to, and others. -/
def RN (K : Nat → Prop) (r : Nat) (v : Value) (g : Nat) : Prop := K g ∨ g = r ∨ v.ownBlock = some g
/-- The document's queue stands in block r, its row v is its own; the bytes of its frames lie apart from all blocks that are written to. -/
structure IsR (W : World) (r : Nat) (K : Nat → Prop) (v : Value) (fs : List Fv) (room lost : Nat) (sp : Bool) : Prop where
  blk : W.heap[r]? = some (.cells (rcells room v lost sp).toArray RT (0, 0))
  own : W.ownsRow 0 34 3 v fs.length (flatF fs)
  ne : v.ownBlock ≠ some r
  nk : ∀ g, v.ownBlock = some g → ¬ K g
  rk : ¬ K r
  data : ∀ f ∈ fs, RdB (Clear W (RN K r v)) W f.A f.d
  ok : ∀ f ∈ fs, Frm.err f.id f.r f.d.length = 0
  len : fs.length ≤ room
  r1 : 1 ≤ room
  r64 : room ≤ 64
theorem own_keep {W W' : World} {base n size : Nat} {e : TypeId} {v : Value} {xs : List Value} (h : W.ownsRow base e size v n xs) (k : ∀ g, v.ownBlock = some g → W'.heap[g]? = W.heap[g]?) : W'.ownsRow base e size v n xs := by
  refine ⟨h.1, ?_⟩
  rcases h.2 with h1 | ⟨g, cap, cur, hv, hb, hh, hr⟩
  · exact .inl h1
  · exact .inr ⟨g, cap, cur, hv, hb, (k g (by rw [hv]; rfl)).trans hh, hr⟩
section
variable {W W' : World} {r : Nat} {K K' : Nat → Prop} {v : Value} {fs : List Fv} {room lost : Nat} {sp : Bool}
theorem IsR.lt (h : IsR W r K v fs room lost sp) : r < W.heap.size := (Array.getElem?_eq_some_iff.1 h.blk).1
theorem IsR.free (h : IsR W r K v fs room lost sp) (j : Nat) : W.frozen? ⟨r, j, none⟩ = false := frozen_of_row W r j _ RT h.blk
theorem IsR.c0 (h : IsR W r K v fs room lost sp) : W.cell? ⟨r, 0, none⟩ = some (.int .i64 (room : Int)) := cell_of h.blk rfl
theorem IsR.c1 (h : IsR W r K v fs room lost sp) : W.cell? ⟨r, 1, none⟩ = some v := cell_of h.blk rfl
theorem IsR.c2 (h : IsR W r K v fs room lost sp) : W.cell? ⟨r, 2, none⟩ = some (.int .i64 (lost : Int)) := cell_of h.blk rfl
theorem IsR.c3 (h : IsR W r K v fs room lost sp) : W.cell? ⟨r, 3, none⟩ = some (.bool sp) := cell_of h.blk rfl
theorem IsR.vlt (h : IsR W r K v fs room lost sp) {g : Nat} (hg : v.ownBlock = some g) : g < W.heap.size := (h.own.lt g hg).2
/-- Kept, when the blocks K alone are written to. -/
theorem IsR.keep (h : IsR W r K v fs room lost sp) (hs : W.heap.size ≤ W'.heap.size) (hk : ∀ g, g < W.heap.size → ¬ K g → W'.heap[g]? = W.heap[g]?) (hK : ∀ g, g < W.heap.size → K' g → K g) : IsR W' r K' v fs room lost sp :=
  ⟨(hk r h.lt h.rk).trans h.blk, own_keep h.own fun g hg => hk g (h.vlt hg) (h.nk g hg), h.ne, fun g hg k => h.nk g hg (hK g (h.vlt hg) k), fun k => h.rk (hK r h.lt k),
    fun f hf => ((h.data f hf).keep fun g hg => hk g hg.1 fun k => hg.2 (.inl k)).mono fun g hg => ⟨Nat.lt_of_lt_of_le hg.1 hs, fun n => hg.2 (n.elim (fun k => .inl (hK g hg.1 k)) .inr)⟩, h.ok, h.len, h.r1, h.r64⟩
theorem IsR.below (h : IsR W r K v fs room lost sp) (b : Below W.heap.size W W') : IsR W' r K v fs room lost sp := h.keep b.size (fun g hg _ => b.block g hg) (fun _ _ k => k)
theorem IsR.rdf (h : IsR W r K v fs room lost sp) : ∃ A c, v = .slice A fs.length c ∧ fs.length ≤ c ∧ c ≤ maxLen ∧ ((A = none ∧ c = 0) ∨ ∃ g, A = some ⟨g, 0, none⟩) ∧ RdF W W.heap.size A fs :=
  rdG_of (G := fun g => g < W.heap.size) h.own (fun j hj => (h.data _ (getD_mem hj)).mono fun g hg => hg.1) (fun g _ hg => hg)
/-- A store into the struct's cells but the row. -/
theorem IsR.set (h : IsR W r K v fs room lost sp) (j : Nat) (u : Value) {lost' : Nat} {sp' : Bool} (hs : (rcells room v lost sp).set j u = rcells room v lost' sp') : IsR (W.setCell ⟨r, j, none⟩ u) r K v fs room lost' sp' :=
  ⟨set_of h.blk hs, own_keep h.own fun g hg => Below.heap_setCell W ⟨r, j, none⟩ u g fun e => h.ne (by rw [hg]; exact congrArg some e), h.ne, h.nk, h.rk,
    fun f hf => ((h.data f hf).keep fun g hg => Below.heap_setCell W ⟨r, j, none⟩ u g fun e => hg.2 (.inr (.inl e))).mono fun g hg => ⟨by simpa [World.setCell] using hg.1, hg.2⟩, h.ok, h.len, h.r1, h.r64⟩
/-- The row is another one: its own, and apart. -/
theorem IsR.row (h : IsR W r K v fs room lost sp) {w : World} (hb : w.heap[r]? = W.heap[r]?) (hs : W.heap.size ≤ w.heap.size) {v' : Value} {fs' : List Fv} (own : w.ownsRow 0 34 3 v' fs'.length (flatF fs')) {M : Nat} (hM : W.heap.size ≤ M) (hv : ∀ g, v'.ownBlock = some g → v.ownBlock = some g ∨ M ≤ g) (hK : ∀ g, K g → g < M)
    (hd : ∀ f ∈ fs', RdB (Clear w (RN K r v')) w f.A f.d) (ok : ∀ f ∈ fs', Frm.err f.id f.r f.d.length = 0) (len : fs'.length ≤ room) : IsR (w.setCell ⟨r, 1, none⟩ v') r K v' fs' room lost sp := by
  have hne : v'.ownBlock ≠ some r := fun e => by
    rcases hv r e with h1 | h1
    · exact h.ne h1
    · have := h.lt; omega
  refine ⟨set_of (hb.trans h.blk) rfl, own_keep own fun g hg => Below.heap_setCell w ⟨r, 1, none⟩ v' g fun e => hne (by rw [hg]; exact congrArg some e), hne, fun g hg k => ?_, h.rk, fun f hf => ?_, ok, len, h.r1, h.r64⟩
  · rcases hv g hg with h1 | h1
    · exact h.nk g h1 k
    · have := hK g k; omega
  · exact ((hd f hf).keep fun g hg => Below.heap_setCell w ⟨r, 1, none⟩ v' g fun e => hg.2 (.inr (.inl e))).mono fun g hg => ⟨by simpa [World.setCell] using hg.1, hg.2⟩
end
end Txq
end Go.Proofs.Yticlncdkcfdimaa
