/-
  A dictionary and the document's, side by side.
  One thing that is done to a dictionary and to the document's.
-/
import Derived.Test.YtpdnfdpoebhjoaaDoorDicKnown
import Derived.Test.YtpdnfdpoebhjoaaDoorDicCopy
import Derived.Test.YtpdnfdpoebhjoaaDoorDicRef
import Derived.Test.YtpdnfdpoebhjoaaDoorDicRVals
import Derived.Test.YtpdnfdpoebhjoaaDoorDicSame
import Derived.Deep.RegionHeld3
namespace Go.Proofs.YtpdnfdpoebhjoaaDoor
namespace Dic
open Go.RowKit Mem Ent
set_option linter.unusedVariables false
set_option linter.unusedSimpArgs false
set_option maxRecDepth 100000

/-- The dictionary in block p with the row v, the document's in block q with the rows vL, vV; what they hold lies apart from the blocks K, and from what the other one writes to. -/
structure PD (w W : World) (K : Nat → Prop) (p : Nat) (v : Value) (q : Nat) (vL vV : Value) (s t : Ds) : Prop where
  b : Below w.heap.size w W
  g : TG w
  d : HasD W p v (DN K vV) s
  r : HasG W q vL vV (DN K v) t
  i : Inv s
  kl : ∀ g, K g → w.heap.size ≤ g ∧ g < W.heap.size
  gv : ∀ g, v.ownBlock = some g → w.heap.size ≤ g
  gV : ∀ g, vV.ownBlock = some g → w.heap.size ≤ g
section
variable {w W W' : World} {K K' : Nat → Prop} {p q : Nat} {v vL vV : Value} {s t s' t' : Ds}
theorem HasG.keep (h : HasG W q vL vV K s) (hs : W.heap.size ≤ W'.heap.size) (hk : ∀ g, g < W.heap.size → ¬ K g → W'.heap[g]? = W.heap[g]?) (hK : ∀ g, g < W.heap.size → K' g → K g) : HasG W' q vL vV K' s := by
  obtain ⟨xs, bs, h, e⟩ := h
  exact ⟨xs, bs, h.keep hs hk hK, e⟩
theorem HasG.vlt (h : HasG W q vL vV K s) {g : Nat} (hg : vV.ownBlock = some g) : g < W.heap.size := by
  obtain ⟨xs, bs, h, e⟩ := h
  exact h.vlt hg
theorem PD.tg (h : PD w W K p v q vL vV s t) : TG W := h.g.below h.b (Nat.le_refl _)
theorem PD.nd (h : PD w W K p v q vL vV s t) : ∀ g, DN K vV g → g < W.heap.size := fun g n => n.elim (fun k => (h.kl g k).2) fun e => h.r.vlt e
theorem PD.nr (h : PD w W K p v q vL vV s t) : ∀ g, DN K v g → g < W.heap.size := fun g n => n.elim (fun k => (h.kl g k).2) fun e => h.d.vlt e
theorem PD.next (h : PD w W K p v q vL vV s t) (b : Below W.heap.size W W') : PD w W' K p v q vL vV s t :=
  ⟨h.b.trans (b.mono h.b.size), h.g, h.d.below b, HasG.below h.r b, h.i, fun g k => ⟨(h.kl g k).1, Nat.lt_of_lt_of_le (h.kl g k).2 b.size⟩, h.gv, h.gV⟩
/-- What the law made since is apart, too. -/
theorem PD.lock (h : PD w W K p v q vL vV s t) (b : Below W.heap.size W W') : PD w W' (fun g => K g ∨ (W.heap.size ≤ g ∧ g < W'.heap.size)) p v q vL vV s t := by
  refine ⟨h.b.trans (b.mono h.b.size), h.g, h.d.keep b.size (fun g hg _ => b.block g hg) (fun g hg n => ?_), h.r.keep b.size (fun g hg _ => b.block g hg) (fun g hg n => ?_), h.i, fun g k => ?_, h.gv, h.gV⟩
  · rcases n with (n | n) | n
    · exact .inl n
    · omega
    · exact .inr n
  · rcases n with (n | n) | n
    · exact .inl n
    · omega
    · exact .inr n
  · have := h.b.size
    rcases k with k | k
    · exact ⟨(h.kl g k).1, Nat.lt_of_lt_of_le (h.kl g k).2 b.size⟩
    · omega
theorem PD.unlock (h : PD w W K p v q vL vV s t) (hK : ∀ g, K' g → K g) : PD w W K' p v q vL vV s t :=
  ⟨h.b, h.g, h.d.keep (Nat.le_refl _) (fun _ _ _ => rfl) (fun g _ n => n.elim (fun k => .inl (hK g k)) .inr), h.r.keep (Nat.le_refl _) (fun _ _ _ => rfl) (fun g _ n => n.elim (fun k => .inl (hK g k)) .inr), h.i, fun g k => h.kl g (hK g k), h.gv, h.gV⟩
/-- A block of K is written to. -/
theorem PD.touch (h : PD w W K p v q vL vV s t) {x : Option Nat} (hx : ∀ g, x = some g → K g) (g : W.grownBy W' x) : PD w W' K p v q vL vV s t := by
  have hk : ∀ r, r < W.heap.size → ¬ K r → W'.heap[r]? = W.heap[r]? := fun r hr hn => g.block r hr fun e => hn (hx r e.symm)
  exact ⟨h.b.grown g h.b.size fun r e => (h.kl r (hx r e)).1, h.g, h.d.keep g.size (fun r hr hn => hk r hr fun k => hn (.inl k)) (fun _ _ n => n), h.r.keep g.size (fun r hr hn => hk r hr fun k => hn (.inl k)) (fun _ _ n => n), h.i, fun r k => ⟨(h.kl r k).1, Nat.lt_of_lt_of_le (h.kl r k).2 g.size⟩, h.gv, h.gV⟩
/-- The dictionary was changed. -/
theorem PD.chd (h : PD w W K p v q vL vV s t) (d : HasD W' p v (DN K vV) s') (u : Upd (fun g => v.ownBlock = some g) W W') (i : Inv s') : PD w W' K p v q vL vV s' t :=
  ⟨h.b.trans (u.below h.b.size fun g e => h.gv g e), h.g, d, h.r.keep u.size (fun g hg hn => u.block g hg fun e => hn (.inr e)) (fun _ _ n => n), i, fun g k => ⟨(h.kl g k).1, Nat.lt_of_lt_of_le (h.kl g k).2 u.size⟩, h.gv, h.gV⟩
/-- The document's was changed. -/
theorem PD.chr (h : PD w W K p v q vL vV s t) (r : HasG W' q vL vV (DN K v) t') (u : Upd (fun g => vV.ownBlock = some g) W W') : PD w W' K p v q vL vV s t' :=
  ⟨h.b.trans (u.below h.b.size fun g e => h.gV g e), h.g, h.d.keep u.size (fun g hg hn => u.block g hg fun e => hn (.inr e)) (fun _ _ n => n), r, h.i, fun g k => ⟨(h.kl g k).1, Nat.lt_of_lt_of_le (h.kl g k).2 u.size⟩, h.gv, h.gV⟩

theorem PD.set (h : PD w W K p v q vL vV s t) (ix sub : Int) {A : Option Addr} {n cb : Nat} {bs : List UInt8} (hb : Rd W W.heap.size A bs) (hn : n = bs.length) (hl : bs.length ≤ 1000) :
    Calls Tryd.prog 18 #[ptr p, .int .i64 ix, .int .i64 sub, .slice A n cb] W fun e w' => e = .returned (.int .u32 (s.may ix sub bs)) ∧ PD w w' K p v q vL vV (s.upon (s.may ix sub bs) ix sub bs) t ∧ Upd (fun g => v.ownBlock = some g) W w' := by
  subst hn
  exact ((set_any h.d h.i h.nd ix sub (cb := cb) hb hl h.tg).2).mono fun e w' ⟨h1, h2, h3⟩ => ⟨h1, h.chd h2 h3 (h.i.upon fun e => may_zero e), h3⟩
theorem PD.may (h : PD w W K p v q vL vV s t) (ix sub : Int) {A : Option Addr} {n cb : Nat} {bs : List UInt8} (hb : Rd W W.heap.size A bs) (hn : n = bs.length) (hl : bs.length ≤ 1000) :
    Calls Tryd.prog 34 #[ptr p, .int .i64 ix, .int .i64 sub, .slice A n cb] W fun e w' => e = .returned (.int .u32 (s.may ix sub bs)) ∧ Below W.heap.size W w' := by
  subst hn
  exact (set_any h.d h.i h.nd ix sub (cb := cb) hb hl h.tg).1
theorem PD.poke (h : PD w W K p v q vL vV s t) (ix sub : Int) {A : Option Addr} {n cb : Nat} {bs : List UInt8} (hb : Rd W W.heap.size A bs) (hn : n = bs.length) (hl : bs.length ≤ 1000) :
    Calls Tryd.prog 30 #[ptr p, .int .i64 ix, .int .i64 sub, .slice A n cb] W fun e w' => e = .returned (.int .u32 (s.poke ix sub bs)) ∧ PD w w' K p v q vL vV (s.upon (s.poke ix sub bs) ix sub bs) t ∧ Upd (fun g => v.ownBlock = some g) W w' := by
  subst hn
  exact (poke_any h.d h.i h.nd ix sub (cb := cb) hb hl h.tg).mono fun e w' ⟨h1, h2, h3⟩ => ⟨h1, h.chd h2 h3 (h.i.upon fun e => e), h3⟩
theorem PD.reset (h : PD w W K p v q vL vV s t) : Calls Tryd.prog 36 #[ptr p] W fun e w' => e = .returned (.tuple #[]) ∧ PD w w' K p v q vL vV s.reset t ∧ Upd (fun g => v.ownBlock = some g) W w' :=
  (reset_any h.d).mono fun e w' ⟨h1, h2, h3⟩ => ⟨h1, h.chd h2 h3 h.i.reset, h3⟩
theorem PD.rset (h : PD w W K p v q vL vV s t) (ix sub : Int) {A : Option Addr} {n cb : Nat} {bs : List UInt8} (hb : Rd W W.heap.size A bs) (hn : n = bs.length) (hl : bs.length ≤ 1000) :
    Calls Tryd.prog 28 #[ptr q, .int .i64 ix, .int .i64 sub, .slice A n cb] W fun e w' => e = .returned (.int .u32 (t.may ix sub bs)) ∧ PD w w' K p v q vL vV s (t.upon (t.may ix sub bs) ix sub bs) ∧ Upd (fun g => vV.ownBlock = some g) W w' := by
  subst hn
  exact (rset_any h.r h.nr ix sub (cb := cb) hb hl).mono fun e w' ⟨h1, h2, h3⟩ => ⟨h1, h.chr h2 h3, h3⟩
theorem PD.rmay (h : PD w W K p v q vL vV s t) (ix sub : Int) {A : Option Addr} {n cb : Nat} {bs : List UInt8} (hb : Rd W W.heap.size A bs) (hn : n = bs.length) (hl : bs.length ≤ 1000) :
    Calls Tryd.prog 35 #[ptr q, .int .i64 ix, .int .i64 sub, .slice A n cb] W fun e w' => e = .returned (.int .u32 (t.may ix sub bs)) ∧ Below W.heap.size W w' := by
  subst hn
  exact rmay_any h.r ix sub (cb := cb) hb hl
theorem PD.rpoke (h : PD w W K p v q vL vV s t) (ix sub : Int) {A : Option Addr} {n cb : Nat} {bs : List UInt8} (hb : Rd W W.heap.size A bs) (hn : n = bs.length) (hl : bs.length ≤ 1000) :
    Calls Tryd.prog 31 #[ptr q, .int .i64 ix, .int .i64 sub, .slice A n cb] W fun e w' => e = .returned (.int .u32 (t.poke ix sub bs)) ∧ PD w w' K p v q vL vV s (t.upon (t.poke ix sub bs) ix sub bs) ∧ Upd (fun g => vV.ownBlock = some g) W w' := by
  subst hn
  exact (rpoke_any h.r h.nr ix sub (cb := cb) hb hl).mono fun e w' ⟨h1, h2, h3⟩ => ⟨h1, h.chr h2 h3, h3⟩
theorem PD.rreset (h : PD w W K p v q vL vV s t) : Calls Tryd.prog 37 #[ptr q] W fun e w' => e = .returned (.tuple #[]) ∧ PD w w' K p v q vL vV s t.reset ∧ Upd (fun g => vV.ownBlock = some g) W w' :=
  (rreset_any h.r h.nr).mono fun e w' ⟨h1, h2, h3⟩ => ⟨h1, h.chr h2 h3, h3⟩
/-- The copy takes the dictionary's place, whatever is done to the old one then. -/
def CopyP (w W : World) (K : Nat → Prop) (p : Nat) (v : Value) (q : Nat) (vL vV : Value) (s t : Ds) (e : Ending) (w' : World) : Prop :=
  ∃ p' v', e = .returned (ptr p') ∧ PD w w' (fun g => K g ∨ v'.ownBlock = some g ∨ g = p') p v q vL vV s t ∧ HasD w' p' v' (DN (DN K vV) v) s ∧ w.heap.size ≤ p' ∧ (∀ g, v'.ownBlock = some g → w.heap.size ≤ g) ∧ Below W.heap.size W w'
theorem PD.copy (h : PD w W K p v q vL vV s t) : Calls Tryd.prog 38 #[ptr p] W (CopyP w W K p v q vL vV s t) := by
  refine (copy_any h.d h.nd).mono fun e w' ⟨p', v', h1, h2, h3, h4, h5⟩ => ⟨p', v', h1, ?_, h2, Nat.le_trans h.b.size h3, fun g hg => Nat.le_trans h.b.size (h4 g hg), h5⟩
  exact (h.lock h5).unlock fun g k => k.elim .inl fun k => .inr (k.elim (fun e => ⟨h4 g e, h2.vlt e⟩) fun e => ⟨by omega, by rw [e]; exact h2.lt⟩)
end
end Dic
end Go.Proofs.YtpdnfdpoebhjoaaDoor

namespace Go.Proofs.YtpdnfdpoebhjoaaDoor
namespace Dic
open Go.RowKit Mem Ent
set_option linter.unusedVariables false
set_option linter.unusedSimpArgs false
set_option maxRecDepth 100000

/-- Both side by side, the blocks K as they were in W0. -/
structure PK (w W0 : World) (K : Nat → Prop) (p : Nat) (v : Value) (q : Nat) (vL vV : Value) (s t : Ds) (W : World) : Prop where
  d : PD w W K p v q vL vV s t
  k : ∀ x, K x → W.heap[x]? = W0.heap[x]?
section
variable {w W W' W0 : World} {K : Nat → Prop} {p q : Nat} {v vL vV : Value} {s t s' t' : Ds}
theorem HasG.nkv (h : HasG W q vL vV K s) {g : Nat} (hg : vV.ownBlock = some g) : ¬ K g := by
  obtain ⟨xs, bs, h, _⟩ := h
  exact h.nkV g hg
theorem PK.next (h : PK w W0 K p v q vL vV s t W) (b : Below W.heap.size W W') : PK w W0 K p v q vL vV s t W' := ⟨h.d.next b, fun x hx => (b.block x (h.d.kl x hx).2).trans (h.k x hx)⟩
theorem PK.drew (h : PK w W0 K p v q vL vV s t W) : PK w W0 K p v q vL vV s t W.drew := h.next (below_drew W)
theorem PK.upv (h : PK w W0 K p v q vL vV s t W) (d : PD w W' K p v q vL vV s' t') (u : Upd (fun g => v.ownBlock = some g) W W') : PK w W0 K p v q vL vV s' t' W' :=
  ⟨d, fun x hx => (u.block x (h.d.kl x hx).2 fun e => h.d.d.np.2.2 x e (.inl hx)).trans (h.k x hx)⟩
theorem PK.upV (h : PK w W0 K p v q vL vV s t W) (d : PD w W' K p v q vL vV s' t') (u : Upd (fun g => vV.ownBlock = some g) W W') : PK w W0 K p v q vL vV s' t' W' :=
  ⟨d, fun x hx => (u.block x (h.d.kl x hx).2 fun e => h.d.r.nkv e (.inl hx)).trans (h.k x hx)⟩
theorem PK.rd (h : PK w W0 K p v q vL vV s t W) {A : Option Addr} {bs : List UInt8} (hB : RdB K W0 A bs) : Rd W W.heap.size A bs := (hB.keep fun g hg => h.k g hg).rd fun g hg => (h.d.kl g hg).2
theorem PK.arg (h : PK w W0 K p v q vL vV s t W) {A : Option Addr} {bs : List UInt8} (hb : Rd w w.heap.size A bs) : Rd W W.heap.size A bs := (hb.below h.d.b).mono h.d.b.size
theorem PK.set (h : PK w W0 K p v q vL vV s t W) (ix sub : Int) {A : Option Addr} {n cb : Nat} {bs : List UInt8} (hB : RdB K W0 A bs) (hn : n = bs.length) (hl : bs.length ≤ 1000) :
    Calls Tryd.prog 18 #[ptr p, .int .i64 ix, .int .i64 sub, .slice A n cb] W fun e w' => e = .returned (.int .u32 (s.may ix sub bs)) ∧ PK w W0 K p v q vL vV (s.upon (s.may ix sub bs) ix sub bs) t w' :=
  (h.d.set ix sub (cb := cb) (h.rd hB) hn hl).mono fun e w' ⟨h1, h2, h3⟩ => ⟨h1, h.upv h2 h3⟩
theorem PK.poke (h : PK w W0 K p v q vL vV s t W) (ix sub : Int) {A : Option Addr} {n cb : Nat} {bs : List UInt8} (hB : RdB K W0 A bs) (hn : n = bs.length) (hl : bs.length ≤ 1000) :
    Calls Tryd.prog 30 #[ptr p, .int .i64 ix, .int .i64 sub, .slice A n cb] W fun e w' => e = .returned (.int .u32 (s.poke ix sub bs)) ∧ PK w W0 K p v q vL vV (s.upon (s.poke ix sub bs) ix sub bs) t w' :=
  (h.d.poke ix sub (cb := cb) (h.rd hB) hn hl).mono fun e w' ⟨h1, h2, h3⟩ => ⟨h1, h.upv h2 h3⟩
theorem PK.may (h : PK w W0 K p v q vL vV s t W) (ix sub : Int) {A : Option Addr} {n cb : Nat} {bs : List UInt8} (hB : RdB K W0 A bs) (hn : n = bs.length) (hl : bs.length ≤ 1000) :
    Calls Tryd.prog 34 #[ptr p, .int .i64 ix, .int .i64 sub, .slice A n cb] W fun e w' => e = .returned (.int .u32 (s.may ix sub bs)) ∧ PK w W0 K p v q vL vV s t w' :=
  (h.d.may ix sub (cb := cb) (h.rd hB) hn hl).mono fun e w' ⟨h1, h2⟩ => ⟨h1, h.next h2⟩
theorem PK.reset (h : PK w W0 K p v q vL vV s t W) : Calls Tryd.prog 36 #[ptr p] W fun e w' => e = .returned (.tuple #[]) ∧ PK w W0 K p v q vL vV s.reset t w' :=
  h.d.reset.mono fun e w' ⟨h1, h2, h3⟩ => ⟨h1, h.upv h2 h3⟩
theorem PK.rset (h : PK w W0 K p v q vL vV s t W) (ix sub : Int) {A : Option Addr} {n cb : Nat} {bs : List UInt8} (hb : Rd w w.heap.size A bs) (hn : n = bs.length) (hl : bs.length ≤ 1000) :
    Calls Tryd.prog 28 #[ptr q, .int .i64 ix, .int .i64 sub, .slice A n cb] W fun e w' => e = .returned (.int .u32 (t.may ix sub bs)) ∧ PK w W0 K p v q vL vV s (t.upon (t.may ix sub bs) ix sub bs) w' :=
  (h.d.rset ix sub (cb := cb) (h.arg hb) hn hl).mono fun e w' ⟨h1, h2, h3⟩ => ⟨h1, h.upV h2 h3⟩
theorem PK.rpoke (h : PK w W0 K p v q vL vV s t W) (ix sub : Int) {A : Option Addr} {n cb : Nat} {bs : List UInt8} (hb : Rd w w.heap.size A bs) (hn : n = bs.length) (hl : bs.length ≤ 1000) :
    Calls Tryd.prog 31 #[ptr q, .int .i64 ix, .int .i64 sub, .slice A n cb] W fun e w' => e = .returned (.int .u32 (t.poke ix sub bs)) ∧ PK w W0 K p v q vL vV s (t.upon (t.poke ix sub bs) ix sub bs) w' :=
  (h.d.rpoke ix sub (cb := cb) (h.arg hb) hn hl).mono fun e w' ⟨h1, h2, h3⟩ => ⟨h1, h.upV h2 h3⟩
theorem PK.rmay (h : PK w W0 K p v q vL vV s t W) (ix sub : Int) {A : Option Addr} {n cb : Nat} {bs : List UInt8} (hb : Rd w w.heap.size A bs) (hn : n = bs.length) (hl : bs.length ≤ 1000) :
    Calls Tryd.prog 35 #[ptr q, .int .i64 ix, .int .i64 sub, .slice A n cb] W fun e w' => e = .returned (.int .u32 (t.may ix sub bs)) ∧ PK w W0 K p v q vL vV s t w' :=
  (h.d.rmay ix sub (cb := cb) (h.arg hb) hn hl).mono fun e w' ⟨h1, h2⟩ => ⟨h1, h.next h2⟩
theorem PK.rreset (h : PK w W0 K p v q vL vV s t W) : Calls Tryd.prog 37 #[ptr q] W fun e w' => e = .returned (.tuple #[]) ∧ PK w W0 K p v q vL vV s t.reset w' :=
  h.d.rreset.mono fun e w' ⟨h1, h2, h3⟩ => ⟨h1, h.upV h2 h3⟩
def GetK (w W0 : World) (K : Nat → Prop) (p : Nat) (v : Value) (q : Nat) (vL vV : Value) (s t : Ds) (W : World) (bs : List UInt8) (u : Value) (e : Ending) (w' : World) : Prop :=
  ∃ x, e = .returned (.tuple #[x, u]) ∧ Own w' W.heap.size YT x bs ∧ PK w W0 K p v q vL vV s t w' ∧ Below W.heap.size W w'
theorem PK.get (h : PK w W0 K p v q vL vV s t W) (ix sub : Int) : Calls Tryd.prog 19 #[ptr p, .int .i64 ix, .int .i64 sub] W (GetK w W0 K p v q vL vV s t W (s.get ix sub).1 (.int .u32 (s.get ix sub).2)) :=
  (get_any h.d.d h.d.i ix sub).mono fun e w' ⟨x, h1, h2, h3⟩ => ⟨x, h1, h2, h.next h3, h3⟩
theorem PK.peek (h : PK w W0 K p v q vL vV s t W) (ix sub : Int) : Calls Tryd.prog 32 #[ptr p, .int .i64 ix, .int .i64 sub] W (GetK w W0 K p v q vL vV s t W (s.peek ix sub).1 (.bool (s.peek ix sub).2)) :=
  (peek_any h.d.d h.d.i ix sub).mono fun e w' ⟨x, h1, h2, h3⟩ => ⟨x, h1, h2, h.next h3, h3⟩
theorem PK.rget (h : PK w W0 K p v q vL vV s t W) (ix sub : Int) : Calls Tryd.prog 29 #[ptr q, .int .i64 ix, .int .i64 sub] W (GetK w W0 K p v q vL vV s t W (t.get ix sub).1 (.int .u32 (t.get ix sub).2)) :=
  (rget_any h.d.r ix sub).mono fun e w' ⟨x, h1, h2, h3⟩ => ⟨x, h1, h2, h.next h3, h3⟩
theorem PK.rpeek (h : PK w W0 K p v q vL vV s t W) (ix sub : Int) : Calls Tryd.prog 33 #[ptr q, .int .i64 ix, .int .i64 sub] W (GetK w W0 K p v q vL vV s t W (t.peek ix sub).1 (.bool (t.peek ix sub).2)) :=
  (rpeek_any h.d.r ix sub).mono fun e w' ⟨x, h1, h2, h3⟩ => ⟨x, h1, h2, h.next h3, h3⟩
theorem PK.find (h : PK w W0 K p v q vL vV s t W) (ix sub : Int) : Calls Tryd.prog 39 #[ptr p, .int .i64 ix, .int .i64 sub] W fun e w' => e = .returned (.tuple #[.int .i64 (findA s.l ix sub).1, .bool (findA s.l ix sub).2]) ∧ PK w W0 K p v q vL vV s t w' :=
  (finds_any h.d.d h.d.i ix sub).mono fun e w' ⟨h1, h2⟩ => ⟨h1, h.next h2⟩
theorem PK.rfind (h : PK w W0 K p v q vL vV s t W) (ix sub : Int) : Calls Tryd.prog 40 #[ptr q, .int .i64 ix, .int .i64 sub] W fun e w' => e = .returned (.int .i64 (fnd t.l ix sub)) ∧ W = w' := h.d.r.find ix sub
/-- What does ends with. -/
def DoesEnds (w W : World) (K : Nat → Prop) (q : Nat) (vL vV : Value) (n : Nat) (e : Ending) (w' : World) : Prop :=
  ∃ p' v' s', e = .returned (.tuple #[ptr p', .bool true]) ∧ PK w W K p' v' q vL vV s' s' w' ∧ s'.l.length = n
/-- The law's box apart, too. -/
abbrev KB (K : Nat → Prop) (W : World) (g : Nat) : Prop := K g ∨ g = W.heap.size
theorem PD.box (h : PD w W K p v q vL vV s t) (o : Obj) : PK w (W.alloc o) (KB K W) p v q vL vV s t (W.alloc o) :=
  ⟨(h.lock (one_b W o)).unlock fun g k => k.elim .inl fun e => .inr ⟨by omega, by simp; omega⟩, fun _ _ => rfl⟩
theorem PK.unbox {o : Obj} {n : Nat} (hk : ∀ g, K g → g < W.heap.size) (h : PK w (W.alloc o) (KB K W) p v q vL vV s s W') (hn : s.l.length = n) : DoesEnds w W K q vL vV n (.returned (.tuple #[ptr p, .bool true])) W' :=
  ⟨p, v, s, rfl, ⟨h.d.unlock fun g k => .inl k, fun x hx => (h.k x (.inl hx)).trans (Below.heap_alloc W o x (hk x hx))⟩, hn⟩
theorem PK.cells {a b c d : Value} {t0 : TypeId} (h : PK w (W.alloc (.cells #[a, b, c, d] t0)) (KB K W) p v q vL vV s t W') : W'.cell? ⟨W.heap.size, 0, none⟩ = some a ∧ W'.cell? ⟨W.heap.size, 1, none⟩ = some b ∧ W'.cell? ⟨W.heap.size, 2, none⟩ = some c ∧ W'.cell? ⟨W.heap.size, 3, none⟩ = some d :=
  have e := (h.k W.heap.size (.inr rfl)).trans (heap_alloc_new W (.cells #[a, b, c, d] t0))
  ⟨by simp [World.cell?, e], by simp [World.cell?, e], by simp [World.cell?, e], by simp [World.cell?, e]⟩
theorem rdB_box {A : Option Addr} {bs : List UInt8} {o : Obj} (hk : ∀ g, K g → g < W.heap.size) (h : RdB K W A bs) : RdB (KB K W) (W.alloc o) A bs :=
  (h.keep fun g hg => Below.heap_alloc W o g (hk g hg)).mono fun g hg => .inl hg
theorem upon_len (s : Ds) (C ix sub : Int) (bs : List UInt8) : (s.upon C ix sub bs).l.length = s.l.length := by rw [upon_l]
theorem HasD.upv {N : Nat → Prop} {p' : Nat} {v' : Value} (c : HasD W p' v' (DN N v) s) (u : Upd (fun g => v.ownBlock = some g) W W') : HasD W' p' v' (DN N v) s :=
  c.keep u.size (fun g hg hn => u.block g hg fun e => hn (.inr e)) (fun _ _ n => n)
/-- The copy takes the dictionary's place. -/
theorem PK.turn {w5 w7 : World} {p' : Nat} {v' : Value} {s7 : Ds} (h : PK w w5 (fun g => KB K W g ∨ v'.ownBlock = some g ∨ g = p') p v q vL vV s7 t w7) (i : Inv t) (c : HasD w7 p' v' (DN (DN (KB K W) vV) v) t) (hv : ∀ g, v'.ownBlock = some g → w.heap.size ≤ g) (hk : ∀ x, K x → w5.heap[x]? = W.heap[x]?) :
    DoesEnds w W K q vL vV t.l.length (.returned (.tuple #[ptr p', .bool true])) w7 :=
  ⟨p', v', t, rfl, ⟨⟨h.d.b, h.d.g, c.keep (Nat.le_refl _) (fun _ _ _ => rfl) (fun g _ n => .inl (n.elim (fun k => .inl (.inl k)) .inr)), h.d.r.keep (Nat.le_refl _) (fun _ _ _ => rfl) (fun g _ n => .inl (n.elim (fun k => .inl (.inl k)) fun e => .inr (.inl e))), i, fun g k => h.d.kl g (.inl (.inl k)), hv, h.d.gV⟩, fun x hx => (h.k x (.inl (.inl hx))).trans (hk x hx)⟩, rfl⟩
theorem vat_short {N : Nat → Prop} (h : HasD W p v N s) (k : Nat) : (vat s.v k).length ≤ 1000 := by
  obtain ⟨rs, h, e1, e2⟩ := h
  rw [← e2, vat_map]
  rcases Nat.lt_or_ge k rs.length with hk | hk
  · exact (h.ok _ (getD_mem hk)).2
  · simp [List.getD_eq_getElem?_getD, List.getElem?_eq_none hk, Rv.zero]
theorem get_short {N : Nat → Prop} (h : HasD W p v N s) (ix sub : Int) : (s.get ix sub).1.length ≤ 1099511627776 := by
  have := vat_short h (fnd s.l ix sub).toNat
  unfold Ds.get
  split
  · simp
  · split
    · simp
    · show (vat s.v (fnd s.l ix sub).toNat).length ≤ _
      omega
theorem peek_short {N : Nat → Prop} (h : HasD W p v N s) (ix sub : Int) : (s.peek ix sub).1.length ≤ 1099511627776 := by
  have := vat_short h (fnd s.l ix sub).toNat
  unfold Ds.peek
  split
  · simp
  · show (vat s.v (fnd s.l ix sub).toNat).length ≤ _
    omega

set_option maxHeartbeats 4000000 in
theorem does_0 (h : PD w W K p v q vL vV s s) (ix sub : Int) {Ao : Option Addr} {co : Nat} {bs : List UInt8} (hb : Rd w w.heap.size Ao bs) {A : Option Addr} {cb : Nat} (hB : RdB K W A bs) (hl : bs.length ≤ 1000) :
    Calls Tryd.prog 12 #[ptr p, ptr q, .agg #[.int .i64 0, .int .i64 ix, .int .i64 sub, .slice Ao bs.length co], .slice A bs.length cb] W (DoesEnds w W K q vL vV s.l.length) := by
  have hk := Lib.hid (fun g k => (h.kl g k).2)
  have P0 := Lib.hid (h.box (.cells #[.int .i64 0, .int .i64 ix, .int .i64 sub, .slice Ao bs.length co] 40))
  have RB := Lib.hid (rdB_box (o := (.cells #[.int .i64 0, .int .i64 ix, .int .i64 sub, .slice Ao bs.length co] 40)) hk.out hB)
  have HB := Lib.hid hb
  obtain ⟨x0, x1, x2, x3⟩ := P0.out.cells
  clear h hb hB
  have ST := Lib.hid (fun W1 t (P : PK w (W.alloc (.cells #[.int .i64 0, .int .i64 ix, .int .i64 sub, .slice Ao bs.length co] 40)) (KB K W) p v q vL vV s t W1) => P.set ix sub (cb := cb) (n := bs.length) RB.out rfl hl)
  have RS := Lib.hid (fun W1 s1 (P : PK w (W.alloc (.cells #[.int .i64 0, .int .i64 ix, .int .i64 sub, .slice Ao bs.length co] 40)) (KB K W) p v q vL vV s1 s W1) => P.rset ix sub (cb := co) (n := bs.length) HB.out rfl hl)
  have UL := Lib.hid (upon_len s (s.may ix sub bs) ix sub bs)
  generalize s.may ix sub bs = C at *
  generalize s.upon C ix sub bs = s2 at *
  go_enter Tryd.func12, Tryd.ntmps12
  go_wp2_with fail
  go_region_held3 (fun w' => w'.cell? ⟨W.heap.size, 1, none⟩ = some (.int .i64 ix) ∧ w'.cell? ⟨W.heap.size, 2, none⟩ = some (.int .i64 sub) ∧ w'.cell? ⟨W.heap.size, 3, none⟩ = some (.slice Ao bs.length co))
    (first | (obtain ⟨z0, z1, z2, z3⟩ := P6.out.cells; first | exact ⟨z1, z2, z3⟩ | exact z1 | exact z2 | exact z3) | (obtain ⟨z0, z1, z2, z3⟩ := P5.out.cells; first | exact ⟨z1, z2, z3⟩ | exact z1 | exact z2 | exact z3) | go_keep)
    (first
    | (go_at_call 18; refine (ST.out _ _ P0.out.drew).mono ?_; rintro e w5 ⟨rfl, p5⟩; have P5 := Lib.hid p5; clear p5)
    | (go_at_call 28; refine (RS.out _ _ P5.out).mono ?_; rintro e w6 ⟨rfl, p6⟩; have P6 := Lib.hid p6; clear p6))
  all_goals
    clear x0 x1 x2 x3
    go_wp2_with fail
    go_ret2
    exact P6.out.unbox hk.out UL.out

set_option maxHeartbeats 4000000 in
theorem does_2 (h : PD w W K p v q vL vV s s) (ix sub : Int) {Ao : Option Addr} {co : Nat} {bs : List UInt8} (hb : Rd w w.heap.size Ao bs) {A : Option Addr} {cb : Nat} (hB : RdB K W A bs) (hl : bs.length ≤ 1000) :
    Calls Tryd.prog 12 #[ptr p, ptr q, .agg #[.int .i64 2, .int .i64 ix, .int .i64 sub, .slice Ao bs.length co], .slice A bs.length cb] W (DoesEnds w W K q vL vV s.l.length) := by
  have hk := Lib.hid (fun g k => (h.kl g k).2)
  have P0 := Lib.hid (h.box (.cells #[.int .i64 2, .int .i64 ix, .int .i64 sub, .slice Ao bs.length co] 40))
  have RB := Lib.hid (rdB_box (o := (.cells #[.int .i64 2, .int .i64 ix, .int .i64 sub, .slice Ao bs.length co] 40)) hk.out hB)
  have HB := Lib.hid hb
  obtain ⟨x0, x1, x2, x3⟩ := P0.out.cells
  clear h hb hB
  have ST := Lib.hid (fun W1 t (P : PK w (W.alloc (.cells #[.int .i64 2, .int .i64 ix, .int .i64 sub, .slice Ao bs.length co] 40)) (KB K W) p v q vL vV s t W1) => P.poke ix sub (cb := cb) (n := bs.length) RB.out rfl hl)
  have RS := Lib.hid (fun W1 s1 (P : PK w (W.alloc (.cells #[.int .i64 2, .int .i64 ix, .int .i64 sub, .slice Ao bs.length co] 40)) (KB K W) p v q vL vV s1 s W1) => P.rpoke ix sub (cb := co) (n := bs.length) HB.out rfl hl)
  have UL := Lib.hid (upon_len s (s.poke ix sub bs) ix sub bs)
  generalize s.poke ix sub bs = C at *
  generalize s.upon C ix sub bs = s2 at *
  go_enter Tryd.func12, Tryd.ntmps12
  go_wp2_with fail
  go_region_held3 (fun w' => w'.cell? ⟨W.heap.size, 1, none⟩ = some (.int .i64 ix) ∧ w'.cell? ⟨W.heap.size, 2, none⟩ = some (.int .i64 sub) ∧ w'.cell? ⟨W.heap.size, 3, none⟩ = some (.slice Ao bs.length co))
    (first | (obtain ⟨z0, z1, z2, z3⟩ := P6.out.cells; first | exact ⟨z1, z2, z3⟩ | exact z1 | exact z2 | exact z3) | (obtain ⟨z0, z1, z2, z3⟩ := P5.out.cells; first | exact ⟨z1, z2, z3⟩ | exact z1 | exact z2 | exact z3) | go_keep)
    (first
    | (go_at_call 30; refine (ST.out _ _ P0.out.drew).mono ?_; rintro e w5 ⟨rfl, p5⟩; have P5 := Lib.hid p5; clear p5)
    | (go_at_call 31; refine (RS.out _ _ P5.out).mono ?_; rintro e w6 ⟨rfl, p6⟩; have P6 := Lib.hid p6; clear p6))
  all_goals
    clear x0 x1 x2 x3
    go_wp2_with fail
    go_ret2
    exact P6.out.unbox hk.out UL.out

set_option maxHeartbeats 4000000 in
theorem does_4 (h : PD w W K p v q vL vV s s) (ix sub : Int) {Ao : Option Addr} {co : Nat} {bs : List UInt8} (hb : Rd w w.heap.size Ao bs) {A : Option Addr} {cb : Nat} (hB : RdB K W A bs) (hl : bs.length ≤ 1000) :
    Calls Tryd.prog 12 #[ptr p, ptr q, .agg #[.int .i64 4, .int .i64 ix, .int .i64 sub, .slice Ao bs.length co], .slice A bs.length cb] W (DoesEnds w W K q vL vV s.l.length) := by
  have hk := Lib.hid (fun g k => (h.kl g k).2)
  have P0 := Lib.hid (h.box (.cells #[.int .i64 4, .int .i64 ix, .int .i64 sub, .slice Ao bs.length co] 40))
  have RB := Lib.hid (rdB_box (o := (.cells #[.int .i64 4, .int .i64 ix, .int .i64 sub, .slice Ao bs.length co] 40)) hk.out hB)
  have HB := Lib.hid hb
  obtain ⟨x0, x1, x2, x3⟩ := P0.out.cells
  clear h hb hB
  have ST := Lib.hid (fun W1 t (P : PK w (W.alloc (.cells #[.int .i64 4, .int .i64 ix, .int .i64 sub, .slice Ao bs.length co] 40)) (KB K W) p v q vL vV s t W1) => P.may ix sub (cb := cb) (n := bs.length) RB.out rfl hl)
  have RS := Lib.hid (fun W1 s1 (P : PK w (W.alloc (.cells #[.int .i64 4, .int .i64 ix, .int .i64 sub, .slice Ao bs.length co] 40)) (KB K W) p v q vL vV s1 s W1) => P.rmay ix sub (cb := co) (n := bs.length) HB.out rfl hl)
  generalize s.may ix sub bs = C at *
  go_enter Tryd.func12, Tryd.ntmps12
  go_wp2_with fail
  go_region_held3 (fun w' => w'.cell? ⟨W.heap.size, 1, none⟩ = some (.int .i64 ix) ∧ w'.cell? ⟨W.heap.size, 2, none⟩ = some (.int .i64 sub) ∧ w'.cell? ⟨W.heap.size, 3, none⟩ = some (.slice Ao bs.length co))
    (first | (obtain ⟨z0, z1, z2, z3⟩ := P6.out.cells; first | exact ⟨z1, z2, z3⟩ | exact z1 | exact z2 | exact z3) | (obtain ⟨z0, z1, z2, z3⟩ := P5.out.cells; first | exact ⟨z1, z2, z3⟩ | exact z1 | exact z2 | exact z3) | go_keep)
    (first
    | (go_at_call 34; refine (ST.out _ _ P0.out.drew).mono ?_; rintro e w5 ⟨rfl, p5⟩; have P5 := Lib.hid p5; clear p5)
    | (go_at_call 35; refine (RS.out _ _ P5.out).mono ?_; rintro e w6 ⟨rfl, p6⟩; have P6 := Lib.hid p6; clear p6))
  all_goals
    clear x0 x1 x2 x3
    go_wp2_with fail
    go_ret2
    exact P6.out.unbox hk.out rfl

set_option maxHeartbeats 4000000 in
theorem does_5 (h : PD w W K p v q vL vV s s) (ix sub : Int) {Ao : Option Addr} {co : Nat} {bs : List UInt8} (hb : Rd w w.heap.size Ao bs) {A : Option Addr} {cb : Nat} (hB : RdB K W A bs) (hl : bs.length ≤ 1000) :
    Calls Tryd.prog 12 #[ptr p, ptr q, .agg #[.int .i64 5, .int .i64 ix, .int .i64 sub, .slice Ao bs.length co], .slice A bs.length cb] W (DoesEnds w W K q vL vV s.l.length) := by
  have hk := Lib.hid (fun g k => (h.kl g k).2)
  have P0 := Lib.hid (h.box (.cells #[.int .i64 5, .int .i64 ix, .int .i64 sub, .slice Ao bs.length co] 40))
  have RB := Lib.hid (rdB_box (o := (.cells #[.int .i64 5, .int .i64 ix, .int .i64 sub, .slice Ao bs.length co] 40)) hk.out hB)
  have HB := Lib.hid hb
  obtain ⟨x0, x1, x2, x3⟩ := P0.out.cells
  clear h hb hB
  have R1 := Lib.hid P0.out.reset
  go_enter Tryd.func12, Tryd.ntmps12
  go_wp2_with fail
  clear x0 x1 x2 x3
  refine R1.out.mono ?_
  rintro e w5 ⟨rfl, p5⟩
  have R2 := Lib.hid p5.rreset
  clear p5 R1
  go_wp2_with fail
  refine R2.out.mono ?_
  rintro e w6 ⟨rfl, p6⟩
  have P6 := Lib.hid p6
  clear p6 R2
  go_wp2_with fail
  go_ret2
  exact P6.out.unbox hk.out (by simp [Ds.reset])

set_option maxHeartbeats 4000000 in
theorem does_1 (h : PD w W K p v q vL vV s s) (ix sub : Int) {Ao : Option Addr} {co : Nat} {bs : List UInt8} (hb : Rd w w.heap.size Ao bs) {A : Option Addr} {cb : Nat} (hB : RdB K W A bs) (hl : bs.length ≤ 1000) :
    Calls Tryd.prog 12 #[ptr p, ptr q, .agg #[.int .i64 1, .int .i64 ix, .int .i64 sub, .slice Ao bs.length co], .slice A bs.length cb] W (DoesEnds w W K q vL vV s.l.length) := by
  have hk := Lib.hid (fun g k => (h.kl g k).2)
  have P0 := Lib.hid (h.box (.cells #[.int .i64 1, .int .i64 ix, .int .i64 sub, .slice Ao bs.length co] 40))
  have RB := Lib.hid (rdB_box (o := (.cells #[.int .i64 1, .int .i64 ix, .int .i64 sub, .slice Ao bs.length co] 40)) hk.out hB)
  have HB := Lib.hid hb
  obtain ⟨x0, x1, x2, x3⟩ := P0.out.cells
  clear h hb hB
  have G1 := Lib.hid (P0.out.get ix sub)
  have G2 := Lib.hid (fun W1 (P : PK w (W.alloc (.cells #[.int .i64 1, .int .i64 ix, .int .i64 sub, .slice Ao bs.length co] 40)) (KB K W) p v q vL vV s s W1) => P.rget ix sub)
  have hld : (s.get ix sub).1.length ≤ 1099511627776 := get_short P0.out.d.d ix sub
  generalize (s.get ix sub).1 = d at *
  generalize (s.get ix sub).2 = C at *
  go_enter Tryd.func12, Tryd.ntmps12
  go_wp2_with fail
  clear x0 x1 x2 x3
  refine G1.out.mono ?_
  rintro e w5 ⟨x, rfl, o5, p5, b5⟩
  obtain ⟨A5, c5, rfl, r5⟩ := o5.form
  have G3 := Lib.hid (G2.out w5 p5)
  have O5 := Lib.hid o5
  have R5 := Lib.hid r5
  have B5 := Lib.hid b5
  obtain ⟨y0, y1, y2, y3⟩ := p5.cells
  clear o5 r5 p5 b5 G1 G2
  go_wp2_with fail
  refine G3.out.mono ?_
  rintro e w6 ⟨x6, rfl, o6, p6, b6⟩
  obtain ⟨A6, c6, rfl, r6⟩ := o6.form
  have B6 := Lib.hid (B5.out.trans (b6.mono B5.out.size))
  have cv1 := conv_of ((R5.out.below b6).mono b6.size) d.length c5 rfl d rfl
  have cv2 := conv_of r6 d.length c6 rfl d rfl
  have SPO := Lib.hid (spoil_any (.slice A5 d.length c5) _ d w6 (own_below O5.out b6) B6.out.size hld)
  clear y0 y1 y2 y3 o6 p6 b6 r6 G3 O5 R5 B5
  go_wp2_with fail
  refine SPO.out.mono ?_
  rintro e w7 ⟨rfl, b7, _⟩
  have P7 := Lib.hid (P0.out.next (B6.out.trans b7))
  clear b7 SPO B6 cv1 cv2
  go_wp2_with fail
  go_ret2
  exact P7.out.unbox hk.out rfl

set_option maxHeartbeats 4000000 in
theorem does_3 (h : PD w W K p v q vL vV s s) (ix sub : Int) {Ao : Option Addr} {co : Nat} {bs : List UInt8} (hb : Rd w w.heap.size Ao bs) {A : Option Addr} {cb : Nat} (hB : RdB K W A bs) (hl : bs.length ≤ 1000) :
    Calls Tryd.prog 12 #[ptr p, ptr q, .agg #[.int .i64 3, .int .i64 ix, .int .i64 sub, .slice Ao bs.length co], .slice A bs.length cb] W (DoesEnds w W K q vL vV s.l.length) := by
  have hk := Lib.hid (fun g k => (h.kl g k).2)
  have P0 := Lib.hid (h.box (.cells #[.int .i64 3, .int .i64 ix, .int .i64 sub, .slice Ao bs.length co] 40))
  have RB := Lib.hid (rdB_box (o := (.cells #[.int .i64 3, .int .i64 ix, .int .i64 sub, .slice Ao bs.length co] 40)) hk.out hB)
  have HB := Lib.hid hb
  obtain ⟨x0, x1, x2, x3⟩ := P0.out.cells
  clear h hb hB
  have G1 := Lib.hid (P0.out.peek ix sub)
  have G2 := Lib.hid (fun W1 (P : PK w (W.alloc (.cells #[.int .i64 3, .int .i64 ix, .int .i64 sub, .slice Ao bs.length co] 40)) (KB K W) p v q vL vV s s W1) => P.rpeek ix sub)
  have hld : (s.peek ix sub).1.length ≤ 1099511627776 := peek_short P0.out.d.d ix sub
  generalize (s.peek ix sub).1 = d at *
  generalize (s.peek ix sub).2 = C at *
  go_enter Tryd.func12, Tryd.ntmps12
  go_wp2_with fail
  clear x0 x1 x2 x3
  refine G1.out.mono ?_
  rintro e w5 ⟨x, rfl, o5, p5, b5⟩
  obtain ⟨A5, c5, rfl, r5⟩ := o5.form
  have G3 := Lib.hid (G2.out w5 p5)
  have O5 := Lib.hid o5
  have R5 := Lib.hid r5
  have B5 := Lib.hid b5
  obtain ⟨y0, y1, y2, y3⟩ := p5.cells
  clear o5 r5 p5 b5 G1 G2
  go_wp2_with fail
  refine G3.out.mono ?_
  rintro e w6 ⟨x6, rfl, o6, p6, b6⟩
  obtain ⟨A6, c6, rfl, r6⟩ := o6.form
  have B6 := Lib.hid (B5.out.trans (b6.mono B5.out.size))
  have cv1 := conv_of ((R5.out.below b6).mono b6.size) d.length c5 rfl d rfl
  have cv2 := conv_of r6 d.length c6 rfl d rfl
  have SPO := Lib.hid (spoil_any (.slice A5 d.length c5) _ d w6 (own_below O5.out b6) B6.out.size hld)
  clear y0 y1 y2 y3 o6 p6 b6 r6 G3 O5 R5 B5
  go_wp2_with fail
  refine SPO.out.mono ?_
  rintro e w7 ⟨rfl, b7, _⟩
  have P7 := Lib.hid (P0.out.next (B6.out.trans b7))
  clear b7 SPO B6 cv1 cv2
  go_wp2_with fail
  go_ret2
  exact P7.out.unbox hk.out rfl

set_option maxHeartbeats 4000000 in
theorem does_6 (h : PD w W K p v q vL vV s s) (ix sub : Int) {Ao : Option Addr} {co : Nat} {bs : List UInt8} (hb : Rd w w.heap.size Ao bs) {A : Option Addr} {cb : Nat} (hB : RdB K W A bs) (hl : bs.length ≤ 1000) :
    Calls Tryd.prog 12 #[ptr p, ptr q, .agg #[.int .i64 6, .int .i64 ix, .int .i64 sub, .slice Ao bs.length co], .slice A bs.length cb] W (DoesEnds w W K q vL vV s.l.length) := by
  have hk := Lib.hid (fun g k => (h.kl g k).2)
  have P0 := Lib.hid (h.box (.cells #[.int .i64 6, .int .i64 ix, .int .i64 sub, .slice Ao bs.length co] 40))
  have RB := Lib.hid (rdB_box (o := (.cells #[.int .i64 6, .int .i64 ix, .int .i64 sub, .slice Ao bs.length co] 40)) hk.out hB)
  have HB := Lib.hid hb
  obtain ⟨x0, x1, x2, x3⟩ := P0.out.cells
  clear h hb hB
  have R1 := Lib.hid P0.out.d.copy
  go_enter Tryd.func12, Tryd.ntmps12
  go_wp2_with fail
  refine R1.out.mono ?_
  rintro e w5 ⟨p', v', rfl, p5, c5, hp, hv, b5⟩
  have P5 := Lib.hid (show PK w w5 _ p v q vL vV s s w5 from ⟨p5, fun _ _ => rfl⟩)
  have C5 := Lib.hid c5
  have HV := Lib.hid hv
  have B5 := Lib.hid b5
  have RB5 := Lib.hid ((RB.out.keep fun g hg => b5.block g (P0.out.d.kl g hg).2).mono (G' := fun g => KB K W g ∨ v'.ownBlock = some g ∨ g = p') fun g hg => .inl hg)
  have R2 := Lib.hid p5.reset
  clear x0 x1 x2 x3 p5 c5 hp hv b5 R1
  go_wp2_with fail
  refine R2.out.mono ?_
  rintro e w6 ⟨rfl, p6, u6⟩
  have P6 := Lib.hid (P5.out.upv p6 u6)
  have C6 := Lib.hid (C5.out.upv u6)
  have R3 := Lib.hid (p6.poke ix sub (cb := cb) (n := bs.length) (P6.out.rd RB5.out) rfl hl)
  obtain ⟨y0, y1, y2, y3⟩ : _ ∧ _ ∧ _ ∧ _ := PK.cells (W := W) ⟨P6.out.d.unlock fun g k => .inl k, fun x hx => (P6.out.k x (.inl hx)).trans (B5.out.block x (P0.out.d.kl x hx).2)⟩
  clear p6 u6 R2 C5
  go_wp2_with fail
  refine R3.out.mono ?_
  rintro e w7 ⟨rfl, p7, u7⟩
  have P7 := Lib.hid (P6.out.upv p7 u7)
  have C7 := Lib.hid (C6.out.upv u7)
  clear p7 u7 R3 C6 P6 y0 y1 y2 y3
  go_wp2_with fail
  go_ret2
  exact P7.out.turn P5.out.d.i C7.out HV.out (fun x hx => (B5.out.block x (P0.out.d.kl x (.inl hx)).2).trans (Below.heap_alloc W _ x (hk.out x hx)))

set_option maxHeartbeats 4000000 in
theorem does_9 (h : PD w W K p v q vL vV s s) (k : Int) (hk0 : k ≠ 0) (hk1 : k ≠ 1) (hk2 : k ≠ 2) (hk3 : k ≠ 3) (hk4 : k ≠ 4) (hk5 : k ≠ 5) (hk6 : k ≠ 6) (ix sub : Int) {Ao : Option Addr} {co : Nat} {bs : List UInt8} (hb : Rd w w.heap.size Ao bs) {A : Option Addr} {cb : Nat} (hB : RdB K W A bs) (hl : bs.length ≤ 1000) :
    Calls Tryd.prog 12 #[ptr p, ptr q, .agg #[.int .i64 k, .int .i64 ix, .int .i64 sub, .slice Ao bs.length co], .slice A bs.length cb] W (DoesEnds w W K q vL vV s.l.length) := by
  have hk := Lib.hid (fun g k => (h.kl g k).2)
  have P0 := Lib.hid (h.box (.cells #[.int .i64 k, .int .i64 ix, .int .i64 sub, .slice Ao bs.length co] 40))
  have RB := Lib.hid (rdB_box (o := (.cells #[.int .i64 k, .int .i64 ix, .int .i64 sub, .slice Ao bs.length co] 40)) hk.out hB)
  have HB := Lib.hid hb
  obtain ⟨x0, x1, x2, x3⟩ := P0.out.cells
  clear h hb hB
  have b0 : (k == 0) = false := by simpa using hk0
  have b1 : (k == 1) = false := by simpa using hk1
  have b2 : (k == 2) = false := by simpa using hk2
  have b3 : (k == 3) = false := by simpa using hk3
  have b4 : (k == 4) = false := by simpa using hk4
  have b5 : (k == 5) = false := by simpa using hk5
  have b6 : (k == 6) = false := by simpa using hk6
  clear hk0 hk1 hk2 hk3 hk4 hk5 hk6
  have F1 := Lib.hid (P0.out.find ix sub)
  have F2 := Lib.hid (fun W1 (P : PK w (W.alloc (.cells #[.int .i64 k, .int .i64 ix, .int .i64 sub, .slice Ao bs.length co] 40)) (KB K W) p v q vL vV s s W1) => P.rfind ix sub)
  have hf : (findA s.l ix sub = (0, false) ∧ fnd s.l ix sub < 0) ∨ (findA s.l ix sub = (fnd s.l ix sub, true) ∧ 0 ≤ fnd s.l ix sub) := by
    unfold findA
    by_cases hx : fnd s.l ix sub < 0
    · left; exact ⟨if_pos hx, hx⟩
    · right; exact ⟨if_neg hx, by omega⟩
  generalize fnd s.l ix sub = J at *
  rcases hf with ⟨e1, hJ⟩ | ⟨e1, hJ⟩
  all_goals
    rw [e1] at F1
    clear e1
  · have d1 : decide (0 ≤ J) = false := decide_eq_false (by omega)
    go_enter Tryd.func12, Tryd.ntmps12
    go_wp2_with fail
    refine F1.out.mono ?_
    rintro e w5 ⟨rfl, p5⟩
    have P5 := Lib.hid p5
    obtain ⟨y0, y1, y2, y3⟩ := p5.cells
    have F3 := Lib.hid (F2.out _ p5)
    clear p5 F1 F2 x0 x1 x2 x3
    go_wp2_with fail
    refine F3.out.mono ?_
    rintro e w6 ⟨rfl, rfl⟩
    clear F3 y0 y1 y2 y3
    go_wp2_with fail
    go_ret2
    exact P5.out.unbox hk.out rfl
  · have d1 : decide (0 ≤ J) = true := decide_eq_true hJ
    go_enter Tryd.func12, Tryd.ntmps12
    go_wp2_with fail
    refine F1.out.mono ?_
    rintro e w5 ⟨rfl, p5⟩
    have P5 := Lib.hid p5
    obtain ⟨y0, y1, y2, y3⟩ := p5.cells
    have F3 := Lib.hid (F2.out _ p5)
    clear p5 F1 F2 x0 x1 x2 x3
    go_wp2_with fail
    refine F3.out.mono ?_
    rintro e w6 ⟨rfl, rfl⟩
    clear F3 y0 y1 y2 y3
    go_wp2_with fail
    go_ret2
    exact P5.out.unbox hk.out rfl

theorem does_any (h : PD w W K p v q vL vV s s) (k ix sub : Int) {Ao : Option Addr} {co : Nat} {bs : List UInt8} (hb : Rd w w.heap.size Ao bs) {A : Option Addr} {cb : Nat} (hB : RdB K W A bs) (hl : bs.length ≤ 1000) :
    Calls Tryd.prog 12 #[ptr p, ptr q, .agg #[.int .i64 k, .int .i64 ix, .int .i64 sub, .slice Ao bs.length co], .slice A bs.length cb] W (DoesEnds w W K q vL vV s.l.length) := by
  by_cases h0 : k = 0
  · rw [h0]; exact does_0 h ix sub hb hB hl
  by_cases h1 : k = 1
  · rw [h1]; exact does_1 h ix sub hb hB hl
  by_cases h2 : k = 2
  · rw [h2]; exact does_2 h ix sub hb hB hl
  by_cases h3 : k = 3
  · rw [h3]; exact does_3 h ix sub hb hB hl
  by_cases h4 : k = 4
  · rw [h4]; exact does_4 h ix sub hb hB hl
  by_cases h5 : k = 5
  · rw [h5]; exact does_5 h ix sub hb hB hl
  by_cases h6 : k = 6
  · rw [h6]; exact does_6 h ix sub hb hB hl
  exact does_9 h k h0 h1 h2 h3 h4 h5 h6 ix sub hb hB hl
end
end Dic
end Go.Proofs.YtpdnfdpoebhjoaaDoor
