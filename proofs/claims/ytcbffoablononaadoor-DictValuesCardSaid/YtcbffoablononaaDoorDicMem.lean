/-
  Lists of structs in memory; a dictionary: the block of its struct, its row, the bytes of its rows, which lie apart from all blocks that are written to.
-/
import Derived.Test.YtcbffoablononaaDoorDicMath
import Derived.Test.YtcbffoablononaaDoorEntLift
import Derived.Test.YtcbffoablononaaDoorOctAux
import Derived.Test.YtcbffoablononaaDoorClone
namespace Go.Proofs.YtcbffoablononaaDoor
namespace Dic
open Go.RowKit Mem Ent
set_option linter.unusedVariables false
set_option linter.unusedSimpArgs false
set_option maxRecDepth 100000

section
variable {α : Type} {f : α → List Value} {k : Nat}
/-- A list of structs as cells. -/
def flat (f : α → List Value) (l : List α) : List Value := (l.map f).flatten
theorem flat_cons (f : α → List Value) (a : α) (l : List α) : flat f (a :: l) = f a ++ flat f l := by simp [flat]
theorem flat_app (f : α → List Value) (l m : List α) : flat f (l ++ m) = flat f l ++ flat f m := by simp [flat]
theorem flat_snoc (f : α → List Value) (l : List α) (a : α) : flat f (l ++ [a]) = flat f l ++ f a := by simp [flat]
theorem flat_len (hf : ∀ a, (f a).length = k) : ∀ l : List α, (flat f l).length = l.length * k := by
  intro l
  induction l with
  | nil => simp [flat]
  | cons a l ih => rw [flat_cons, List.length_append, ih, hf, List.length_cons, Nat.succ_mul, Nat.add_comm]
theorem flat_get (hf : ∀ a, (f a).length = k) (z : α) : ∀ (l : List α) (j i : Nat), j < l.length → i < k → (flat f l)[j * k + i]? = (f (l.getD j z))[i]? := by
  intro l
  induction l with
  | nil => intro j i hj; simp at hj
  | cons a l ih =>
    intro j i hj hi
    rw [flat_cons]
    cases j with
    | zero =>
      rw [Nat.zero_mul, Nat.zero_add, List.getElem?_append_left (by rw [hf]; exact hi)]
      rfl
    | succ j =>
      rw [List.getElem?_append_right (by rw [hf, Nat.succ_mul]; omega), hf, show (j + 1) * k + i - k = j * k + i by rw [Nat.succ_mul]; omega, ih j i (by simpa using hj) hi]
      rfl
theorem flat_set (hf : ∀ a, (f a).length = k) (z : α) : ∀ (l : List α) (j i : Nat) (u : Value) (a' : α), j < l.length → i < k → (f (l.getD j z)).set i u = f a' → (flat f l).set (j * k + i) u = flat f (l.set j a') := by
  intro l
  induction l with
  | nil => intro j i u a' hj; simp at hj
  | cons a l ih =>
    intro j i u a' hj hi he
    rw [flat_cons]
    cases j with
    | zero =>
      rw [Nat.zero_mul, Nat.zero_add, List.set_append_left _ _ (by rw [hf]; exact hi), List.set_cons_zero, flat_cons]
      have : (f a).set i u = f a' := he
      rw [this]
    | succ j =>
      rw [List.set_append_right _ _ (by rw [hf, Nat.succ_mul]; omega), hf, show (j + 1) * k + i - k = j * k + i by rw [Nat.succ_mul]; omega, ih j i u a' (by simpa using hj) hi he, List.set_cons_succ, flat_cons]
theorem flat_one (h1 : ∀ a, ∀ u ∈ f a, u.oneCell' = true) (l : List α) : ∀ u ∈ flat f l, u.oneCell' = true := by
  intro u hu
  unfold flat at hu
  simp only [List.mem_flatten, List.mem_map] at hu
  obtain ⟨m, ⟨a, _, rfl⟩, hu⟩ := hu
  exact h1 a u hu
theorem flat_nil (f : α → List Value) : flat f [] = [] := rfl
theorem getD_mem {l : List α} {j : Nat} {z : α} (hj : j < l.length) : l.getD j z ∈ l := by simp [hj]

/-- The slice at A reads as a list of structs, in a block that G allows. -/
def RdL (f : α → List Value) (k : Nat) (z : α) (G : Nat → Prop) (W : World) (A : Option Addr) (l : List α) : Prop :=
  l = [] ∨ ∃ g off, A = some ⟨g, off, none⟩ ∧ G g ∧ ∀ j, j < l.length → ∀ i, i < k → W.cell? ⟨g, off + j * k + i, none⟩ = (f (l.getD j z))[i]?
theorem RdL.keep {z : α} {G : Nat → Prop} {W W' : World} {A : Option Addr} {l : List α} (h : RdL f k z G W A l) (hk : ∀ g, G g → W'.heap[g]? = W.heap[g]?) : RdL f k z G W' A l := by
  rcases h with h | ⟨g, off, e, hg, hc⟩
  · exact .inl h
  · exact .inr ⟨g, off, e, hg, fun j hj i hi => (World.cell?_of_block (w := W) (a := ⟨g, off + j * k + i, none⟩) (hk g hg)).trans (hc j hj i hi)⟩
theorem RdL.mono {z : α} {G G' : Nat → Prop} {W : World} {A : Option Addr} {l : List α} (h : RdL f k z G W A l) (hk : ∀ g, G g → G' g) : RdL f k z G' W A l := by
  rcases h with h | ⟨g, off, e, hg, hc⟩
  · exact .inl h
  · exact .inr ⟨g, off, e, hk g hg, hc⟩
/-- A row of one's own, as a slice. -/
theorem own_form {W : World} {base : Nat} {e : TypeId} {v : Value} {l : List α} {z : α} (hf : ∀ a, (f a).length = k) (h : W.ownsRow base e k v l.length (flat f l)) :
    ∃ A c, v = .slice A l.length c ∧ l.length ≤ c ∧ c ≤ maxLen ∧ ((A = none ∧ l = [] ∧ c = 0) ∨ ∃ g, A = some ⟨g, 0, none⟩ ∧ base ≤ g ∧ g < W.heap.size ∧ (∀ j, W.frozen? ⟨g, j, none⟩ = false) ∧ ∀ j, j < l.length → ∀ i, i < k → W.cell? ⟨g, j * k + i, none⟩ = (f (l.getD j z))[i]?) := by
  rcases h.2 with ⟨rfl, hn⟩ | ⟨g, cap, cur, rfl, hb, hh, hnc, hcm, hcs, ht⟩
  · have : l = [] := List.eq_nil_of_length_eq_zero hn
    subst this
    exact ⟨none, 0, rfl, Nat.le_refl _, by unfold maxLen; omega, .inl ⟨rfl, rfl, rfl⟩⟩
  · refine ⟨_, _, rfl, hnc, hcm, .inr ⟨g, rfl, hb, (Array.getElem?_eq_some_iff.1 hh).1, fun j => World.ownsRow.frozenAt h j, fun j hj i hi => ?_⟩⟩
    have hlt : j * k + i < l.length * k := by
      have h1 : (j + 1) * k ≤ l.length * k := Nat.mul_le_mul_right k (by omega)
      rw [Nat.succ_mul] at h1
      omega
    have := World.ownsRow.cellAt h (j * k + i) hlt
    rw [this, flat_get hf z l j i hj hi]
end

theorem own_keep {W W' : World} {base n size : Nat} {e : TypeId} {v : Value} {xs : List Value} (h : W.ownsRow base e size v n xs) (k : ∀ g, v.ownBlock = some g → W'.heap[g]? = W.heap[g]?) : W'.ownsRow base e size v n xs := by
  refine ⟨h.1, ?_⟩
  rcases h.2 with h1 | ⟨g, cap, cur, hv, hb, hh, hr⟩
  · exact .inl h1
  · exact .inr ⟨g, cap, cur, hv, hb, (k g (by rw [hv]; rfl)).trans hh, hr⟩
theorem own_below {W W' : World} {base size n : Nat} {e : TypeId} {v : Value} {xs : List Value} (h : W.ownsRow base e size v n xs) (b : Below W.heap.size W W') : W'.ownsRow base e size v n xs := own_keep h fun g hg => b.block g (h.lt g hg).2
theorem cell_of {W : World} {p j : Nat} {l : List Value} {t : TypeId} {v : Value} (h : W.heap[p]? = some (.cells l.toArray t (0, 0))) (hj : l[j]? = some v) : W.cell? ⟨p, j, none⟩ = some v := by
  simp [World.cell?, h, hj]

/-- The slice at A reads as bs, in a block that G allows. -/
def RdB (G : Nat → Prop) (w : World) (A : Option Addr) (bs : List UInt8) : Prop :=
  bs = [] ∨ ∃ g off, A = some ⟨g, off, none⟩ ∧ G g ∧ ∀ j, j < bs.length → w.cell? ⟨g, off + j, none⟩ = some (.int .u8 (byt bs j))
section
variable {G G' : Nat → Prop} {W W' : World} {A : Option Addr} {bs : List UInt8} {B : Nat}
theorem RdB.keep (h : RdB G W A bs) (k : ∀ g, G g → W'.heap[g]? = W.heap[g]?) : RdB G W' A bs := by
  rcases h with h | ⟨g, off, e, hg, hc⟩
  · exact .inl h
  · exact .inr ⟨g, off, e, hg, fun j hj => (World.cell?_of_block (w := W) (a := ⟨g, off + j, none⟩) (k g hg)).trans (hc j hj)⟩
theorem RdB.mono (h : RdB G W A bs) (k : ∀ g, G g → G' g) : RdB G' W A bs := by
  rcases h with h | ⟨g, off, e, hg, hc⟩
  · exact .inl h
  · exact .inr ⟨g, off, e, k g hg, hc⟩
theorem RdB.rd (h : RdB G W A bs) (k : ∀ g, G g → g < B) : Rd W B A bs := h.mono k
/-- Bytes of a call's own lie in new memory. -/
theorem rdB_own {base : Nat} {t : TypeId} {v : Value} {A : Option Addr} {n c : Nat} (h : Own W base t v bs) (hv : v = .slice A n c) : RdB (fun g => base ≤ g ∧ g < W.heap.size) W A bs := by
  subst hv
  rcases h.2 with ⟨hv, hn⟩ | ⟨g, cap, cur, hv, hb, hh, hnc, hcm, hcs, ht⟩
  · exact .inl (List.eq_nil_of_length_eq_zero hn)
  · cases hv
    refine .inr ⟨g, 0, rfl, ⟨hb, (Array.getElem?_eq_some_iff.1 hh).1⟩, fun j hj => ?_⟩
    have := World.ownsRow.cellAt h j (by omega)
    rw [u8s_at hj] at this
    simpa using this
end

/-- The blocks that are there and that nobody writes to. -/
abbrev Clear (W : World) (N : Nat → Prop) (g : Nat) : Prop := g < W.heap.size ∧ ¬ N g
/-- The blocks that are written to: those of N, and v's. -/
def DN (N : Nat → Prop) (v : Value) (g : Nat) : Prop := N g ∨ v.ownBlock = some g

def YT : TypeId := 5
def ET : TypeId := 38
abbrev ptr (p : Nat) : Value := .pointer (some ⟨p, 0, none⟩)
/-- An entry as a value, out of one with the place of its bytes. -/
def ev (e : En) : Ev := ⟨e.ix, e.sub, e.nm, e.ty, e.ac, e.mp, e.st, e.mx, e.lo, e.hi, e.d⟩
def enZ : En := ⟨0, 0, [], 0, 0, false, false, 0, 0, 0, none, [], 0⟩
/-- The numbers of an entry, and how long its texts are. -/
structure EvOk (e : Ev) : Prop where
  ix : I64 e.ix
  sub : I64 e.sub
  nm : e.nm.length ≤ 1000
  ty : I64 e.ty
  ac : I64 e.ac
  mx : I64 e.mx
  lo : I64 e.lo
  hi : I64 e.hi
  d : e.d.length ≤ 1000
/-- A row of the dictionary: an entry, a value, and where their bytes lie. -/
structure Rv where
  e : Ev
  A : Option Addr
  cA : Nat
  V : Option Addr
  v : List UInt8
  cV : Nat
def Rv.zero : Rv := ⟨Ev.zero, none, 0, none, [], 0⟩
def Rv.vals (r : Rv) : List Value := [.int .i64 r.e.ix, .int .i64 r.e.sub, .string ⟨r.e.nm.toArray⟩, .int .i64 r.e.ty, .int .i64 r.e.ac, .bool r.e.mp, .bool r.e.st, .int .i64 r.e.mx, .int .i64 r.e.lo, .int .i64 r.e.hi, .slice r.A r.e.d.length r.cA, .slice r.V r.v.length r.cV]
theorem rv_len (r : Rv) : r.vals.length = 12 := rfl
theorem rv_one (r : Rv) : ∀ u ∈ r.vals, u.oneCell' = true := by
  intro u hu
  simp only [Rv.vals, List.mem_cons, List.not_mem_nil, or_false] at hu
  rcases hu with rfl | rfl | rfl | rfl | rfl | rfl | rfl | rfl | rfl | rfl | rfl | rfl <;> rfl
abbrev Rv.ent (r : Rv) : Value := Ent.ent r.e.ix r.e.sub r.e.nm r.e.ty r.e.ac r.e.mp r.e.st r.e.mx r.e.lo r.e.hi (.slice r.A r.e.d.length r.cA)
/-- The twelve cells of a row. -/
def Row12 (W : World) (g o : Nat) (r : Rv) : Prop :=
  W.cell? ⟨g, o, none⟩ = some (.int .i64 r.e.ix) ∧ W.cell? ⟨g, o + 1, none⟩ = some (.int .i64 r.e.sub) ∧ W.cell? ⟨g, o + 2, none⟩ = some (.string ⟨r.e.nm.toArray⟩) ∧ W.cell? ⟨g, o + 3, none⟩ = some (.int .i64 r.e.ty) ∧ W.cell? ⟨g, o + 4, none⟩ = some (.int .i64 r.e.ac) ∧
  W.cell? ⟨g, o + 5, none⟩ = some (.bool r.e.mp) ∧ W.cell? ⟨g, o + 6, none⟩ = some (.bool r.e.st) ∧ W.cell? ⟨g, o + 7, none⟩ = some (.int .i64 r.e.mx) ∧ W.cell? ⟨g, o + 8, none⟩ = some (.int .i64 r.e.lo) ∧ W.cell? ⟨g, o + 9, none⟩ = some (.int .i64 r.e.hi) ∧
  W.cell? ⟨g, o + 10, none⟩ = some (.slice r.A r.e.d.length r.cA) ∧ W.cell? ⟨g, o + 11, none⟩ = some (.slice r.V r.v.length r.cV)
def dcells (v : Value) : List Value := [v, .bool true]
def DT : TypeId := 74
def RT : TypeId := 77
/-- A dictionary stands in block p, its row v is its own; the bytes of its rows lie apart from all blocks that are written to. -/
structure IsD (W : World) (p : Nat) (v : Value) (N : Nat → Prop) (rs : List Rv) : Prop where
  blk : W.heap[p]? = some (.cells (dcells v).toArray DT (0, 0))
  own : W.ownsRow 0 RT 12 v rs.length (flat Rv.vals rs)
  np : ¬ N p
  ne : v.ownBlock ≠ some p
  nk : ∀ g, v.ownBlock = some g → ¬ N g
  data : ∀ r ∈ rs, RdB (Clear W (DN N v)) W r.A r.e.d ∧ RdB (Clear W (DN N v)) W r.V r.v
  ok : ∀ r ∈ rs, EvOk r.e ∧ r.v.length ≤ 1000
  few : rs.length ≤ 96
section
variable {W W' : World} {p : Nat} {v : Value} {N N' : Nat → Prop} {rs : List Rv}
theorem IsD.lt (h : IsD W p v N rs) : p < W.heap.size := (Array.getElem?_eq_some_iff.1 h.blk).1
theorem IsD.c0 (h : IsD W p v N rs) : W.cell? ⟨p, 0, none⟩ = some v := cell_of h.blk rfl
theorem IsD.c1 (h : IsD W p v N rs) : W.cell? ⟨p, 1, none⟩ = some (.bool true) := cell_of h.blk rfl
theorem IsD.vlt (h : IsD W p v N rs) {g : Nat} (hg : v.ownBlock = some g) : g < W.heap.size := (h.own.lt g hg).2
/-- Kept, when the blocks N alone are written to. -/
theorem IsD.keep (h : IsD W p v N rs) (hs : W.heap.size ≤ W'.heap.size) (hk : ∀ g, g < W.heap.size → ¬ N g → W'.heap[g]? = W.heap[g]?) (hN : ∀ g, g < W.heap.size → N' g → N g) : IsD W' p v N' rs :=
  ⟨(hk p h.lt h.np).trans h.blk, own_keep h.own fun g hg => hk g (h.vlt hg) (h.nk g hg), fun k => h.np (hN p h.lt k), h.ne, fun g hg k => h.nk g hg (hN g (h.vlt hg) k),
    fun r hr => ⟨((h.data r hr).1.keep fun g hg => hk g hg.1 fun k => hg.2 (.inl k)).mono fun g hg => ⟨Nat.lt_of_lt_of_le hg.1 hs, fun n => hg.2 (n.elim (fun k => .inl (hN g hg.1 k)) .inr)⟩,
      ((h.data r hr).2.keep fun g hg => hk g hg.1 fun k => hg.2 (.inl k)).mono fun g hg => ⟨Nat.lt_of_lt_of_le hg.1 hs, fun n => hg.2 (n.elim (fun k => .inl (hN g hg.1 k)) .inr)⟩⟩, h.ok, h.few⟩
theorem IsD.below (h : IsD W p v N rs) (b : Below W.heap.size W W') : IsD W' p v N rs := h.keep b.size (fun g hg _ => b.block g hg) (fun _ _ k => k)
theorem IsD.other (h : IsD W p v N rs) (hN : ∀ g, g < W.heap.size → N' g → N g) : IsD W p v N' rs := h.keep (Nat.le_refl _) (fun _ _ _ => rfl) hN
theorem IsD.form (h : IsD W p v N rs) : ∃ A c, v = .slice A rs.length c ∧ rs.length ≤ c ∧ c ≤ maxLen := by
  obtain ⟨A, c, e, h1, h2, _⟩ := own_form (z := Rv.zero) rv_len h.own
  exact ⟨A, c, e, h1, h2⟩
/-- The row of a number. -/
theorem IsD.at (h : IsD W p v N rs) {k : Nat} (hk : k < rs.length) {r : Rv} (hr : rs.getD k Rv.zero = r) : ∃ g c, v = .slice (some ⟨g, 0, none⟩) rs.length c ∧ g < W.heap.size ∧ rs.length ≤ c ∧ c ≤ maxLen ∧ Row12 W g (k * 12) r ∧ (∀ j, W.frozen? ⟨g, j, none⟩ = false) := by
  obtain ⟨A, c, e, h1, h2, h3⟩ := own_form (z := Rv.zero) rv_len h.own
  rcases h3 with ⟨_, h3, _⟩ | ⟨g, rfl, _, hg, hf, hc⟩
  · subst h3; simp at hk
  · have q := hc k hk
    rw [hr] at q
    exact ⟨g, c, e, hg, h1, h2, ⟨q 0 (by omega), q 1 (by omega), q 2 (by omega), q 3 (by omega), q 4 (by omega), q 5 (by omega), q 6 (by omega), q 7 (by omega), q 8 (by omega), q 9 (by omega), q 10 (by omega), q 11 (by omega)⟩, hf⟩
theorem IsD.rd (h : IsD W p v N rs) {r : Rv} (hr : r ∈ rs) : Rd W W.heap.size r.A r.e.d ∧ Rd W W.heap.size r.V r.v :=
  ⟨(h.data r hr).1.rd fun g hg => hg.1, (h.data r hr).2.rd fun g hg => hg.1⟩
theorem Row12.below {g o : Nat} {r : Rv} (h : Row12 W g o r) (hg : g < W.heap.size) (b : Below W.heap.size W W') : Row12 W' g o r := by
  obtain ⟨q0, q1, q2, q3, q4, q5, q6, q7, q8, q9, q10, q11⟩ := h
  have c : ∀ (j : Nat) (u : Value), W.cell? ⟨g, j, none⟩ = some u → W'.cell? ⟨g, j, none⟩ = some u := fun j u hu => (b.cell (p := ⟨g, j, none⟩) hg).trans hu
  exact ⟨c _ _ q0, c _ _ q1, c _ _ q2, c _ _ q3, c _ _ q4, c _ _ q5, c _ _ q6, c _ _ q7, c _ _ q8, c _ _ q9, c _ _ q10, c _ _ q11⟩
end
/-- Nothing that was there is changed but the blocks S. -/
structure Upd (S : Nat → Prop) (w w' : World) : Prop where
  os : w'.os = w.os
  tape : w'.tape = w.tape
  output : w'.output = w.output
  size : w.heap.size ≤ w'.heap.size
  block : ∀ k, k < w.heap.size → ¬ S k → w'.heap[k]? = w.heap[k]?
section
variable {S S' : Nat → Prop} {a b c w w' : World}
theorem Upd.refl (S : Nat → Prop) (w : World) : Upd S w w := ⟨rfl, rfl, rfl, Nat.le_refl _, fun _ _ _ => rfl⟩
theorem Upd.trans (h : Upd S a b) (k : Upd S b c) : Upd S a c :=
  ⟨k.os.trans h.os, k.tape.trans h.tape, k.output.trans h.output, Nat.le_trans h.size k.size, fun i hi h1 => (k.block i (Nat.lt_of_lt_of_le hi h.size) h1).trans (h.block i hi h1)⟩
theorem Upd.of_below (h : Below w.heap.size w w') : Upd S w w' := ⟨h.os, h.tape, h.output, h.size, fun k hk _ => h.block k hk⟩
theorem Upd.next (h : Upd S a w) (b : Below w.heap.size w w') : Upd S a w' := h.trans (.of_below b)
theorem Upd.wide (h : Upd S w w') (hS : ∀ g, S g → S' g) : Upd S' w w' := ⟨h.os, h.tape, h.output, h.size, fun k hk h1 => h.block k hk fun s => h1 (hS k s)⟩
theorem Upd.set (h : Upd S a w) {g : Nat} (hg : S g ∨ a.heap.size ≤ g) (j : Nat) (u : Value) : Upd S a (w.setCell ⟨g, j, none⟩ u) := by
  refine ⟨h.os, h.tape, h.output, by simpa [World.setCell] using h.size, fun k hk h1 => (Below.heap_setCell w ⟨g, j, none⟩ u k fun e => ?_).trans (h.block k hk h1)⟩
  have e' : k = g := e
  rcases hg with hg | hg
  · exact h1 (e' ▸ hg)
  · omega
theorem Upd.grown (h : Upd S a w) {r : Option Nat} (g : w.grownBy w' r) (hr : ∀ k, r = some k → S k ∨ a.heap.size ≤ k) : Upd S a w' :=
  ⟨g.os.trans h.os, g.tape.trans h.tape, g.output.trans h.output, Nat.le_trans h.size g.size, fun k hk h1 => (g.block k (Nat.lt_of_lt_of_le hk h.size) fun e => (hr k e.symm).elim h1 (by omega)).trans (h.block k hk h1)⟩
theorem Upd.below (h : Upd S w w') {B : Nat} (hB : B ≤ w.heap.size) (hS : ∀ k, S k → B ≤ k) : Below B w w' :=
  ⟨h.os, h.tape, h.output, h.size, fun k hk => h.block k (by omega) fun s => by have := hS k s; omega⟩
end
end Dic
end Go.Proofs.YtcbffoablononaaDoor
