/-
  Slices of integers that the call owns: what they hold, and append.
-/
import Derived.Test.YtlojomeofgnfjaaInts
namespace Go.Proofs.Ytlojomeofgnfjaa
namespace Mem
open Go.RowKit

def intsV (k : IntKind) (zs : List Int) : List Value := zs.map (Value.int k)
theorem intsV_one (k : IntKind) (zs : List Int) : ∀ u ∈ intsV k zs, u.oneCell' = true := by
  intro u hu
  obtain ⟨_, _, rfl⟩ := List.mem_map.1 hu
  rfl
theorem intsV_get {k : IntKind} {zs : List Int} {j : Nat} {u : Value} (h : (intsV k zs)[j]? = some u) : j < zs.length ∧ u = .int k (zs.getD j 0) := by
  have hj : j < zs.length := by
    have := (List.getElem?_eq_some_iff.1 h).1
    simpa [intsV] using this
  refine ⟨hj, ?_⟩
  simp [intsV, hj] at h
  simp [hj, ← h]
theorem intsV_at {k : IntKind} {zs : List Int} {j : Nat} (h : j < zs.length) : (intsV k zs)[j]? = some (.int k (zs.getD j 0)) := by
  simp [intsV, h]
theorem RdI.cells {k : IntKind} {w : World} {B : Nat} {A : Option Addr} {zs : List Int} (h : RdI k w B A zs) (hp : 0 < zs.length) : ∃ ad, A = some ad ∧ ∀ j u, (intsV k zs)[j]? = some u → w.cell? (ad.add j) = some u := by
  rcases h with rfl | ⟨g, off, e, hg, hc⟩
  · simp at hp
  · refine ⟨_, e, fun j u hu => ?_⟩
    obtain ⟨hj, rfl⟩ := intsV_get hu
    rw [Addr.add_lit]
    exact hc j hj
theorem RdI.new1 (k : IntKind) (w : World) (t : TypeId) (x : Int) : RdI k (w.alloc (.cells #[.int k x] t)) (w.heap.size + 1) (some ⟨w.heap.size, 0, none⟩) [x] := by
  refine .inr ⟨_, 0, rfl, by omega, fun j hj => ?_⟩
  obtain rfl : j = 0 := by simpa using hj
  simp [go_sem]

/-- The call's own slice v holds just zs. -/
def OwnI (k : IntKind) (w : World) (base : Nat) (e : TypeId) (v : Value) (zs : List Int) : Prop := w.ownsRow base e 1 v zs.length (intsV k zs)

section
variable {k : IntKind} {w w' : World} {base : Nat} {e : TypeId} {v : Value} {zs : List Int}
theorem OwnI.form (h : OwnI k w base e v zs) : ∃ A c, v = .slice A zs.length c ∧ RdI k w w.heap.size A zs := by
  rcases h.2 with ⟨rfl, hn⟩ | ⟨g, cap, cur, rfl, hb, hg, hnc, hcm, hcs, ht⟩
  · have : zs = [] := List.eq_nil_of_length_eq_zero hn
    subst this
    exact ⟨none, 0, rfl, .inl rfl⟩
  · refine ⟨_, _, rfl, .inr ⟨g, 0, rfl, (Array.getElem?_eq_some_iff.1 hg).1, fun j hj => ?_⟩⟩
    have := World.ownsRow.cellAt h j (by omega)
    rw [intsV_at hj] at this
    simpa using this
theorem OwnI.empty (w : World) (base : Nat) (e : TypeId) (hb : base ≤ w.heap.size) : OwnI k (w.alloc (.cells #[] e)) base e (.slice (some ⟨w.heap.size, 0, none⟩) 0 0) [] :=
  World.ownsRow_made w #[] 0 hb (by simp [maxLen]) (by simp)
theorem OwnI.alloc (h : OwnI k w base e v zs) (o : Obj) : OwnI k (w.alloc o) base e v zs := World.ownsRow.alloc h o
end

section
variable {P : Program} (w : World) {ops : Array Oper} {rest : List Oper} {o : Oper} {a : Act} {Q : Exit → Act → World → Prop}
/-- 'out = append(out, x, ..)', out the call's own, whatever the source: nil, empty or not. -/
theorem wp_appI {K : Act → World → Prop} (k : IntKind) (s x : Operand) (t : TypeId)
    (ho : o.op = .call { callee := .builtin .append, args := #[s, x], argTypes := #[t, t] })
    (base : Nat) (e : TypeId) (i : TypeInfo) (b : Nat) (ht : P.underlying t = some (.slice e)) (hi : P.info? e = some i) (hz : i.zero = some (.int k 0)) (hsize : i.size = 1) (hby : i.bytes = b) (hb8 : b ≤ 8)
    (v : Value) (zs : List Int) (hs : a.eval s = v) (hown : OwnI k w base e v zs)
    (A : Option Addr) (m c : Nat) (new : List Int) (hx : a.eval x = .slice A m c) (hm : m = new.length) (B : Nat) (hr : RdI k w B A new) (hb : zs.length + new.length ≤ 1000000000000) (hbase : base ≤ w.heap.size)
    (h : ∀ v' w', OwnI k w' base e v' (zs ++ new) → w.grownBy w' v.ownBlock → K (a.put o.dst v') w') : o.wp P a w K Q := by
  subst hm
  have hlen : (intsV k (zs ++ new)) = intsV k zs ++ intsV k new := List.map_append
  by_cases h0 : new.length = 0
  · obtain rfl : new = [] := List.eq_nil_of_length_eq_zero h0
    have hrun : (Builtin.append_ #[t, t] o.type #[v, .slice A 0 c]).run P w = .ok v w := by
      rcases hown.2 with ⟨rfl, hn⟩ | ⟨g, cap, cur, rfl, _, _, hnc, _⟩
      · cases A <;> simp [Builtin.append_, run_underlying ht, sizeOf, typeInfo, hi, Builtin.lenOf, Builtin.firstCells, loadCells, loadCellsFrom]
      · cases A <;> simp [Builtin.append_, run_underlying ht, sizeOf, typeInfo, hi, Builtin.lenOf, Builtin.firstCells, hnc, storeCells, loadCells, loadCellsFrom]
    unfold Oper.wp
    simp [execOp, ho, resolve, invoke, builtin, hs, hx, hrun, Result.andThen]
    exact h v w (by simpa using hown) (World.grownBy.refl _ _)
  · obtain ⟨ad, rfl, hc⟩ := hr.cells (by omega)
    have hmul : (zs.length + new.length) * b ≤ 1000000000000 * 8 := Nat.mul_le_mul hb hb8
    obtain ⟨v', w', hrun, h2, h3, _, h5⟩ := run_append_own_at (P := P) w base t o.type e i (.int k 0) 1 b ht hi hz hsize hby rfl (by omega) v zs.length (intsV k zs) hown ad new.length c (intsV k new) (by simp [intsV]) hc (intsV_one k new) (by simp only [maxLen]; omega) (by omega) hbase
    unfold Oper.wp execOp
    simp only [ho, resolve, invoke, builtin, Sem.run_bind, Sem.run_pure, Result.andThen_ok, List.map_toArray, List.map_cons, List.map_nil, hs, hx, hrun]
    exact h v' w' (by unfold OwnI; rw [hlen, List.length_append]; exact h2) h3
theorem wpList_appI (k : IntKind) (hgd : o.guard = none) (s x : Operand) (t : TypeId)
    (ho : o.op = .call { callee := .builtin .append, args := #[s, x], argTypes := #[t, t] })
    (base : Nat) (e : TypeId) (i : TypeInfo) (b : Nat) (ht : P.underlying t = some (.slice e)) (hi : P.info? e = some i) (hz : i.zero = some (.int k 0)) (hsize : i.size = 1) (hby : i.bytes = b) (hb8 : b ≤ 8)
    (v : Value) (zs : List Int) (hs : a.eval s = v) (hown : OwnI k w base e v zs)
    (A : Option Addr) (m c : Nat) (new : List Int) (hx : a.eval x = .slice A m c) (hm : m = new.length) (B : Nat) (hr : RdI k w B A new) (hb : zs.length + new.length ≤ 1000000000000) (hbase : base ≤ w.heap.size)
    (h : ∀ v' w', OwnI k w' base e v' (zs ++ new) → w.grownBy w' v.ownBlock → wpList P ops Q rest (a.put o.dst v') w') : wpList P ops Q (o :: rest) a w :=
  wpList_plain hgd fun _ hK => wp_appI w k s x t ho base e i b ht hi hz hsize hby hb8 v zs hs hown A m c new hx hm B hr hb hbase fun v' w' h2 h3 => hK _ _ (h v' w' h2 h3)
end
end Mem
end Go.Proofs.Ytlojomeofgnfjaa
