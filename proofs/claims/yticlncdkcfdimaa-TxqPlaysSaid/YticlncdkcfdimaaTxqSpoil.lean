/-
  A queue's copy among what a law holds; a list that is spoiled frame by frame.
-/
import Derived.Test.YticlncdkcfdimaaTxqPlay
namespace Go.Proofs.Yticlncdkcfdimaa
namespace Txq
open Go.RowKit Mem Frm
set_option linter.unusedVariables false
set_option linter.unusedSimpArgs false
set_option maxRecDepth 100000

section
variable {w W W' : World} {K K' : Nat → Prop} {p p' r : Nat} {v : Value} {s s' t : Qs}
theorem HasQ.chp (c : HasQ W p' (RN K r v) s) (kp' : K p') (kp : K p) (hne : p' ≠ p) (ch : Ch p none W W') : HasQ W' p' (RN K r v) s :=
  c.keep ch.size (ch.block p' c.lt hne (by simp)) (fun g hg hn => ch.block g hg (fun e => hn (.inl (e ▸ kp))) (by simp)) (fun _ _ n => n) (.inl kp')
/-- What Copy ends with in a law. -/
def CopyP (w W : World) (K : Nat → Prop) (p r : Nat) (v : Value) (s t : Qs) (e : Ending) (w' : World) : Prop :=
  e = .returned (at_ W.heap.size) ∧ PQ w w' (fun g => K g ∨ g = W.heap.size) p r v s t ∧ HasQ w' W.heap.size (RN (fun g => K g ∨ g = W.heap.size) r v) s
theorem PQ.copy (h : PQ w W K p r v s t) : Calls Try.prog 22 #[at_ p] W (CopyP w W K p r v s t) := by
  obtain ⟨A, c, fs, hq, e⟩ := h.q
  refine (copy_any hq (RN (fun g => K g ∨ g = W.heap.size) r v) (fun g hg n => ?_) (.inl (.inr rfl))).mono fun e' w' ⟨h1, h2, h3⟩ => ⟨h1, ?_, ⟨A, c, fs, h2, e⟩⟩
  · rcases n with (n | n) | n
    · exact .inl n
    · omega
    · exact .inr n
  · exact (h.lock h3).unlock (fun g k => k.elim .inl fun k => .inr ⟨by omega, by rw [k]; exact h2.lt⟩) (.inl h.kp)
/-- The copy takes the queue's place. -/
theorem PQ.turn (h : PQ w W K p r v s t) (c : HasQ W p' (RN K r v) s') (kp' : K p') : PQ w W (· = p') p' r v s' t :=
  PQ.unlock (K := K) ⟨h.b, c, h.rr, kp', h.kl, h.ger, h.gev⟩ (fun g e => e ▸ kp') rfl
theorem PQ.list (h : PQ w W K p r v s t) : Calls Try.prog 23 #[at_ p] W (ListEnds W s.l) := list_any h.q
theorem PQ.rlist (h : PQ w W K p r v s t) : Calls Try.prog 25 #[at_ r] W (RListEnds W (srt key t.l)) := by
  obtain ⟨fs, hq, e⟩ := h.rr
  rw [← e]
  exact rlist_is hq
end

/-- A row is kept while bytes change. -/
theorem row_grown {W W' : World} {base b n : Nat} {v u : Value} {xs : List Value} {d : List UInt8} (h : W.ownsRow base 34 3 v n xs) (o : Own W b ET u d) (g : W.grownBy W' u.ownBlock) : W'.ownsRow base 34 3 v n xs := by
  refine own_keep h fun q hq => g.block q (h.lt q hq).2 fun e => ?_
  rcases h.2 with ⟨rfl, _⟩ | ⟨g1, cap, cur, rfl, _, hh, _⟩
  · cases hq
  · simp only [Value.ownBlock, Option.some.injEq] at hq
    subst hq
    rcases o.2 with ⟨rfl, _⟩ | ⟨g2, cap2, cur2, rfl, _, hh2, _⟩
    · cases e
    · simp only [Value.ownBlock, Option.some.injEq] at e
      subst e
      rw [hh2] at hh
      injection hh with hh
      injection hh with _ ht
      exact absurd ht (by decide)
theorem own_apart' {W : World} {base b n j : Nat} {g : Nat} {c : Nat} {u x : Value} {xs : List Value} {d : List UInt8} (h : W.ownsRow base 34 3 (.slice (some ⟨g, 0, none⟩) n c) n xs) (o : Own W b ET u d) : Own (W.setCell ⟨g, j, none⟩ x) b ET u d := by
  refine own_keep o fun q hq => Below.heap_setCell W ⟨g, j, none⟩ x q fun e => ?_
  rcases h.2 with ⟨hv, _⟩ | ⟨g1, cap, cur, hv, _, hh, _⟩
  · cases hv
  · cases hv
    rcases o.2 with ⟨rfl, _⟩ | ⟨g2, cap2, cur2, rfl, _, hh2, _⟩
    · cases hq
    · simp only [Value.ownBlock, Option.some.injEq] at hq
      subst hq
      have e' : g2 = g := e
      subst e'
      rw [hh2] at hh
      injection hh with hh
      injection hh with _ ht
      exact absurd ht (by decide)
/-- While a list is spoiled: those from k on are as they were. -/
structure SL (W0 wr : World) (A : Option Addr) (n c k : Nat) (fs : List Fv) : Prop where
  b : Below W0.heap.size W0 wr
  row : wr.ownsRow W0.heap.size 34 3 (.slice A n c) n (flatF fs)
  len : fs.length = n
  lf : LF wr W0.heap.size (fs.drop k)
  d8 : ∀ f ∈ fs, f.d.length ≤ 8
theorem flat_set1 (gs : List Fv) (f : Fv) (rest : List Fv) (x : Int) : (flatF (gs ++ f :: rest)).set (gs.length * 3) (.int .i64 x) = flatF (gs ++ { f with id := x } :: rest) := by
  have hl := flatF_len gs
  rw [show gs ++ f :: rest = gs ++ ([f] ++ rest) from rfl, show gs ++ { f with id := x } :: rest = gs ++ ([{ f with id := x }] ++ rest) from rfl, flat_app, flat_app, flat_app, flat_app, ← hl]
  simp [flatF, Fv.vals, List.set_append]
section
variable {W0 wr w' : World} {A : Option Addr} {n c k : Nat} {fs : List Fv}
theorem SL.cells {k' : Nat} (h : SL W0 wr A n c k' fs) (hk : k < n) : ∃ g, A = some ⟨g, 0, none⟩ ∧ W0.heap.size ≤ g ∧ wr.cell? ⟨g, k * 3, none⟩ = some (.int .i64 (fs.getD k Fv.zero).id) ∧ wr.cell? ⟨g, k * 3 + 2, none⟩ = some (.slice (fs.getD k Fv.zero).A (fs.getD k Fv.zero).d.length (fs.getD k Fv.zero).c) ∧ ∀ j, wr.frozen? ⟨g, j, none⟩ = false := by
  have hl := h.len
  rcases h.row.2 with ⟨_, h0⟩ | ⟨g, cap, cur, hv, hb, _⟩
  · omega
  · cases hv
    have cc := fun i (hi : i < 3) => (World.ownsRow.cellAt h.row (k * 3 + i) (by omega)).trans (flatF_get fs k i (by omega) hi)
    exact ⟨g, rfl, hb, cc 0 (by omega), cc 2 (by omega), fun j => World.ownsRow.frozenAt h.row j⟩
theorem SL.own (h : SL W0 wr A n c k fs) (hk : k < n) : Own wr W0.heap.size ET (.slice (fs.getD k Fv.zero).A (fs.getD k Fv.zero).d.length (fs.getD k Fv.zero).c) (fs.getD k Fv.zero).d := by
  have hl := h.len
  refine h.lf.own _ ?_
  rw [List.drop_eq_getElem_cons (by omega)]
  exact List.mem_cons.2 (.inl (by simp [List.getD_eq_getElem?_getD, show k < fs.length by omega]))
/-- Behind Spoil. -/
theorem SL.spoilt (h : SL W0 wr A n c k fs) (hk : k < n) (b : Below W0.heap.size wr w') (g : wr.grownBy w' (Value.slice (fs.getD k Fv.zero).A (fs.getD k Fv.zero).d.length (fs.getD k Fv.zero).c).ownBlock) : SL W0 w' A n c (k + 1) fs := by
  have hl := h.len
  have hd : fs.drop k = fs.getD k Fv.zero :: fs.drop (k + 1) := by
    rw [List.drop_eq_getElem_cons (by omega)]
    simp [List.getD_eq_getElem?_getD, show k < fs.length by omega]
  have lf := h.lf
  rw [hd] at lf
  have hp := List.pairwise_cons.1 lf.apart
  refine ⟨h.b.trans b, row_grown h.row (h.own hk) g, hl, ⟨fun f hf => ?_, hp.2⟩, h.d8⟩
  have o := lf.own f (List.mem_cons_of_mem _ hf)
  exact own_keep o fun q hq => g.block q (own_lt o hq).2 fun e => hp.1 f hf q e.symm hq
theorem SL.set (h : SL W0 wr A n c (k + 1) fs) (hk : k < n) {g : Nat} (hA : A = some ⟨g, 0, none⟩) : SL W0 (wr.setCell ⟨g, k * 3, none⟩ (.int .i64 99)) A n c (k + 1) (fs.set k { fs.getD k Fv.zero with id := 99 }) := by
  have hl := h.len
  subst hA
  have hs : fs = fs.take k ++ fs.getD k Fv.zero :: fs.drop (k + 1) := by
    conv => lhs; rw [← List.take_append_drop k fs, List.drop_eq_getElem_cons (by omega)]
    simp [List.getD_eq_getElem?_getD, show k < fs.length by omega]
  have hs2 : fs.set k { fs.getD k Fv.zero with id := 99 } = fs.take k ++ { fs.getD k Fv.zero with id := 99 } :: fs.drop (k + 1) := by
    rw [List.set_eq_take_append_cons_drop, if_pos (by omega)]
  have hg : W0.heap.size ≤ g := (h.row.lt g rfl).1
  refine ⟨h.b.setCell (p := ⟨g, k * 3, none⟩) hg _, ?_, by simp [hl], ?_, fun f hf => ?_⟩
  · have r := (World.ownsRow.stored h.row (k * 3) (.int .i64 99)).1
    have e : (flatF fs).set (k * 3) (.int .i64 99) = flatF (fs.set k { fs.getD k Fv.zero with id := 99 }) := by
      rw [hs2]
      have := flat_set1 (fs.take k) (fs.getD k Fv.zero) (fs.drop (k + 1)) 99
      rw [← hs, List.length_take, Nat.min_eq_left (by omega)] at this
      exact this
    rw [e] at r
    exact r
  · have e : (fs.set k { fs.getD k Fv.zero with id := 99 }).drop (k + 1) = fs.drop (k + 1) := by
      rw [List.drop_set_of_lt (by omega)]
    rw [e]
    exact ⟨fun f hf => own_apart' h.row (h.lf.own f hf), h.lf.apart⟩
  · rcases List.mem_or_eq_of_mem_set hf with h1 | h1
    · exact h.d8 f h1
    · subst h1
      exact h.d8 (fs.getD k Fv.zero) (getD_mem (by omega))
end
end Txq
end Go.Proofs.Yticlncdkcfdimaa
