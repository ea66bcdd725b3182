/-
  A row whose bytes are spoiled one by one; both dictionaries as a law makes them.
-/
import Derived.Test.YtpdnfdpoebhjoaaDoorDicPlay
import Derived.Test.YtpdnfdpoebhjoaaDoorDicRNew
import Derived.Test.YtpdnfdpoebhjoaaDoorDicRLent
namespace Go.Proofs.YtpdnfdpoebhjoaaDoor
namespace Dic
open Go.RowKit Mem Ent
set_option linter.unusedVariables false
set_option linter.unusedSimpArgs false
set_option maxRecDepth 100000

/-- While a row's bytes are spoiled: those from k on are as they were. -/
structure SP {α : Type} (f : α → List Value) (m : Nat) (t : TypeId) (u : α → Value) (dd : α → List UInt8) (base top : Nat) (W : World) (v : Value) (k : Nat) (xs : List α) : Prop where
  row : W.ownsRow base t m v xs.length (flat f xs)
  own : ∀ x ∈ xs.drop k, Own W base YT (u x) (dd x)
  apart : (xs.drop k).Pairwise fun x y => ∀ b, (u x).ownBlock = some b → (u y).ownBlock ≠ some b
  top : ∀ x ∈ xs, ∀ b, (u x).ownBlock = some b → base ≤ b ∧ b < top
  few : ∀ x ∈ xs, (dd x).length ≤ 1000
section
variable {α : Type} {f : α → List Value} {m : Nat} {t : TypeId} {u : α → Value} {dd : α → List UInt8} {base top : Nat} {W W' : World} {v : Value} {k : Nat} {xs : List α} (z : α)
theorem drop_at (z : α) (hk : k < xs.length) : xs.drop k = xs.getD k z :: xs.drop (k + 1) := by
  rw [List.drop_eq_getElem_cons hk]
  simp [List.getD_eq_getElem?_getD, hk]
theorem SP.at (h : SP f m t u dd base top W v k xs) (hk : k < xs.length) : Own W base YT (u (xs.getD k z)) (dd (xs.getD k z)) :=
  h.own _ (by rw [drop_at z hk]; exact List.mem_cons_self)
theorem SP.next (h : SP f m t u dd base top W v k xs) (b : Below W.heap.size W W') : SP f m t u dd base top W' v k xs :=
  ⟨own_below h.row b, fun x hx => own_below (h.own x hx) b, h.apart, h.top, h.few⟩
theorem SP.spoilt (ht : t ≠ YT) (h : SP f m t u dd base top W v k xs) (hk : k < xs.length) (g : W.grownBy W' (u (xs.getD k z)).ownBlock) : SP f m t u dd base top W' v (k + 1) xs := by
  have ap := h.apart
  rw [drop_at z hk] at ap
  have hp := List.pairwise_cons.1 ap
  refine ⟨row_grown ht h.row (h.at z hk) g, fun x hx => ?_, hp.2, h.top, h.few⟩
  have o := h.own x (by rw [drop_at z hk]; exact List.mem_cons_of_mem _ hx)
  exact own_keep o fun q hq => g.block q (own_lt o hq).2 fun e => hp.1 x hx q e.symm hq
theorem SP.cells (hf : ∀ a, (f a).length = m) (h : SP f m t u dd base top W v k xs) (hk : k < xs.length) : ∃ g c, v = .slice (some ⟨g, 0, none⟩) xs.length c ∧ ∀ i, i < m → W.cell? ⟨g, k * m + i, none⟩ = (f (xs.getD k z))[i]? := by
  obtain ⟨A, c, e, _, _, h3⟩ := own_form (z := z) hf h.row
  rcases h3 with ⟨_, h3, _⟩ | ⟨g, rfl, _, _, _, hc⟩
  · subst h3; simp at hk
  · exact ⟨g, c, e, fun i hi => hc k hk i hi⟩
end
/-- The entries that a law lends, before they are spoiled. -/
abbrev SE (base top : Nat) (W : World) (v : Value) (k : Nat) (xs : List En) : Prop := SP enl 11 ET (fun x => .slice x.A x.d.length x.c) (·.d) base top W v k xs
/-- The values that a law was given. -/
abbrev SV (base top : Nat) (W : World) (v : Value) (k : Nat) (xs : List Vv) : Prop := SP Vv.vals 3 VT Vv.u (·.d) base top W v k xs
theorem SE.start {W W' : World} {A : Option Addr} {n c : Nat} {xs : List En} (row : W'.ownsRow W.heap.size ET 11 (.slice A n c) xs.length (flat enl xs)) (le : LE W' W.heap.size xs) (few : ∀ x ∈ xs, x.d.length ≤ 1000) : SE W.heap.size W'.heap.size W' (.slice A n c) 0 xs :=
  ⟨row, fun x hx => le.own x (by simpa using hx), by simpa using le.apart, fun x hx b hb => own_lt (le.own x hx) hb, few⟩
theorem SV.start {W W' : World} {A : Option Addr} {n c : Nat} {xs : List Vv} (row : W'.ownsRow W.heap.size VT 3 (.slice A n c) xs.length (flat Vv.vals xs)) (le : LV W' W.heap.size xs) (few : ∀ x ∈ xs, x.d.length ≤ 1000) : SV W.heap.size W'.heap.size W' (.slice A n c) 0 xs :=
  ⟨row, fun x hx => le.own x (by simpa using hx), by simpa using le.apart, fun x hx b hb => own_lt (le.own x hx) hb, few⟩
theorem rdE_lent {W W' : World} {A : Option Addr} {n c : Nat} {xs : List En} (row : W'.ownsRow W.heap.size ET 11 (.slice A n c) xs.length (flat enl xs)) (le : LE W' W.heap.size xs) : RdE W' W'.heap.size A xs := by
  obtain ⟨A', c', e, _, _, h⟩ := own_form (z := enZ) enl_len row
  injection e with e1 e2 e3
  subst e1
  refine ⟨?_, fun j hj => own_rd (le.own _ (getD_mem hj))⟩
  rcases h with ⟨_, h, _⟩ | ⟨g, rfl, h1, h2, _, hc⟩
  · exact .inl h
  · exact .inr ⟨g, 0, rfl, h2, fun j hj i hi => by rw [Nat.zero_add]; exact hc j hj i hi⟩
/-- Both dictionaries, new. -/
theorem PD.start {w w1 w2 w3 : World} {v vL vV : Value} {s : Ds} (g : TG w) (i : Inv s) (b1 : Below w.heap.size w w1) (b2 : Below w1.heap.size w1 w2) (d : HasD w2 w1.heap.size v (· < w1.heap.size) s) (b3 : Below w2.heap.size w2 w3) (r : HasG w3 w2.heap.size vL vV (· < w2.heap.size) s) :
    PD w w3 (fun g => w.heap.size ≤ g ∧ g < w1.heap.size) w1.heap.size v w2.heap.size vL vV s s := by
  have s1 := b1.size
  have s2 := b2.size
  have s3 := b3.size
  refine ⟨(b1.trans (b2.mono s1)).trans (b3.mono (Nat.le_trans s1 s2)), g, d.keep s3 (fun g hg _ => b3.block g hg) (fun g hg n => ?_), r.keep (Nat.le_refl _) (fun _ _ _ => rfl) (fun g hg n => ?_), i, fun g k => ⟨k.1, by omega⟩, fun g e => ?_, fun g e => ?_⟩
  · rcases n with n | n
    · exact n.2
    · exact absurd hg (r.nkv n)
  · rcases n with n | n
    · omega
    · exact d.vlt n
  · have := d.np.2.2 g e
    omega
  · have := r.nkv e
    omega
theorem light_en {es xs : List En} (h : lightB es = true) (e : xs.map ev = es.map ev) : xs.length = es.length ∧ (∀ x ∈ xs, x.d.length ≤ 1000) ∧ ∀ j, j < xs.length → (xs.getD j enZ).d.length ≤ 1000 := by
  have hl : xs.length = es.length := by
    have := congrArg List.length e
    simpa using this
  have hd : ∀ j, j < xs.length → (xs.getD j enZ).d.length ≤ 1000 := fun j hj => by
    have h1 : at_ (xs.map ev) j = at_ (es.map ev) j := by rw [e]
    rw [at_map, at_map] at h1
    have h2 := congrArg Ev.d h1
    have h3 : (xs.getD j enZ).d = (es.getD j enZ).d := h2
    rw [h3]
    exact ((light_ok h).2 j (by omega)).1
  refine ⟨hl, fun x hx => ?_, hd⟩
  obtain ⟨j, hj, rfl⟩ := List.getElem_of_mem hx
  have := hd j hj
  simpa [List.getD_eq_getElem?_getD, hj] using this
end Dic
end Go.Proofs.YtpdnfdpoebhjoaaDoor
