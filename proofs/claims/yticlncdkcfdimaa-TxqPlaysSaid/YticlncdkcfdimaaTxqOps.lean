/-
  What is done to a queue, as it came in: an Op, a list of them.
-/
import Derived.Test.YticlncdkcfdimaaFrmLift
import Derived.Test.YticlncdkcfdimaaBytss
namespace Go.Proofs.Yticlncdkcfdimaa
namespace Txq
open Go.ChangeShapes Go.WideShapes Go.ChangeAt Go.RowKit Mem Frm
set_option linter.unusedVariables false
set_option maxRecDepth 100000

/-- An Op: its kind, its frame. -/
structure Ov where
  k : Int
  f : Fv
def Ov.zero : Ov := ⟨0, Fv.zero⟩
def Ov.vals (o : Ov) : Array Value := #[.int .i64 o.k, .int .i64 o.f.id, .bool o.f.r, .slice o.f.A o.f.d.length o.f.c]
structure Ov.Ok (o : Ov) : Prop where
  k0 : -9223372036854775808 ≤ o.k
  k1 : o.k ≤ 9223372036854775807
  f : o.f.Ok
/-- The slice at A reads as ops. -/
def RdT (W : World) (B : Nat) (A : Option Addr) (os : List Ov) : Prop :=
  (os = [] ∨ ∃ g off, A = some ⟨g, off, none⟩ ∧ g < B ∧ ∀ j, j < os.length → ∀ i, i < 4 → W.cell? ⟨g, off + j * 4 + i, none⟩ = (os.getD j Ov.zero).vals[i]?) ∧ ∀ j, j < os.length → Rd W B (os.getD j Ov.zero).f.A (os.getD j Ov.zero).f.d
theorem RdT.below {W W' : World} {B : Nat} {A : Option Addr} {os : List Ov} (h : RdT W B A os) (b : Below B W W') : RdT W' B A os := by
  refine ⟨?_, fun j hj => (h.2 j hj).below b⟩
  rcases h.1 with h | ⟨g, off, e, hg, hc⟩
  · exact .inl h
  · exact .inr ⟨g, off, e, hg, fun j hj i hi => (b.cell (p := ⟨g, off + j * 4 + i, none⟩) hg).trans (hc j hj i hi)⟩
theorem RdT.four {W : World} {B : Nat} {A : Option Addr} {os : List Ov} (h : RdT W B A os) {j : Nat} (hj : j < os.length) {o : Ov} (ho : os.getD j Ov.zero = o) : ∃ g off, A = some ⟨g, off, none⟩ ∧ g < B ∧
    W.cell? ⟨g, off + j * 4, none⟩ = some (.int .i64 o.k) ∧ W.cell? ⟨g, off + j * 4 + 1, none⟩ = some (.int .i64 o.f.id) ∧ W.cell? ⟨g, off + j * 4 + 2, none⟩ = some (.bool o.f.r) ∧
    W.cell? ⟨g, off + j * 4 + 3, none⟩ = some (.slice o.f.A o.f.d.length o.f.c) ∧ Rd W B o.f.A o.f.d := by
  rcases h.1 with h | ⟨g, off, e, hg, hc⟩
  · subst h; simp at hj
  · have h1 := hc j hj
    have h2 := h.2 j hj
    rw [ho] at h1 h2
    exact ⟨g, off, e, hg, h1 0 (by omega), h1 1 (by omega), h1 2 (by omega), h1 3 (by omega), h2⟩

theorem tflds : ∃ fs : Array Field, Try.prog.underlying 36 = some (.struct fs) ∧ fs.size = 2 ∧ ∀ j, j < 2 → (fs[j]?).map (fun f => (f.offset, Try.prog.cellsOf f.type, f.type)) = some (j, if j = 0 then 1 else 3, if j = 0 then 3 else 34) := by
  refine ⟨_, Try.underlying36, by kernel_rfl, fun j hj => ?_⟩
  rcases (by omega : j = 0 ∨ j = 1) with rfl | rfl <;> kernel_rfl

/-- Four cells that were read as an Op. -/
theorem open_four {H : Type} {enc : TypeId × Value → H} {W : World} {fuel : Nat} {cs : List Value} {x : DataW H × List MemPlace} (hl : cs.length = 4)
    (hf : DataW.trod enc Try.prog W 0 (fun _ => true) true fuel 36 cs = some x) : ∃ o : Ov, o.Ok ∧ cs = o.vals.toList ∧ Rd W W.heap.size o.f.A o.f.d := by
  obtain ⟨fs, hfs, hsz, hfl⟩ := tflds
  obtain ⟨xs, m, _, _, _, hxl, hx⟩ := DataW.trod_struct hfs hf
  have fld : ∀ j n t, (hj : j < 2) → (if j = 0 then 1 else 3) = n → (if j = 0 then 3 else 34) = t → ∃ y, DataW.trod enc Try.prog W 0 (fun _ => true) true m t ((cs.drop j).take n) = some y := fun j n t hj hn ht => by
    have h1 := hfl j hj
    cases hq : fs[j]? with
    | none => rw [hq] at h1; simp at h1
    | some f =>
      rw [hq] at h1
      simp only [Option.map_some, Option.some.injEq, Prod.mk.injEq] at h1
      obtain ⟨e1, e2, e3⟩ := h1
      have h2 := hx j f hq
      rw [e1, e2, e3, hn, ht] at h2
      have h3 : j < xs.length := by rw [hxl, hsz]; exact hj
      rw [List.getElem?_eq_getElem h3] at h2
      exact ⟨_, h2⟩
  obtain ⟨y0, h0⟩ := fld 0 1 3 (by omega) rfl rfl
  obtain ⟨y1, h1⟩ := fld 1 3 34 (by omega) rfl rfl
  match cs, hl with
  | [a, b, c, d], _ =>
    obtain ⟨k, hk, _, wk⟩ := DataW.trod_int Try.underlying3 h0
    obtain ⟨f, ho, hv, hrd, _⟩ := open_three (by rfl) h1
    have e0 : a = .int .i64 k := by simpa using hk
    have e1 : [b, c, d] = f.vals.toList := hv
    refine ⟨⟨k, f⟩, ⟨(wf_i64 wk).1, (wf_i64 wk).2, ho⟩, ?_, hrd⟩
    rw [e0]
    show _ :: [b, c, d] = _
    rw [e1]
    rfl
theorem open_ops {H : Type} {enc : TypeId × Value → H} {W : World} {v : Value} {d : DataW H} {p : List MemPlace} {r : Reach} {base : Nat}
    (hval : Value.okWide Try.prog W r base 22 v) (h0 : DataW.Trod enc Try.prog W 0 (fun _ => true) true 22 v d p) :
    ∃ A c os, v = .slice A (List.length os) c ∧ RdT W W.heap.size A os ∧ List.length os ≤ maxLen ∧ ∀ j, j < os.length → (os.getD j Ov.zero).Ok := by
  obtain ⟨a0, len0, cap0, rfl⟩ := okWide_slice Try.underlying22 hval
  obtain ⟨fuel, hf⟩ := h0
  rcases DataW.trod_slice Try.underlying22 hf with ⟨hcs, _⟩ | ⟨a, len, cap, elems, rest, n, _, hcs, _, _, hl, hm, hlen, hel, _⟩
  · simp [Value.cells] at hcs
    obtain ⟨rfl, rfl, rfl⟩ := hcs
    exact ⟨none, 0, [], rfl, ⟨.inl rfl, fun j hj => by simp at hj⟩, by simp, fun j hj => by simp at hj⟩
  · simp [Value.cells] at hcs
    obtain ⟨rfl, rfl, rfl⟩ := hcs
    have each : ∀ i, i < len0 → ∃ o : Ov, (o.Ok ∧ Rd W W.heap.size o.f.A o.f.d) ∧ ∀ j, j < 4 → W.cell? ((a.add (i * 4)).add j) = o.vals[j]? := by
      intro i hi
      have h1 := hel i hi
      rw [show Try.prog.cellsOf 36 = 4 by kernel_rfl, List.getElem?_eq_getElem (by omega), Option.bind_eq_some_iff] at h1
      obtain ⟨cs, h2, h3⟩ := h1
      obtain ⟨_, h4, h5⟩ := World.cells?_some h2
      obtain ⟨o, ho, rfl, hrd⟩ := open_four h4 h3
      exact ⟨o, ⟨ho, hrd⟩, fun j hj => by rw [h5 j hj]; exact Array.getElem?_toList⟩
    obtain ⟨os, hds, hp⟩ := exists_list each
    have hget : ∀ j, (hj : j < os.length) → os.getD j Ov.zero = os[j] := fun j hj => by simp [hj]
    refine ⟨some a, cap0, os, by rw [hds], ⟨?_, fun j hj => by rw [hget j hj]; exact (hp j hj).1.2⟩, by omega, fun j hj => by rw [hget j hj]; exact (hp j hj).1.1⟩
    by_cases hz : os.length = 0
    · exact .inl (List.eq_nil_of_length_eq_zero hz)
    · have h1 := (hp 0 (by omega)).2 0 (by omega)
      obtain ⟨g, off, spot⟩ := a
      have h1' : W.cell? (((⟨g, off, spot⟩ : Addr).add (0 * 4)).add 0) = some (.int .i64 (os[0]'(by omega)).k) := h1
      have hspot : spot = none := by simpa [Addr.add] using World.cell?_spot h1'
      subst hspot
      have hlt : g < W.heap.size := World.block_lt_of_cell? W _ h1'
      refine .inr ⟨g, off, rfl, hlt, fun j hj i hi => ?_⟩
      have := (hp j hj).2 i hi
      rw [Addr.add_lit, Addr.add_lit] at this
      rw [this, hget j hj]
end Txq
end Go.Proofs.Yticlncdkcfdimaa
