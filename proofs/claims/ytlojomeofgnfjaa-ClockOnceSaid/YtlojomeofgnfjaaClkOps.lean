/-
  What is done to a clock, as it came in: a list of Ops.
-/
import Derived.Test.YtlojomeofgnfjaaProg
import Derived.Test.YtlojomeofgnfjaaLift
import Derived.Test.YtlojomeofgnfjaaBytss
namespace Go.Proofs.Ytlojomeofgnfjaa
namespace Clk
open Go.ChangeShapes Go.WideShapes Go.ChangeAt Go.RowKit Mem
set_option linter.unusedVariables false
set_option maxRecDepth 100000

structure OpV where
  k : Int
  n : Int
  t : Int
def OpV.zero : OpV := ⟨0, 0, 0⟩
def OpV.vals (o : OpV) : Array Value := #[.int .i64 o.k, .int .i64 o.n, .int .i64 o.t]
structure OpV.Ok (o : OpV) : Prop where
  k0 : -9223372036854775808 ≤ o.k
  k1 : o.k ≤ 9223372036854775807
  n0 : -9223372036854775808 ≤ o.n
  n1 : o.n ≤ 9223372036854775807
  t0 : -9223372036854775808 ≤ o.t
  t1 : o.t ≤ 9223372036854775807
/-- The slice at A reads as ops. -/
def RdO (W : World) (B : Nat) (A : Option Addr) (os : List OpV) : Prop :=
  os = [] ∨ ∃ g off, A = some ⟨g, off, none⟩ ∧ g < B ∧ ∀ j, j < os.length → ∀ i, i < 3 → W.cell? ⟨g, off + j * 3 + i, none⟩ = (os.getD j OpV.zero).vals[i]?
theorem RdO.below {W W' : World} {B : Nat} {A : Option Addr} {os : List OpV} (h : RdO W B A os) (b : Below B W W') : RdO W' B A os := by
  rcases h with h | ⟨g, off, e, hg, hc⟩
  · exact .inl h
  · exact .inr ⟨g, off, e, hg, fun j hj i hi => (b.cell (p := ⟨g, off + j * 3 + i, none⟩) hg).trans (hc j hj i hi)⟩
theorem RdO.three {W : World} {B : Nat} {A : Option Addr} {os : List OpV} (h : RdO W B A os) {j : Nat} (hj : j < os.length) {o : OpV} (ho : os.getD j OpV.zero = o) : ∃ g off, A = some ⟨g, off, none⟩ ∧ g < B ∧
    W.cell? ⟨g, off + j * 3, none⟩ = some (.int .i64 o.k) ∧ W.cell? ⟨g, off + j * 3 + 1, none⟩ = some (.int .i64 o.n) ∧ W.cell? ⟨g, off + j * 3 + 2, none⟩ = some (.int .i64 o.t) := by
  rcases h with h | ⟨g, off, e, hg, hc⟩
  · subst h; simp at hj
  · have h1 := hc j hj
    rw [ho] at h1
    exact ⟨g, off, e, hg, h1 0 (by omega), h1 1 (by omega), h1 2 (by omega)⟩

theorem oflds : ∃ fs : Array Field, Try.prog.underlying 46 = some (.struct fs) ∧ fs.size = 3 ∧ ∀ j, j < 3 → (fs[j]?).map (fun f => (f.offset, Try.prog.cellsOf f.type, f.type)) = some (j, 1, 3) := by
  refine ⟨_, Try.underlying46, by kernel_rfl, fun j hj => ?_⟩
  rcases (by omega : j = 0 ∨ j = 1 ∨ j = 2) with rfl | rfl | rfl <;> kernel_rfl
theorem open_tri {H : Type} {enc : TypeId × Value → H} {W : World} {fuel : Nat} {cs : List Value} {x : DataW H × List MemPlace} (hl : cs.length = 3)
    (hf : DataW.trod enc Try.prog W 0 (fun _ => true) true fuel 46 cs = some x) : ∃ o : OpV, o.Ok ∧ cs = o.vals.toList := by
  obtain ⟨fs, hfs, hsz, hfl⟩ := oflds
  obtain ⟨xs, m, _, _, _, hxl, hx⟩ := DataW.trod_struct hfs hf
  have one : ∀ j, (hj : j < 3) → (cs.drop j).take 1 = [cs[j]'(by omega)] := fun j hj => by rw [List.drop_eq_getElem_cons (by omega), List.take_succ_cons, List.take_zero]
  have fld : ∀ j, (hj : j < 3) → ∃ y, DataW.trod enc Try.prog W 0 (fun _ => true) true m 3 [cs[j]'(by omega)] = some y := fun j hj => by
    have h1 := hfl j hj
    cases hq : fs[j]? with
    | none => rw [hq] at h1; simp at h1
    | some f =>
      rw [hq] at h1
      simp only [Option.map_some, Option.some.injEq, Prod.mk.injEq] at h1
      obtain ⟨e1, e2, e3⟩ := h1
      have h2 := hx j f hq
      rw [e1, e2, e3, one j hj] at h2
      have h3 : j < xs.length := by rw [hxl, hsz]; exact hj
      rw [List.getElem?_eq_getElem h3] at h2
      exact ⟨_, h2⟩
  obtain ⟨y0, h0⟩ := fld 0 (by omega)
  obtain ⟨y1, h1⟩ := fld 1 (by omega)
  obtain ⟨y2, h2⟩ := fld 2 (by omega)
  obtain ⟨a, ha, _, wa⟩ := DataW.trod_int Try.underlying3 h0
  obtain ⟨b, hb, _, wb⟩ := DataW.trod_int Try.underlying3 h1
  obtain ⟨c, hc, _, wc⟩ := DataW.trod_int Try.underlying3 h2
  refine ⟨⟨a, b, c⟩, ⟨(wf_i64 wa).1, (wf_i64 wa).2, (wf_i64 wb).1, (wf_i64 wb).2, (wf_i64 wc).1, (wf_i64 wc).2⟩, ?_⟩
  apply List.ext_getElem
  · rw [hl]; rfl
  · intro i h1 h2
    have hi : i < 3 := by omega
    match i, hi with
    | 0, _ => simpa [OpV.vals] using ha
    | 1, _ => simpa [OpV.vals] using hb
    | 2, _ => simpa [OpV.vals] using hc

theorem open_ops {H : Type} {enc : TypeId × Value → H} {W : World} {v : Value} {d : DataW H} {p : List MemPlace} {r : Reach} {base : Nat}
    (hval : Value.okWide Try.prog W r base 38 v) (h0 : DataW.Trod enc Try.prog W 0 (fun _ => true) true 38 v d p) :
    ∃ A c os, v = .slice A (List.length os) c ∧ RdO W W.heap.size A os ∧ List.length os ≤ maxLen ∧ ∀ j, j < os.length → (os.getD j OpV.zero).Ok := by
  obtain ⟨a0, len0, cap0, rfl⟩ := okWide_slice Try.underlying38 hval
  obtain ⟨fuel, hf⟩ := h0
  rcases DataW.trod_slice Try.underlying38 hf with ⟨hcs, _⟩ | ⟨a, len, cap, elems, rest, n, _, hcs, _, _, hl, hm, hlen, hel, _⟩
  · simp [Value.cells] at hcs
    obtain ⟨rfl, rfl, rfl⟩ := hcs
    exact ⟨none, 0, [], rfl, .inl rfl, by simp, fun j hj => by simp at hj⟩
  · simp [Value.cells] at hcs
    obtain ⟨rfl, rfl, rfl⟩ := hcs
    have each : ∀ i, i < len0 → ∃ o : OpV, o.Ok ∧ ∀ j, j < 3 → W.cell? ((a.add (i * 3)).add j) = o.vals[j]? := by
      intro i hi
      have h1 := hel i hi
      rw [show Try.prog.cellsOf 46 = 3 by kernel_rfl, List.getElem?_eq_getElem (by omega), Option.bind_eq_some_iff] at h1
      obtain ⟨cs, h2, h3⟩ := h1
      obtain ⟨_, h4, h5⟩ := World.cells?_some h2
      obtain ⟨o, ho, rfl⟩ := open_tri h4 h3
      exact ⟨o, ho, fun j hj => by rw [h5 j hj]; exact Array.getElem?_toList⟩
    obtain ⟨os, hds, hp⟩ := exists_list each
    have hget : ∀ j, (hj : j < os.length) → os.getD j OpV.zero = os[j] := fun j hj => by simp [hj]
    refine ⟨some a, cap0, os, by rw [hds], ?_, by omega, fun j hj => by rw [hget j hj]; exact (hp j hj).1⟩
    by_cases hz : os.length = 0
    · exact .inl (List.eq_nil_of_length_eq_zero hz)
    · have h1 := (hp 0 (by omega)).2 0 (by omega)
      obtain ⟨g, off, spot⟩ := a
      have h1' : W.cell? (((⟨g, off, spot⟩ : Addr).add (0 * 3)).add 0) = some (.int .i64 (os[0]'(by omega)).k) := h1
      have hspot : spot = none := by simpa [Addr.add] using World.cell?_spot h1'
      subst hspot
      have hlt : g < W.heap.size := World.block_lt_of_cell? W _ h1'
      refine .inr ⟨g, off, rfl, hlt, fun j hj i hi => ?_⟩
      have := (hp j hj).2 i hi
      rw [Addr.add_lit, Addr.add_lit] at this
      rw [this, hget j hj]
end Clk
end Go.Proofs.Ytlojomeofgnfjaa
