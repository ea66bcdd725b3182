/-
  What is done to a journal, as it came in: an Op, a list of them.
-/
import Derived.Test.YtkkbjngjjeajoaaLift
import Derived.Test.YtkkbjngjjeajoaaRecLift
import Derived.Test.YtkkbjngjjeajoaaBytss
namespace Go.Proofs.Ytkkbjngjjeajoaa
namespace Jou
open Go.ChangeShapes Go.WideShapes Go.ChangeAt Go.RowKit Mem

set_option maxRecDepth 100000

/-- An Op's five numbers. -/
structure OpV where
  k : Int
  K : Int
  z : Int
  n : Int
  m : Int
def OpV.zero : OpV := ⟨0, 0, 0, 0, 0⟩
def OpV.vals (o : OpV) : Array Value := #[.int .i64 o.k, .int .i64 o.K, .int .u16 o.z, .int .i64 o.n, .int .u32 o.m]
structure OpV.Ok (o : OpV) : Prop where
  k0 : -9223372036854775808 ≤ o.k
  k1 : o.k ≤ 9223372036854775807
  K0 : -9223372036854775808 ≤ o.K
  K1 : o.K ≤ 9223372036854775807
  z0 : 0 ≤ o.z
  z1 : o.z ≤ 65535
  n0 : -9223372036854775808 ≤ o.n
  n1 : o.n ≤ 9223372036854775807
  m0 : 0 ≤ o.m
  m1 : o.m ≤ 4294967295
/-- The slice at A reads as ops. -/
def RdO (W : World) (B : Nat) (A : Option Addr) (os : List OpV) : Prop :=
  os = [] ∨ ∃ g off, A = some ⟨g, off, none⟩ ∧ g < B ∧ ∀ j, j < os.length → ∀ i, i < 5 → W.cell? ⟨g, off + j * 5 + i, none⟩ = (os.getD j OpV.zero).vals[i]?
theorem RdO.below {W W' : World} {B : Nat} {A : Option Addr} {os : List OpV} (h : RdO W B A os) (b : Below B W W') : RdO W' B A os := by
  rcases h with h | ⟨g, off, e, hg, hc⟩
  · exact .inl h
  · exact .inr ⟨g, off, e, hg, fun j hj i hi => (b.cell (p := ⟨g, off + j * 5 + i, none⟩) hg).trans (hc j hj i hi)⟩
theorem RdO.five {W : World} {B : Nat} {A : Option Addr} {os : List OpV} (h : RdO W B A os) {j : Nat} (hj : j < os.length) {o : OpV} (ho : os.getD j OpV.zero = o) : ∃ g off, A = some ⟨g, off, none⟩ ∧ g < B ∧
    W.cell? ⟨g, off + j * 5, none⟩ = some (.int .i64 o.k) ∧ W.cell? ⟨g, off + j * 5 + 1, none⟩ = some (.int .i64 o.K) ∧ W.cell? ⟨g, off + j * 5 + 2, none⟩ = some (.int .u16 o.z) ∧
    W.cell? ⟨g, off + j * 5 + 3, none⟩ = some (.int .i64 o.n) ∧ W.cell? ⟨g, off + j * 5 + 4, none⟩ = some (.int .u32 o.m) := by
  rcases h with h | ⟨g, off, e, hg, hc⟩
  · subst h; simp at hj
  · have h := hc j hj
    rw [ho] at h
    exact ⟨g, off, e, hg, h 0 (by omega), h 1 (by omega), h 2 (by omega), h 3 (by omega), h 4 (by omega)⟩

theorem oflds : ∃ fs : Array Field, Try.prog.underlying 26 = some (.struct fs) ∧ fs.size = 5 ∧ ∀ j, j < 5 → (fs[j]?).map (fun f => (f.offset, Try.prog.cellsOf f.type, f.type)) = some (j, 1, if j = 2 then 23 else if j = 4 then 24 else 3) := by
  refine ⟨_, Try.underlying26, by kernel_rfl, fun j hj => ?_⟩
  rcases (by omega : j = 0 ∨ j = 1 ∨ j = 2 ∨ j = 3 ∨ j = 4) with rfl | rfl | rfl | rfl | rfl <;> kernel_rfl

/-- Five cells that were read as an Op. -/
theorem open_five {H : Type} {enc : TypeId × Value → H} {W : World} {fuel : Nat} {cs : List Value} {x : DataW H × List MemPlace} (hl : cs.length = 5)
    (hf : DataW.trod enc Try.prog W 0 (fun _ => true) true fuel 26 cs = some x) : ∃ o : OpV, o.Ok ∧ cs = o.vals.toList := by
  obtain ⟨fs, hfs, hsz, hfl⟩ := oflds
  obtain ⟨xs, m, _, _, _, hxl, hx⟩ := DataW.trod_struct hfs hf
  have one : ∀ j, (hj : j < 5) → (cs.drop j).take 1 = [cs[j]'(by omega)] := fun j hj => by
    rw [List.drop_eq_getElem_cons (by omega), List.take_succ_cons, List.take_zero]
  have fld : ∀ j t, (hj : j < 5) → (if j = 2 then 23 else if j = 4 then 24 else 3) = t → ∃ y, DataW.trod enc Try.prog W 0 (fun _ => true) true m t [cs[j]'(by omega)] = some y := fun j t hj ht => by
    have h1 := hfl j hj
    cases hq : fs[j]? with
    | none => rw [hq] at h1; simp at h1
    | some f =>
      rw [hq] at h1
      simp only [Option.map_some, Option.some.injEq, Prod.mk.injEq] at h1
      obtain ⟨e1, e2, e3⟩ := h1
      have h2 := hx j f hq
      rw [e1, e2, e3, one j hj, ht] at h2
      have h3 : j < xs.length := by rw [hxl, hsz]; exact hj
      rw [List.getElem?_eq_getElem h3] at h2
      exact ⟨_, h2⟩
  obtain ⟨y0, h0⟩ := fld 0 3 (by omega) rfl
  obtain ⟨y1, h1⟩ := fld 1 3 (by omega) rfl
  obtain ⟨y2, h2⟩ := fld 2 23 (by omega) rfl
  obtain ⟨y3, h3⟩ := fld 3 3 (by omega) rfl
  obtain ⟨y4, h4⟩ := fld 4 24 (by omega) rfl
  obtain ⟨a, ha, _, wa⟩ := DataW.trod_int Try.underlying3 h0
  obtain ⟨b, hb, _, wb⟩ := DataW.trod_int Try.underlying3 h1
  obtain ⟨c, hc, _, wc⟩ := DataW.trod_int Try.underlying23 h2
  obtain ⟨d, hd, _, wd⟩ := DataW.trod_int Try.underlying3 h3
  obtain ⟨e, he, _, we⟩ := DataW.trod_int Try.underlying24 h4
  refine ⟨⟨a, b, c, d, e⟩, ⟨(wf_i64 wa).1, (wf_i64 wa).2, (wf_i64 wb).1, (wf_i64 wb).2, (wf_u16 wc).1, (wf_u16 wc).2, (wf_i64 wd).1, (wf_i64 wd).2, (wf_u32 we).1, (wf_u32 we).2⟩, ?_⟩
  apply List.ext_getElem
  · rw [hl]; rfl
  · intro i h1 h2
    have hi : i < 5 := by omega
    match i, hi with
    | 0, _ => simpa [OpV.vals] using ha
    | 1, _ => simpa [OpV.vals] using hb
    | 2, _ => simpa [OpV.vals] using hc
    | 3, _ => simpa [OpV.vals] using hd
    | 4, _ => simpa [OpV.vals] using he
theorem open_op {H : Type} {enc : TypeId × Value → H} {W : World} {v : Value} {d : DataW H} {p : List MemPlace} {r : Reach} {base : Nat}
    (hval : Value.okWide Try.prog W r base 26 v) (h0 : DataW.Trod enc Try.prog W 0 (fun _ => true) true 26 v d p) : ∃ o : OpV, v = .agg o.vals ∧ o.Ok := by
  obtain ⟨fs, hfs, hsz, hfl⟩ := oflds
  obtain ⟨cs, rfl, hcs⟩ := okWide_struct hfs hval
  rw [show Try.prog.cellsOf 26 = 5 by kernel_rfl] at hcs
  obtain ⟨fuel, hf⟩ := h0
  have hcell : (Value.agg cs).cells.toList = cs.toList := rfl
  rw [hcell] at hf
  obtain ⟨o, ho, hv⟩ := open_five (by simpa using hcs) hf
  exact ⟨o, by congr 1; exact Array.toList_inj.1 hv, ho⟩

end Jou
end Go.Proofs.Ytkkbjngjjeajoaa
