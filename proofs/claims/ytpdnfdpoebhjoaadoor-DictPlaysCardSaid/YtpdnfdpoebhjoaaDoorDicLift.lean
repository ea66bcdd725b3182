/-
  What the laws' dictionaries are handed: a list of entries, something that is done, a list of such things.
-/
import Derived.Test.YtpdnfdpoebhjoaaDoorDicNew
import Derived.Test.YtpdnfdpoebhjoaaDoorBytss
namespace Go.Proofs.YtpdnfdpoebhjoaaDoor
namespace Dic
open Go.ChangeShapes Go.WideShapes Go.ChangeAt Go.RowKit Mem Ent
set_option linter.unusedVariables false
set_option maxRecDepth 100000

/-- Eleven cells that were read as an entry, in the words of lists. -/
theorem enl_of (x : En) : x.row.toList = enl x := rfl

theorem open_ents {H : Type} {enc : TypeId × Value → H} {W : World} {v : Value} {d : DataW H} {p : List MemPlace} {r : Reach} {base : Nat}
    (hval : Value.okWide Tryd.prog W r base 22 v) (h0 : DataW.Trod enc Tryd.prog W 0 (fun _ => true) true 22 v d p) :
    ∃ A c es, v = .slice A (List.length es) c ∧ RdE W W.heap.size A es ∧ List.length es ≤ maxLen ∧ ∀ j, j < es.length → (es.getD j enZ).Ok W := by
  obtain ⟨a0, len0, cap0, rfl⟩ := okWide_slice Tryd.underlying22 hval
  obtain ⟨fuel, hf⟩ := h0
  rcases DataW.trod_slice Tryd.underlying22 hf with ⟨hcs, _⟩ | ⟨a, len, cap, elems, rest, n, _, hcs, _, _, hl, hm, hlen, hel, _⟩
  · simp [Value.cells] at hcs
    obtain ⟨rfl, rfl, rfl⟩ := hcs
    exact ⟨none, 0, [], rfl, ⟨.inl rfl, fun j hj => by simp at hj⟩, by simp, fun j hj => by simp at hj⟩
  · simp [Value.cells] at hcs
    obtain ⟨rfl, rfl, rfl⟩ := hcs
    have each : ∀ i, i < len0 → ∃ o : En, o.Ok W ∧ ∀ j, j < 11 → W.cell? ((a.add (i * 11)).add j) = (enl o)[j]? := by
      intro i hi
      have h1 := hel i hi
      rw [show Tryd.prog.cellsOf 38 = 11 by kernel_rfl, List.getElem?_eq_getElem (by omega), Option.bind_eq_some_iff] at h1
      obtain ⟨cs, h2, h3⟩ := h1
      obtain ⟨_, h4, h5⟩ := World.cells?_some h2
      obtain ⟨o, ho, rfl, _⟩ := open_cells h4 h3
      exact ⟨o, ho, fun j hj => by rw [h5 j hj, enl_of]⟩
    obtain ⟨os, hds, hp⟩ := exists_list each
    have hget : ∀ j, (hj : j < os.length) → os.getD j enZ = os[j] := fun j hj => by simp [hj]
    refine ⟨some a, cap0, os, by rw [hds], ⟨?_, fun j hj => by rw [hget j hj]; exact (hp j hj).1.rd⟩, by omega, fun j hj => by rw [hget j hj]; exact (hp j hj).1⟩
    by_cases hz : os.length = 0
    · exact .inl (List.eq_nil_of_length_eq_zero hz)
    · have h1 := (hp 0 (by omega)).2 0 (by omega)
      obtain ⟨g, off, spot⟩ := a
      have h1' : W.cell? (((⟨g, off, spot⟩ : Addr).add (0 * 11)).add 0) = some (.int .i64 (os[0]'(by omega)).ix) := h1
      have hspot : spot = none := by simpa [Addr.add] using World.cell?_spot h1'
      subst hspot
      have hlt : g < W.heap.size := World.block_lt_of_cell? W _ h1'
      refine .inr ⟨g, off, rfl, hlt, fun j hj i hi => ?_⟩
      have := (hp j hj).2 i hi
      rw [Addr.add_lit, Addr.add_lit] at this
      rw [this, hget j hj]

/-- Something that is done: its kind, its place, its bytes. -/
structure Ov where
  k : Int
  ix : Int
  sub : Int
  A : Option Addr
  d : List UInt8
  c : Nat
def Ov.zero : Ov := ⟨0, 0, 0, none, [], 0⟩
abbrev Ov.row (o : Ov) : Array Value := #[.int .i64 o.k, .int .i64 o.ix, .int .i64 o.sub, .slice o.A o.d.length o.c]
abbrev Ov.val (o : Ov) : Value := .agg o.row
def ovl (o : Ov) : List Value := [.int .i64 o.k, .int .i64 o.ix, .int .i64 o.sub, .slice o.A o.d.length o.c]
structure Ov.Ok (W : World) (o : Ov) : Prop where
  k : I64 o.k
  ix : I64 o.ix
  sub : I64 o.sub
  d : o.d.length ≤ maxLen
  rd : Rd W W.heap.size o.A o.d
/-- The slice at A reads as things that are done. -/
structure RdO (W : World) (B : Nat) (A : Option Addr) (os : List Ov) : Prop where
  cells : RdL ovl 4 Ov.zero (· < B) W A os
  data : ∀ j, j < os.length → Rd W B (os.getD j Ov.zero).A (os.getD j Ov.zero).d
theorem RdO.below {W W' : World} {B : Nat} {A : Option Addr} {os : List Ov} (h : RdO W B A os) (b : Below B W W') : RdO W' B A os := ⟨h.cells.keep fun g hg => b.block g hg, fun j hj => (h.data j hj).below b⟩
theorem RdO.at {W : World} {B : Nat} {A : Option Addr} {os : List Ov} (h : RdO W B A os) {j : Nat} (hj : j < os.length) {o : Ov} (ho : os.getD j Ov.zero = o) : ∃ g off, A = some ⟨g, off, none⟩ ∧ g < B ∧
    W.cell? ⟨g, off + j * 4, none⟩ = some (.int .i64 o.k) ∧ W.cell? ⟨g, off + j * 4 + 1, none⟩ = some (.int .i64 o.ix) ∧ W.cell? ⟨g, off + j * 4 + 2, none⟩ = some (.int .i64 o.sub) ∧ W.cell? ⟨g, off + j * 4 + 3, none⟩ = some (.slice o.A o.d.length o.c) ∧ Rd W B o.A o.d := by
  have h2 := h.data j hj
  rw [ho] at h2
  rcases h.cells with h | ⟨g, off, e, hg, hc⟩
  · subst h; simp at hj
  · have q := hc j hj
    rw [ho] at q
    exact ⟨g, off, e, hg, q 0 (by omega), q 1 (by omega), q 2 (by omega), q 3 (by omega), h2⟩

theorem oflds : ∃ fs : Array Field, Tryd.prog.underlying 40 = some (.struct fs) ∧ fs.size = 4 ∧ ∀ j, j < 4 → (fs[j]?).map (fun f => (f.offset, Tryd.prog.cellsOf f.type, f.type)) = some (j, 1, if j = 3 then 36 else 3) := by
  refine ⟨_, Tryd.underlying40, by kernel_rfl, fun j hj => ?_⟩
  rcases (by omega : j = 0 ∨ j = 1 ∨ j = 2 ∨ j = 3) with rfl | rfl | rfl | rfl <;> kernel_rfl

/-- Four cells that were read as such a thing. -/
theorem open_four {H : Type} {enc : TypeId × Value → H} {W : World} {fuel : Nat} {cs : List Value} {x : DataW H × List MemPlace} (hl : cs.length = 4)
    (hf : DataW.trod enc Tryd.prog W 0 (fun _ => true) true fuel 40 cs = some x) : ∃ o : Ov, o.Ok W ∧ cs = ovl o := by
  obtain ⟨fs, hfs, hsz, hfl⟩ := oflds
  obtain ⟨xs, m, _, _, _, hxl, hx⟩ := DataW.trod_struct hfs hf
  have one : ∀ j, (hj : j < 4) → (cs.drop j).take 1 = [cs[j]'(by omega)] := fun j hj => by
    rw [List.drop_eq_getElem_cons (by omega), List.take_succ_cons, List.take_zero]
  have fld : ∀ j t, (hj : j < 4) → (if j = 3 then 36 else 3) = t → ∃ y, DataW.trod enc Tryd.prog W 0 (fun _ => true) true m t [cs[j]'(by omega)] = some y := fun j t hj ht => by
    have h1 := hfl j hj
    cases hq : fs[j]? with
    | none => rw [hq] at h1; simp at h1
    | some f =>
      rw [hq] at h1
      simp only [Option.map_some, Option.some.injEq, Prod.mk.injEq] at h1
      obtain ⟨e1, e2, e3⟩ := h1
      have h2 := hx j f hq
      rw [e1, e2, e3, one j hj, ht] at h2
      have h3 : j < xs.length := by rw [hxl, hsz]; exact hj
      rw [List.getElem?_eq_getElem h3] at h2
      exact ⟨_, h2⟩
  obtain ⟨y0, h0⟩ := fld 0 3 (by omega) rfl
  obtain ⟨y1, h1⟩ := fld 1 3 (by omega) rfl
  obtain ⟨y2, h2⟩ := fld 2 3 (by omega) rfl
  obtain ⟨y3, h3⟩ := fld 3 36 (by omega) rfl
  obtain ⟨k0, e0, _, w0⟩ := DataW.trod_int Tryd.underlying3 h0
  obtain ⟨k1, e1, _, w1⟩ := DataW.trod_int Tryd.underlying3 h1
  obtain ⟨k2, e2, _, w2⟩ := DataW.trod_int Tryd.underlying3 h2
  obtain ⟨A, c, bs, e3, rd, l1, l2, l3⟩ := open_slc Tryd.underlying36 Tryd.underlying5 (by kernel_rfl) h3
  refine ⟨⟨k0, k1, k2, A, bs, c⟩, ⟨wf_i64 w0, wf_i64 w1, wf_i64 w2, l1, rd⟩, ?_⟩
  apply List.ext_getElem
  · rw [hl]; rfl
  · intro i hi1 hi2
    have hi : i < 4 := by omega
    match i, hi with
    | 0, _ => simpa [ovl] using e0
    | 1, _ => simpa [ovl] using e1
    | 2, _ => simpa [ovl] using e2
    | 3, _ => simpa [ovl] using e3

theorem open_op {H : Type} {enc : TypeId × Value → H} {W : World} {v : Value} {d : DataW H} {p : List MemPlace} {r : Reach} {base : Nat}
    (hval : Value.okWide Tryd.prog W r base 40 v) (h0 : DataW.Trod enc Tryd.prog W 0 (fun _ => true) true 40 v d p) : ∃ o : Ov, v = o.val ∧ o.Ok W := by
  obtain ⟨fs, hfs, hsz, hfl⟩ := oflds
  obtain ⟨cs, rfl, hcs⟩ := okWide_struct hfs hval
  rw [show Tryd.prog.cellsOf 40 = 4 by kernel_rfl] at hcs
  obtain ⟨fuel, hf⟩ := h0
  have hcell : (Value.agg cs).cells.toList = cs.toList := rfl
  rw [hcell] at hf
  obtain ⟨o, ho, hv⟩ := open_four (by simpa using hcs) hf
  refine ⟨o, ?_, ho⟩
  have : cs = o.row := Array.toList_inj.1 hv
  rw [this]

theorem open_ops {H : Type} {enc : TypeId × Value → H} {W : World} {v : Value} {d : DataW H} {p : List MemPlace} {r : Reach} {base : Nat}
    (hval : Value.okWide Tryd.prog W r base 23 v) (h0 : DataW.Trod enc Tryd.prog W 0 (fun _ => true) true 23 v d p) :
    ∃ A c os, v = .slice A (List.length os) c ∧ RdO W W.heap.size A os ∧ List.length os ≤ maxLen ∧ ∀ j, j < os.length → (os.getD j Ov.zero).Ok W := by
  obtain ⟨a0, len0, cap0, rfl⟩ := okWide_slice Tryd.underlying23 hval
  obtain ⟨fuel, hf⟩ := h0
  rcases DataW.trod_slice Tryd.underlying23 hf with ⟨hcs, _⟩ | ⟨a, len, cap, elems, rest, n, _, hcs, _, _, hl, hm, hlen, hel, _⟩
  · simp [Value.cells] at hcs
    obtain ⟨rfl, rfl, rfl⟩ := hcs
    exact ⟨none, 0, [], rfl, ⟨.inl rfl, fun j hj => by simp at hj⟩, by simp, fun j hj => by simp at hj⟩
  · simp [Value.cells] at hcs
    obtain ⟨rfl, rfl, rfl⟩ := hcs
    have each : ∀ i, i < len0 → ∃ o : Ov, o.Ok W ∧ ∀ j, j < 4 → W.cell? ((a.add (i * 4)).add j) = (ovl o)[j]? := by
      intro i hi
      have h1 := hel i hi
      rw [show Tryd.prog.cellsOf 40 = 4 by kernel_rfl, List.getElem?_eq_getElem (by omega), Option.bind_eq_some_iff] at h1
      obtain ⟨cs, h2, h3⟩ := h1
      obtain ⟨_, h4, h5⟩ := World.cells?_some h2
      obtain ⟨o, ho, rfl⟩ := open_four h4 h3
      exact ⟨o, ho, fun j hj => by rw [h5 j hj]⟩
    obtain ⟨os, hds, hp⟩ := exists_list each
    have hget : ∀ j, (hj : j < os.length) → os.getD j Ov.zero = os[j] := fun j hj => by simp [hj]
    refine ⟨some a, cap0, os, by rw [hds], ⟨?_, fun j hj => by rw [hget j hj]; exact (hp j hj).1.rd⟩, by omega, fun j hj => by rw [hget j hj]; exact (hp j hj).1⟩
    by_cases hz : os.length = 0
    · exact .inl (List.eq_nil_of_length_eq_zero hz)
    · have h1 := (hp 0 (by omega)).2 0 (by omega)
      obtain ⟨g, off, spot⟩ := a
      have h1' : W.cell? (((⟨g, off, spot⟩ : Addr).add (0 * 4)).add 0) = some (.int .i64 (os[0]'(by omega)).k) := h1
      have hspot : spot = none := by simpa [Addr.add] using World.cell?_spot h1'
      subst hspot
      have hlt : g < W.heap.size := World.block_lt_of_cell? W _ h1'
      refine .inr ⟨g, off, rfl, hlt, fun j hj i hi => ?_⟩
      have := (hp j hj).2 i hi
      rw [Addr.add_lit, Addr.add_lit] at this
      rw [this, hget j hj]
end Dic
end Go.Proofs.YtpdnfdpoebhjoaaDoor
