/-
  An entry that came in by value, in the words of Mem.
-/
import Derived.Test.YtpdnfdpoebhjoaaDoorLift
import Derived.Test.YtpdnfdpoebhjoaaDoorEntFns
namespace Go.Proofs.YtpdnfdpoebhjoaaDoor
namespace Ent
open Go.ChangeShapes Go.WideShapes Go.ChangeAt Go.RowKit Mem
set_option maxRecDepth 100000

/-- A slice of bytes among the cells of what came in. -/
theorem open_slc {H : Type} {enc : TypeId × Value → H} {P : Program} {W : World} {t e : TypeId} {fuel : Nat} {cs : List Value} {x : DataW H × List MemPlace}
    (ht : P.underlying t = some (.slice e)) (he : P.underlying e = some (.int .u8)) (hc : P.cellsOf e = 1)
    (hf : DataW.trod enc P W 0 (fun _ => true) true fuel t cs = some x) : ∃ A c bs, cs = [.slice A (List.length bs) c] ∧ Rd W W.heap.size A bs ∧ List.length bs ≤ maxLen ∧ List.length bs ≤ c ∧ c ≤ maxLen := by
  rcases open_ints ht he hc hf with ⟨hcs, _⟩ | ⟨x, l, c, zs, hcs, _, hl, hm, hz, _, hcell, hwz⟩
  · exact ⟨none, 0, [], hcs, .inl rfl, by simp, by simp, by simp⟩
  · have hzc : zs.length = c := by simpa using hz
    refine ⟨some x, c, (zs.take l).map fun n => UInt8.ofNat n.toNat, by rw [hcs]; simp [hzc, Nat.min_eq_left hl], ?_, by simp [hzc]; omega, by simp [hzc]; omega, by omega⟩
    by_cases hz0 : l = 0
    · subst hz0; exact .inl (by simp)
    · obtain ⟨g, off, spot⟩ := x
      have hc0 := hcell 0 (by omega)
      have hspot : spot = none := by simpa [Addr.add] using World.cell?_spot hc0
      subst hspot
      have hlt : g < W.heap.size := World.block_lt_of_cell? W _ hc0
      refine .inr ⟨g, off, rfl, hlt, fun j hj => ?_⟩
      have hj' : j < l := by simp at hj; omega
      have h1 := hcell j (by omega)
      rw [Addr.add_lit] at h1
      rw [h1]
      have hjz : j < zs.length := by omega
      have hw := Mem.wf_u8 (hwz zs[j] (List.getElem_mem hjz))
      have e1 : zs.getD j 0 = zs[j] := by simp [hjz]
      rw [e1]
      simp [byt, hj', hjz]
      omega

/-- An entry with the place of its bytes. -/
structure En where
  ix : Int
  sub : Int
  nm : List UInt8
  ty : Int
  ac : Int
  mp : Bool
  st : Bool
  mx : Int
  lo : Int
  hi : Int
  A : Option Addr
  d : List UInt8
  c : Nat
abbrev En.row (e : En) : Array Value := Ent.row e.ix e.sub e.nm e.ty e.ac e.mp e.st e.mx e.lo e.hi (.slice e.A e.d.length e.c)
abbrev En.val (e : En) : Value := ent e.ix e.sub e.nm e.ty e.ac e.mp e.st e.mx e.lo e.hi (.slice e.A e.d.length e.c)
/-- A number of 64 bits. -/
def I64 (x : Int) : Prop := -9223372036854775808 ≤ x ∧ x ≤ 9223372036854775807
structure En.Ok (W : World) (e : En) : Prop where
  ix : I64 e.ix
  sub : I64 e.sub
  nm : e.nm.length ≤ maxLen
  ty : I64 e.ty
  ac : I64 e.ac
  mx : I64 e.mx
  lo : I64 e.lo
  hi : I64 e.hi
  d : e.d.length ≤ maxLen
  rd : Rd W W.heap.size e.A e.d

def ftype (j : Nat) : TypeId := if j = 2 then 9 else if j = 5 ∨ j = 6 then 4 else if j = 8 ∨ j = 9 then 2 else if j = 10 then 36 else 3
theorem eflds : ∃ fs : Array Field, Tryd.prog.underlying 38 = some (.struct fs) ∧ fs.size = 11 ∧ ∀ j, j < 11 → (fs[j]?).map (fun f => (f.offset, Tryd.prog.cellsOf f.type, f.type)) = some (j, 1, ftype j) := by
  refine ⟨_, Tryd.underlying38, by kernel_rfl, fun j hj => ?_⟩
  rcases (by omega : j = 0 ∨ j = 1 ∨ j = 2 ∨ j = 3 ∨ j = 4 ∨ j = 5 ∨ j = 6 ∨ j = 7 ∨ j = 8 ∨ j = 9 ∨ j = 10) with rfl | rfl | rfl | rfl | rfl | rfl | rfl | rfl | rfl | rfl | rfl <;> kernel_rfl

/-- Eleven cells that were read as an entry. -/
theorem open_cells {H : Type} {enc : TypeId × Value → H} {W : World} {fuel : Nat} {cs : List Value} {x : DataW H × List MemPlace} (hl : cs.length = 11)
    (hf : DataW.trod enc Tryd.prog W 0 (fun _ => true) true fuel 38 cs = some x) : ∃ e : En, e.Ok W ∧ cs = e.row.toList ∧ e.d.length ≤ e.c ∧ e.c ≤ maxLen := by
  obtain ⟨fs, hfs, hsz, hfl⟩ := eflds
  obtain ⟨xs, m, _, _, _, hxl, hx⟩ := DataW.trod_struct hfs hf
  have one : ∀ j, (hj : j < 11) → (cs.drop j).take 1 = [cs[j]'(by omega)] := fun j hj => by
    rw [List.drop_eq_getElem_cons (by omega), List.take_succ_cons, List.take_zero]
  have fld : ∀ j t, (hj : j < 11) → ftype j = t → ∃ y, DataW.trod enc Tryd.prog W 0 (fun _ => true) true m t [cs[j]'(by omega)] = some y := fun j t hj ht => by
    have h1 := hfl j hj
    cases hq : fs[j]? with
    | none => rw [hq] at h1; simp at h1
    | some f =>
      rw [hq] at h1
      simp only [Option.map_some, Option.some.injEq, Prod.mk.injEq] at h1
      obtain ⟨e1, e2, e3⟩ := h1
      have h2 := hx j f hq
      rw [e1, e2, e3, one j hj, ht] at h2
      have h3 : j < xs.length := by rw [hxl, hsz]; exact hj
      rw [List.getElem?_eq_getElem h3] at h2
      exact ⟨_, h2⟩
  obtain ⟨y0, h0⟩ := fld 0 3 (by omega) rfl
  obtain ⟨y1, h1⟩ := fld 1 3 (by omega) rfl
  obtain ⟨y2, h2⟩ := fld 2 9 (by omega) rfl
  obtain ⟨y3, h3⟩ := fld 3 3 (by omega) rfl
  obtain ⟨y4, h4⟩ := fld 4 3 (by omega) rfl
  obtain ⟨y5, h5⟩ := fld 5 4 (by omega) rfl
  obtain ⟨y6, h6⟩ := fld 6 4 (by omega) rfl
  obtain ⟨y7, h7⟩ := fld 7 3 (by omega) rfl
  obtain ⟨y8, h8⟩ := fld 8 2 (by omega) rfl
  obtain ⟨y9, h9⟩ := fld 9 2 (by omega) rfl
  obtain ⟨y10, h10⟩ := fld 10 36 (by omega) rfl
  obtain ⟨k0, e0, _, w0⟩ := DataW.trod_int Tryd.underlying3 h0
  obtain ⟨k1, e1, _, w1⟩ := DataW.trod_int Tryd.underlying3 h1
  obtain ⟨s, e2, _, w2⟩ := DataW.trod_string Tryd.underlying9 h2
  obtain ⟨k3, e3, _, w3⟩ := DataW.trod_int Tryd.underlying3 h3
  obtain ⟨k4, e4, _, w4⟩ := DataW.trod_int Tryd.underlying3 h4
  obtain ⟨b5, e5, _⟩ := DataW.trod_bool Tryd.underlying4 h5
  obtain ⟨b6, e6, _⟩ := DataW.trod_bool Tryd.underlying4 h6
  obtain ⟨k7, e7, _, w7⟩ := DataW.trod_int Tryd.underlying3 h7
  obtain ⟨k8, e8, _, w8⟩ := DataW.trod_int Tryd.underlying2 h8
  obtain ⟨k9, e9, _, w9⟩ := DataW.trod_int Tryd.underlying2 h9
  obtain ⟨A, c, bs, e10, rd, l1, l2, l3⟩ := open_slc Tryd.underlying36 Tryd.underlying5 (by kernel_rfl) h10
  refine ⟨⟨k0, k1, s.data.toList, k3, k4, b5, b6, k7, k8, k9, A, bs, c⟩, ⟨wf_i64 w0, wf_i64 w1, by simpa using w2, wf_i64 w3, wf_i64 w4, wf_i64 w7, wf_i64 w8, wf_i64 w9, l1, rd⟩, ?_, l2, l3⟩
  have es : (⟨s.data.toList.toArray⟩ : ByteArray) = s := by cases s; simp
  apply List.ext_getElem
  · rw [hl]; rfl
  · intro i hi1 hi2
    have hi : i < 11 := by omega
    match i, hi with
    | 0, _ => simpa using e0
    | 1, _ => simpa using e1
    | 2, _ => simpa [es] using e2
    | 3, _ => simpa using e3
    | 4, _ => simpa using e4
    | 5, _ => simpa using e5
    | 6, _ => simpa using e6
    | 7, _ => simpa using e7
    | 8, _ => simpa using e8
    | 9, _ => simpa using e9
    | 10, _ => simpa using e10

theorem open_ent {H : Type} {enc : TypeId × Value → H} {W : World} {v : Value} {d : DataW H} {p : List MemPlace} {r : Reach} {base : Nat}
    (hval : Value.okWide Tryd.prog W r base 38 v) (h0 : DataW.Trod enc Tryd.prog W 0 (fun _ => true) true 38 v d p) : ∃ e : En, v = e.val ∧ e.Ok W := by
  obtain ⟨fs, hfs, hsz, hfl⟩ := eflds
  obtain ⟨cs, rfl, hcs⟩ := okWide_struct hfs hval
  rw [show Tryd.prog.cellsOf 38 = 11 by kernel_rfl] at hcs
  obtain ⟨fuel, hf⟩ := h0
  have hcell : (Value.agg cs).cells.toList = cs.toList := rfl
  rw [hcell] at hf
  obtain ⟨e, ho, hv, _⟩ := open_cells (by simpa using hcs) hf
  refine ⟨e, ?_, ho⟩
  have : cs = e.row := Array.toList_inj.1 hv
  rw [this]
end Ent
end Go.Proofs.YtpdnfdpoebhjoaaDoor
