/-
  A record that came in by value, in the words of Mem.
-/
import Derived.Test.YtkkbjngjjeajoaaLift
import Derived.Test.YtkkbjngjjeajoaaRecFns
namespace Go.Proofs.Ytkkbjngjjeajoaa
namespace Rec
open Go.ChangeShapes Go.WideShapes Go.ChangeAt Go.RowKit Mem

/-- A slice of bytes among the cells of what came in. -/
theorem open_slc {H : Type} {enc : TypeId × Value → H} {P : Program} {W : World} {t e : TypeId} {fuel : Nat} {cs : List Value} {x : DataW H × List MemPlace}
    (ht : P.underlying t = some (.slice e)) (he : P.underlying e = some (.int .u8)) (hc : P.cellsOf e = 1)
    (hf : DataW.trod enc P W 0 (fun _ => true) true fuel t cs = some x) : ∃ A c bs, cs = [.slice A (List.length bs) c] ∧ Rd W W.heap.size A bs ∧ List.length bs ≤ maxLen ∧ List.length bs ≤ c ∧ c ≤ maxLen := by
  rcases open_ints ht he hc hf with ⟨hcs, _⟩ | ⟨x, l, c, zs, hcs, _, hl, hm, hz, _, hcell, hwz⟩
  · exact ⟨none, 0, [], hcs, .inl rfl, by simp, by simp, by simp⟩
  · have hzc : zs.length = c := by simpa using hz
    refine ⟨some x, c, (zs.take l).map fun n => UInt8.ofNat n.toNat, by rw [hcs]; simp [hzc, Nat.min_eq_left hl], ?_, by simp [hzc]; omega, by simp [hzc]; omega, by omega⟩
    by_cases hz0 : l = 0
    · subst hz0; exact .inl (by simp)
    · obtain ⟨g, off, spot⟩ := x
      have hc0 := hcell 0 (by omega)
      have hspot : spot = none := by simpa [Addr.add] using World.cell?_spot hc0
      subst hspot
      have hlt : g < W.heap.size := World.block_lt_of_cell? W _ hc0
      refine .inr ⟨g, off, rfl, hlt, fun j hj => ?_⟩
      have hj' : j < l := by simp at hj; omega
      have h1 := hcell j (by omega)
      rw [Addr.add_lit] at h1
      rw [h1]
      have hjz : j < zs.length := by omega
      have hw := Mem.wf_u8 (hwz zs[j] (List.getElem_mem hjz))
      have e1 : zs.getD j 0 = zs[j] := by simp [hjz]
      rw [e1]
      simp [byt, hj', hjz]
      omega

set_option maxRecDepth 100000

theorem rflds : ∃ fs : Array Field, Try.prog.underlying 39 = some (.struct fs) ∧ fs.size = 3 ∧ ∀ j, j < 3 → (fs[j]?).map (fun f => (f.offset, Try.prog.cellsOf f.type, f.type)) = some (j, 1, if j = 0 then 3 else if j = 1 then 24 else 22) := by
  refine ⟨_, Try.underlying39, by kernel_rfl, fun j hj => ?_⟩
  rcases (by omega : j = 0 ∨ j = 1 ∨ j = 2) with rfl | rfl | rfl <;> kernel_rfl

theorem open_rec {H : Type} {enc : TypeId × Value → H} {W : World} {v : Value} {d : DataW H} {p : List MemPlace} {r : Reach} {base : Nat}
    (hval : Value.okWide Try.prog W r base 39 v) (h0 : DataW.Trod enc Try.prog W 0 (fun _ => true) true 39 v d p) :
    ∃ k n A c bs, v = rec_ k n (.slice A (List.length bs) c) ∧ (Lit.int .i64 k).wf = true ∧ (Lit.int .u32 n).wf = true ∧ Rd W W.heap.size A bs ∧ List.length bs ≤ maxLen ∧ List.length bs ≤ c ∧ c ≤ maxLen := by
  obtain ⟨fs, hfs, hsz, hfl⟩ := rflds
  obtain ⟨cs, rfl, hcs⟩ := okWide_struct hfs hval
  rw [show Try.prog.cellsOf 39 = 3 by kernel_rfl] at hcs
  obtain ⟨fuel, hf⟩ := h0
  obtain ⟨xs, m, _, _, _, hxl, hx⟩ := DataW.trod_struct hfs hf
  have hcell : (Value.agg cs).cells.toList = cs.toList := rfl
  rw [hcell] at hx
  have one : ∀ j, (hj : j < 3) → (cs.toList.drop j).take 1 = [cs[j]'(by omega)] := fun j hj => by
    rw [List.drop_eq_getElem_cons (by simp; omega)]
    simp
  have fld : ∀ j t, (hj : j < 3) → (if j = 0 then 3 else if j = 1 then 24 else 22) = t → ∃ y, DataW.trod enc Try.prog W 0 (fun _ => true) true m t [cs[j]'(by omega)] = some y := fun j t hj ht => by
    have h1 := hfl j hj
    cases hq : fs[j]? with
    | none => rw [hq] at h1; simp at h1
    | some f =>
      rw [hq] at h1
      simp only [Option.map_some, Option.some.injEq, Prod.mk.injEq] at h1
      obtain ⟨e1, e2, e3⟩ := h1
      have h2 := hx j f hq
      rw [e1, e2, e3, one j hj, ht] at h2
      have h3 : j < xs.length := by rw [hxl, hsz]; exact hj
      rw [List.getElem?_eq_getElem h3] at h2
      exact ⟨_, h2⟩
  obtain ⟨y0, h0⟩ := fld 0 3 (by omega) rfl
  obtain ⟨y1, h1⟩ := fld 1 24 (by omega) rfl
  obtain ⟨y2, h2⟩ := fld 2 22 (by omega) rfl
  obtain ⟨k, hk, _, wk⟩ := DataW.trod_int Try.underlying3 h0
  obtain ⟨n, hn, _, wn⟩ := DataW.trod_int Try.underlying24 h1
  obtain ⟨A, c, bs, hs, rd, l1, l2, l3⟩ := open_slc Try.underlying22 Try.underlying5 (by kernel_rfl) h2
  refine ⟨k, n, A, c, bs, ?_, wk, wn, rd, l1, l2, l3⟩
  congr 1
  apply Array.ext
  · simpa using hcs
  · intro i h1 h2
    have hi : i < 3 := by omega
    match i, hi with
    | 0, _ => simpa using hk
    | 1, _ => simpa using hn
    | 2, _ => simpa using hs
end Rec
end Go.Proofs.Ytkkbjngjjeajoaa
