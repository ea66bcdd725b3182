/-
  Slices of slices of bytes that came in: what they read as. No program is named here.
-/
import Derived.Test.YtpdnfdpoebhjoaaDoorLift
namespace Go.Proofs.YtpdnfdpoebhjoaaDoor
namespace Mem
open Go.ChangeShapes Go.WideShapes Go.ChangeAt Go.RowKit

/-- A slice of bytes among the cells of what came in. -/
theorem open_slice {H : Type} {enc : TypeId × Value → H} {P : Program} {W : World} {t e : TypeId} {fuel : Nat} {cs : List Value} {x : DataW H × List MemPlace}
    (ht : P.underlying t = some (.slice e)) (he : P.underlying e = some (.int .u8)) (hc : P.cellsOf e = 1)
    (hf : DataW.trod enc P W 0 (fun _ => true) true fuel t cs = some x) : ∃ A c bs, cs = [.slice A (List.length bs) c] ∧ Rd W W.heap.size A bs ∧ List.length bs ≤ maxLen ∧ List.length bs ≤ c ∧ c ≤ maxLen := by
  rcases open_ints ht he hc hf with ⟨hcs, _⟩ | ⟨x, l, c, zs, hcs, _, hl, hm, hz, _, hcell, hwz⟩
  · exact ⟨none, 0, [], hcs, .inl rfl, by simp, by simp, by simp⟩
  · have hzc : zs.length = c := by simpa using hz
    refine ⟨some x, c, (zs.take l).map fun n => UInt8.ofNat n.toNat, by rw [hcs]; simp [hzc, Nat.min_eq_left hl], ?_, by simp [hzc]; omega, by simp [hzc]; omega, by omega⟩
    by_cases hz0 : l = 0
    · subst hz0; exact .inl (by simp)
    · obtain ⟨g, off, spot⟩ := x
      have hc0 := hcell 0 (by omega)
      have hspot : spot = none := by simpa [Addr.add] using World.cell?_spot hc0
      subst hspot
      have hlt : g < W.heap.size := World.block_lt_of_cell? W _ hc0
      refine .inr ⟨g, off, rfl, hlt, fun j hj => ?_⟩
      have hj' : j < l := by simp at hj; omega
      have h1 := hcell j (by omega)
      rw [Addr.add_lit] at h1
      rw [h1]
      have hjz : j < zs.length := by omega
      have hw := wf_u8 (hwz zs[j] (List.getElem_mem hjz))
      have e1 : zs.getD j 0 = zs[j] := by simp [hjz]
      rw [e1]
      simp [byt, hj', hjz]
      omega

/-- A cell that holds a slice which reads as bs. -/
def RdC (W : World) (B : Nat) (a : Addr) (bs : List UInt8) : Prop := ∃ A c, W.cell? a = some (.slice A bs.length c) ∧ Rd W B A bs ∧ bs.length ≤ maxLen ∧ bs.length ≤ c ∧ c ≤ maxLen
/-- The slice at A reads as ds, slices of bytes. -/
def RdS (W : World) (B : Nat) (A : Option Addr) (ds : List (List UInt8)) : Prop :=
  ds = [] ∨ ∃ g off, A = some ⟨g, off, none⟩ ∧ g < B ∧ ∀ j, (hj : j < ds.length) → RdC W B ⟨g, off + j, none⟩ ds[j]
theorem RdC.below {W W' : World} {B : Nat} {a : Addr} {bs : List UInt8} (h : RdC W B a bs) (ha : a.block < B) (b : Below B W W') : RdC W' B a bs := by
  obtain ⟨A, c, h1, h2, h3⟩ := h
  exact ⟨A, c, (b.cell ha).trans h1, h2.below b, h3⟩
theorem RdS.below {W W' : World} {B : Nat} {A : Option Addr} {ds : List (List UInt8)} (h : RdS W B A ds) (b : Below B W W') : RdS W' B A ds := by
  rcases h with h | ⟨g, off, e, hg, hc⟩
  · exact .inl h
  · exact .inr ⟨g, off, e, hg, fun j hj => (hc j hj).below hg b⟩
theorem RdS.at_ {W : World} {B : Nat} {A : Option Addr} {ds : List (List UInt8)} (h : RdS W B A ds) {j : Nat} (hj : j < ds.length) : ∃ g off A' c, A = some ⟨g, off, none⟩ ∧ g < B ∧ W.cell? ⟨g, off + j, none⟩ = some (.slice A' (ds[j]).length c) ∧ Rd W B A' ds[j] ∧ (ds[j]).length ≤ maxLen ∧ (ds[j]).length ≤ c ∧ c ≤ maxLen := by
  rcases h with h | ⟨g, off, e, hg, hc⟩
  · subst h; simp at hj
  · obtain ⟨A', c, h1⟩ := hc j hj
    exact ⟨g, off, A', c, e, hg, h1⟩

theorem exists_list {α : Type} {n : Nat} {p : Nat → α → Prop} (h : ∀ i, i < n → ∃ a, p i a) : ∃ l : List α, l.length = n ∧ ∀ i, (hi : i < l.length) → p i l[i] := by
  induction n with
  | zero => exact ⟨[], rfl, fun i hi => by simp at hi⟩
  | succ n ih =>
    obtain ⟨l, hl, hp⟩ := ih (fun i hi => h i (by omega))
    obtain ⟨a, ha⟩ := h n (by omega)
    refine ⟨l ++ [a], by simp [hl], fun i hi => ?_⟩
    by_cases hin : i < l.length
    · rw [List.getElem_append_left hin]; exact hp i hin
    · have : i = n := by simp at hi; omega
      subst this
      rw [List.getElem_append_right (by omega)]
      simpa [hl] using ha

theorem open_bytess {H : Type} {enc : TypeId × Value → H} {P : Program} {W : World} {t e b : TypeId} {v : Value} {d : DataW H} {p : List MemPlace} {r : Reach} {base : Nat}
    (ht : P.underlying t = some (.slice e)) (he : P.underlying e = some (.slice b)) (hb : P.underlying b = some (.int .u8)) (hc : P.cellsOf e = 1) (hcb : P.cellsOf b = 1) (hval : Value.okWide P W r base t v)
    (h0 : DataW.Trod enc P W 0 (fun _ => true) true t v d p) : ∃ A c ds, v = .slice A (List.length ds) c ∧ RdS W W.heap.size A ds ∧ List.length ds ≤ maxLen ∧ List.length ds ≤ c ∧ c ≤ maxLen := by
  obtain ⟨a0, len0, cap0, rfl⟩ := okWide_slice ht hval
  obtain ⟨fuel, hf⟩ := h0
  rcases DataW.trod_slice ht hf with ⟨hcs, _⟩ | ⟨a, len, cap, elems, rest, n, _, hcs, _, _, hl, hm, hlen, hel, _⟩
  · simp [Value.cells] at hcs
    obtain ⟨rfl, rfl, rfl⟩ := hcs
    exact ⟨none, 0, [], rfl, .inl rfl, by simp, by simp, by simp⟩
  · simp [Value.cells] at hcs
    obtain ⟨rfl, rfl, rfl⟩ := hcs
    have each : ∀ i, i < len0 → ∃ bs, RdC W W.heap.size (a.add i) bs := by
      intro i hi
      have h1 := hel i hi
      rw [hc, Nat.mul_one, List.getElem?_eq_getElem (by omega), Option.bind_eq_some_iff] at h1
      obtain ⟨cs, h2, h3⟩ := h1
      obtain ⟨A, c, bs, rfl, hr, l1, l2, l3⟩ := open_slice he hb hcb h3
      exact ⟨bs, A, c, cell_of_cells?_one h2, hr, l1, l2, l3⟩
    obtain ⟨ds, hds, hp⟩ := exists_list each
    refine ⟨some a, cap0, ds, by rw [hds], ?_, by omega, by omega, hm⟩
    by_cases hz : ds.length = 0
    · exact .inl (List.eq_nil_of_length_eq_zero hz)
    · obtain ⟨A, c, h1, _⟩ := hp 0 (by omega)
      obtain ⟨g, off, spot⟩ := a
      have hspot : spot = none := by simpa [Addr.add] using World.cell?_spot h1
      subst hspot
      have hlt : g < W.heap.size := World.block_lt_of_cell? W _ h1
      refine .inr ⟨g, off, rfl, hlt, fun j hj => ?_⟩
      have := hp j hj
      rwa [Addr.add_lit] at this
end Mem
end Go.Proofs.YtpdnfdpoebhjoaaDoor
