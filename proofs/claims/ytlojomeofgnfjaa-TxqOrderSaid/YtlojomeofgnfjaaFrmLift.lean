/-
  A frame that came in by value, and a list of them, in the words of Mem.
-/
import Derived.Test.YtlojomeofgnfjaaLift
import Derived.Test.YtlojomeofgnfjaaFrmFns
import Derived.Test.YtlojomeofgnfjaaBytss
namespace Go.Proofs.Ytlojomeofgnfjaa
namespace Frm
open Go.ChangeShapes Go.WideShapes Go.ChangeAt Go.RowKit Mem

/-- A slice of bytes among the cells of what came in. -/
theorem open_slc {H : Type} {enc : TypeId × Value → H} {P : Program} {W : World} {t e : TypeId} {fuel : Nat} {cs : List Value} {x : DataW H × List MemPlace}
    (ht : P.underlying t = some (.slice e)) (he : P.underlying e = some (.int .u8)) (hc : P.cellsOf e = 1)
    (hf : DataW.trod enc P W 0 (fun _ => true) true fuel t cs = some x) : ∃ A c bs, cs = [.slice A (List.length bs) c] ∧ Rd W W.heap.size A bs ∧ List.length bs ≤ maxLen ∧ List.length bs ≤ c ∧ c ≤ maxLen := by
  rcases open_ints ht he hc hf with ⟨hcs, _⟩ | ⟨x, l, c, zs, hcs, _, hl, hm, hz, _, hcell, hwz⟩
  · exact ⟨none, 0, [], hcs, .inl rfl, by simp, by simp, by simp⟩
  · have hzc : zs.length = c := by simpa using hz
    refine ⟨some x, c, (zs.take l).map fun n => UInt8.ofNat n.toNat, by rw [hcs]; simp [hzc, Nat.min_eq_left hl], ?_, by simp [hzc]; omega, by simp [hzc]; omega, by omega⟩
    by_cases hz0 : l = 0
    · subst hz0; exact .inl (by simp)
    · obtain ⟨g, off, spot⟩ := x
      have hc0 := hcell 0 (by omega)
      have hspot : spot = none := by simpa [Addr.add] using World.cell?_spot hc0
      subst hspot
      have hlt : g < W.heap.size := World.block_lt_of_cell? W _ hc0
      refine .inr ⟨g, off, rfl, hlt, fun j hj => ?_⟩
      have hj' : j < l := by simp at hj; omega
      have h1 := hcell j (by omega)
      rw [Addr.add_lit] at h1
      rw [h1]
      have hjz : j < zs.length := by omega
      have hw := Mem.wf_u8 (hwz zs[j] (List.getElem_mem hjz))
      have e1 : zs.getD j 0 = zs[j] := by simp [hjz]
      rw [e1]
      simp [byt, hj', hjz]
      omega

set_option maxRecDepth 100000

/-- A frame with the place of its bytes. -/
structure Fv where
  id : Int
  r : Bool
  A : Option Addr
  d : List UInt8
  c : Nat
def Fv.zero : Fv := ⟨0, false, none, [], 0⟩
def Fv.fr (f : Fv) : Fr := ⟨f.id, f.r, f.d⟩
def Fv.vals (f : Fv) : Array Value := #[.int .i64 f.id, .bool f.r, .slice f.A f.d.length f.c]
structure Fv.Ok (f : Fv) : Prop where
  k0 : -9223372036854775808 ≤ f.id
  k1 : f.id ≤ 9223372036854775807
  l : f.d.length ≤ maxLen

theorem fflds : ∃ fs : Array Field, Try.prog.underlying 29 = some (.struct fs) ∧ fs.size = 3 ∧ ∀ j, j < 3 → (fs[j]?).map (fun f => (f.offset, Try.prog.cellsOf f.type, f.type)) = some (j, 1, if j = 0 then 3 else if j = 1 then 4 else 27) := by
  refine ⟨_, Try.underlying29, by kernel_rfl, fun j hj => ?_⟩
  rcases (by omega : j = 0 ∨ j = 1 ∨ j = 2) with rfl | rfl | rfl <;> kernel_rfl

/-- Three cells that were read as a frame. -/
theorem open_three {H : Type} {enc : TypeId × Value → H} {W : World} {fuel : Nat} {cs : List Value} {x : DataW H × List MemPlace} (hl : cs.length = 3)
    (hf : DataW.trod enc Try.prog W 0 (fun _ => true) true fuel 29 cs = some x) : ∃ f : Fv, f.Ok ∧ cs = f.vals.toList ∧ Rd W W.heap.size f.A f.d ∧ f.d.length ≤ f.c ∧ f.c ≤ maxLen := by
  obtain ⟨fs, hfs, hsz, hfl⟩ := fflds
  obtain ⟨xs, m, _, _, _, hxl, hx⟩ := DataW.trod_struct hfs hf
  have one : ∀ j, (hj : j < 3) → (cs.drop j).take 1 = [cs[j]'(by omega)] := fun j hj => by
    rw [List.drop_eq_getElem_cons (by omega), List.take_succ_cons, List.take_zero]
  have fld : ∀ j t, (hj : j < 3) → (if j = 0 then 3 else if j = 1 then 4 else 27) = t → ∃ y, DataW.trod enc Try.prog W 0 (fun _ => true) true m t [cs[j]'(by omega)] = some y := fun j t hj ht => by
    have h1 := hfl j hj
    cases hq : fs[j]? with
    | none => rw [hq] at h1; simp at h1
    | some f =>
      rw [hq] at h1
      simp only [Option.map_some, Option.some.injEq, Prod.mk.injEq] at h1
      obtain ⟨e1, e2, e3⟩ := h1
      have h2 := hx j f hq
      rw [e1, e2, e3, one j hj, ht] at h2
      have h3 : j < xs.length := by rw [hxl, hsz]; exact hj
      rw [List.getElem?_eq_getElem h3] at h2
      exact ⟨_, h2⟩
  obtain ⟨y0, h0⟩ := fld 0 3 (by omega) rfl
  obtain ⟨y1, h1⟩ := fld 1 4 (by omega) rfl
  obtain ⟨y2, h2⟩ := fld 2 27 (by omega) rfl
  obtain ⟨k, hk, _, wk⟩ := DataW.trod_int Try.underlying3 h0
  obtain ⟨b, hb, _⟩ := DataW.trod_bool Try.underlying4 h1
  obtain ⟨A, c, bs, hs, rd, l1, l2, l3⟩ := open_slc Try.underlying27 Try.underlying5 (by kernel_rfl) h2
  refine ⟨⟨k, b, A, bs, c⟩, ⟨(wf_i64 wk).1, (wf_i64 wk).2, l1⟩, ?_, rd, l2, l3⟩
  apply List.ext_getElem
  · rw [hl]; rfl
  · intro i h1 h2
    have hi : i < 3 := by omega
    match i, hi with
    | 0, _ => simpa [Fv.vals] using hk
    | 1, _ => simpa [Fv.vals] using hb
    | 2, _ => simpa [Fv.vals] using hs

theorem open_frm {H : Type} {enc : TypeId × Value → H} {W : World} {v : Value} {d : DataW H} {p : List MemPlace} {r : Reach} {base : Nat}
    (hval : Value.okWide Try.prog W r base 29 v) (h0 : DataW.Trod enc Try.prog W 0 (fun _ => true) true 29 v d p) :
    ∃ k b A c bs, v = frm k b (.slice A (List.length bs) c) ∧ (-9223372036854775808 ≤ k ∧ k ≤ 9223372036854775807) ∧ Rd W W.heap.size A bs ∧ List.length bs ≤ maxLen := by
  obtain ⟨fs, hfs, hsz, hfl⟩ := fflds
  obtain ⟨cs, rfl, hcs⟩ := okWide_struct hfs hval
  rw [show Try.prog.cellsOf 29 = 3 by kernel_rfl] at hcs
  obtain ⟨fuel, hf⟩ := h0
  have hcell : (Value.agg cs).cells.toList = cs.toList := rfl
  rw [hcell] at hf
  obtain ⟨f, ho, hv, hrd, _⟩ := open_three (by simpa using hcs) hf
  refine ⟨f.id, f.r, f.A, f.c, f.d, ?_, ⟨ho.k0, ho.k1⟩, hrd, ho.l⟩
  have : cs = f.vals := Array.toList_inj.1 hv
  rw [this]
  rfl

/-- The slice at A reads as frames. -/
def RdF (W : World) (B : Nat) (A : Option Addr) (fs : List Fv) : Prop :=
  (fs = [] ∨ ∃ g off, A = some ⟨g, off, none⟩ ∧ g < B ∧ ∀ j, j < fs.length → ∀ i, i < 3 → W.cell? ⟨g, off + j * 3 + i, none⟩ = (fs.getD j Fv.zero).vals[i]?) ∧ ∀ j, j < fs.length → Rd W B (fs.getD j Fv.zero).A (fs.getD j Fv.zero).d
theorem RdF.below {W W' : World} {B : Nat} {A : Option Addr} {fs : List Fv} (h : RdF W B A fs) (b : Below B W W') : RdF W' B A fs := by
  refine ⟨?_, fun j hj => (h.2 j hj).below b⟩
  rcases h.1 with h | ⟨g, off, e, hg, hc⟩
  · exact .inl h
  · exact .inr ⟨g, off, e, hg, fun j hj i hi => (b.cell (p := ⟨g, off + j * 3 + i, none⟩) hg).trans (hc j hj i hi)⟩
theorem RdF.mono {W : World} {B B' : Nat} {A : Option Addr} {fs : List Fv} (h : RdF W B A fs) (hB : B ≤ B') : RdF W B' A fs := by
  refine ⟨?_, fun j hj => (h.2 j hj).mono hB⟩
  rcases h.1 with h | ⟨g, off, e, hg, hc⟩
  · exact .inl h
  · exact .inr ⟨g, off, e, by omega, hc⟩
theorem RdF.three {W : World} {B : Nat} {A : Option Addr} {fs : List Fv} (h : RdF W B A fs) {j : Nat} (hj : j < fs.length) {f : Fv} (hf : fs.getD j Fv.zero = f) : ∃ g off, A = some ⟨g, off, none⟩ ∧ g < B ∧
    W.cell? ⟨g, off + j * 3, none⟩ = some (.int .i64 f.id) ∧ W.cell? ⟨g, off + j * 3 + 1, none⟩ = some (.bool f.r) ∧ W.cell? ⟨g, off + j * 3 + 2, none⟩ = some (.slice f.A f.d.length f.c) ∧ Rd W B f.A f.d := by
  rcases h.1 with h | ⟨g, off, e, hg, hc⟩
  · subst h; simp at hj
  · have h1 := hc j hj
    have h2 := h.2 j hj
    rw [hf] at h1 h2
    exact ⟨g, off, e, hg, h1 0 (by omega), h1 1 (by omega), h1 2 (by omega), h2⟩
theorem open_frms {H : Type} {enc : TypeId × Value → H} {W : World} {v : Value} {d : DataW H} {p : List MemPlace} {r : Reach} {base : Nat}
    (hval : Value.okWide Try.prog W r base 22 v) (h0 : DataW.Trod enc Try.prog W 0 (fun _ => true) true 22 v d p) :
    ∃ A c fs, v = .slice A (List.length fs) c ∧ RdF W W.heap.size A fs ∧ List.length fs ≤ maxLen ∧ ∀ j, j < fs.length → (fs.getD j Fv.zero).Ok := by
  obtain ⟨a0, len0, cap0, rfl⟩ := okWide_slice Try.underlying22 hval
  obtain ⟨fuel, hf⟩ := h0
  rcases DataW.trod_slice Try.underlying22 hf with ⟨hcs, _⟩ | ⟨a, len, cap, elems, rest, n, _, hcs, _, _, hl, hm, hlen, hel, _⟩
  · simp [Value.cells] at hcs
    obtain ⟨rfl, rfl, rfl⟩ := hcs
    exact ⟨none, 0, [], rfl, ⟨.inl rfl, fun j hj => by simp at hj⟩, by simp, fun j hj => by simp at hj⟩
  · simp [Value.cells] at hcs
    obtain ⟨rfl, rfl, rfl⟩ := hcs
    have each : ∀ i, i < len0 → ∃ o : Fv, (o.Ok ∧ Rd W W.heap.size o.A o.d) ∧ ∀ j, j < 3 → W.cell? ((a.add (i * 3)).add j) = o.vals[j]? := by
      intro i hi
      have h1 := hel i hi
      rw [show Try.prog.cellsOf 29 = 3 by kernel_rfl, List.getElem?_eq_getElem (by omega), Option.bind_eq_some_iff] at h1
      obtain ⟨cs, h2, h3⟩ := h1
      obtain ⟨_, h4, h5⟩ := World.cells?_some h2
      obtain ⟨o, ho, rfl, hrd, _⟩ := open_three h4 h3
      exact ⟨o, ⟨ho, hrd⟩, fun j hj => by rw [h5 j hj]; exact Array.getElem?_toList⟩
    obtain ⟨os, hds, hp⟩ := exists_list each
    have hget : ∀ j, (hj : j < os.length) → os.getD j Fv.zero = os[j] := fun j hj => by simp [hj]
    refine ⟨some a, cap0, os, by rw [hds], ⟨?_, fun j hj => by rw [hget j hj]; exact (hp j hj).1.2⟩, by omega, fun j hj => by rw [hget j hj]; exact (hp j hj).1.1⟩
    by_cases hz : os.length = 0
    · exact .inl (List.eq_nil_of_length_eq_zero hz)
    · have h1 := (hp 0 (by omega)).2 0 (by omega)
      obtain ⟨g, off, spot⟩ := a
      have h1' : W.cell? (((⟨g, off, spot⟩ : Addr).add (0 * 3)).add 0) = some (.int .i64 (os[0]'(by omega)).id) := h1
      have hspot : spot = none := by simpa [Addr.add] using World.cell?_spot h1'
      subst hspot
      have hlt : g < W.heap.size := World.block_lt_of_cell? W _ h1'
      refine .inr ⟨g, off, rfl, hlt, fun j hj i hi => ?_⟩
      have := (hp j hj).2 i hi
      rw [Addr.add_lit, Addr.add_lit] at this
      rw [this, hget j hj]
end Frm
end Go.Proofs.Ytlojomeofgnfjaa
