/-
  Entries in memory; New.
-/
import Derived.Test.YtpdnfdpoebhjoaaDoorDicApi
import Derived.Test.YtpdnfdpoebhjoaaDoorAppX
namespace Go.Proofs.YtpdnfdpoebhjoaaDoor
namespace Dic
open Go.RowKit Mem Ent
set_option linter.unusedVariables false
set_option linter.unusedSimpArgs false
set_option maxRecDepth 100000

theorem info_row : (Tryd.prog.info? 66).map (fun i => (i.zero, i.size, i.bytes)) = some (some (.agg #[.int .i64 0, .int .i64 0, .string ⟨#[]⟩, .int .i64 0, .int .i64 0, .bool false, .bool false, .int .i64 0, .int .i64 0, .int .i64 0, .slice none 0 0, .slice none 0 0]), 12, 128) := by kernel_rfl
/-- An entry's cells. -/
def enl (x : En) : List Value := [.int .i64 x.ix, .int .i64 x.sub, .string ⟨x.nm.toArray⟩, .int .i64 x.ty, .int .i64 x.ac, .bool x.mp, .bool x.st, .int .i64 x.mx, .int .i64 x.lo, .int .i64 x.hi, .slice x.A x.d.length x.c]
theorem enl_len (x : En) : (enl x).length = 11 := rfl
theorem enl_one (x : En) : ∀ u ∈ enl x, u.oneCell' = true := by
  intro u hu
  simp only [enl, List.mem_cons, List.not_mem_nil, or_false] at hu
  rcases hu with rfl | rfl | rfl | rfl | rfl | rfl | rfl | rfl | rfl | rfl | rfl <;> rfl
def Row11 (W : World) (g o : Nat) (x : En) : Prop :=
  W.cell? ⟨g, o, none⟩ = some (.int .i64 x.ix) ∧ W.cell? ⟨g, o + 1, none⟩ = some (.int .i64 x.sub) ∧ W.cell? ⟨g, o + 2, none⟩ = some (.string ⟨x.nm.toArray⟩) ∧ W.cell? ⟨g, o + 3, none⟩ = some (.int .i64 x.ty) ∧ W.cell? ⟨g, o + 4, none⟩ = some (.int .i64 x.ac) ∧
  W.cell? ⟨g, o + 5, none⟩ = some (.bool x.mp) ∧ W.cell? ⟨g, o + 6, none⟩ = some (.bool x.st) ∧ W.cell? ⟨g, o + 7, none⟩ = some (.int .i64 x.mx) ∧ W.cell? ⟨g, o + 8, none⟩ = some (.int .i64 x.lo) ∧ W.cell? ⟨g, o + 9, none⟩ = some (.int .i64 x.hi) ∧
  W.cell? ⟨g, o + 10, none⟩ = some (.slice x.A x.d.length x.c)
/-- The slice at A reads as entries. -/
structure RdE (W : World) (B : Nat) (A : Option Addr) (es : List En) : Prop where
  cells : RdL enl 11 enZ (· < B) W A es
  data : ∀ j, j < es.length → Rd W B (es.getD j enZ).A (es.getD j enZ).d
section
variable {W W' : World} {B : Nat} {A : Option Addr} {es : List En}
theorem RdE.below (h : RdE W B A es) (b : Below B W W') : RdE W' B A es := ⟨h.cells.keep fun g hg => b.block g hg, fun j hj => (h.data j hj).below b⟩
theorem RdE.mono {B' : Nat} (h : RdE W B A es) (hB : B ≤ B') : RdE W B' A es := ⟨h.cells.mono fun g hg => by omega, fun j hj => (h.data j hj).mono hB⟩
theorem RdE.at (h : RdE W B A es) {j : Nat} (hj : j < es.length) {x : En} (hx : es.getD j enZ = x) : ∃ g off, A = some ⟨g, off, none⟩ ∧ g < B ∧ Row11 W g (off + j * 11) x ∧ Rd W B x.A x.d := by
  have h2 := h.data j hj
  rw [hx] at h2
  rcases h.cells with h | ⟨g, off, e, hg, hc⟩
  · subst h; simp at hj
  · have q := hc j hj
    rw [hx] at q
    exact ⟨g, off, e, hg, ⟨q 0 (by omega), q 1 (by omega), q 2 (by omega), q 3 (by omega), q 4 (by omega), q 5 (by omega), q 6 (by omega), q 7 (by omega), q 8 (by omega), q 9 (by omega), q 10 (by omega)⟩, h2⟩
theorem Row11.below {g o : Nat} {x : En} (h : Row11 W g o x) (hg : g < B) (b : Below B W W') : Row11 W' g o x := by
  obtain ⟨q0, q1, q2, q3, q4, q5, q6, q7, q8, q9, q10⟩ := h
  have c : ∀ (j : Nat) (u : Value), W.cell? ⟨g, j, none⟩ = some u → W'.cell? ⟨g, j, none⟩ = some u := fun j u hu => (b.cell (p := ⟨g, j, none⟩) hg).trans hu
  exact ⟨c _ _ q0, c _ _ q1, c _ _ q2, c _ _ q3, c _ _ q4, c _ _ q5, c _ _ q6, c _ _ q7, c _ _ q8, c _ _ q9, c _ _ q10⟩
end
theorem at_map (es : List En) (k : Nat) : at_ (es.map ev) k = ev (es.getD k enZ) := by
  unfold at_
  rw [List.getD_eq_getElem?_getD, List.getElem?_map, List.getD_eq_getElem?_getD]
  cases es[k]? <;> rfl

/-- While New runs: the dictionary stands in the first new block, the rows so far lie behind it. -/
structure NS (W : World) (vv : Value) (rs : List Rv) (wr : World) : Prop where
  blk : wr.heap[W.heap.size]? = some (.cells (dcells vv).toArray DT (0, 0))
  own : wr.ownsRow (W.heap.size + 1) RT 12 vv rs.length (flat Rv.vals rs)
  data : ∀ r ∈ rs, RdB (fun g => W.heap.size < g ∧ g < wr.heap.size ∧ vv.ownBlock ≠ some g) wr r.A r.e.d ∧ RdB (fun g => W.heap.size < g ∧ g < wr.heap.size ∧ vv.ownBlock ≠ some g) wr r.V r.v
  ok : ∀ r ∈ rs, EvOk r.e ∧ r.v.length ≤ 1000
  b : Below W.heap.size W wr
section
variable {W wr w' : World} {vv : Value} {rs : List Rv}
theorem NS.next (h : NS W vv rs wr) (b : Below wr.heap.size wr w') : NS W vv rs w' := by
  have hp := (Array.getElem?_eq_some_iff.1 h.blk).1
  exact ⟨(b.block _ hp).trans h.blk, own_below h.own b, fun r hr => ⟨((h.data r hr).1.keep fun g hg => b.block g hg.2.1).mono fun g hg => ⟨hg.1, Nat.lt_of_lt_of_le hg.2.1 b.size, hg.2.2⟩, ((h.data r hr).2.keep fun g hg => b.block g hg.2.1).mono fun g hg => ⟨hg.1, Nat.lt_of_lt_of_le hg.2.1 b.size, hg.2.2⟩⟩, h.ok, h.b.trans (b.mono h.b.size)⟩
theorem NS.start (W : World) : NS W (.slice none 0 0) [] (W.alloc (.cells #[.slice none 0 0, .bool true] DT)) :=
  ⟨heap_alloc_new W _, World.ownsRow_nil _ _ _ _, fun r hr => by simp at hr, fun r hr => by simp at hr, one_b W _⟩
theorem NS.lt (h : NS W vv rs wr) : W.heap.size < wr.heap.size := (Array.getElem?_eq_some_iff.1 h.blk).1
theorem NS.c0 (h : NS W vv rs wr) : wr.cell? ⟨W.heap.size, 0, none⟩ = some vv := cell_of h.blk rfl
theorem NS.free (h : NS W vv rs wr) (j : Nat) : wr.frozen? ⟨W.heap.size, j, none⟩ = false := frozen_of_row wr _ j _ DT h.blk
theorem NS.form (h : NS W vv rs wr) : ∃ A c, vv = .slice A rs.length c := by
  obtain ⟨A, c, e, _⟩ := own_form (z := Rv.zero) rv_len h.own
  exact ⟨A, c, e⟩
theorem NS.done (h : NS W vv rs wr) (few : rs.length ≤ 96) : IsD wr W.heap.size vv (· < W.heap.size) rs := by
  have hv : ∀ g, vv.ownBlock = some g → W.heap.size < g := fun g hg => (h.own.lt g hg).1
  refine ⟨h.blk, ⟨h.own.1, ?_⟩, Nat.lt_irrefl _, fun e => by have := hv _ e; omega, fun g hg => by have := hv g hg; omega, fun r hr => ⟨(h.data r hr).1.mono fun g hg => ⟨hg.2.1, ?_⟩, (h.data r hr).2.mono fun g hg => ⟨hg.2.1, ?_⟩⟩, h.ok, few⟩
  · rcases h.own.2 with h1 | ⟨g, cap, cur, e, hb, r⟩
    · exact .inl h1
    · exact .inr ⟨g, cap, cur, e, Nat.zero_le _, r⟩
  · exact fun n => n.elim (fun n => by omega) hg.2.2
  · exact fun n => n.elim (fun n => by omega) hg.2.2
theorem NS.blk' (h : NS W vv rs wr) {w7 : World} {o : Obj} (g7 : ((wr.alloc o).drew).grownBy w7 vv.ownBlock) : w7.heap[W.heap.size]? = some (.cells (dcells vv).toArray DT (0, 0)) := by
  have hv : vv.ownBlock ≠ some W.heap.size := fun e => by have := (h.own.lt _ e).1; omega
  have h1 := g7.block W.heap.size (by have := h.lt; simp; omega) (fun e => hv e.symm)
  rw [h1]
  exact (Below.heap_alloc wr o W.heap.size h.lt).trans h.blk
/-- One row more. -/
theorem NS.more (h : NS W vv rs wr) {w7 : World} {o : Obj} {v7 : Value} {r : Rv} (hd : RdB (fun g => W.heap.size < g ∧ g < wr.heap.size ∧ vv.ownBlock ≠ some g) wr r.A r.e.d ∧ RdB (fun g => W.heap.size < g ∧ g < wr.heap.size ∧ vv.ownBlock ≠ some g) wr r.V r.v) (hok : EvOk r.e ∧ r.v.length ≤ 1000)
    (own : w7.ownsRow (W.heap.size + 1) RT 12 v7 (rs.length + 1) (flat Rv.vals rs ++ r.vals)) (g7 : ((wr.alloc o).drew).grownBy w7 vv.ownBlock) (t7 : v7.ownBlock = vv.ownBlock ∨ v7.ownBlock = some ((wr.alloc o).drew).heap.size) :
    NS W v7 (rs ++ [r]) (w7.setCell ⟨W.heap.size, 0, none⟩ v7) := by
  have s5 : ((wr.alloc o).drew).heap.size = wr.heap.size + 1 := by simp
  have sz : (w7.setCell ⟨W.heap.size, 0, none⟩ v7).heap.size = w7.heap.size := by simp [World.setCell]
  have s7 := g7.size
  have hlt := h.lt
  have hv : ∀ g, vv.ownBlock = some g → W.heap.size < g := fun g hg => (h.own.lt g hg).1
  have hv7 : ∀ g, v7.ownBlock = some g → W.heap.size < g := fun g hg => (own.lt g hg).1
  have stay : ∀ q, q < wr.heap.size → q ≠ W.heap.size → vv.ownBlock ≠ some q → (w7.setCell ⟨W.heap.size, 0, none⟩ v7).heap[q]? = wr.heap[q]? := fun q hq hp hn => by
    rw [Below.heap_setCell w7 ⟨W.heap.size, 0, none⟩ v7 q hp, g7.block q (by omega) (fun e => hn e.symm)]
    exact Below.heap_alloc wr o q hq
  have far : ∀ q, q < wr.heap.size → vv.ownBlock ≠ some q → v7.ownBlock ≠ some q := fun q hq hn e => by
    rcases t7 with t | t
    · exact hn (t ▸ e)
    · rw [t] at e
      have : wr.heap.size + 1 = q := by rw [← s5]; exact Option.some.inj e
      omega
  have mv : ∀ {A : Option Addr} {bs : List UInt8}, RdB (fun g => W.heap.size < g ∧ g < wr.heap.size ∧ vv.ownBlock ≠ some g) wr A bs → RdB (fun g => W.heap.size < g ∧ g < (w7.setCell ⟨W.heap.size, 0, none⟩ v7).heap.size ∧ v7.ownBlock ≠ some g) (w7.setCell ⟨W.heap.size, 0, none⟩ v7) A bs := fun hr =>
    (hr.keep fun g hg => stay g hg.2.1 (by omega) hg.2.2).mono fun g hg => ⟨hg.1, by rw [sz]; omega, far g hg.2.1 hg.2.2⟩
  refine ⟨?_, ?_, fun x hx => ?_, fun x hx => ?_, ?_⟩
  · have := heap_setCell_same w7 W.heap.size 0 _ DT v7 (h.blk' g7)
    rw [this]
    simp [dcells]
  · have o1 := own_keep own (W' := w7.setCell ⟨W.heap.size, 0, none⟩ v7) fun g hg => Below.heap_setCell w7 ⟨W.heap.size, 0, none⟩ v7 g fun e => by
      have e' : g = W.heap.size := e
      have := hv7 g hg
      omega
    rw [flat_snoc, List.length_append]
    exact o1
  · rcases List.mem_append.1 hx with hx | hx
    · exact ⟨mv (h.data x hx).1, mv (h.data x hx).2⟩
    · simp only [List.mem_singleton] at hx
      subst hx
      exact ⟨mv hd.1, mv hd.2⟩
  · rcases List.mem_append.1 hx with hx | hx
    · exact h.ok x hx
    · simp only [List.mem_singleton] at hx
      subst hx
      exact hok
  · refine ⟨g7.os.trans h.b.os, g7.tape.trans h.b.tape, g7.output.trans h.b.output, by rw [sz]; omega, fun k hk => ?_⟩
    rw [stay k (by omega) (by omega) (fun e => by have := hv k e; omega)]
    exact h.b.block k hk
end

/-- The local entry of the loop, beside the dictionary. -/
structure NE (W : World) (vv : Value) (rs : List Rv) (q : Nat) (x : En) (X : World) : Prop where
  s : NS W vv rs X
  r : X.heap[q]? = some (.cells (row x.ix x.sub x.nm x.ty x.ac x.mp x.st x.mx x.lo x.hi (.slice x.A x.d.length x.c)) 38)
  gt : W.heap.size < q
  ne : vv.ownBlock ≠ some q
section
variable {W wr X X' : World} {vv : Value} {rs : List Rv} {q : Nat} {x : En}
theorem NE.next (h : NE W vv rs q x X) (b : Below X.heap.size X X') : NE W vv rs q x X' :=
  ⟨h.s.next b, (b.block q (Array.getElem?_eq_some_iff.1 h.r).1).trans h.r, h.gt, h.ne⟩
theorem NE.start (h : NS W vv rs wr) (x : En) : NE W vv rs wr.heap.size x (wr.alloc (.cells (row x.ix x.sub x.nm x.ty x.ac x.mp x.st x.mx x.lo x.hi (.slice x.A x.d.length x.c)) 38)) :=
  ⟨h.next (one_b wr _), heap_alloc_new wr _, h.lt, fun e => by have := (h.own.lt _ e).2; omega⟩
theorem NE.set (h : NE W vv rs q x X) {A4 : Option Addr} {c4 : Nat} : NE W vv rs q { x with A := A4, c := c4 } (X.setCell ⟨q, 10, none⟩ (.slice A4 x.d.length c4)) := by
  have hq := h.gt
  have stay : ∀ g, g ≠ q → (X.setCell ⟨q, 10, none⟩ (.slice A4 x.d.length c4)).heap[g]? = X.heap[g]? := fun g hg => Below.heap_setCell X ⟨q, 10, none⟩ _ g hg
  have sz : (X.setCell ⟨q, 10, none⟩ (.slice A4 x.d.length c4)).heap.size = X.heap.size := by simp [World.setCell]
  have rb : ∀ {A : Option Addr} {bs : List UInt8}, RdB (fun g => W.heap.size < g ∧ g < X.heap.size ∧ vv.ownBlock ≠ some g) X A bs → RdB (fun g => W.heap.size < g ∧ g < (X.setCell ⟨q, 10, none⟩ (.slice A4 x.d.length c4)).heap.size ∧ vv.ownBlock ≠ some g) (X.setCell ⟨q, 10, none⟩ (.slice A4 x.d.length c4)) A bs := fun {A} {bs} hr => by
    rcases hr with h0 | ⟨g, off, e, hg, hc⟩
    · exact .inl h0
    · by_cases hb : bs = []
      · exact .inl hb
      · refine .inr ⟨g, off, e, ⟨hg.1, by rw [sz]; exact hg.2.1, hg.2.2⟩, fun j hj => ?_⟩
        have hne : g ≠ q := fun e => by
          subst e
          have h0 := hc 0 (List.length_pos_iff.2 hb)
          obtain ⟨z0, z1, z2, z3, z4, z5, z6, z7, z8, z9, z10⟩ := row_cells h.r
          have hsz : off + 0 < 11 := by
            have h1 := h0
            simp only [World.cell?, h.r] at h1
            have h2 := (Array.getElem?_eq_some_iff.1 h1).1
            simpa using h2
          rcases (by omega : off = 0 ∨ off = 1 ∨ off = 2 ∨ off = 3 ∨ off = 4 ∨ off = 5 ∨ off = 6 ∨ off = 7 ∨ off = 8 ∨ off = 9 ∨ off = 10) with e | e | e | e | e | e | e | e | e | e | e <;> subst e <;> simp_all
        exact (World.cell?_of_block (w := X) (a := ⟨g, off + j, none⟩) (stay g hne)).trans (hc j hj)
  refine ⟨⟨(stay _ (by omega)).trans h.s.blk, own_keep h.s.own fun g hg => stay g fun e => h.ne (e ▸ hg), fun r hr => ⟨rb (h.s.data r hr).1, rb (h.s.data r hr).2⟩, h.s.ok, h.s.b.setCell (p := ⟨q, 10, none⟩) (Nat.le_of_lt hq) _⟩, ?_, hq, h.ne⟩
  exact heap_setCell_same X q 10 _ _ _ h.r
/-- The bytes that were cloned. -/
theorem NE.data {w2 : World} (h : NE W vv rs q x X) {A4 : Option Addr} {c4 : Nat} (o : Own X w2.heap.size YT (.slice A4 x.d.length c4) x.d) (h2 : NE W vv rs q x w2) :
    RdB (fun g => W.heap.size < g ∧ g < (X.setCell ⟨q, 10, none⟩ (.slice A4 x.d.length c4)).heap.size ∧ vv.ownBlock ≠ some g) (X.setCell ⟨q, 10, none⟩ (.slice A4 x.d.length c4)) A4 x.d ∧
    RdB (fun g => W.heap.size < g ∧ g < (X.setCell ⟨q, 10, none⟩ (.slice A4 x.d.length c4)).heap.size ∧ vv.ownBlock ≠ some g) (X.setCell ⟨q, 10, none⟩ (.slice A4 x.d.length c4)) A4 x.d := by
  have hq := (Array.getElem?_eq_some_iff.1 h2.r).1
  have hv : ∀ g, vv.ownBlock = some g → g < w2.heap.size := fun g hg => (h2.s.own.lt g hg).2
  have sz : (X.setCell ⟨q, 10, none⟩ (.slice A4 x.d.length c4)).heap.size = X.heap.size := by simp [World.setCell]
  have r := ((rdB_own o rfl).keep (W' := X.setCell ⟨q, 10, none⟩ (.slice A4 x.d.length c4)) fun g hg => Below.heap_setCell X ⟨q, 10, none⟩ _ g fun e => by
    have e' : g = q := e
    omega).mono (G' := fun g => W.heap.size < g ∧ g < (X.setCell ⟨q, 10, none⟩ (.slice A4 x.d.length c4)).heap.size ∧ vv.ownBlock ≠ some g) fun g hg => ⟨by have := h2.s.lt; omega, by rw [sz]; exact hg.2, fun e => by have := hv g e; omega⟩
  exact ⟨r, r⟩
end
/-- What New ends with. -/
def NewEnds (W : World) (l : List Ev) (e : Ending) (w' : World) : Prop :=
  Below W.heap.size W w' ∧ (((newA l).1 = 0 ∧ e = .returned (.tuple #[ptr W.heap.size, .int .i64 0, .int .i64 0]) ∧ ∃ v, HasD w' W.heap.size v (· < W.heap.size) (first l)) ∨
    ((newA l).1 ≠ 0 ∧ e = .returned (.tuple #[.pointer none, .int .i64 (newA l).1, .int .i64 (newA l).2])))
theorem NewEnds.bad {W w' : World} {l : List Ev} {k : Nat} {c : Int} (h : l.length ≤ 96) (hi : k < l.length) (hf : Fine l k) (hb : bad l k = c) (hc : c ≠ 0) (b : Below W.heap.size W w') : NewEnds W l (.returned (.tuple #[.pointer none, .int .i64 c, .int .i64 (k : Int)])) w' := by
  subst hb
  have e := newA_bad h hi hf hc
  unfold NewEnds
  rw [e]
  exact ⟨b, .inr ⟨hc, rfl⟩⟩

set_option maxHeartbeats 8000000 in
theorem new_any (A : Option Addr) (c : Nat) (es : List En) (W : World) (hr : RdE W W.heap.size A es) (hok : ∀ j, j < es.length → EvOk (ev (es.getD j enZ))) (hg : TG W) (hn : es.length ≤ maxLen) :
    Calls Tryd.prog 7 #[.slice A es.length c] W (NewEnds W (es.map ev)) := by
  by_cases hbig : 96 < es.length
  · have hA := newA_big (l := es.map ev) (by simpa using hbig)
    unfold NewEnds
    rw [hA]
    clear hr hok hg hA
    generalize es.length = n at *
    unfold maxLen at hn
    go_enter Tryd.func7, Tryd.ntmps7
    go_wp2_with fail
    go_ret3
    exact ⟨Below.refl _ _, .inr ⟨by decide, rfl⟩⟩
  · obtain ⟨i0, hi, hz0, hz1, hz2⟩ := info_parts info_row
    have S := Lib.hid (NS.start W)
    have HR := Lib.hid (fun X (b : Below W.heap.size W X) => hr.below b)
    have HG := Lib.hid (fun X (b : Below W.heap.size W X) => hg.below b (Nat.le_refl _))
    clear hg hn
    go_enter Tryd.func7, Tryd.ntmps7
    go_wp2_with fail
    go_loopw [16] (fun iv wr => ∃ (k : Nat) (vv : Value) (rs : List Rv), rs.length = k ∧ k ≤ es.length ∧ iv = .int .i64 (k : Int) ∧ Hid (NS W vv rs wr) ∧ Hid (evs rs = (es.map ev).take k) ∧ Hid (rs.map (·.v) = (evs rs).map (·.d)) ∧ Hid (Fine (es.map ev) k)) (fun iv _ => es.length - (intOf iv).toNat)
    case atStart => exact ⟨0, .slice none 0 0, [], rfl, by omega, rfl, S, Lib.hid rfl, Lib.hid rfl, Lib.hid (Fine.zero _)⟩
    case round =>
      obtain ⟨k, vv, rs, hrs, hk, rfl, hS, hE, hV, hF⟩ := hrel
      clear S
      obtain ⟨A0, c0, hvv⟩ := hS.out.form
      rw [hrs] at hvv
      have HRS := Lib.hid hrs
      clear hrs
      by_cases hlt : k < es.length
      · obtain ⟨g, off, hA, hgB, ROW, hrd⟩ := (HR.out wr hS.out.b).at hlt rfl
        have HRD := Lib.hid (fun X (b : Below W.heap.size W X) => ((HR.out W (Below.refl _ _)).data k hlt).below b)
        have OKX := hok k hlt
        have ROWS := Lib.hid (fun X (b : Below W.heap.size W X) j (hj : j < es.length) => (HR.out X b).at hj rfl)
        have j1 : (0 : Int) ≤ (k : Int) := by omega
        have j2 : (k : Int) < (es.length : Int) := by omega
        have HX : at_ (es.map ev) k = ev (es.getD k enZ) := at_map es k
        have STEP := Lib.hid (fun (r : Rv) (h : r.e = ev (es.getD k enZ)) => show evs (rs ++ [r]) = (es.map ev).take (k + 1) by
          rw [List.take_succ_eq_append_getElem (by simp; omega)]
          unfold evs at *
          rw [List.map_append, hE.out, List.map_cons, List.map_nil, h]
          simp [List.getD_eq_getElem?_getD, hlt])
        have STEPV := Lib.hid (fun (r : Rv) (h : r.v = r.e.d) => show (rs ++ [r]).map (·.v) = (evs (rs ++ [r])).map (·.d) by
          unfold evs at *
          rw [List.map_append, List.map_append, List.map_append, hV.out]
          simp [h])
        have FN := Lib.hid (fun (h : bad (es.map ev) k = 0) => show Fine (es.map ev) (k + 1) from hF.out.next h)
        have BAD := Lib.hid (fun (X : World) (c : Int) (hb : bad (es.map ev) k = c) (hc : c ≠ 0) (b : Below W.heap.size W X) => NewEnds.bad (W := W) (w' := X) (by simp; omega) (by simpa using hlt) hF.out hb hc b)
        obtain ⟨q0, q1, q2, q3, q4, q5, q6, q7, q8, q9, q10⟩ := ROW
        subst hA
        have BD : bad (es.map ev) k = if (ev (es.getD k enZ)).right ≠ 0 then (ev (es.getD k enZ)).right else if 0 < k ∧ (ev (es.getD (k - 1) enZ)).bef (ev (es.getD k enZ)) = false then 16 else 0 := by
          unfold bad
          rw [HX, at_map es (k - 1)]
        have BDH := Lib.hid BD
        clear BD HX hV hE hF
        have PREV := Lib.hid (fun X (b : Below W.heap.size W X) (hk0 : 0 < k) => ROWS.out X b (k - 1) (by omega))
        clear ROWS
        generalize es.getD k enZ = x at *
        have OKR := Lib.hid (show EvOk (ev x) ∧ x.d.length ≤ 1000 from ⟨OKX, OKX.d⟩)
        have dl : x.d.length ≤ 1000 := OKX.d
        have N0 := Lib.hid (NE.start hS.out x)
        have R := Lib.hid (fun X (hX : Rd X X.heap.size x.A x.d) (hT : TG X) => right_any x.ix x.sub x.nm x.ty x.ac x.mp x.st x.mx x.lo x.hi x.A x.d.length x.c x.d X (by have := OKX.nm; show x.nm.length ≤ _; exact Nat.le_trans this (by omega)) OKX.mx.1 OKX.mx.2 hX rfl (by omega) hT)
        have HRI : rightN x.ix x.sub x.nm x.ty x.ac x.mp x.st x.mx x.lo x.hi x.d = (ev x).right := rfl
        rw [HRI] at R
        clear HRI OKX
        go_wp2_with fail
        refine (R.out _ ((HRD.out _ N0.out.s.b).mono N0.out.s.b.size) (HG.out _ N0.out.s.b)).mono ?_
        rintro e w1 ⟨rfl, b⟩
        have N1 := Lib.hid (N0.out.next b)
        clear b N0 R q0 q1 q2 q3 q4 q5 q6 q7 q8 q9 q10
        by_cases hR : (ev x).right = 0
        · rw [hR]
          have HR0 := Lib.hid hR
          subst hvv
          by_cases hk0 : k = 0
          · have hd : decide (0 < (k : Int)) = false := by simp; omega
            have hd2 : decide (0 < k) = false := by simp; omega
            have HB : bad (es.map ev) k = 0 := by
              rw [BDH.out, if_neg (by rw [HR0.out]; simp), if_neg (fun h => absurd h.1 (by omega))]
            clear hR hk0
            go_wp2_with fail
            go_quiet (fail)
            have N2 := Lib.hid (N1.out.next (below_drewN (Below.refl _ _) nq))
            clear N1
            generalize w1.drewN nq = w2 at *
            have CL := Lib.hid (Byt.clone_any x.A x.d.length x.c x.d w2 ((HRD.out w2 N2.out.s.b).mono N2.out.s.b.size) rfl (by omega))
            obtain ⟨y0, y1, y2, y3, y4, y5, y6, y7, y8, y9, y10⟩ := row_cells N2.out.r
            go_wp2_with fail
            refine CL.out.mono ?_
            rintro e w3 ⟨u, rfl, o, b⟩
            obtain ⟨A4, c4, rfl, _⟩ := o.form
            have N3 := Lib.hid (N2.out.next b)
            clear y0 y1 y2 y3 y4 y5 y6 y7 y8 y9 y10 CL
            obtain ⟨y0, y1, y2, y3, y4, y5, y6, y7, y8, y9, y10⟩ := row_cells N3.out.r
            have fz := frozen_of_row w3 wr.heap.size 10 _ _ N3.out.r
            have N4 := Lib.hid (N3.out.set (A4 := A4) (c4 := c4))
            have D4 := Lib.hid (N3.out.data o N2.out)
            clear N2 b o
            go_wp2_with fail
            clear y0 y1 y2 y3 y4 y5 y6 y7 y8 y9 y10 fz N3
            generalize w3.setCell ⟨wr.heap.size, 10, none⟩ (.slice A4 x.d.length c4) = w4 at *
            obtain ⟨y0, y1, y2, y3, y4, y5, y6, y7, y8, y9, y10⟩ := row_cells N4.out.r
            have y11 := N4.out.s.c0
            have OW4 := own_below (World.ownsRow.alloc N4.out.s.own (.cells (Rv.arr ⟨ev x, A4, c4, A4, x.d, c4⟩) 66)) (below_drew _)
            rw [HRS.out] at OW4
            have OW4 := Lib.hid OW4
            have BS := N4.out.s.lt
            have NC := Lib.hid (fun j u h => (show (World.drew (w4.alloc (.cells (Rv.arr ⟨ev x, A4, c4, A4, x.d, c4⟩) 66))).cell? ((⟨w4.heap.size, 0, none⟩ : Addr).add j) = some u from new_cells w4 (Rv.vals ⟨ev x, A4, c4, A4, x.d, c4⟩) 66 j u h))
            have ONE := Lib.hid (rv_one ⟨ev x, A4, c4, A4, x.d, c4⟩)
            go_region_law (first
              | (refine step_appX _ rfl (.tmp 48) (.tmp 53) 60 rfl (W.heap.size + 1) 66 i0 _ 12 128 Tryd.underlying60 hi hz0 hz1 hz2 rfl (by decide) _ k (flat Rv.vals rs) rfl OW4.out (some ⟨w4.heap.size, 0, none⟩) 1 1 (Rv.vals ⟨ev x, A4, c4, A4, x.d, c4⟩) rfl rfl (.inr ⟨_, rfl, NC.out⟩) ONE.out (by unfold maxLen; omega) (by omega) (by simp; omega) ?_; intro v7 w7 o7 g7 t7; have M7 := Lib.hid (N4.out.s.more (r := ⟨ev x, A4, c4, A4, x.d, c4⟩) D4.out OKR.out (by rw [HRS.out]; exact o7) g7 t7); have BK := N4.out.s.blk' g7; have u1 := cell_of (j := 0) (v := .slice A0 k c0) BK rfl; obtain ⟨A7, c7, rfl⟩ := row_form o7; have uf := frozen_of_row w7 W.heap.size 0 _ _ BK; clear o7 g7 t7 BK))
            all_goals
              clear y0 y1 y2 y3 y4 y5 y6 y7 y8 y9 y10 y11
              go_wp2_with fail
              go_roundw
              case rel => exact ⟨k + 1, _, _, by simp [HRS.out], by omega, by go_num, M7, STEP.out _ rfl, STEPV.out _ rfl, FN.out HB⟩
              case measure => simp [intOf]; omega
          · have hd : decide (0 < (k : Int)) = true := by simp; omega
            have hd2 : decide (0 < k) = true := by simp; omega
            have hd3 : 0 < k := by omega
            obtain ⟨g2, off2, e, hg2, R2, _⟩ := PREV.out W (Below.refl _ _) (by omega)
            injection e with e
            injection e with e e'
            subst e
            subst e'
            have m1 : (0 : Int) ≤ ((k - 1 : Nat) : Int) := by omega
            have m2 : ((k - 1 : Nat) : Int) < (es.length : Int) := by omega
            have hw : IntKind.i64.wrap ((k : Int) - 1) = ((k - 1 : Nat) : Int) := by
              rw [IntWalk.i64_in _ (by omega)]
              omega
            have hw2 : (k : Int) - 1 = ((k - 1 : Nat) : Int) := by omega
            have hw3 : IntKind.i64.wrap ((k - 1 : Nat) : Int) = ((k - 1 : Nat) : Int) := IntWalk.i64_in _ (by omega)
            have BDK : bad (es.map ev) k = if (ev (es.getD (k - 1) enZ)).bef (ev x) = false then 16 else 0 := by
              rw [BDH.out, if_neg (by rw [HR0.out]; simp)]
              by_cases hq : (ev (es.getD (k - 1) enZ)).bef (ev x) = false
              · rw [if_pos ⟨by omega, hq⟩, if_pos hq]
              · rw [if_neg (fun h => hq h.2), if_neg hq]
            have BDK := Lib.hid BDK
            clear PREV BDH hR hk0
            generalize es.getD (k - 1) enZ = y at *
            generalize k - 1 = m at *
            have PR := Lib.hid (fun X (b : Below W.heap.size W X) => R2.below hg2 b)
            have LC := Lib.hid (fun X (b : Below w1.heap.size w1 X) => row_cells (N1.out.next b).r)
            have BW := Lib.hid (fun X (b : Below w1.heap.size w1 X) => (N1.out.next b).s.b)
            have BF := Lib.hid (fun X => before_any y.ix y.sub y.nm y.ty y.ac y.mp y.st y.mx y.lo y.hi (.slice y.A y.d.length y.c) x.ix x.sub x.nm x.ty x.ac x.mp x.st x.mx x.lo x.hi (.slice x.A x.d.length x.c) X)
            clear R2
            have hBF : befB y.ix y.sub x.ix x.sub = (ev y).bef (ev x) := rfl
            rw [hBF] at BF
            clear hBF
            generalize (ev y).bef (ev x) = B at *
            go_wp2_with fail
            refine Txt.wp_region_textN 12 (fun X => Below w1.heap.size w1 X) (by kernel_rfl) (by kernel_rfl) (by kernel_rfl) (by kernel_rfl) (fun _ _ _ _ _ h => h) (Below.refl _ _).drew ?_
            iterate 12 (
              apply Txt.step rfl
              · intro X hS K hK
                obtain ⟨p0, p1, p2, p3, p4, p5, p6, p7, p8, p9, p10⟩ := PR.out X (BW.out X hS)
                obtain ⟨y0, y1, y2, y3, y4, y5, y6, y7, y8, y9, y10⟩ := LC.out X hS
                have HS := Lib.hid hS
                clear hS
                go_simp
                first
                  | exact hK.out _ HS.out
                  | (go_wp2_with (go_at_call 22; refine (BF.out X).mono ?_; rintro e w' ⟨rfl, b⟩; have T := Lib.hid (HS.out.trans (b.mono HS.out.size)); clear b)
                     first | exact hK.out _ HS.out | exact hK.out _ T.out)
              · first | exact ⟨_, rfl⟩ | exact ⟨undef, rfl⟩)
            refine Txt.last fun w2 hS => ?_
            have N2 := Lib.hid (N1.out.next hS)
            clear hS N1 PR LC BW BF hw hw2 hw3 m1 m2
            cases B with
            | false =>
              have NB := Lib.hid (BAD.out w2 16 (by rw [BDK.out]; rfl) (by decide) N2.out.s.b)
              clear BAD BDK FN STEP STEPV OKR HRD
              go_wp2_with fail
              go_ret3
              exact NB.out
            | true =>
              have HB : bad (es.map ev) k = 0 := by rw [BDK.out]; rfl
              have CL := Lib.hid (Byt.clone_any x.A x.d.length x.c x.d w2 ((HRD.out w2 N2.out.s.b).mono N2.out.s.b.size) rfl (by omega))
              obtain ⟨y0, y1, y2, y3, y4, y5, y6, y7, y8, y9, y10⟩ := row_cells N2.out.r
              go_wp2_with fail
              refine CL.out.mono ?_
              rintro e w3 ⟨u, rfl, o, b⟩
              obtain ⟨A4, c4, rfl, _⟩ := o.form
              have N3 := Lib.hid (N2.out.next b)
              clear y0 y1 y2 y3 y4 y5 y6 y7 y8 y9 y10 CL
              obtain ⟨y0, y1, y2, y3, y4, y5, y6, y7, y8, y9, y10⟩ := row_cells N3.out.r
              have fz := frozen_of_row w3 wr.heap.size 10 _ _ N3.out.r
              have N4 := Lib.hid (N3.out.set (A4 := A4) (c4 := c4))
              have D4 := Lib.hid (N3.out.data o N2.out)
              clear N2 b o
              go_wp2_with fail
              clear y0 y1 y2 y3 y4 y5 y6 y7 y8 y9 y10 fz N3
              generalize w3.setCell ⟨wr.heap.size, 10, none⟩ (.slice A4 x.d.length c4) = w4 at *
              obtain ⟨y0, y1, y2, y3, y4, y5, y6, y7, y8, y9, y10⟩ := row_cells N4.out.r
              have y11 := N4.out.s.c0
              have OW4 := own_below (World.ownsRow.alloc N4.out.s.own (.cells (Rv.arr ⟨ev x, A4, c4, A4, x.d, c4⟩) 66)) (below_drew _)
              rw [HRS.out] at OW4
              have OW4 := Lib.hid OW4
              have BS := N4.out.s.lt
              have NC := Lib.hid (fun j u h => (show (World.drew (w4.alloc (.cells (Rv.arr ⟨ev x, A4, c4, A4, x.d, c4⟩) 66))).cell? ((⟨w4.heap.size, 0, none⟩ : Addr).add j) = some u from new_cells w4 (Rv.vals ⟨ev x, A4, c4, A4, x.d, c4⟩) 66 j u h))
              have ONE := Lib.hid (rv_one ⟨ev x, A4, c4, A4, x.d, c4⟩)
              go_region_law (first
                | (refine step_appX _ rfl (.tmp 48) (.tmp 53) 60 rfl (W.heap.size + 1) 66 i0 _ 12 128 Tryd.underlying60 hi hz0 hz1 hz2 rfl (by decide) _ k (flat Rv.vals rs) rfl OW4.out (some ⟨w4.heap.size, 0, none⟩) 1 1 (Rv.vals ⟨ev x, A4, c4, A4, x.d, c4⟩) rfl rfl (.inr ⟨_, rfl, NC.out⟩) ONE.out (by unfold maxLen; omega) (by omega) (by simp; omega) ?_; intro v7 w7 o7 g7 t7; have M7 := Lib.hid (N4.out.s.more (r := ⟨ev x, A4, c4, A4, x.d, c4⟩) D4.out OKR.out (by rw [HRS.out]; exact o7) g7 t7); have BK := N4.out.s.blk' g7; have u1 := cell_of (j := 0) (v := .slice A0 k c0) BK rfl; obtain ⟨A7, c7, rfl⟩ := row_form o7; have uf := frozen_of_row w7 W.heap.size 0 _ _ BK; clear o7 g7 t7 BK))
              all_goals
                clear y0 y1 y2 y3 y4 y5 y6 y7 y8 y9 y10 y11
                go_wp2_with fail
                go_roundw
                case rel => exact ⟨k + 1, _, _, by simp [HRS.out], by omega, by go_num, M7, STEP.out _ rfl, STEPV.out _ rfl, FN.out HB⟩
                case measure => simp [intOf]; omega
        · have hd : ((ev x).right != 0) = true := by simpa using hR
          have NB := Lib.hid (BAD.out w1 (ev x).right (by rw [BDH.out, if_pos hR]) hR N1.out.s.b)
          clear BAD BDH FN STEP STEPV OKR PREV HRD hR hvv hS
          generalize (ev x).right = R at *
          go_wp2_with fail
          go_ret3
          exact NB.out
      · have hE' : k = es.length := by omega
        have few : rs.length ≤ 96 := by rw [HRS.out]; omega
        have D := Lib.hid (hS.out.done few)
        have NB := Lib.hid (show NewEnds W (es.map ev) (.returned (.tuple #[ptr W.heap.size, .int .i64 0, .int .i64 0])) wr from by
          have hl : (es.map ev).length = es.length := by simp
          have e := newA_ok (l := es.map ev) (by omega) (by rw [hl, ← hE']; exact hF.out)
          have h1 : evs rs = es.map ev := by rw [hE.out, List.take_of_length_le (by simp; omega)]
          unfold NewEnds
          rw [e]
          exact ⟨hS.out.b, .inl ⟨rfl, rfl, vv, rs, D.out, h1, by rw [hV.out, h1]; rfl⟩⟩)
        clear D hE hV hF hS hvv hok HR HG
        go_wp2_with fail
        go_ret3
        exact NB.out
end Dic
end Go.Proofs.YtpdnfdpoebhjoaaDoor
