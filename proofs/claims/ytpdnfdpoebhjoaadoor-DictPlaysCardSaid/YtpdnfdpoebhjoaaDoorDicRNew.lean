/-
  The document's New.
-/
import Derived.Test.YtpdnfdpoebhjoaaDoorDicRLent
import Derived.Test.YtpdnfdpoebhjoaaDoorDicNew
import Derived.Test.YtpdnfdpoebhjoaaDoorEntRRight
import Derived.Deep.CutRange
import Derived.Deep.CutBlock
namespace Go.Proofs.YtpdnfdpoebhjoaaDoor
namespace Dic
open Go.RowKit Mem Ent
set_option linter.unusedVariables false
set_option linter.unusedSimpArgs false
set_option maxRecDepth 100000

theorem info_ent : (Tryd.prog.info? 38).map (fun i => (i.zero, i.size, i.bytes)) = some (some (.agg #[.int .i64 0, .int .i64 0, .string ⟨#[]⟩, .int .i64 0, .int .i64 0, .bool false, .bool false, .int .i64 0, .int .i64 0, .int .i64 0, .slice none 0 0]), 11, 104) := by kernel_rfl
theorem info_bs : (Tryd.prog.info? 36).map (fun i => (i.zero, i.size, i.bytes)) = some (some (.slice none 0 0), 1, 24) := by kernel_rfl
/-- While the document's New runs. -/
structure GS (W : World) (vL vV : Value) (xs : List En) (bs : List Bv) (wr : World) : Prop where
  blk : wr.heap[W.heap.size]? = some (.cells (gcells vL vV).toArray GT (0, 0))
  ownL : wr.ownsRow (W.heap.size + 1) ET 11 vL xs.length (flat enl xs)
  ownV : wr.ownsRow (W.heap.size + 1) ST 1 vV bs.length (flat bvl bs)
  nLV : ∀ g, vL.ownBlock = some g → vV.ownBlock ≠ some g
  dataL : ∀ x ∈ xs, RdB (fun g => W.heap.size < g ∧ g < wr.heap.size ∧ vL.ownBlock ≠ some g ∧ vV.ownBlock ≠ some g) wr x.A x.d
  dataV : ∀ b ∈ bs, RdB (fun g => W.heap.size < g ∧ g < wr.heap.size ∧ vL.ownBlock ≠ some g ∧ vV.ownBlock ≠ some g) wr b.A b.d
  ok : ∀ x ∈ xs, EvOk (ev x)
  okb : ∀ b ∈ bs, b.d.length ≤ 1000
  b : Below W.heap.size W wr
section
variable {W wr w' : World} {vL vV : Value} {xs : List En} {bs : List Bv}
theorem GS.lt (h : GS W vL vV xs bs wr) : W.heap.size < wr.heap.size := (Array.getElem?_eq_some_iff.1 h.blk).1
theorem GS.next (h : GS W vL vV xs bs wr) (b : Below wr.heap.size wr w') : GS W vL vV xs bs w' := by
  have mv : ∀ {A : Option Addr} {d : List UInt8}, RdB (fun g => W.heap.size < g ∧ g < wr.heap.size ∧ vL.ownBlock ≠ some g ∧ vV.ownBlock ≠ some g) wr A d → RdB (fun g => W.heap.size < g ∧ g < w'.heap.size ∧ vL.ownBlock ≠ some g ∧ vV.ownBlock ≠ some g) w' A d := fun hr =>
    (hr.keep fun g hg => b.block g hg.2.1).mono fun g hg => ⟨hg.1, Nat.lt_of_lt_of_le hg.2.1 b.size, hg.2.2⟩
  exact ⟨(b.block _ h.lt).trans h.blk, own_below h.ownL b, own_below h.ownV b, h.nLV, fun x hx => mv (h.dataL x hx), fun x hx => mv (h.dataV x hx), h.ok, h.okb, h.b.trans (b.mono h.b.size)⟩
theorem GS.start (W : World) : GS W (.slice none 0 0) (.slice none 0 0) [] [] (W.alloc (.cells #[.slice none 0 0, .slice none 0 0] GT)) :=
  ⟨heap_alloc_new W _, World.ownsRow_nil _ _ _ _, World.ownsRow_nil _ _ _ _, fun g hg => by simp [Value.ownBlock] at hg, fun r hr => by simp at hr, fun r hr => by simp at hr, fun r hr => by simp at hr, fun r hr => by simp at hr, one_b W _⟩
theorem GS.c0 (h : GS W vL vV xs bs wr) : wr.cell? ⟨W.heap.size, 0, none⟩ = some vL := cell_of h.blk rfl
theorem GS.c1 (h : GS W vL vV xs bs wr) : wr.cell? ⟨W.heap.size, 1, none⟩ = some vV := cell_of h.blk rfl
/-- Bytes in new memory. -/
theorem GS.fresh (h : GS W vL vV xs bs wr) (b : Below wr.heap.size wr w') {A : Option Addr} {c : Nat} {d : List UInt8} (o : Own w' wr.heap.size YT (.slice A d.length c) d) : RdB (fun g => W.heap.size < g ∧ g < w'.heap.size ∧ vL.ownBlock ≠ some g ∧ vV.ownBlock ≠ some g) w' A d :=
  (rdB_own o rfl).mono fun g hg => ⟨by have := h.lt; omega, hg.2, fun e => by have := (h.ownL.lt g e).2; omega, fun e => by have := (h.ownV.lt g e).2; omega⟩
theorem GS.blkL (h : GS W vL vV xs bs wr) {w7 : World} {o : Obj} (g7 : (wr.alloc o).grownBy w7 vL.ownBlock) : w7.heap[W.heap.size]? = some (.cells (gcells vL vV).toArray GT (0, 0)) := by
  have hv : vL.ownBlock ≠ some W.heap.size := fun e => by have := (h.ownL.lt _ e).1; omega
  have h1 := g7.block W.heap.size (by have := h.lt; simp; omega) (fun e => hv e.symm)
  rw [h1]
  exact (Below.heap_alloc wr o W.heap.size h.lt).trans h.blk
theorem GS.blkV (h : GS W vL vV xs bs wr) {w7 : World} {o : Obj} (g7 : (wr.alloc o).grownBy w7 vV.ownBlock) : w7.heap[W.heap.size]? = some (.cells (gcells vL vV).toArray GT (0, 0)) := by
  have hv : vV.ownBlock ≠ some W.heap.size := fun e => by have := (h.ownV.lt _ e).1; omega
  have h1 := g7.block W.heap.size (by have := h.lt; simp; omega) (fun e => hv e.symm)
  rw [h1]
  exact (Below.heap_alloc wr o W.heap.size h.lt).trans h.blk
/-- One entry more. -/
theorem GS.moreL (h : GS W vL vV xs bs wr) {w7 : World} {o : Obj} {v7 : Value} {x : En} (hd : RdB (fun g => W.heap.size < g ∧ g < wr.heap.size ∧ vL.ownBlock ≠ some g ∧ vV.ownBlock ≠ some g) wr x.A x.d) (hok : EvOk (ev x))
    (own : w7.ownsRow (W.heap.size + 1) ET 11 v7 (xs.length + 1) (flat enl xs ++ enl x)) (g7 : (wr.alloc o).grownBy w7 vL.ownBlock) (t7 : v7.ownBlock = vL.ownBlock ∨ v7.ownBlock = some (wr.alloc o).heap.size) :
    GS W v7 vV (xs ++ [x]) bs (w7.setCell ⟨W.heap.size, 0, none⟩ v7) := by
  have s5 : (wr.alloc o).heap.size = wr.heap.size + 1 := by simp
  have sz : (w7.setCell ⟨W.heap.size, 0, none⟩ v7).heap.size = w7.heap.size := by simp [World.setCell]
  have s7 := g7.size
  have hlt := h.lt
  have hv7 : ∀ g, v7.ownBlock = some g → W.heap.size < g := fun g hg => (own.lt g hg).1
  have stay : ∀ q, q < wr.heap.size → q ≠ W.heap.size → vL.ownBlock ≠ some q → (w7.setCell ⟨W.heap.size, 0, none⟩ v7).heap[q]? = wr.heap[q]? := fun q hq hp hn => by
    rw [Below.heap_setCell w7 ⟨W.heap.size, 0, none⟩ v7 q hp, g7.block q (by omega) (fun e => hn e.symm)]
    exact Below.heap_alloc wr o q hq
  have far : ∀ q, q < wr.heap.size → vL.ownBlock ≠ some q → v7.ownBlock ≠ some q := fun q hq hn e => by
    rcases t7 with t | t
    · exact hn (t ▸ e)
    · rw [t] at e
      have : wr.heap.size + 1 = q := by rw [← s5]; exact Option.some.inj e
      omega
  have mv : ∀ {A : Option Addr} {d : List UInt8}, RdB (fun g => W.heap.size < g ∧ g < wr.heap.size ∧ vL.ownBlock ≠ some g ∧ vV.ownBlock ≠ some g) wr A d → RdB (fun g => W.heap.size < g ∧ g < (w7.setCell ⟨W.heap.size, 0, none⟩ v7).heap.size ∧ v7.ownBlock ≠ some g ∧ vV.ownBlock ≠ some g) (w7.setCell ⟨W.heap.size, 0, none⟩ v7) A d := fun hr =>
    (hr.keep fun g hg => stay g hg.2.1 (by omega) hg.2.2.1).mono fun g hg => ⟨hg.1, by rw [sz]; omega, far g hg.2.1 hg.2.2.1, hg.2.2.2⟩
  refine ⟨?_, ?_, own_keep h.ownV fun g hg => stay g (h.ownV.lt g hg).2 (by have := (h.ownV.lt g hg).1; omega) (fun e => h.nLV g e hg), fun g hg e => ?_, fun y hy => ?_, fun y hy => mv (h.dataV y hy), fun y hy => ?_, h.okb, ?_⟩
  · have := heap_setCell_same w7 W.heap.size 0 _ GT v7 (h.blkL g7)
    rw [this]
    simp [gcells]
  · have o1 := own_keep own (W' := w7.setCell ⟨W.heap.size, 0, none⟩ v7) fun g hg => Below.heap_setCell w7 ⟨W.heap.size, 0, none⟩ v7 g fun e => by
      have e' : g = W.heap.size := e
      have := hv7 g hg
      omega
    rw [flat_snoc, List.length_append]
    exact o1
  · rcases t7 with t | t
    · exact h.nLV g (t ▸ hg) e
    · rw [t] at hg
      have h1 : wr.heap.size + 1 = g := by rw [← s5]; exact Option.some.inj hg
      have := (h.ownV.lt g e).2
      omega
  · rcases List.mem_append.1 hy with hy | hy
    · exact mv (h.dataL y hy)
    · simp only [List.mem_singleton] at hy
      subst hy
      exact mv hd
  · rcases List.mem_append.1 hy with hy | hy
    · exact h.ok y hy
    · simp only [List.mem_singleton] at hy
      subst hy
      exact hok
  · refine ⟨g7.os.trans h.b.os, g7.tape.trans h.b.tape, g7.output.trans h.b.output, by rw [sz]; omega, fun k hk => ?_⟩
    rw [stay k (by omega) (by omega) (fun e => by have := (h.ownL.lt k e).1; omega)]
    exact h.b.block k hk
/-- One value more. -/
theorem GS.moreV (h : GS W vL vV xs bs wr) {w7 : World} {o : Obj} {v7 : Value} {x : Bv} (hd : RdB (fun g => W.heap.size < g ∧ g < wr.heap.size ∧ vL.ownBlock ≠ some g ∧ vV.ownBlock ≠ some g) wr x.A x.d) (hok : x.d.length ≤ 1000)
    (own : w7.ownsRow (W.heap.size + 1) ST 1 v7 (bs.length + 1) (flat bvl bs ++ bvl x)) (g7 : (wr.alloc o).grownBy w7 vV.ownBlock) (t7 : v7.ownBlock = vV.ownBlock ∨ v7.ownBlock = some (wr.alloc o).heap.size) :
    GS W vL v7 xs (bs ++ [x]) (w7.setCell ⟨W.heap.size, 1, none⟩ v7) := by
  have s5 : (wr.alloc o).heap.size = wr.heap.size + 1 := by simp
  have sz : (w7.setCell ⟨W.heap.size, 1, none⟩ v7).heap.size = w7.heap.size := by simp [World.setCell]
  have s7 := g7.size
  have hlt := h.lt
  have hv7 : ∀ g, v7.ownBlock = some g → W.heap.size < g := fun g hg => (own.lt g hg).1
  have stay : ∀ q, q < wr.heap.size → q ≠ W.heap.size → vV.ownBlock ≠ some q → (w7.setCell ⟨W.heap.size, 1, none⟩ v7).heap[q]? = wr.heap[q]? := fun q hq hp hn => by
    rw [Below.heap_setCell w7 ⟨W.heap.size, 1, none⟩ v7 q hp, g7.block q (by omega) (fun e => hn e.symm)]
    exact Below.heap_alloc wr o q hq
  have far : ∀ q, q < wr.heap.size → vV.ownBlock ≠ some q → v7.ownBlock ≠ some q := fun q hq hn e => by
    rcases t7 with t | t
    · exact hn (t ▸ e)
    · rw [t] at e
      have : wr.heap.size + 1 = q := by rw [← s5]; exact Option.some.inj e
      omega
  have mv : ∀ {A : Option Addr} {d : List UInt8}, RdB (fun g => W.heap.size < g ∧ g < wr.heap.size ∧ vL.ownBlock ≠ some g ∧ vV.ownBlock ≠ some g) wr A d → RdB (fun g => W.heap.size < g ∧ g < (w7.setCell ⟨W.heap.size, 1, none⟩ v7).heap.size ∧ vL.ownBlock ≠ some g ∧ v7.ownBlock ≠ some g) (w7.setCell ⟨W.heap.size, 1, none⟩ v7) A d := fun hr =>
    (hr.keep fun g hg => stay g hg.2.1 (by omega) hg.2.2.2).mono fun g hg => ⟨hg.1, by rw [sz]; omega, hg.2.2.1, far g hg.2.1 hg.2.2.2⟩
  refine ⟨?_, own_keep h.ownL fun g hg => stay g (h.ownL.lt g hg).2 (by have := (h.ownL.lt g hg).1; omega) (h.nLV g hg), ?_, fun g hg e => ?_, fun y hy => mv (h.dataL y hy), fun y hy => ?_, h.ok, fun y hy => ?_, ?_⟩
  · have := heap_setCell_same w7 W.heap.size 1 _ GT v7 (h.blkV g7)
    rw [this]
    simp [gcells]
  · have o1 := own_keep own (W' := w7.setCell ⟨W.heap.size, 1, none⟩ v7) fun g hg => Below.heap_setCell w7 ⟨W.heap.size, 1, none⟩ v7 g fun e => by
      have e' : g = W.heap.size := e
      have := hv7 g hg
      omega
    rw [flat_snoc, List.length_append]
    exact o1
  · rcases t7 with t | t
    · exact h.nLV g hg (t ▸ e)
    · rw [t] at e
      have h1 : wr.heap.size + 1 = g := by rw [← s5]; exact Option.some.inj e
      have := (h.ownL.lt g hg).2
      omega
  · rcases List.mem_append.1 hy with hy | hy
    · exact mv (h.dataV y hy)
    · simp only [List.mem_singleton] at hy
      subst hy
      exact mv hd
  · rcases List.mem_append.1 hy with hy | hy
    · exact h.okb y hy
    · simp only [List.mem_singleton] at hy
      subst hy
      exact hok
  · refine ⟨g7.os.trans h.b.os, g7.tape.trans h.b.tape, g7.output.trans h.b.output, by rw [sz]; omega, fun k hk => ?_⟩
    rw [stay k (by omega) (by omega) (fun e => by have := (h.ownV.lt k e).1; omega)]
    exact h.b.block k hk
theorem GS.done (h : GS W vL vV xs bs wr) (few : xs.length ≤ 96) (hl : bs.length = xs.length) : IsG wr W.heap.size vL vV (· < W.heap.size) xs bs := by
  have hv : ∀ g, vV.ownBlock = some g → W.heap.size < g := fun g hg => (h.ownV.lt g hg).1
  have hw : ∀ g, vL.ownBlock = some g → W.heap.size < g := fun g hg => (h.ownL.lt g hg).1
  have z : ∀ {e : TypeId} {v : Value} {n size : Nat} {cs : List Value}, wr.ownsRow (W.heap.size + 1) e size v n cs → wr.ownsRow 0 e size v n cs := fun {e v n size cs} o => by
    refine ⟨o.1, ?_⟩
    rcases o.2 with h1 | ⟨g, cap, cur, e, hb, r⟩
    · exact .inl h1
    · exact .inr ⟨g, cap, cur, e, Nat.zero_le _, r⟩
  exact ⟨h.blk, z h.ownL, z h.ownV, Nat.lt_irrefl _, fun e => by have := hv _ e; omega, h.nLV, fun g hg => by have := hw g hg; omega, fun g hg => by have := hv g hg; omega,
    fun x hx => (h.dataL x hx).mono fun g hg => ⟨hg.2.1, fun n => n.elim (fun n => by omega) hg.2.2.2⟩, fun x hx => (h.dataV x hx).mono fun g hg => ⟨hg.2.1, fun n => n.elim (fun n => by omega) hg.2.2.2⟩, h.ok, h.okb, hl, few⟩
end
/-- What the document's New ends with. -/
def RNewEnds (W : World) (l : List Ev) (e : Ending) (w' : World) : Prop :=
  Below W.heap.size W w' ∧ (((newA l).1 = 0 ∧ e = .returned (.tuple #[ptr W.heap.size, .int .i64 0, .int .i64 0]) ∧ ∃ vL vV, HasG w' W.heap.size vL vV (· < W.heap.size) (first l)) ∨
    ((newA l).1 ≠ 0 ∧ ∃ u, e = .returned (.tuple #[u, .int .i64 (newA l).1, .int .i64 (newA l).2])))
theorem RNewEnds.bad {W w' : World} {l : List Ev} {k : Nat} {c : Int} {u : Value} (h : l.length ≤ 96) (hi : k < l.length) (hf : Fine l k) (hb : bad l k = c) (hc : c ≠ 0) (b : Below W.heap.size W w') : RNewEnds W l (.returned (.tuple #[u, .int .i64 c, .int .i64 (k : Int)])) w' := by
  subst hb
  have e := newA_bad h hi hf hc
  unfold RNewEnds
  rw [e]
  exact ⟨b, .inr ⟨hc, u, rfl⟩⟩

set_option maxHeartbeats 16000000 in
theorem rnew_any (A : Option Addr) (c : Nat) (es : List En) (W : World) (hr : RdE W W.heap.size A es) (hok : ∀ j, j < es.length → EvOk (ev (es.getD j enZ))) (hn : es.length ≤ maxLen) :
    Calls Tryd.prog 8 #[.slice A es.length c] W (RNewEnds W (es.map ev)) := by
  by_cases hbig : 96 < es.length
  · have hA := newA_big (l := es.map ev) (by simpa using hbig)
    unfold RNewEnds
    rw [hA]
    have B := Lib.hid (one_b W (.cells #[.slice none 0 0, .slice none 0 0] GT))
    clear hr hok hA
    generalize es.length = n at *
    unfold maxLen at hn
    go_enter Tryd.func8, Tryd.ntmps8
    go_wp2_with fail
    go_ret3
    exact ⟨B.out, .inr ⟨by decide, _, rfl⟩⟩
  · obtain ⟨ie, hie, hze0, hze1, hze2⟩ := info_parts info_ent
    obtain ⟨ib, hib, hzb0, hzb1, hzb2⟩ := info_parts info_bs
    have S := Lib.hid (GS.start W)
    have HR := Lib.hid (fun X (b : Below W.heap.size W X) => hr.below b)
    clear hn hr
    go_enter Tryd.func8, Tryd.ntmps8
    go_wp2_with fail
    go_loopw [6] (fun iv wr => ∃ (k : Nat) (vL vV : Value) (xs : List En) (bs : List Bv), xs.length = k ∧ bs.length = k ∧ k ≤ es.length ∧ iv = .int .i64 (k : Int) ∧ Hid (GS W vL vV xs bs wr) ∧ Hid (xs.map ev = (es.map ev).take k) ∧ Hid (bs.map (·.d) = (xs.map ev).map (·.d)) ∧ Hid (Fine (es.map ev) k)) (fun iv _ => es.length - (intOf iv).toNat)
    case atStart => exact ⟨0, .slice none 0 0, .slice none 0 0, [], [], rfl, rfl, by omega, rfl, S, Lib.hid rfl, Lib.hid rfl, Lib.hid (Fine.zero _)⟩
    case round =>
      obtain ⟨k, vL, vV, xs, bs, hxs, hbs, hk, rfl, hS, hE, hV, hF⟩ := hrel
      clear S
      obtain ⟨A0, c0, hvL⟩ := row_form hS.out.ownL
      obtain ⟨C0, d0, hvV⟩ := row_form hS.out.ownV
      rw [hxs] at hvL
      rw [hbs] at hvV
      have HRS := Lib.hid hxs
      have HBS := Lib.hid hbs
      clear hxs hbs
      by_cases hlt : k < es.length
      · obtain ⟨g, off, hA, hgB, ROW, _⟩ := (HR.out W (Below.refl _ _)).at hlt rfl
        have PX := Lib.hid (fun X (b : Below W.heap.size W X) => ROW.below hgB b)
        have HRD := Lib.hid (fun X (b : Below W.heap.size W X) => (((HR.out W (Below.refl _ _)).data k hlt).below b).mono b.size)
        have OKX := hok k hlt
        have ROWS := Lib.hid (fun j (hj : j < es.length) => (HR.out W (Below.refl _ _)).at hj rfl)
        have j1 : (0 : Int) ≤ (k : Int) := by omega
        have j2 : (k : Int) < (es.length : Int) := by omega
        have HX : at_ (es.map ev) k = ev (es.getD k enZ) := at_map es k
        have STEP := Lib.hid (fun (x : En) (h : ev x = ev (es.getD k enZ)) => show (xs ++ [x]).map ev = (es.map ev).take (k + 1) by
          rw [List.take_succ_eq_append_getElem (by simp; omega), List.map_append, hE.out, List.map_cons, List.map_nil, h]
          simp [List.getD_eq_getElem?_getD, hlt])
        have STEPV := Lib.hid (fun (x : En) (b : Bv) (h : b.d = (ev x).d) => show (bs ++ [b]).map (·.d) = ((xs ++ [x]).map ev).map (·.d) by
          rw [List.map_append, List.map_append, List.map_append, hV.out]
          simp [h])
        have FN := Lib.hid (fun (h : bad (es.map ev) k = 0) => show Fine (es.map ev) (k + 1) from hF.out.next h)
        have BAD := Lib.hid (fun (X : World) (u : Value) (c : Int) (hb : bad (es.map ev) k = c) (hc : c ≠ 0) (b : Below W.heap.size W X) => RNewEnds.bad (W := W) (w' := X) (u := u) (by simp; omega) (by simpa using hlt) hF.out hb hc b)
        have BD : bad (es.map ev) k = if (ev (es.getD k enZ)).right ≠ 0 then (ev (es.getD k enZ)).right else if 0 < k ∧ (ev (es.getD (k - 1) enZ)).bef (ev (es.getD k enZ)) = false then 16 else 0 := by
          unfold bad
          rw [HX, at_map es (k - 1)]
        have BDH := Lib.hid BD
        clear BD HX hV hE hF ROW hgB
        have PREV := Lib.hid (fun (hk0 : 0 < k) => ROWS.out (k - 1) (by omega))
        have HLT := Lib.hid hlt
        clear ROWS
        subst hA
        generalize es.getD k enZ = x at *
        have OKR := Lib.hid (show EvOk (ev x) from OKX)
        have dl : x.d.length ≤ 1000 := OKX.d
        have N1 := Lib.hid hS.out
        have R := Lib.hid (fun X (hX : Rd X X.heap.size x.A x.d) => rright_any x.ix x.sub x.nm x.ty x.ac x.mp x.st x.mx x.lo x.hi x.A x.d.length x.c X.heap.size x.d X (by have := OKX.nm; show x.nm.length ≤ _; exact Nat.le_trans this (by omega)) OKX.mx.1 OKX.mx.2 (Nat.le_refl _) hX rfl (by omega))
        have HRI : rightN x.ix x.sub x.nm x.ty x.ac x.mp x.st x.mx x.lo x.hi x.d = (ev x).right := rfl
        rw [HRI] at R
        obtain ⟨q0, q1, q2, q3, q4, q5, q6, q7, q8, q9, q10⟩ := PX.out wr hS.out.b
        clear HRI OKX hS
        go_wp2_with fail
        refine (R.out _ (HRD.out _ N1.out.b)).mono ?_
        rintro e w1 ⟨rfl, b⟩
        have N1 := Lib.hid (N1.out.next b)
        clear b R q0 q1 q2 q3 q4 q5 q6 q7 q8 q9 q10
        by_cases hR : (ev x).right = 0
        · rw [hR]
          have HR0 := Lib.hid hR
          subst hvL
          subst hvV
          by_cases hk0 : k = 0
          · have hd : decide (0 < (k : Int)) = false := by simp; omega
            have hd2 : decide (0 < k) = false := by simp; omega
            have HB : bad (es.map ev) k = 0 := by
              rw [BDH.out, if_neg (by rw [HR0.out]; simp), if_neg (fun h => absurd h.1 (by omega))]
            clear hR hk0 BDH PREV BAD
            go_wp2_with fail
            go_quiet (fail)
            have N2 := Lib.hid (N1.out.next (below_drewN (Below.refl _ _) nq))
            clear N1
            generalize w1.drewN nq = w2 at *
            go_upto_region 12 with fail
            go_cut [5] from 49 to 63 (fun pv wx => pv = ptr W.heap.size ∧ ∃ (A7 : Option Addr) (c7 : Nat) (A3 : Option Addr) (c3 : Nat), Hid (GS W (.slice A7 (k + 1) c7) (.slice C0 k d0) (xs ++ [{ x with A := A3, c := c3 }]) bs wx))
            case first =>
              obtain ⟨q0, q1, q2, q3, q4, q5, q6, q7, q8, q9, q10⟩ := PX.out w2 N2.out.b
              have y11 := N2.out.c0
              have LN := Lib.hid (rlent_any x w2.drew (HRD.out _ (N2.out.b.trans ((below_drew w2).mono N2.out.b.size))) dl)
              go_region_law (first
                | (go_simp; go_at_call 20; refine LN.out.mono ?_; rintro e w3 ⟨A3, c3, rfl, o3, b3⟩; have N3 := Lib.hid (N2.out.next ((below_drew w2).trans (b3.mono (Nat.le_refl _)))); have D3 := Lib.hid (N2.out.fresh ((below_drew w2).trans (b3.mono (Nat.le_refl _))) o3); have z11 := N3.out.c0; have OW3 := World.ownsRow.alloc N3.out.ownL (.cells (Ev.row (ev x) (.slice A3 x.d.length c3)) 38); rw [HRS.out] at OW3; have OW3 := Lib.hid OW3; have NC := Lib.hid (new_cells w3 (enl { x with A := A3, c := c3 }) 38); have ONE := Lib.hid (enl_one { x with A := A3, c := c3 }); have BS3 := N3.out.lt; clear o3 b3)
                | (refine step_appX _ rfl (.tmp 53) (.tmp 59) 22 rfl (W.heap.size + 1) 38 ie _ 11 104 Tryd.underlying22 hie hze0 hze1 hze2 rfl (by decide) _ k (flat enl xs) rfl OW3.out (some ⟨w3.heap.size, 0, none⟩) 1 1 (enl { x with A := A3, c := c3 }) rfl rfl (.inr ⟨_, rfl, NC.out⟩) ONE.out (by unfold maxLen; omega) (by omega) (by simp; omega) ?_; intro v7 w7 o7 g7 t7; have M7 := Lib.hid (N3.out.moreL (x := { x with A := A3, c := c3 }) D3.out OKR.out (by rw [HRS.out]; exact o7) g7 t7); have BK := N3.out.blkL g7; have u1 := cell_of (j := 0) (v := .slice A0 k c0) BK rfl; obtain ⟨A7, c7, rfl⟩ := row_form o7; have uf := frozen_of_row w7 W.heap.size 0 _ _ BK; clear o7 g7 t7 BK))
              all_goals
                clear q0 q1 q2 q3 q4 q5 q6 q7 q8 q9 q10 y11 z11 u1 uf N2 LN N3 OW3 NC ONE D3
                go_wp2_with fail
                go_meet
                exact ⟨rfl, _, _, _, _, M7⟩
            obtain ⟨rfl, A7, c7, A3, c3, M7⟩ := hcut
            clear N2
            obtain ⟨q0, q1, q2, q3, q4, q5, q6, q7, q8, q9, q10⟩ := PX.out _ M7.out.b
            have y12 := M7.out.c1
            have JN := Lib.hid (rjoin_any (c := x.c) (HRD.out _ (M7.out.b.trans ((below_drew _).mono M7.out.b.size))) x.d.length rfl dl)
            go_wp2_with fail
            go_region_law (first
              | (go_simp; go_at_call 26; refine JN.out.mono ?_; rintro e w9 ⟨u, rfl, o9, b9⟩; obtain ⟨A9, c9, rfl, _⟩ := o9.form; have N9 := Lib.hid (M7.out.next ((below_drew _).trans (b9.mono (Nat.le_refl _)))); have D9 := Lib.hid (M7.out.fresh ((below_drew _).trans (b9.mono (Nat.le_refl _))) o9); have z12 := N9.out.c1; have OW9 := World.ownsRow.alloc N9.out.ownV (.cells #[.slice A9 x.d.length c9] 36); rw [HBS.out] at OW9; have OW9 := Lib.hid OW9; have NC9 := Lib.hid (new_cells w9 (bvl ⟨A9, x.d, c9⟩) 36); have ONE9 := Lib.hid (bvl_one ⟨A9, x.d, c9⟩); have BS9 := N9.out.lt; clear o9 b9)
              | (refine step_appX _ rfl (.tmp 67) (.tmp 74) 49 rfl (W.heap.size + 1) 36 ib _ 1 24 Tryd.underlying49 hib hzb0 hzb1 hzb2 rfl (by decide) _ k (flat bvl bs) rfl OW9.out (some ⟨w9.heap.size, 0, none⟩) 1 1 (bvl ⟨A9, x.d, c9⟩) rfl rfl (.inr ⟨_, rfl, NC9.out⟩) ONE9.out (by unfold maxLen; omega) (by omega) (by simp; omega) ?_; intro v10 w10 o10 g10 t10; have M10 := Lib.hid (N9.out.moreV (x := ⟨A9, x.d, c9⟩) D9.out dl (by rw [HBS.out]; exact o10) g10 t10); have BK := N9.out.blkV g10; have u2 := cell_of (j := 1) (v := .slice C0 k d0) BK rfl; obtain ⟨A10, c10, rfl⟩ := row_form o10; have uf2 := frozen_of_row w10 W.heap.size 1 _ _ BK; clear o10 g10 t10 BK))
            all_goals
              clear q0 q1 q2 q3 q4 q5 q6 q7 q8 q9 q10 y12 z12 u2 uf2 M7 JN N9 OW9 NC9 ONE9 D9
              go_wp2_with fail
              unfold ptr
              go_roundw
              case rel => exact ⟨k + 1, _, _, xs ++ [{ x with A := A3, c := c3 }], bs ++ [⟨A9, x.d, c9⟩], by simp [HRS.out], by simp [HBS.out], by have := HLT.out; omega, by go_num, M10, STEP.out _ rfl, STEPV.out _ _ rfl, FN.out HB⟩
              case measure => have := HLT.out; simp [intOf]; omega
          · have hd : decide (0 < (k : Int)) = true := by simp; omega
            have hd2 : decide (0 < k) = true := by simp; omega
            have hd3 : 0 < k := by omega
            obtain ⟨g2, off2, e, hg2, R2, _⟩ := PREV.out (by omega)
            injection e with e
            injection e with e e'
            subst e
            subst e'
            have m1 : (0 : Int) ≤ ((k - 1 : Nat) : Int) := by omega
            have m2 : ((k - 1 : Nat) : Int) < (es.length : Int) := by omega
            have hw2 : (k : Int) - 1 = ((k - 1 : Nat) : Int) := by omega
            have hw3 : IntKind.i64.wrap ((k - 1 : Nat) : Int) = ((k - 1 : Nat) : Int) := IntWalk.i64_in _ (by omega)
            have BDK : bad (es.map ev) k = if (ev (es.getD (k - 1) enZ)).bef (ev x) = false then 16 else 0 := by
              rw [BDH.out, if_neg (by rw [HR0.out]; simp)]
              by_cases hq : (ev (es.getD (k - 1) enZ)).bef (ev x) = false
              · rw [if_pos ⟨by omega, hq⟩, if_pos hq]
              · rw [if_neg (fun h => hq h.2), if_neg hq]
            have BDK := Lib.hid BDK
            clear PREV BDH hR hk0
            generalize es.getD (k - 1) enZ = y at *
            generalize k - 1 = m at *
            have PR := Lib.hid (fun X (b : Below W.heap.size W X) => R2.below hg2 b)
            have BW := Lib.hid (fun X (b : Below w1.heap.size w1 X) => (N1.out.next b).b)
            have BF := Lib.hid (fun X => rbefore_any y.ix y.sub y.nm y.ty y.ac y.mp y.st y.mx y.lo y.hi (.slice y.A y.d.length y.c) x.ix x.sub x.nm x.ty x.ac x.mp x.st x.mx x.lo x.hi (.slice x.A x.d.length x.c) X)
            clear R2
            have hBF : befB y.ix y.sub x.ix x.sub = (ev y).bef (ev x) := rfl
            rw [hBF] at BF
            clear hBF
            generalize (ev y).bef (ev x) = B at *
            go_wp2_with fail
            refine Txt.wp_region_textN 15 (fun X => Below w1.heap.size w1 X) (by kernel_rfl) (by kernel_rfl) (by kernel_rfl) (by kernel_rfl) (fun _ _ _ _ _ h => h) (Below.refl _ _).drew ?_
            iterate 15 (
              apply Txt.step rfl
              · intro X hS K hK
                obtain ⟨p0, p1, p2, p3, p4, p5, p6, p7, p8, p9, p10⟩ := PR.out X (BW.out X hS)
                obtain ⟨y0, y1, y2, y3, y4, y5, y6, y7, y8, y9, y10⟩ := PX.out X (BW.out X hS)
                have HS := Lib.hid hS
                clear hS
                go_simp
                first
                  | exact hK.out _ HS.out
                  | (go_wp2_with (go_at_call 25; refine (BF.out X).mono ?_; rintro e w' ⟨rfl, b⟩; have T := Lib.hid (HS.out.trans (b.mono HS.out.size)); clear b)
                     first | exact hK.out _ HS.out | exact hK.out _ T.out)
              · first | exact ⟨_, rfl⟩ | exact ⟨undef, rfl⟩)
            refine Txt.last fun w2 hS => ?_
            have N2 := Lib.hid (N1.out.next hS)
            clear hS N1 PR BW BF hw2 hw3 m1 m2
            cases B with
            | false =>
              have B1 := Lib.hid (N2.out.b.trans ((one_b w2 (.cells #[.slice none 0 0, .slice none 0 0] GT)).mono N2.out.b.size))
              have NB := Lib.hid (fun u => BAD.out (w2.alloc (.cells #[.slice none 0 0, .slice none 0 0] GT)) u 16 (by rw [BDK.out]; rfl) (by decide) B1.out)
              clear BAD BDK FN STEP STEPV OKR HRD PX
              go_wp2_with fail
              go_ret3
              exact NB.out _
            | true =>
              have HB : bad (es.map ev) k = 0 := by rw [BDK.out]; rfl
              clear BAD BDK
              go_upto_region 12 with fail
              go_cut [5] from 49 to 63 (fun pv wx => pv = ptr W.heap.size ∧ ∃ (A7 : Option Addr) (c7 : Nat) (A3 : Option Addr) (c3 : Nat), Hid (GS W (.slice A7 (k + 1) c7) (.slice C0 k d0) (xs ++ [{ x with A := A3, c := c3 }]) bs wx))
              case first =>
                obtain ⟨q0, q1, q2, q3, q4, q5, q6, q7, q8, q9, q10⟩ := PX.out w2 N2.out.b
                have y11 := N2.out.c0
                have LN := Lib.hid (rlent_any x w2.drew (HRD.out _ (N2.out.b.trans ((below_drew w2).mono N2.out.b.size))) dl)
                go_region_law (first
                  | (go_simp; go_at_call 20; refine LN.out.mono ?_; rintro e w3 ⟨A3, c3, rfl, o3, b3⟩; have N3 := Lib.hid (N2.out.next ((below_drew w2).trans (b3.mono (Nat.le_refl _)))); have D3 := Lib.hid (N2.out.fresh ((below_drew w2).trans (b3.mono (Nat.le_refl _))) o3); have z11 := N3.out.c0; have OW3 := World.ownsRow.alloc N3.out.ownL (.cells (Ev.row (ev x) (.slice A3 x.d.length c3)) 38); rw [HRS.out] at OW3; have OW3 := Lib.hid OW3; have NC := Lib.hid (new_cells w3 (enl { x with A := A3, c := c3 }) 38); have ONE := Lib.hid (enl_one { x with A := A3, c := c3 }); have BS3 := N3.out.lt; clear o3 b3)
                  | (refine step_appX _ rfl (.tmp 53) (.tmp 59) 22 rfl (W.heap.size + 1) 38 ie _ 11 104 Tryd.underlying22 hie hze0 hze1 hze2 rfl (by decide) _ k (flat enl xs) rfl OW3.out (some ⟨w3.heap.size, 0, none⟩) 1 1 (enl { x with A := A3, c := c3 }) rfl rfl (.inr ⟨_, rfl, NC.out⟩) ONE.out (by unfold maxLen; omega) (by omega) (by simp; omega) ?_; intro v7 w7 o7 g7 t7; have M7 := Lib.hid (N3.out.moreL (x := { x with A := A3, c := c3 }) D3.out OKR.out (by rw [HRS.out]; exact o7) g7 t7); have BK := N3.out.blkL g7; have u1 := cell_of (j := 0) (v := .slice A0 k c0) BK rfl; obtain ⟨A7, c7, rfl⟩ := row_form o7; have uf := frozen_of_row w7 W.heap.size 0 _ _ BK; clear o7 g7 t7 BK))
                all_goals
                  clear q0 q1 q2 q3 q4 q5 q6 q7 q8 q9 q10 y11 z11 u1 uf N2 LN N3 OW3 NC ONE D3
                  go_wp2_with fail
                  go_meet
                  exact ⟨rfl, _, _, _, _, M7⟩
              obtain ⟨rfl, A7, c7, A3, c3, M7⟩ := hcut
              clear N2
              obtain ⟨q0, q1, q2, q3, q4, q5, q6, q7, q8, q9, q10⟩ := PX.out _ M7.out.b
              have y12 := M7.out.c1
              have JN := Lib.hid (rjoin_any (c := x.c) (HRD.out _ (M7.out.b.trans ((below_drew _).mono M7.out.b.size))) x.d.length rfl dl)
              go_wp2_with fail
              go_region_law (first
                | (go_simp; go_at_call 26; refine JN.out.mono ?_; rintro e w9 ⟨u, rfl, o9, b9⟩; obtain ⟨A9, c9, rfl, _⟩ := o9.form; have N9 := Lib.hid (M7.out.next ((below_drew _).trans (b9.mono (Nat.le_refl _)))); have D9 := Lib.hid (M7.out.fresh ((below_drew _).trans (b9.mono (Nat.le_refl _))) o9); have z12 := N9.out.c1; have OW9 := World.ownsRow.alloc N9.out.ownV (.cells #[.slice A9 x.d.length c9] 36); rw [HBS.out] at OW9; have OW9 := Lib.hid OW9; have NC9 := Lib.hid (new_cells w9 (bvl ⟨A9, x.d, c9⟩) 36); have ONE9 := Lib.hid (bvl_one ⟨A9, x.d, c9⟩); have BS9 := N9.out.lt; clear o9 b9)
                | (refine step_appX _ rfl (.tmp 67) (.tmp 74) 49 rfl (W.heap.size + 1) 36 ib _ 1 24 Tryd.underlying49 hib hzb0 hzb1 hzb2 rfl (by decide) _ k (flat bvl bs) rfl OW9.out (some ⟨w9.heap.size, 0, none⟩) 1 1 (bvl ⟨A9, x.d, c9⟩) rfl rfl (.inr ⟨_, rfl, NC9.out⟩) ONE9.out (by unfold maxLen; omega) (by omega) (by simp; omega) ?_; intro v10 w10 o10 g10 t10; have M10 := Lib.hid (N9.out.moreV (x := ⟨A9, x.d, c9⟩) D9.out dl (by rw [HBS.out]; exact o10) g10 t10); have BK := N9.out.blkV g10; have u2 := cell_of (j := 1) (v := .slice C0 k d0) BK rfl; obtain ⟨A10, c10, rfl⟩ := row_form o10; have uf2 := frozen_of_row w10 W.heap.size 1 _ _ BK; clear o10 g10 t10 BK))
              all_goals
                clear q0 q1 q2 q3 q4 q5 q6 q7 q8 q9 q10 y12 z12 u2 uf2 M7 JN N9 OW9 NC9 ONE9 D9
                go_wp2_with fail
                unfold ptr
                go_roundw
                case rel => exact ⟨k + 1, _, _, xs ++ [{ x with A := A3, c := c3 }], bs ++ [⟨A9, x.d, c9⟩], by simp [HRS.out], by simp [HBS.out], by have := HLT.out; omega, by go_num, M10, STEP.out _ rfl, STEPV.out _ _ rfl, FN.out HB⟩
                case measure => have := HLT.out; simp [intOf]; omega
        · have hd : ((ev x).right != 0) = true := by simpa using hR
          have B1 := Lib.hid (N1.out.b.trans ((one_b w1 (.cells #[.slice none 0 0, .slice none 0 0] GT)).mono N1.out.b.size))
          have NB := Lib.hid (fun u => BAD.out (w1.alloc (.cells #[.slice none 0 0, .slice none 0 0] GT)) u (ev x).right (by rw [BDH.out, if_pos hR]) hR B1.out)
          clear BAD BDH FN STEP STEPV OKR PREV HRD hR hvL hvV PX
          generalize (ev x).right = R at *
          go_wp2_with fail
          go_ret3
          exact NB.out _
      · have hE' : k = es.length := by omega
        have few : xs.length ≤ 96 := by rw [HRS.out]; omega
        have D := Lib.hid (hS.out.done few (by rw [HRS.out, HBS.out]))
        have NB := Lib.hid (show RNewEnds W (es.map ev) (.returned (.tuple #[ptr W.heap.size, .int .i64 0, .int .i64 0])) wr from by
          have hl : (es.map ev).length = es.length := by simp
          have e := newA_ok (l := es.map ev) (by omega) (by rw [hl, ← hE']; exact hF.out)
          have h1 : xs.map ev = es.map ev := by rw [hE.out, List.take_of_length_le (by simp; omega)]
          unfold RNewEnds
          rw [e]
          exact ⟨hS.out.b, .inl ⟨rfl, rfl, vL, vV, xs, bs, D.out, h1, by rw [hV.out, h1]; rfl⟩⟩)
        clear D hE hV hF hS hvL hvV hok HR
        go_wp2_with fail
        go_ret3
        exact NB.out
end Dic
end Go.Proofs.YtpdnfdpoebhjoaaDoor
