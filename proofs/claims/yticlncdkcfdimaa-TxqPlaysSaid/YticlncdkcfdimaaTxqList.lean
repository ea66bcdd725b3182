/-
  List of a queue.
-/
import Derived.Test.YticlncdkcfdimaaTxqTake
namespace Go.Proofs.Yticlncdkcfdimaa
namespace Txq
open Go.RowKit Mem Frm
set_option linter.unusedVariables false
set_option linter.unusedSimpArgs false
set_option maxRecDepth 100000

section
variable {P : Program} (w : World) {ops : Array Oper} {rest : List Oper} {o : Oper} {a : Act} {Q : Exit → Act → World → Prop}
/-- 'make([]T, n)' of structs. -/
theorem wpList_makeS (hg : o.guard = none) (l c : Operand) (t : TypeId) (hop : o.op = Op.makeSlice t l c)
    (base : Nat) (e : TypeId) (i : TypeInfo) (z : Value) (size : Nat) (h1 : P.underlying t = some (.slice e)) (h2 : P.info? e = some i) (h3 : i.zero = some z) (h4 : i.size = size)
    (kl kc : IntKind) (n : Nat) (hl : a.eval l = .int kl (n : Int)) (hc : a.eval c = .int kc (n : Int)) (b1 : i.bytes * n ≤ 281474976710656) (b2 : n ≤ maxLen) (b4 : base ≤ w.heap.size)
    (hK : ∀ w', w'.ownsRow base e size (.slice (some ⟨w.heap.size, 0, none⟩) n n) n (madeCells z.cells (n * size)).toList → w.grownBy w' none → w'.heap.size = w.heap.size + 1 → wpList P ops Q rest (a.put o.dst (.slice (some ⟨w.heap.size, 0, none⟩) n n)) w') :
    wpList P ops Q (o :: rest) a w := by
  subst h4
  refine wpList_plain hg fun K hK' => ?_
  have h63 : (n : Int) ≤ 9223372036854775807 := by simp [maxLen] at b2; omega
  have hb' : (i.bytes : Int) * (n : Int) ≤ 281474976710656 := by
    have h : ((i.bytes * n : Nat) : Int) ≤ 281474976710656 := by omega
    rwa [Int.natCast_mul] at h
  have hrun := run_make (P := P) w t e i z h1 h2 h3 kl kc n n (by omega) (Int.le_refl _) hb' h63
  simp only [Int.toNat_natCast] at hrun
  unfold Oper.wp
  simp [execOp, hop, hl, hc, hrun, Result.andThen]
  exact hK' _ _ (hK _ (World.ownsRow_lit w _ n b4 b2 (size_madeCells _ _)) (World.grownBy_alloc w _ none) (by simp))
end
theorem flat_zeros (n : Nat) : (madeCells (Value.cells (.agg #[.int .i64 0, .bool false, .slice none 0 0])) (n * 3)).toList = flatF (List.replicate n Fv.zero) := by
  apply List.ext_getElem?
  intro j
  by_cases hj : j < n * 3
  · have e : (flatF (List.replicate n Fv.zero))[j]? = ((List.replicate n Fv.zero).getD (j / 3) Fv.zero).vals[j % 3]? := by
      have := flatF_get (List.replicate n Fv.zero) (j / 3) (j % 3) (by simp; omega) (by omega)
      rw [show j / 3 * 3 + j % 3 = j by omega] at this
      exact this
    rw [e]
    have hz : (List.replicate n Fv.zero).getD (j / 3) Fv.zero = Fv.zero := by simp [List.getD_eq_getElem?_getD, List.getElem?_replicate]; split <;> rfl
    rw [hz]
    have hm : j % 3 = 0 ∨ j % 3 = 1 ∨ j % 3 = 2 := by omega
    simp only [madeCells, Value.cells]
    rw [Array.getElem?_toList, Array.getElem?_map]
    simp only [Array.getElem?_range, hj, if_pos, Option.map_some]
    rcases hm with h | h | h <;> simp [h, Fv.vals, Fv.zero]
  · rw [List.getElem?_eq_none (by simp [size_madeCells]; omega), List.getElem?_eq_none (by rw [flatF_len]; simp; omega)]
theorem flat_set3 (gs : List Fv) (z f : Fv) (rest : List Fv) : (((flatF (gs ++ z :: rest)).set (gs.length * 3) (.int .i64 f.id)).set (gs.length * 3 + 1) (.bool f.r)).set (gs.length * 3 + 2) (.slice f.A f.d.length f.c) = flatF (gs ++ f :: rest) := by
  have hl := flatF_len gs
  rw [show gs ++ z :: rest = gs ++ ([z] ++ rest) from rfl, show gs ++ f :: rest = gs ++ ([f] ++ rest) from rfl, flat_app, flat_app, flat_app, flat_app, ← hl]
  simp [flatF, Fv.vals, List.set_append]
/-- Frames whose bytes are the call's own, each apart from the others. -/
structure LF (W : World) (B : Nat) (fs : List Fv) : Prop where
  own : ∀ f ∈ fs, Own W B ET (.slice f.A f.d.length f.c) f.d
  apart : fs.Pairwise fun f g => ∀ b, (Value.slice f.A f.d.length f.c).ownBlock = some b → (Value.slice g.A g.d.length g.c).ownBlock ≠ some b
theorem own_lt {W : World} {B : Nat} {e : TypeId} {v : Value} {d : List UInt8} (h : Own W B e v d) {b : Nat} (hb : v.ownBlock = some b) : B ≤ b ∧ b < W.heap.size := World.ownsRow.lt h b hb
theorem LF.below {W W' : World} {B : Nat} {fs : List Fv} (h : LF W B fs) (b : Below W.heap.size W W') : LF W' B fs := ⟨fun f hf => (h.own f hf).below b (Nat.le_refl _), h.apart⟩
theorem LF.set {W : World} {B g j : Nat} {u : Value} {fs : List Fv} (h : LF W B fs) (hg : g < B) : LF (W.setCell ⟨g, j, none⟩ u) B fs := ⟨fun f hf => own_apart (h.own f hf) hg, h.apart⟩
theorem LF.lower {W : World} {B B' : Nat} {fs : List Fv} (h : LF W B fs) (hB : B' ≤ B) : LF W B' fs := ⟨fun f hf => (h.own f hf).lower hB, h.apart⟩
theorem LF.snoc {W W' : World} {B B' : Nat} {fs : List Fv} {f : Fv} (h : LF W B fs) (b : Below W.heap.size W W') (o : Own W' B' ET (.slice f.A f.d.length f.c) f.d) (h1 : W.heap.size ≤ B') (h2 : B ≤ B') : LF W' B (fs ++ [f]) := by
  refine ⟨fun g hg => ?_, List.pairwise_append.2 ⟨h.apart, by simp, fun x hx y hy => ?_⟩⟩
  · rcases List.mem_append.1 hg with hg | hg
    · exact (h.own g hg).below b (Nat.le_refl _)
    · simp only [List.mem_singleton] at hg
      subst hg
      exact o.lower h2
  · simp only [List.mem_singleton] at hy
    subst hy
    intro q e1 e2
    have l1 := own_lt (h.own x hx) e1
    have l2 := own_lt o e2
    omega
/-- What List ends with. -/
def ListEnds (W : World) (l : List Fr) (e : Ending) (w' : World) : Prop :=
  ∃ A c fs, e = .returned (.slice A fs.length c) ∧ fs.map Fv.fr = l ∧ w'.ownsRow W.heap.size 34 3 (.slice A fs.length c) fs.length (flatF fs) ∧ LF w' W.heap.size fs ∧ Below W.heap.size W w'
/-- While List runs: k are there. -/
structure LS (W : World) (n : Nat) (fs gs : List Fv) (wr : World) : Prop where
  fr : gs.map Fv.fr = (fs.take gs.length).map Fv.fr
  row : wr.ownsRow W.heap.size 34 3 (.slice (some ⟨W.heap.size, 0, none⟩) n n) n (flatF (gs ++ List.replicate (n - gs.length) Fv.zero))
  lf : LF wr (W.heap.size + 1) gs
  b : Below W.heap.size W wr
theorem LS.start {W w1 : World} {fs : List Fv} (o1 : w1.ownsRow W.heap.size 34 3 (.slice (some ⟨W.heap.size, 0, none⟩) fs.length fs.length) fs.length (madeCells (Value.cells (.agg #[.int .i64 0, .bool false, .slice none 0 0])) (fs.length * 3)).toList) (g1 : W.grownBy w1 none) : LS W fs.length fs [] w1 := by
  rw [flat_zeros] at o1
  exact ⟨rfl, o1, ⟨fun f hf => by simp at hf, .nil⟩, (Below.refl _ _).grown g1 (Nat.le_refl _) (by simp)⟩
theorem LS.cells {W wr : World} {n : Nat} {fs gs : List Fv} (h : LS W n fs gs wr) (hk : gs.length < n) : wr.cell? ⟨W.heap.size, gs.length * 3, none⟩ = some (.int .i64 0) ∧ wr.cell? ⟨W.heap.size, gs.length * 3 + 1, none⟩ = some (.bool false) ∧ wr.cell? ⟨W.heap.size, gs.length * 3 + 2, none⟩ = some (.slice none 0 0) ∧ ∀ j, wr.frozen? ⟨W.heap.size, j, none⟩ = false := by
  have c := fun i (hi : i < 3) => World.ownsRow.cellAt h.row (gs.length * 3 + i) (by omega)
  have hz : (gs ++ List.replicate (n - gs.length) Fv.zero).getD gs.length Fv.zero = Fv.zero := by
    rw [List.getD_eq_getElem?_getD, List.getElem?_append_right (Nat.le_refl _), Nat.sub_self]
    cases n - gs.length <;> rfl
  have g := fun i (hi : i < 3) => flatF_get (gs ++ List.replicate (n - gs.length) Fv.zero) gs.length i (by simp; omega) hi
  rw [hz] at g
  refine ⟨?_, ?_, ?_, fun j => World.ownsRow.frozenAt h.row j⟩
  · have := c 0 (by omega); rw [g 0 (by omega)] at this; exact this
  · have := c 1 (by omega); rw [g 1 (by omega)] at this; exact this
  · have := c 2 (by omega); rw [g 2 (by omega)] at this; exact this
theorem LS.next {W wr wr' : World} {n : Nat} {fs gs : List Fv} (h : LS W n fs gs wr) (b : Below wr.heap.size wr wr') : LS W n fs gs wr' := ⟨h.fr, row_below h.row b, h.lf.below b, h.b.trans (b.mono h.b.size)⟩
theorem LS.put {W wr w2 : World} {n : Nat} {fs gs : List Fv} (h : LS W n fs gs wr) (hk : gs.length < n) (hn : n = fs.length) {f : Fv} (hf : f.fr = (fs.getD gs.length Fv.zero).fr) (b : Below wr.heap.size wr w2) (o : Own w2 wr.heap.size ET (.slice f.A f.d.length f.c) f.d) :
    LS W n fs (gs ++ [f]) (((w2.setCell ⟨W.heap.size, gs.length * 3, none⟩ (.int .i64 f.id)).setCell ⟨W.heap.size, gs.length * 3 + 1, none⟩ (.bool f.r)).setCell ⟨W.heap.size, gs.length * 3 + 2, none⟩ (.slice f.A f.d.length f.c)) := by
  have hW : W.heap.size + 1 ≤ wr.heap.size := by
    have := h.row.lt W.heap.size rfl
    omega
  refine ⟨?_, ?_, ?_, ?_⟩
  · subst hn
    rw [List.map_append, h.fr, List.length_append, List.length_singleton, List.take_succ_eq_append_getElem hk, List.map_append]
    congr 1
    simp [hf, List.getD_eq_getElem?_getD, hk]
  · have r := (World.ownsRow.stored (World.ownsRow.stored (World.ownsRow.stored (row_below h.row b) (gs.length * 3) (.int .i64 f.id)).1 (gs.length * 3 + 1) (.bool f.r)).1 (gs.length * 3 + 2) (.slice f.A f.d.length f.c)).1
    rw [show n - gs.length = n - (gs ++ [f]).length + 1 by simp; omega, List.replicate_succ, flat_set3] at r
    simpa using r
  · exact ((((h.lf.snoc b o (Nat.le_refl _) hW).set (by omega)).set (by omega)).set (by omega))
  · exact ((((h.b.trans (b.mono h.b.size)).setCell (p := ⟨W.heap.size, gs.length * 3, none⟩) (Nat.le_refl _) _).setCell (p := ⟨W.heap.size, gs.length * 3 + 1, none⟩) (Nat.le_refl _) _).setCell (p := ⟨W.heap.size, gs.length * 3 + 2, none⟩) (Nat.le_refl _) _)

section
variable {W : World} {p : Nat} {N : Nat → Prop} {A : Option Addr} {c : Nat} {fs : List Fv} {room lost : Nat} {sp : Bool}
set_option maxHeartbeats 4000000 in
theorem list_is (hq : IsQ W p N A c fs room lost sp) :
    Calls Try.prog 23 #[at_ p] W (ListEnds W (fs.map Fv.fr)) := by
  obtain ⟨i0, hi, hz0, hz1, hz2⟩ := info_parts info_frm'
  have HQ := Lib.hid hq
  have H1 := Lib.hid (none_any hq)
  have c0 := hq.c0
  have n64 : fs.length ≤ 64 := by have h1 := hq.len; have := hq.r64; omega
  have KEEP := Lib.hid (fun W' (b : Below W.heap.size W W') => (hq.below b).c0)
  have RD := Lib.hid (fun W' (b : Below W.heap.size W W') => hq.rdf.below b)
  have OK := Lib.hid (fun j (hj : j < fs.length) => (err_ok (hq.ok _ (getD_mem hj))).2.2.1)
  clear hq
  go_enter Try.func23, Try.ntmps23
  go_wp2_with fail
  refine H1.out.mono ?_
  rintro e w' ⟨rfl, rfl⟩
  go_wp2_with (with_reducible refine wpList_makeS _ rfl (.tmp 12) (.tmp 12) 44 rfl W.heap.size 34 i0 (.agg #[.int .i64 0, .bool false, .slice none 0 0]) 3 Try.underlying44 hi hz0 hz1 .i64 .i64 fs.length rfl rfl (by rw [hz2]; omega) (by unfold maxLen; omega) (Nat.le_refl _) ?_; intro w1 o1 g1 s1; have S1 := Lib.hid (LS.start o1 g1); have c1 := KEEP.out _ S1.out.b; clear c0 g1 s1 o1)
  go_loopw [19] (fun iv wr => ∃ gs : List Fv, gs.length ≤ fs.length ∧ iv = .int .i64 (gs.length : Int) ∧ Hid (LS W fs.length fs gs wr)) (fun iv _ => fs.length - (intOf iv).toNat)
  case atStart => exact ⟨[], by simp, rfl, S1⟩
  case round =>
    obtain ⟨gs, hk, rfl, hS⟩ := hrel
    clear S1 c1
    by_cases hlt : gs.length < fs.length
    · obtain ⟨g, off, rfl, hg, q0, q1, q2, hrd⟩ := (RD.out wr hS.out.b).three hlt rfl
      have hd := OK.out _ hlt
      have P := Lib.hid (fun w2 f hf b o => LS.put (w2 := w2) hS.out hlt rfl (f := f) hf b o)
      generalize hF : fs.getD gs.length Fv.zero = F at *
      have i1 : (0 : Int) ≤ (gs.length : Int) := by omega
      have i2 : (gs.length : Int) < (fs.length : Int) := by omega
      have OW_ := Lib.hid (fun W' (b : Below wr.heap.size wr W') => own_any F.id F.r F.A F.d.length F.c F.d W' ((hrd.below (b.mono hS.out.b.size)).mono (Nat.le_trans hS.out.b.size b.size)) rfl (by omega))
      obtain ⟨x0, x1, x2⟩ := new3 wr (.int .i64 F.id) (.bool F.r) (.slice F.A F.d.length F.c) 34
      have BN := Lib.hid ((Below.refl wr.heap.size wr).alloc (Nat.le_refl _) (.cells #[.int .i64 F.id, .bool F.r, .slice F.A F.d.length F.c] 34))
      have HF := Lib.hid hF
      clear hrd hF
      go_wp2_with fail
      refine (OW_.out _ BN.out).mono ?_
      rintro e w2 ⟨v, rfl, o2, b2⟩
      obtain ⟨A2, c2, rfl, _⟩ := o2.form
      have B2 := Lib.hid (BN.out.trans (b2.mono BN.out.size))
      have P2 := Lib.hid (P.out w2 ⟨F.id, F.r, A2, F.d, c2⟩ (by rfl) B2.out (o2.lower BN.out.size))
      obtain ⟨z0, z1, z2, zf⟩ := (hS.out.next B2.out).cells hlt
      clear o2 b2 P x0 x1 x2 q0 q1 q2
      go_wp2_with fail
      go_roundw
      case rel => exact ⟨_, by simp only [List.length_append, List.length_singleton]; omega, by first | simp | go_num, P2⟩
      case measure => simp [intOf]; omega
    · have hE : gs.length = fs.length := by omega
      have S := hS.out
      have fr := S.fr
      have row := S.row
      rw [hE, List.take_length] at fr
      rw [hE, Nat.sub_self, List.replicate_zero, List.append_nil] at row
      have lf := S.lf
      have b := S.b
      rw [← hE] at row ⊢
      clear S
      go_wp2_with fail
      go_ret
      exact ⟨_, _, gs, rfl, fr, row, lf.lower (by omega), b⟩
end
theorem list_any {W : World} {p : Nat} {N : Nat → Prop} {s : Qs} (h : HasQ W p N s) : Calls Try.prog 23 #[at_ p] W (ListEnds W s.l) := by
  obtain ⟨A, c, fs, hq, e⟩ := h
  rw [← e]
  exact list_is hq
end Txq
end Go.Proofs.Yticlncdkcfdimaa
