/-
  make([]int, n), a store into it; a call's result whose first part, a struct, lives in memory; a list of structs that is made.
  A journal in memory: its struct, the looks of its sectors; what is told of them.
  The methods of what a journal found: newest, last, isUnused, following, each.
  A sector is looked at anew.
-/
import Derived.Test.YtkkbjngjjeajoaaProg
import Derived.Test.YtkkbjngjjeajoaaIntsOwn
import Derived.Laws.MakeOwn
import Derived.Test.YtkkbjngjjeajoaaJouMath
import Derived.Test.YtkkbjngjjeajoaaSecPick
import Derived.Test.YtkkbjngjjeajoaaFlaRest
import Derived.Test.YtkkbjngjjeajoaaRecFns
import Derived.Test.YtkkbjngjjeajoaaRecParse
import Derived.Test.YtkkbjngjjeajoaaSecOf
namespace Go.Proofs.Ytkkbjngjjeajoaa
namespace Mem
open Go.RowKit
set_option linter.unusedVariables false

theorem OwnI.store {k : IntKind} {w : World} {base g n cap : Nat} {e : TypeId} {zs : List Int} (h : OwnI k w base e (.slice (some ⟨g, 0, none⟩) n cap) zs) (hn : n = zs.length) (j : Nat) (x : Int) :
    OwnI k (w.setCell ⟨g, j, none⟩ (.int k x)) base e (.slice (some ⟨g, 0, none⟩) n cap) (zs.set j x) := by
  subst hn
  have h1 := World.ownsRow.stored h j (.int k x)
  have e1 : intsV k (zs.set j x) = (intsV k zs).set j (.int k x) := by simp [intsV, List.map_set]
  unfold OwnI
  rw [e1, List.length_set]
  exact h1.1
theorem OwnI.free {k : IntKind} {w : World} {base g n cap : Nat} {e : TypeId} {zs : List Int} (h : OwnI k w base e (.slice (some ⟨g, 0, none⟩) n cap) zs) (hn : n = zs.length) (j : Nat) : w.frozen? ⟨g, j, none⟩ = false := by
  subst hn
  exact World.ownsRow.frozenAt h j
theorem OwnI.cell {k : IntKind} {w : World} {base g n cap : Nat} {e : TypeId} {zs : List Int} (h : OwnI k w base e (.slice (some ⟨g, 0, none⟩) n cap) zs) (hn : n = zs.length) {j : Nat} (hj : j < zs.length) : w.cell? ⟨g, j, none⟩ = some (.int k (zs.getD j 0)) := by
  subst hn
  have := World.ownsRow.cellAt h j (by omega)
  rw [intsV_at hj] at this
  exact this
theorem OwnI.keep {k : IntKind} {w w' : World} {base g n cap : Nat} {e : TypeId} {zs : List Int} (h : OwnI k w base e (.slice (some ⟨g, 0, none⟩) n cap) zs) (hg : w'.heap[g]? = w.heap[g]?) : OwnI k w' base e (.slice (some ⟨g, 0, none⟩) n cap) zs := by
  refine ⟨h.1, ?_⟩
  rcases h.2 with ⟨hv, _⟩ | ⟨g', cap', cur, hv, hb, hgg, rest⟩
  · cases hv
  · have : g = g' := by injection hv with e1; injection e1 with e1; injection e1
    subst this
    exact .inr ⟨g, cap', cur, hv, hb, hg.trans hgg, rest⟩
theorem OwnI.rdi {k : IntKind} {w : World} {base g n cap : Nat} {e : TypeId} {zs : List Int} (h : OwnI k w base e (.slice (some ⟨g, 0, none⟩) n cap) zs) : RdI k w w.heap.size (some ⟨g, 0, none⟩) zs := by
  obtain ⟨A, c, e, r⟩ := h.form
  injection e with e1
  rw [e1]
  exact r
theorem OwnI.lt {k : IntKind} {w : World} {base g n cap : Nat} {e : TypeId} {zs : List Int} (h : OwnI k w base e (.slice (some ⟨g, 0, none⟩) n cap) zs) : base ≤ g ∧ g < w.heap.size := by
  rcases h.2 with ⟨hv, _⟩ | ⟨g', cap', cur, hv, hb, hgg, rest⟩
  · cases hv
  · have : g = g' := by injection hv with e1; injection e1 with e1; injection e1
    subst this
    exact ⟨hb, (Array.getElem?_eq_some_iff.1 hgg).1⟩

section
variable {P : Program} (w : World) {ops : Array Oper} {rest : List Oper} {o : Oper} {a : Act} {Q : Exit → Act → World → Prop}
/-- 'make([]int, n)'. -/
theorem wpList_makeI (k : IntKind) (hg : o.guard = none) (l c : Operand) (t : TypeId) (hop : o.op = Op.makeSlice t l c)
    (base : Nat) (e : TypeId) (i : TypeInfo) (b : Nat) (h1 : P.underlying t = some (.slice e)) (h2 : P.info? e = some i) (h3 : i.zero = some (.int k 0)) (h4 : i.size = 1) (h5 : i.bytes = b) (hb8 : b ≤ 8)
    (kl kc : IntKind) (L C : Int) (n : Nat) (hl : a.eval l = .int kl L) (hc : a.eval c = .int kc C) (hL : L = (n : Int)) (hC : C = (n : Int)) (b2 : n ≤ 1099511627776) (b4 : base ≤ w.heap.size)
    (hK : ∀ w', OwnI k w' base e (.slice (some ⟨w.heap.size, 0, none⟩) n n) (List.replicate n 0) → Below w.heap.size w w' → w'.heap.size = w.heap.size + 1 → wpList P ops Q rest (a.put o.dst (.slice (some ⟨w.heap.size, 0, none⟩) n n)) w') :
    wpList P ops Q (o :: rest) a w := by
  refine wpList_plain hg fun K hK' => ?_
  subst hL
  subst hC
  have hmul : b * n ≤ 8 * 1099511627776 := Nat.mul_le_mul hb8 b2
  have hrun := run_make (P := P) w t e i (.int k 0) h1 h2 h3 kl kc n n (by omega) (by omega) (by rw [h5]; omega) (by omega)
  simp only [Int.toNat_natCast] at hrun
  unfold Oper.wp
  simp [execOp, hop, hl, hc, hrun, Result.andThen]
  refine hK' _ _ (hK _ ?_ ((Below.refl _ _).alloc (Nat.le_refl _) _) (by simp))
  refine ⟨by simp [intsV], .inr ⟨w.heap.size, n, _, by simp, b4, heap_alloc_new w _, by simp, by simp only [maxLen]; omega, by simp [size_madeCells, h4], ?_⟩⟩
  have : (madeCells (Value.cells (.int k 0)) (n * i.size)).toList = List.replicate n (.int k 0) := by
    rw [h4, Nat.mul_one]; exact toList_madeCells_one _ _
  rw [this]
  simp [intsV, List.take_replicate]
/-- 'make([]T, n)', T a struct of m cells, the zero of each a value of one cell. -/
theorem wpList_makeS (hg : o.guard = none) (l c : Operand) (t : TypeId) (hop : o.op = Op.makeSlice t l c)
    (e : TypeId) (i : TypeInfo) (z : Value) (h1 : P.underlying t = some (.slice e)) (h2 : P.info? e = some i) (h3 : i.zero = some z) (hb : i.bytes ≤ 1024)
    (kl kc : IntKind) (L C : Int) (n : Nat) (hl : a.eval l = .int kl L) (hc : a.eval c = .int kc C) (hL : L = (n : Int)) (hC : C = (n : Int)) (b2 : n ≤ 1048576)
    (hK : wpList P ops Q rest (a.put o.dst (.slice (some ⟨w.heap.size, 0, none⟩) n n)) (w.alloc (.cells (madeCells z.cells (n * i.size)) e))) :
    wpList P ops Q (o :: rest) a w := by
  refine wpList_plain hg fun K hK' => ?_
  subst hL
  subst hC
  have hmul : i.bytes * n ≤ 1024 * 1048576 := Nat.mul_le_mul hb b2
  have hmul' : ((i.bytes : Int) * (n : Int)) = ((i.bytes * n : Nat) : Int) := by simp
  have hrun := run_make (P := P) w t e i z h1 h2 h3 kl kc n n (by omega) (by omega) (by omega) (by omega)
  simp only [Int.toNat_natCast] at hrun
  unfold Oper.wp
  simp [execOp, hop, hl, hc, hrun, Result.andThen]
  exact hK' _ _ hK
end
theorem results_row2 {P : Program} {fn : Func} {p u : Tmp} {ty : TypeId} (h : fn.results = #[.cell p ty, .tmp u]) (tmps : Array Value) (w : World) (g : Nat) (t : TypeId) (cs : Array Value) (fr : Nat × Nat) (d : TypeDesc)
    (hp : tmps.getD p undef = .pointer (some ⟨g, 0, none⟩)) (hg : w.heap[g]? = some (.cells cs t fr))
    (hu : P.underlying ty = some d) (hd : (match d with | .struct _ | .array _ _ => true | _ => false) = true) (hi : (P.info? ty).map (·.size) = some cs.size) :
    (results fn tmps).run P w = .ok (.tuple #[.agg cs, tmps.getD u undef]) w := by
  have hp' : tmps[p]?.getD undef = .pointer (some ⟨g, 0, none⟩) := by simpa using hp
  simp [results, h, hp', asAddr, run_loadVar_row w g t ty cs fr d hg hu hd hi, Result.andThen]
end Mem
end Go.Proofs.Ytkkbjngjjeajoaa

namespace Go.Proofs.Ytkkbjngjjeajoaa
namespace Jou
open Go.RowKit Mem Fla Rec Sec
set_option linter.unusedVariables false
set_option maxRecDepth 100000

/-- Nothing that was there is changed but the blocks in X. -/
structure FarS (X : Nat → Prop) (w w' : World) : Prop where
  os : w'.os = w.os
  tape : w'.tape = w.tape
  output : w'.output = w.output
  size : w.heap.size ≤ w'.heap.size
  block : ∀ k, k < w.heap.size → ¬ X k → w'.heap[k]? = w.heap[k]?
section
variable {X Y : Nat → Prop} {a b c w w' : World}
theorem FarS.refl (X : Nat → Prop) (w : World) : FarS X w w := ⟨rfl, rfl, rfl, Nat.le_refl _, fun _ _ _ => rfl⟩
theorem FarS.trans (h : FarS X a b) (k : FarS X b c) : FarS X a c :=
  ⟨k.os.trans h.os, k.tape.trans h.tape, k.output.trans h.output, Nat.le_trans h.size k.size, fun i hi h1 => (k.block i (Nat.lt_of_lt_of_le hi h.size) h1).trans (h.block i hi h1)⟩
theorem FarS.of_below {B : Nat} (h : Below B w w') (hB : w.heap.size ≤ B) : FarS X w w' := ⟨h.os, h.tape, h.output, h.size, fun k hk _ => h.block k (by omega)⟩
theorem FarS.next (h : FarS X a w) {B : Nat} (k : Below B w w') (hB : w.heap.size ≤ B) : FarS X a w' := h.trans (.of_below k hB)
theorem FarS.alloc (h : FarS X a w) (o : Obj) : FarS X a (w.alloc o) := h.next ((Below.refl _ _).alloc (Nat.le_refl _) o) (Nat.le_refl _)
theorem FarS.drew (h : FarS X a w) : FarS X a w.drew := ⟨h.os, h.tape, h.output, h.size, h.block⟩
theorem FarS.mono (h : FarS X w w') (hs : ∀ k, X k → Y k) : FarS Y w w' := ⟨h.os, h.tape, h.output, h.size, fun k hk hy => h.block k hk fun hx => hy (hs k hx)⟩
theorem FarS.of_far {p D : Nat} (h : Far p D w w') (hp : X p) (hD : X D) : FarS X w w' := ⟨h.os, h.tape, h.output, h.size, fun k hk hx => h.block k hk (fun e => hx (e ▸ hp)) (fun e => hx (e ▸ hD))⟩
theorem FarS.set (h : FarS X a w) (p : Addr) (hp : X p.block) (u : Value) : FarS X a (w.setCell p u) :=
  h.trans ⟨rfl, rfl, rfl, by simp [World.setCell], fun k _ hk => Below.heap_setCell w p u k (fun e => hk (e ▸ hp))⟩
theorem FarS.below (h : FarS X w w') {B : Nat} (hB : B ≤ w.heap.size) (hX : ∀ k, X k → B ≤ k) : Below B w w' :=
  ⟨h.os, h.tape, h.output, h.size, fun k hk => h.block k (by omega) (fun hx => by have := hX k hx; omega)⟩
end

def TJ : TypeId := 87
def TL : TypeId := 118
/-- A look's six cells. -/
def lkv (x : Lk) (v : Value) (cl : Bool) : List Value := [.int .i64 x.k, .int .u32 x.n, v, .int .i64 (x.cnt : Int), .int .i64 (x.e : Int), .bool cl]
/-- The looks of N sectors, in block L. -/
structure IsL (W : World) (L N : Nat) (f : Nat → Lk) (cl : Nat → Bool) : Prop where
  blk : ∃ cs, W.heap[L]? = some (.cells cs TL (0, 0))
  at_ : ∀ i, i < N → ∃ v, Own W (L + 1) E v (f i).d ∧ ∀ j, j < 6 → W.cell? ⟨L, i * 6 + j, none⟩ = (lkv (f i) v (cl i))[j]?
section
variable {W W' : World} {L N : Nat} {f : Nat → Lk} {cl : Nat → Bool}
theorem IsL.lt (h : IsL W L N f cl) : L < W.heap.size := by
  obtain ⟨cs, hb⟩ := h.blk
  exact (Array.getElem?_eq_some_iff.1 hb).1
theorem own_keep {b : Nat} {t : TypeId} {v : Value} {d : List UInt8} (o : Own W b t v d) (h : ∀ k, k < W.heap.size → b ≤ k → W'.heap[k]? = W.heap[k]?) : Own W' b t v d := by
  refine ⟨o.1, ?_⟩
  rcases o.2 with hn | ⟨g, cap, cur, rfl, hbg, hgg, rest⟩
  · exact .inl hn
  · exact .inr ⟨g, cap, cur, rfl, hbg, (h g (Array.getElem?_eq_some_iff.1 hgg).1 hbg).trans hgg, rest⟩
theorem IsL.keep (h : IsL W L N f cl) (hk : ∀ k, k < W.heap.size → L ≤ k → W'.heap[k]? = W.heap[k]?) : IsL W' L N f cl := by
  have hL := hk L h.lt (Nat.le_refl _)
  refine ⟨?_, fun i hi => ?_⟩
  · obtain ⟨cs, hb⟩ := h.blk
    exact ⟨cs, hL.trans hb⟩
  · obtain ⟨v, o, hc⟩ := h.at_ i hi
    refine ⟨v, own_keep o fun k h1 h2 => hk k h1 (by omega), fun j hj => ?_⟩
    rw [← hc j hj]
    exact World.cell?_of_block (w := W) hL
theorem IsL.free (h : IsL W L N f cl) (j : Nat) : W.frozen? ⟨L, j, none⟩ = false := by
  obtain ⟨cs, hb⟩ := h.blk
  exact frozen_of_row W L j _ TL hb
/-- A look is written anew. -/
def up1 {α : Type} (f : Nat → α) (t : Nat) (x : α) : Nat → α := fun i => if i = t then x else f i
theorem IsL.congr (h : IsL W L N f cl) {f' : Nat → Lk} {cl' : Nat → Bool} (e : ∀ i, i < N → f i = f' i ∧ cl i = cl' i) : IsL W L N f' cl' := by
  refine ⟨h.blk, fun i hi => ?_⟩
  obtain ⟨e1, e2⟩ := e i hi
  rw [← e1, ← e2]
  exact h.at_ i hi
/-- The looks as a list. -/
theorem IsL.list (h : IsL W L N f cl) {B : Nat} (hB : L < B) : ∃ ls : List Lv, ls.length = N ∧ RdL W B (some ⟨L, 0, none⟩) ls ∧ ∀ i, i < N → (ls.getD i Lv.zero).n = (f i).n ∧ (ls.getD i Lv.zero).cnt = (f i).cnt ∧ (ls.getD i Lv.zero).e = (f i).e ∧ (ls.getD i Lv.zero).cl = cl i ∧
    (ls.getD i Lv.zero).k = (f i).k ∧ (ls.getD i Lv.zero).m = (f i).d.length ∧ Rd W W.heap.size (ls.getD i Lv.zero).A (f i).d := by
  have hx : ∀ i, ∃ l : Lv, i < N → (∀ j, j < 6 → W.cell? ⟨L, i * 6 + j, none⟩ = l.vals[j]?) ∧ l.n = (f i).n ∧ l.cnt = (f i).cnt ∧ l.e = (f i).e ∧ l.cl = cl i ∧ l.k = (f i).k ∧ l.m = (f i).d.length ∧ Rd W W.heap.size l.A (f i).d := by
    intro i
    by_cases hi : i < N
    · obtain ⟨v, o, hc⟩ := h.at_ i hi
      obtain ⟨A, c, rfl, hr⟩ := o.form
      refine ⟨⟨(f i).k, (f i).n, A, (f i).d.length, c, (f i).cnt, (f i).e, cl i⟩, fun _ => ⟨fun j hj => ?_, rfl, rfl, rfl, rfl, rfl, rfl, hr⟩⟩
      rw [hc j hj]
      simp [lkv, Lv.vals]
    · exact ⟨Lv.zero, fun q => absurd q hi⟩
  obtain ⟨g, hg⟩ := Classical.axiomOfChoice hx
  have hget : ∀ i, i < N → ((List.range N).map g).getD i Lv.zero = g i := by
    intro i hi
    simp [hi]
  refine ⟨(List.range N).map g, by simp, .inr ⟨L, 0, rfl, hB, fun j hj i hi => ?_⟩, fun i hi => ?_⟩
  · have hj' : j < N := by simpa using hj
    rw [hget j hj', Nat.zero_add]
    exact (hg j hj').1 i hi
  · rw [hget i hi]
    exact (hg i hi).2
end
/-- In these words: which is the newest, which is next. -/
theorem nst_nstF {ls : List Lv} {f : Nat → Lk} : ∀ (k : Nat), (∀ i, i < k → (ls.getD i Lv.zero).n = (f i).n ∧ (ls.getD i Lv.zero).cnt = (f i).cnt) → nst ls k = nstF f k := by
  intro k
  induction k with
  | zero => intro _; rfl
  | succ k ih =>
    intro h
    have ih' := ih fun i hi => h i (by omega)
    have hk := h k (by omega)
    unfold nst nstF
    rw [ih']
    cases e : nstF f k with
    | none => simp only [hk.2]; simp only [Int.natCast_pos]
    | some b =>
      have hb : b < k := by
        have := nstF_spec f k
        rw [e] at this
        exact this.1
      have hb' := h b (by omega)
      simp only [hk.1, hk.2, hb'.1]; simp only [Int.natCast_pos]
theorem nxt_nxtF {ls : List Lv} {wear left : List Int} {s : Option Nat} {can : Nat → Bool} {w : Nat → Int} : ∀ (k : Nat), (∀ i, i < k → (Sec.Can ls left s i ↔ can i = true) ∧ wear.getD i 0 = w i) → nxt ls wear left s k = nxtF can w k := by
  intro k
  induction k with
  | zero => intro _; rfl
  | succ k ih =>
    intro h
    have ih' := ih fun i hi => h i (by omega)
    have hk := h k (by omega)
    unfold nxt nxtF
    rw [ih']
    cases e : nxtF can w k with
    | none => simp only [hk.1]
    | some b =>
      have hb : b < k := ((nxtF_spec can w k).2 b e).1
      have hb' := h b (by omega)
      simp only [hk.1, hk.2, hb'.2]
end Jou
end Go.Proofs.Ytkkbjngjjeajoaa

namespace Go.Proofs.Ytkkbjngjjeajoaa
namespace Jou
open Go.RowKit Mem Fla Rec Sec
set_option linter.unusedVariables false
set_option linter.unusedSimpArgs false
set_option maxRecDepth 100000

def tellF (f : Nat → Lk) (N : Nat) : Lk := match nstF f N with | none => Lk.zero | some a => f a
section
variable {w : World} {q L N : Nat} {f : Nat → Lk} {cl : Nat → Bool}
/-- What stands behind found's one field. -/
structure IsFd (W : World) (q L N : Nat) (f : Nat → Lk) (cl : Nat → Bool) : Prop where
  c0 : W.cell? ⟨q, 0, none⟩ = some (.slice (some ⟨L, 0, none⟩) N N)
  l : IsL W L N f cl
  n8 : N ≤ 8
  qL : q < L
theorem IsFd.keep {W W' : World} (h : IsFd W q L N f cl) (hk : ∀ k, k < W.heap.size → q ≤ k → W'.heap[k]? = W.heap[k]?) : IsFd W' q L N f cl :=
  ⟨(World.cell?_of_block (w := W) (hk q (Nat.lt_trans h.qL h.l.lt) (Nat.le_refl _))).trans h.c0, h.l.keep fun k h1 h2 => hk k h1 (Nat.le_trans (Nat.le_of_lt h.qL) h2), h.n8, h.qL⟩
theorem IsFd.below {W W' : World} (h : IsFd W q L N f cl) {B : Nat} (hb : Below B W W') (hB : W.heap.size ≤ B) : IsFd W' q L N f cl := h.keep fun k h1 _ => hb.block k (by omega)

theorem fdnewest_any (h : IsFd w q L N f cl) :
    Calls Try.prog 71 #[at_ q] w fun e w' => e = .returned (.tuple #[.int .i64 (((nstF f N).getD 0 : Nat) : Int), .bool (nstF f N).isSome]) ∧ Below w.heap.size w w' := by
  obtain ⟨ls, hl, hr, hs⟩ := h.l.list (B := w.heap.size) h.l.lt
  have H := Lib.hid (newest_any (some ⟨L, 0, none⟩) N ls w hr (by have := h.n8; omega))
  rw [hl, nst_nstF N fun i hi => ⟨(hs i hi).1, (hs i hi).2.1⟩] at H
  have c0 := h.c0
  generalize nstF f N = r at *
  clear hr hs h
  go_enter Try.func71, Try.ntmps71
  go_wp2_with fail
  refine H.out.mono ?_
  rintro e w1 ⟨rfl, b⟩
  go_wp2_with fail
  go_ret2
  exact ⟨rfl, b⟩
theorem row3_set {W : World} {g : Nat} {x y z : Value} {T : TypeId} (h : W.heap[g]? = some (.cells #[x, y, z] T (0, 0))) (a b c : Value) :
    (((W.setCell ⟨g, 0, none⟩ a).setCell ⟨g, 1, none⟩ b).setCell ⟨g, 2, none⟩ c).heap[g]? = some (.cells #[a, b, c] T (0, 0)) :=
  heap_setCell_same _ g 2 _ _ c (heap_setCell_same _ g 1 _ _ b (heap_setCell_same _ g 0 _ _ a h))
theorem row3_far (W : World) (g : Nat) (a b c : Value) : FarS (· = g) W (((W.setCell ⟨g, 0, none⟩ a).setCell ⟨g, 1, none⟩ b).setCell ⟨g, 2, none⟩ c) :=
  (((FarS.refl (· = g) W).set ⟨g, 0, none⟩ rfl a).set ⟨g, 1, none⟩ rfl b).set ⟨g, 2, none⟩ rfl c
/-- What last answers. -/
def LastTo (w : World) (L : Nat) (t : Lk) (is : Bool) (e : Ending) (w' : World) : Prop := ∃ v, e = .returned (.tuple #[rec_ t.k t.n v, .bool is]) ∧ Own w' (L + 1) E v t.d ∧ Below w.heap.size w w'
theorem fdlast_any (h : IsFd w q L N f cl) :
    Calls Try.prog 51 #[at_ q] w (LastTo w L (tellF f N) (nstF f N).isSome) := by
  have hb1 := below1 w (.cells #[.int .i64 0, .int .u32 0, .slice none 0 0] 39)
  have H := Lib.hid (fdnewest_any (h.below hb1 (Nat.le_refl _)))
  have R0 := Lib.hid (heap_alloc_new w (.cells #[.int .i64 0, .int .u32 0, .slice none 0 0] 39))
  unfold tellF
  cases hn : nstF f N with
  | none =>
    rw [hn] at H
    clear hn h
    simp only [Option.getD_none, Option.isSome_none]
    simp only [Option.getD_none, Option.isSome_none] at H
    go_enter Try.func51, Try.ntmps51
    go_wp2_with fail
    refine H.out.mono ?_
    rintro e w1 ⟨rfl, b⟩
    have R1 := (b.block _ (by simp)).trans R0.out
    have p0 := cell_of R1 0
    have p1 := cell_of R1 1
    have p2 := cell_of R1 2
    have z0 := frozen_of_row _ _ 0 _ _ R1
    have z1 := frozen_of_row _ _ 1 _ _ R1
    have z2 := frozen_of_row _ _ 2 _ _ R1
    have B1 := hb1.trans (b.mono hb1.size)
    go_wp2_with fail
    refine bodyPost_ret (results_row2 rfl _ _ w.heap.size _ _ _ _ rfl (row3_set R1 _ _ _) Try.underlying39 rfl size_rec) rfl ?_
    exact ⟨_, rfl, Own.nil _ _ _, B1.trans ((row3_far _ _ _ _ _).below B1.size fun k e => Nat.le_of_eq e.symm)⟩
  | some a =>
    rw [hn] at H
    have ha : a < N := by
      have := nstF_spec f N
      rw [hn] at this
      exact this.1
    simp only [Option.getD_some, Option.isSome_some]
    simp only [Option.getD_some, Option.isSome_some] at H
    have HF := Lib.hid h
    have h8 := h.n8
    clear hn h
    go_enter Try.func51, Try.ntmps51
    go_wp2_with fail
    refine H.out.mono ?_
    rintro e w1 ⟨rfl, b⟩
    have h1 := (HF.out.below hb1 (Nat.le_refl _)).below b (Nat.le_refl _)
    have c0 := h1.c0
    obtain ⟨v, o, hc⟩ := HF.out.l.at_ a ha
    have hLw := HF.out.l.lt
    have B0 : Below w.heap.size w w1 := hb1.trans (b.mono hb1.size)
    have k0 := (B0.cell (p := ⟨L, a * 6 + 0, none⟩) hLw).trans (hc 0 (by omega))
    have k1 := (B0.cell (p := ⟨L, a * 6 + 1, none⟩) hLw).trans (hc 1 (by omega))
    have k2 := (B0.cell (p := ⟨L, a * 6 + 2, none⟩) hLw).trans (hc 2 (by omega))
    simp only [lkv, List.getElem?_cons_zero, List.getElem?_cons_succ, Nat.add_zero] at k0 k1 k2
    obtain ⟨A, cc, rfl, _⟩ := o.form
    have O := Lib.hid o
    have R1 := (b.block _ (by simp)).trans R0.out
    have p0 := cell_of R1 0
    have p1 := cell_of R1 1
    have p2 := cell_of R1 2
    have z0 := frozen_of_row _ _ 0 _ _ R1
    have z1 := frozen_of_row _ _ 1 _ _ R1
    have z2 := frozen_of_row _ _ 2 _ _ R1
    have B1 := hb1.trans (b.mono hb1.size)
    clear o hc h1
    go_wp2_with fail
    refine bodyPost_ret (results_row2 rfl _ _ w.heap.size _ _ _ _ rfl (row3_set R1 _ _ _) Try.underlying39 rfl size_rec) rfl ?_
    have BF := B1.trans ((row3_far w1 w.heap.size (.int .i64 (f a).k) (.int .u32 (f a).n) (.slice A (f a).d.length cc)).below B1.size fun k e => Nat.le_of_eq e.symm)
    exact ⟨_, rfl, O.out.below BF (Nat.le_refl _), BF⟩
theorem fdunused_any (h : IsFd w q L N f cl) (a : Nat) (ha : a < N) :
    Calls Try.prog 102 #[at_ q, .int .i64 (a : Int)] w fun e w' => e = .returned (.bool (decide ((f a).cnt = 0) && cl a)) ∧ w = w' := by
  have c0 := h.c0
  have h8 := h.n8
  obtain ⟨v, o, hc⟩ := h.l.at_ a ha
  have k3 := hc 3 (by omega)
  have k5 := hc 5 (by omega)
  simp only [lkv, List.getElem?_cons_zero, List.getElem?_cons_succ] at k3 k5
  clear hc o h
  generalize (f a).cnt = x at *
  generalize cl a = y at *
  by_cases hx : x = 0
  · subst hx
    go_enter Try.func102, Try.ntmps102
    go_wp2_with fail
    go_ret
    refine ⟨?_, rfl⟩
    simp
  · have hx' : ((x : Int) == 0) = false := by simp; omega
    go_enter Try.func102, Try.ntmps102
    go_wp2_with fail
    go_ret
    refine ⟨?_, rfl⟩
    simp [hx]


theorem mapset (t : Nat → Int) {k N : Nat} (h : k < N) : ((List.range k).map t ++ List.replicate (N - k) 0).set k (t k) = (List.range (k + 1)).map t ++ List.replicate (N - (k + 1)) 0 := by
  rw [List.set_append_right _ _ (by simp), List.length_map, List.length_range, Nat.sub_self, show N - k = (N - (k + 1)) + 1 by omega, List.replicate_succ, List.set_cons_zero, List.range_succ]
  simp
theorem fdeach_worn (h : IsFd w q L N f cl) (p : Nat) (t : Nat → Int) (H : Hid (∀ W k, Below w.heap.size w W → k < N → Calls Try.prog 48 #[at_ p, .int .i64 (k : Int)] W fun e w' => e = .returned (.int .i64 (t k)) ∧ Below W.heap.size W w')) :
    Calls Try.prog 100 #[at_ q, .func (.func 48) #[at_ p] #[]] w fun e w' => ∃ g, e = .returned (.slice (some ⟨g, 0, none⟩) N N) ∧ OwnI .i64 w' w.heap.size 3 (.slice (some ⟨g, 0, none⟩) N N) ((List.range N).map t) ∧ Below w.heap.size w w' := by
  have c0 := h.c0
  have h8 := h.n8
  obtain ⟨i0, hi, hz0, hz1, hz2⟩ := info_parts (P := Try.prog) (e := 3) (z := .int .i64 0) (size := 1) (bytes := 8) rfl
  go_enter Try.func100, Try.ntmps100
  go_wp2_with (refine wpList_makeI _ .i64 rfl (.tmp 11) (.tmp 11) 73 rfl w.heap.size 3 i0 8 Try.underlying73 hi hz0 hz1 hz2 (by omega) .i64 .i64 (N : Int) (N : Int) N rfl rfl rfl rfl (by omega) (Nat.le_refl _) ?_; intro w1 o1 b1 s1)
  go_wp2_with fail
  go_loopw [15] (fun i wr => ∃ k : Nat, k ≤ N ∧ i = .int .i64 (k : Int) ∧ OwnI .i64 wr w.heap.size 3 (.slice (some ⟨w.heap.size, 0, none⟩) N N) ((List.range k).map t ++ List.replicate (N - k) 0) ∧ Below w.heap.size w wr) (fun i _ => N - (intOf i).toNat)
  case atStart => exact ⟨0, by omega, rfl, by simpa using o1, b1⟩
  case round =>
    obtain ⟨k, hk, rfl, o, b⟩ := hrel
    by_cases hlt : k < N
    · have HK := Lib.hid (H.out wr k b hlt)
      go_wp2_with fail
      refine HK.out.mono ?_
      rintro e w2 ⟨rfl, b2⟩
      have o2 := o.keep (b2.block _ o.lt.2)
      have f2 := o2.free (by simp; omega) k
      have c2 := o2.cell (by simp; omega) (j := k) (by simp; omega)
      have o3 := o2.store (by simp; omega) k (t k)
      rw [mapset t hlt] at o3
      go_wp2_with fail
      go_roundw
      case rel => exact ⟨k + 1, by omega, by go_num, o3, (b.trans (b2.mono b.size)).setCell (Nat.le_refl _) _⟩
      case measure => simp [intOf]; omega
    · obtain rfl : k = N := by omega
      go_wp2_with fail
      go_ret
      exact ⟨_, rfl, by simpa using o, b⟩
theorem fdeach_left (h : IsFd w q L N f cl) (p : Nat) (t : Nat → Int) (H : Hid (∀ W k, Below w.heap.size w W → k < N → Calls Try.prog 101 #[at_ p, .int .i64 (k : Int)] W fun e w' => e = .returned (.int .i64 (t k)) ∧ Below W.heap.size W w')) :
    Calls Try.prog 100 #[at_ q, .func (.func 101) #[at_ p] #[]] w fun e w' => ∃ g, e = .returned (.slice (some ⟨g, 0, none⟩) N N) ∧ OwnI .i64 w' w.heap.size 3 (.slice (some ⟨g, 0, none⟩) N N) ((List.range N).map t) ∧ Below w.heap.size w w' := by
  have c0 := h.c0
  have h8 := h.n8
  obtain ⟨i0, hi, hz0, hz1, hz2⟩ := info_parts (P := Try.prog) (e := 3) (z := .int .i64 0) (size := 1) (bytes := 8) rfl
  go_enter Try.func100, Try.ntmps100
  go_wp2_with (refine wpList_makeI _ .i64 rfl (.tmp 11) (.tmp 11) 73 rfl w.heap.size 3 i0 8 Try.underlying73 hi hz0 hz1 hz2 (by omega) .i64 .i64 (N : Int) (N : Int) N rfl rfl rfl rfl (by omega) (Nat.le_refl _) ?_; intro w1 o1 b1 s1)
  go_wp2_with fail
  go_loopw [15] (fun i wr => ∃ k : Nat, k ≤ N ∧ i = .int .i64 (k : Int) ∧ OwnI .i64 wr w.heap.size 3 (.slice (some ⟨w.heap.size, 0, none⟩) N N) ((List.range k).map t ++ List.replicate (N - k) 0) ∧ Below w.heap.size w wr) (fun i _ => N - (intOf i).toNat)
  case atStart => exact ⟨0, by omega, rfl, by simpa using o1, b1⟩
  case round =>
    obtain ⟨k, hk, rfl, o, b⟩ := hrel
    by_cases hlt : k < N
    · have HK := Lib.hid (H.out wr k b hlt)
      go_wp2_with fail
      refine HK.out.mono ?_
      rintro e w2 ⟨rfl, b2⟩
      have o2 := o.keep (b2.block _ o.lt.2)
      have f2 := o2.free (by simp; omega) k
      have c2 := o2.cell (by simp; omega) (j := k) (by simp; omega)
      have o3 := o2.store (by simp; omega) k (t k)
      rw [mapset t hlt] at o3
      go_wp2_with fail
      go_roundw
      case rel => exact ⟨k + 1, by omega, by go_num, o3, (b.trans (b2.mono b.size)).setCell (Nat.le_refl _) _⟩
      case measure => simp [intOf]; omega
    · obtain rfl : k = N := by omega
      go_wp2_with fail
      go_ret
      exact ⟨_, rfl, by simpa using o, b⟩
/-- The error of an Append that lays nothing: the numbers are used up, or the record is not right. -/
def pre (t : Lk) (k : Int) (n : Nat) : Int := if t.n = 4294967295 then 6 else err k (t.n + 1) n
set_option maxHeartbeats 1000000 in
theorem fdfollow_any (h : IsFd w q L N f cl) (k : Int) (A : Option Addr) (cc : Nat) (d : List UInt8) (k1 : -9223372036854775808 ≤ k) (k2 : k ≤ 9223372036854775807) (hr : Rd w w.heap.size A d) (hl : d.length ≤ 140737488355328) (ht : 0 ≤ (tellF f N).n ∧ (tellF f N).n ≤ 4294967295) :
    Calls Try.prog 74 #[at_ q, .int .i64 k, .slice A d.length cc] w fun e w' => ∃ v, e = .returned (.tuple #[v, .int .i64 (pre (tellF f N) k d.length)]) ∧ Own w' w.heap.size E v (if pre (tellF f N) k d.length = 0 then build k ((tellF f N).n + 1) d else []) ∧ Below w.heap.size w w' := by
  have H := Lib.hid (fdlast_any h)
  generalize tellF f N = t at *
  unfold pre
  by_cases hm : t.n = 4294967295
  · rw [if_pos hm, if_neg (by decide)]
    clear h
    go_enter Try.func74, Try.ntmps74
    go_wp2_with fail
    refine H.out.mono ?_
    rintro e w1 ⟨v, rfl, o, b⟩
    obtain ⟨A1, c1, rfl, _⟩ := o.form
    rw [hm]
    go_wp2_with fail
    go_ret2
    exact ⟨_, rfl, Own.nil _ _ _, b.alloc b.size _⟩
  · rw [if_neg hm]
    have hmb : (t.n == 4294967295) = false := by simpa using hm
    by_cases he : err k (t.n + 1) d.length = 0
    · rw [if_pos he, he]
      have HB := Lib.hid (fun W hR => build_ok k (t.n + 1) A cc d W hR k1 k2 (by omega) (by omega) hl he)
      generalize build k (t.n + 1) d = x at HB ⊢
      clear h he
      go_enter Try.func74, Try.ntmps74
      go_wp2_with fail
      refine H.out.mono ?_
      rintro e w1 ⟨v, rfl, o, b⟩
      obtain ⟨A1, c1, rfl, _⟩ := o.form
      have b1 := b.alloc b.size (.cells #[.int .i64 t.k, .int .u32 t.n, .slice A1 t.d.length c1] 39)
      go_wp2_with fail
      refine (HB.out _ ((hr.below b1).mono b1.size)).mono ?_
      rintro e w2 ⟨v2, rfl, o2, b2⟩
      obtain ⟨A2, c2, rfl, _⟩ := o2.form
      have O2 := Lib.hid (o2.lower b1.size)
      have B2 := Lib.hid (b1.trans (b2.mono b1.size))
      clear o2 b2
      go_wp2_with fail
      go_ret2
      exact ⟨.slice A2 x.length c2, rfl, O2.out, B2.out⟩
    · rw [if_neg he]
      have HB := Lib.hid (fun W => build_no k (t.n + 1) A cc d W k1 k2 (by omega) (by omega) hl he)
      clear h
      generalize err k (t.n + 1) d.length = E at *
      go_enter Try.func74, Try.ntmps74
      go_wp2_with fail
      refine H.out.mono ?_
      rintro e w1 ⟨v, rfl, o, b⟩
      obtain ⟨A1, c1, rfl, _⟩ := o.form
      have b1 := b.alloc b.size (.cells #[.int .i64 t.k, .int .u32 t.n, .slice A1 t.d.length c1] 39)
      go_wp2_with fail
      refine (HB.out _).mono ?_
      rintro e w2 ⟨rfl, b2⟩
      have B2 := Lib.hid (b1.trans (b2.mono b1.size))
      clear b2
      go_wp2_with fail
      go_ret2
      exact ⟨_, rfl, Own.nil _ _ _, B2.out⟩
end
end Jou
end Go.Proofs.Ytkkbjngjjeajoaa

namespace Go.Proofs.Ytkkbjngjjeajoaa
namespace Jou
open Go.RowKit Mem Fla Rec Sec
set_option linter.unusedVariables false
set_option linter.unusedSimpArgs false
set_option maxRecDepth 100000

section
variable {w : World} {q L N p D c : Nat} {f : Nat → Lk} {cl : Nat → Bool} {s : Fl}
theorem clean_blank (sb : List UInt8) : blankB (sb.drop (Sec.look sb).e) = clean sb := by
  unfold blankB clean
  rw [Bool.eq_iff_iff]
  simp [List.all_eq_true]
/-- Six cells are written. -/
def put6L (W : World) (L o : Nat) (a b c d e f : Value) : World :=
  (((((W.setCell ⟨L, o, none⟩ a).setCell ⟨L, o + 1, none⟩ b).setCell ⟨L, o + 2, none⟩ c).setCell ⟨L, o + 3, none⟩ d).setCell ⟨L, o + 4, none⟩ e).setCell ⟨L, o + 5, none⟩ f
theorem cell_set_same {W : World} {L j : Nat} {cs : Array Value} {t : TypeId} (h : W.heap[L]? = some (.cells cs t (0, 0))) (hj : j < cs.size) (v : Value) : (W.setCell ⟨L, j, none⟩ v).cell? ⟨L, j, none⟩ = some v := by
  simp [World.cell?, heap_setCell_same W L j cs t v h, hj]
theorem cell_set_ne {W : World} {L j i : Nat} {cs : Array Value} {t : TypeId} (h : W.heap[L]? = some (.cells cs t (0, 0))) (hj : j ≠ i) (v : Value) : (W.setCell ⟨L, j, none⟩ v).cell? ⟨L, i, none⟩ = W.cell? ⟨L, i, none⟩ := by
  simp [World.cell?, heap_setCell_same W L j cs t v h, h, hj]
theorem put6L_far (W : World) (o : Nat) (a b c d e f : Value) : FarS (· = L) W (put6L W L o a b c d e f) :=
  ((((((FarS.refl (· = L) W).set ⟨L, o, none⟩ rfl a).set ⟨L, o + 1, none⟩ rfl b).set ⟨L, o + 2, none⟩ rfl c).set ⟨L, o + 3, none⟩ rfl d).set ⟨L, o + 4, none⟩ rfl e).set ⟨L, o + 5, none⟩ rfl f
theorem cell_lt {W : World} {L j : Nat} {cs : Array Value} {t : TypeId} {v : Value} (h : W.heap[L]? = some (.cells cs t (0, 0))) (hv : W.cell? ⟨L, j, none⟩ = some v) : j < cs.size := by
  simp only [World.cell?, h] at hv
  rcases Nat.lt_or_ge j cs.size with h1 | h1
  · exact h1
  · simp [Array.getElem?_eq_none h1] at hv
theorem put6L_cells {W : World} {cs : Array Value} (h : W.heap[L]? = some (.cells cs TL (0, 0))) (o : Nat) (a b c d e f : Value) (hs : o + 5 < cs.size) :
    (∃ cs', (put6L W L o a b c d e f).heap[L]? = some (.cells cs' TL (0, 0))) ∧ (∀ j, j < 6 → (put6L W L o a b c d e f).cell? ⟨L, o + j, none⟩ = [a, b, c, d, e, f][j]?) ∧ (∀ i, (i < o ∨ o + 6 ≤ i) → (put6L W L o a b c d e f).cell? ⟨L, i, none⟩ = W.cell? ⟨L, i, none⟩) := by
  have h1 := heap_setCell_same _ L o _ _ a h
  have h2 := heap_setCell_same _ L (o + 1) _ _ b h1
  have h3 := heap_setCell_same _ L (o + 2) _ _ c h2
  have h4 := heap_setCell_same _ L (o + 3) _ _ d h3
  have h5 := heap_setCell_same _ L (o + 4) _ _ e h4
  have h6 := heap_setCell_same _ L (o + 5) _ _ f h5
  unfold put6L
  refine ⟨⟨_, h6⟩, fun j hj => ?_, fun i hi => ?_⟩
  · rcases (by omega : j = 0 ∨ j = 1 ∨ j = 2 ∨ j = 3 ∨ j = 4 ∨ j = 5) with rfl | rfl | rfl | rfl | rfl | rfl
    · rw [cell_set_ne h5 (by omega), cell_set_ne h4 (by omega), cell_set_ne h3 (by omega), cell_set_ne h2 (by omega), cell_set_ne h1 (by omega)]
      exact cell_set_same h (by omega) a
    · rw [cell_set_ne h5 (by omega), cell_set_ne h4 (by omega), cell_set_ne h3 (by omega), cell_set_ne h2 (by omega)]
      exact cell_set_same h1 (by simp; omega) b
    · rw [cell_set_ne h5 (by omega), cell_set_ne h4 (by omega), cell_set_ne h3 (by omega)]
      exact cell_set_same h2 (by simp; omega) c
    · rw [cell_set_ne h5 (by omega), cell_set_ne h4 (by omega)]
      exact cell_set_same h3 (by simp; omega) d
    · rw [cell_set_ne h5 (by omega)]
      exact cell_set_same h4 (by simp; omega) e
    · exact cell_set_same h5 (by simp; omega) f
  · rw [cell_set_ne h5 (by omega), cell_set_ne h4 (by omega), cell_set_ne h3 (by omega), cell_set_ne h2 (by omega), cell_set_ne h1 (by omega), cell_set_ne h (by omega)]
/-- The looks behind a store. -/
theorem IsL.put (h : IsL w L N f cl) {k : Nat} (hk : k < N) (x : Lk) {v : Value} (b : Bool) (o : Own w (L + 1) E v x.d) :
    IsL (put6L w L (k * 6) (.int .i64 x.k) (.int .u32 x.n) v (.int .i64 (x.cnt : Int)) (.int .i64 (x.e : Int)) (.bool b)) L N (up1 f k x) (up1 cl k b) := by
  obtain ⟨cs, hb⟩ := h.blk
  obtain ⟨v0, o0, hc0⟩ := h.at_ k hk
  have hs : k * 6 + 5 < cs.size := cell_lt hb (by rw [hc0 5 (by omega)]; rfl)
  obtain ⟨p1, p2, p3⟩ := put6L_cells hb (k * 6) (.int .i64 x.k) (.int .u32 x.n) v (.int .i64 (x.cnt : Int)) (.int .i64 (x.e : Int)) (.bool b) hs
  have far := put6L_far (L := L) w (k * 6) (.int .i64 x.k) (.int .u32 x.n) v (.int .i64 (x.cnt : Int)) (.int .i64 (x.e : Int)) (.bool b)
  refine ⟨p1, fun i hi => ?_⟩
  by_cases e : i = k
  · subst e
    refine ⟨v, ?_, fun j hj => ?_⟩
    · unfold up1
      rw [if_pos rfl]
      exact own_keep o fun g h1 h2 => far.block g h1 (by omega)
    · rw [p2 j hj]
      unfold up1
      rw [if_pos rfl, if_pos rfl]
      rfl
  · obtain ⟨v1, o1, hc1⟩ := h.at_ i hi
    refine ⟨v1, ?_, fun j hj => ?_⟩
    · unfold up1
      rw [if_neg e]
      exact own_keep o1 fun g h1 h2 => far.block g h1 (by omega)
    · rw [p3 _ (by omega), hc1 j hj]
      unfold up1
      rw [if_neg e, if_neg e]
/-- What a store of a look asks. -/
theorem IsL.stores (h : IsL w L N f cl) {k : Nat} (hk : k < N) : (∃ v0 v1 v2 v3 v4 v5, w.cell? ⟨L, k * 6, none⟩ = some v0 ∧ w.cell? ⟨L, k * 6 + 1, none⟩ = some v1 ∧ w.cell? ⟨L, k * 6 + 2, none⟩ = some v2 ∧ w.cell? ⟨L, k * 6 + 3, none⟩ = some v3 ∧ w.cell? ⟨L, k * 6 + 4, none⟩ = some v4 ∧ w.cell? ⟨L, k * 6 + 5, none⟩ = some v5) ∧
    w.frozen? ⟨L, k * 6, none⟩ = false ∧ w.frozen? ⟨L, k * 6 + 1, none⟩ = false ∧ w.frozen? ⟨L, k * 6 + 2, none⟩ = false ∧ w.frozen? ⟨L, k * 6 + 3, none⟩ = false ∧ w.frozen? ⟨L, k * 6 + 4, none⟩ = false ∧ w.frozen? ⟨L, k * 6 + 5, none⟩ = false := by
  obtain ⟨v, o, hc⟩ := h.at_ k hk
  exact ⟨⟨_, _, _, _, _, _, hc 0 (by omega), hc 1 (by omega), hc 2 (by omega), hc 3 (by omega), hc 4 (by omega), hc 5 (by omega)⟩, h.free _, h.free _, h.free _, h.free _, h.free _, h.free _⟩
theorem secOf_read {bs : List UInt8} {k : Nat} : (bs.drop (k * 1024)).take 1024 = secOf bs k := rfl

theorem jlook_any (k : Nat) (h : IsFd w q L N f cl) (c1 : w.cell? ⟨q, 1, none⟩ = some (at_ p)) (hf : IsF w p D c s) (hon : s.on = true) (hk : k < N) (hN : N = nsec s.bs) :
    Calls Try.prog 59 #[at_ q, .int .i64 (k : Int)] w fun e w' => e = .returned (.tuple #[]) ∧ IsL w' L N (up1 f k (lk s.bs k)) (up1 cl k (clean (secOf s.bs k))) ∧ FarS (· = L) w w' := by
  have h8 := h.n8
  have hlen : (k : Int) * 1024 + 1024 ≤ (s.bs.length : Int) := by unfold nsec at hN; omega
  have hl1 := hf.ok.len1
  have hrd : s.read ((k : Int) * 1024) 1024 = (secOf s.bs k, 0) := by
    unfold Fl.read
    have : s.reachC ((k : Int) * 1024) 1024 = 0 := by
      rw [reach_on _ _ hon]
      have : s.inside ((k : Int) * 1024) 1024 = true := by unfold Fl.inside; simp; omega
      rw [this]; rfl
    rw [if_pos this]
    have e1 : ((k : Int) * 1024).toNat = k * 1024 := by omega
    rw [e1]
    exact congrArg (fun x => (x, (0 : Int))) secOf_read
  have HR := Lib.hid (read_any ((k : Int) * 1024) 1024 (by omega) (by omega) (by omega) (by omega) hf)
  rw [hrd] at HR
  have hsl : (secOf s.bs k).length = 1024 := secOf_len (by omega)
  have HD := Lib.hid h
  have c0 := h.c0
  clear h
  have HC := Lib.hid (clean_blank (secOf s.bs k))
  have hlk : lk s.bs k = Sec.look (secOf s.bs k) := rfl
  rw [hlk]
  generalize secOf s.bs k = sb at *
  have HS := Lib.hid (fun A c W h1 h2 h3 => of_any A sb.length c sb W h1 rfl (by rw [hsl]; omega) h2 h3)
  have HSL := Lib.hid hsl
  clear hrd hsl hf hlk
  go_enter Try.func59, Try.ntmps59
  go_wp2_with fail
  refine HR.out.mono ?_
  rintro e w1 ⟨v1, rfl, o1, b1⟩
  obtain ⟨A1, c1', rfl, r1⟩ := o1.form
  have hcc : (sb.length ≤ c1') ∧ c1' ≤ maxLen := by
    obtain ⟨g, cap, hv, _, _, h1, h2⟩ := o1.some_ (by rw [HSL.out]; omega)
    injection hv with _ _ e3
    subst e3
    exact ⟨h1, h2⟩
  have R1 := Lib.hid r1
  have B1 := Lib.hid b1
  clear o1 b1 r1
  have c0' := (B1.out.cell (p := ⟨q, 0, none⟩) (Nat.lt_trans HD.out.qL HD.out.l.lt)).trans c0
  have F := Lib.hid ((HD.out.below B1.out (Nat.le_refl _)))
  have RD := Lib.hid (R1.out.drew)
  clear c0
  go_wp2_with fail
  go_region_with (go_at_call 89; refine (HS.out _ _ _ RD.out hcc.1 hcc.2).mono ?_; rintro e w2 ⟨v2, rfl, o2, b2⟩; have F2 := F.out.below (Below.drew (Below.refl _ _)) (Nat.le_refl _) |>.below b2 (Nat.le_refl _); obtain ⟨⟨v0, v1, v2, v3, v4, v5, q0, q1, q2, q3, q4, q5⟩, z0, z1, z2, z3, z4, z5⟩ := F2.l.stores hk; have k0 := F2.c0; have F2 := Lib.hid F2; have O2 := Lib.hid o2; have B2 := Lib.hid b2; obtain ⟨A2, c2, rfl, _⟩ := o2.form; clear b2)
  all_goals
    have hL1 : L + 1 ≤ w1.heap.size := F.out.l.lt
    have P := F2.out.l.put hk (Sec.look sb) (blankB (List.drop (Sec.look sb).e sb)) (O2.out.lower hL1)
    have PF := put6L_far (L := L) w2 (k * 6) (.int .i64 (Sec.look sb).k) (.int .u32 (Sec.look sb).n) (.slice A2 (Sec.look sb).d.length c2) (.int .i64 ((Sec.look sb).cnt : Int)) (.int .i64 ((Sec.look sb).e : Int)) (.bool (blankB (List.drop (Sec.look sb).e sb)))
    rw [HC.out] at P PF
    have FA := (((FarS.of_below (X := (· = L)) B1.out (Nat.le_refl _)).drew).next B2.out (Nat.le_refl _)).trans PF
    rw [HC.out]
    go_end0
    exact ⟨rfl, P, FA⟩
end
end Jou
end Go.Proofs.Ytkkbjngjjeajoaa
