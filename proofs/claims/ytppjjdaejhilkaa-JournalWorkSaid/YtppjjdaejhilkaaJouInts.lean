/-
  make([]int, n), a store into it; a call's result whose first part, a struct, lives in memory; a list of structs that is made.
  A journal in memory: its struct, the looks of its sectors; what is told of them.
-/
import Derived.Test.YtppjjdaejhilkaaProg
import Derived.Test.YtppjjdaejhilkaaIntsOwn
import Derived.Laws.MakeOwn
import Derived.Test.YtppjjdaejhilkaaJouMath
import Derived.Test.YtppjjdaejhilkaaSecPick
import Derived.Test.YtppjjdaejhilkaaFlaRest
namespace Go.Proofs.Ytppjjdaejhilkaa
namespace Mem
open Go.RowKit
set_option linter.unusedVariables false

theorem OwnI.store {k : IntKind} {w : World} {base g n cap : Nat} {e : TypeId} {zs : List Int} (h : OwnI k w base e (.slice (some ⟨g, 0, none⟩) n cap) zs) (hn : n = zs.length) (j : Nat) (x : Int) :
    OwnI k (w.setCell ⟨g, j, none⟩ (.int k x)) base e (.slice (some ⟨g, 0, none⟩) n cap) (zs.set j x) := by
  subst hn
  have h1 := World.ownsRow.stored h j (.int k x)
  have e1 : intsV k (zs.set j x) = (intsV k zs).set j (.int k x) := by simp [intsV, List.map_set]
  unfold OwnI
  rw [e1, List.length_set]
  exact h1.1
theorem OwnI.free {k : IntKind} {w : World} {base g n cap : Nat} {e : TypeId} {zs : List Int} (h : OwnI k w base e (.slice (some ⟨g, 0, none⟩) n cap) zs) (hn : n = zs.length) (j : Nat) : w.frozen? ⟨g, j, none⟩ = false := by
  subst hn
  exact World.ownsRow.frozenAt h j
theorem OwnI.cell {k : IntKind} {w : World} {base g n cap : Nat} {e : TypeId} {zs : List Int} (h : OwnI k w base e (.slice (some ⟨g, 0, none⟩) n cap) zs) (hn : n = zs.length) {j : Nat} (hj : j < zs.length) : w.cell? ⟨g, j, none⟩ = some (.int k (zs.getD j 0)) := by
  subst hn
  have := World.ownsRow.cellAt h j (by omega)
  rw [intsV_at hj] at this
  exact this
theorem OwnI.keep {k : IntKind} {w w' : World} {base g n cap : Nat} {e : TypeId} {zs : List Int} (h : OwnI k w base e (.slice (some ⟨g, 0, none⟩) n cap) zs) (hg : w'.heap[g]? = w.heap[g]?) : OwnI k w' base e (.slice (some ⟨g, 0, none⟩) n cap) zs := by
  refine ⟨h.1, ?_⟩
  rcases h.2 with ⟨hv, _⟩ | ⟨g', cap', cur, hv, hb, hgg, rest⟩
  · cases hv
  · have : g = g' := by injection hv with e1; injection e1 with e1; injection e1
    subst this
    exact .inr ⟨g, cap', cur, hv, hb, hg.trans hgg, rest⟩
theorem OwnI.rdi {k : IntKind} {w : World} {base g n cap : Nat} {e : TypeId} {zs : List Int} (h : OwnI k w base e (.slice (some ⟨g, 0, none⟩) n cap) zs) : RdI k w w.heap.size (some ⟨g, 0, none⟩) zs := by
  obtain ⟨A, c, e, r⟩ := h.form
  injection e with e1
  rw [e1]
  exact r
theorem OwnI.lt {k : IntKind} {w : World} {base g n cap : Nat} {e : TypeId} {zs : List Int} (h : OwnI k w base e (.slice (some ⟨g, 0, none⟩) n cap) zs) : base ≤ g ∧ g < w.heap.size := by
  rcases h.2 with ⟨hv, _⟩ | ⟨g', cap', cur, hv, hb, hgg, rest⟩
  · cases hv
  · have : g = g' := by injection hv with e1; injection e1 with e1; injection e1
    subst this
    exact ⟨hb, (Array.getElem?_eq_some_iff.1 hgg).1⟩

section
variable {P : Program} (w : World) {ops : Array Oper} {rest : List Oper} {o : Oper} {a : Act} {Q : Exit → Act → World → Prop}
/-- 'make([]int, n)'. -/
theorem wpList_makeI (k : IntKind) (hg : o.guard = none) (l c : Operand) (t : TypeId) (hop : o.op = Op.makeSlice t l c)
    (base : Nat) (e : TypeId) (i : TypeInfo) (b : Nat) (h1 : P.underlying t = some (.slice e)) (h2 : P.info? e = some i) (h3 : i.zero = some (.int k 0)) (h4 : i.size = 1) (h5 : i.bytes = b) (hb8 : b ≤ 8)
    (kl kc : IntKind) (L C : Int) (n : Nat) (hl : a.eval l = .int kl L) (hc : a.eval c = .int kc C) (hL : L = (n : Int)) (hC : C = (n : Int)) (b2 : n ≤ 1099511627776) (b4 : base ≤ w.heap.size)
    (hK : ∀ w', OwnI k w' base e (.slice (some ⟨w.heap.size, 0, none⟩) n n) (List.replicate n 0) → Below w.heap.size w w' → w'.heap.size = w.heap.size + 1 → wpList P ops Q rest (a.put o.dst (.slice (some ⟨w.heap.size, 0, none⟩) n n)) w') :
    wpList P ops Q (o :: rest) a w := by
  refine wpList_plain hg fun K hK' => ?_
  subst hL
  subst hC
  have hmul : b * n ≤ 8 * 1099511627776 := Nat.mul_le_mul hb8 b2
  have hrun := run_make (P := P) w t e i (.int k 0) h1 h2 h3 kl kc n n (by omega) (by omega) (by rw [h5]; omega) (by omega)
  simp only [Int.toNat_natCast] at hrun
  unfold Oper.wp
  simp [execOp, hop, hl, hc, hrun, Result.andThen]
  refine hK' _ _ (hK _ ?_ ((Below.refl _ _).alloc (Nat.le_refl _) _) (by simp))
  refine ⟨by simp [intsV], .inr ⟨w.heap.size, n, _, by simp, b4, heap_alloc_new w _, by simp, by simp only [maxLen]; omega, by simp [size_madeCells, h4], ?_⟩⟩
  have : (madeCells (Value.cells (.int k 0)) (n * i.size)).toList = List.replicate n (.int k 0) := by
    rw [h4, Nat.mul_one]; exact toList_madeCells_one _ _
  rw [this]
  simp [intsV, List.take_replicate]
/-- 'make([]T, n)', T a struct of m cells, the zero of each a value of one cell. -/
theorem wpList_makeS (hg : o.guard = none) (l c : Operand) (t : TypeId) (hop : o.op = Op.makeSlice t l c)
    (e : TypeId) (i : TypeInfo) (z : Value) (h1 : P.underlying t = some (.slice e)) (h2 : P.info? e = some i) (h3 : i.zero = some z) (hb : i.bytes ≤ 1024)
    (kl kc : IntKind) (L C : Int) (n : Nat) (hl : a.eval l = .int kl L) (hc : a.eval c = .int kc C) (hL : L = (n : Int)) (hC : C = (n : Int)) (b2 : n ≤ 1048576)
    (hK : wpList P ops Q rest (a.put o.dst (.slice (some ⟨w.heap.size, 0, none⟩) n n)) (w.alloc (.cells (madeCells z.cells (n * i.size)) e))) :
    wpList P ops Q (o :: rest) a w := by
  refine wpList_plain hg fun K hK' => ?_
  subst hL
  subst hC
  have hmul : i.bytes * n ≤ 1024 * 1048576 := Nat.mul_le_mul hb b2
  have hmul' : ((i.bytes : Int) * (n : Int)) = ((i.bytes * n : Nat) : Int) := by simp
  have hrun := run_make (P := P) w t e i z h1 h2 h3 kl kc n n (by omega) (by omega) (by omega) (by omega)
  simp only [Int.toNat_natCast] at hrun
  unfold Oper.wp
  simp [execOp, hop, hl, hc, hrun, Result.andThen]
  exact hK' _ _ hK
end
theorem results_row2 {P : Program} {fn : Func} {p u : Tmp} {ty : TypeId} (h : fn.results = #[.cell p ty, .tmp u]) (tmps : Array Value) (w : World) (g : Nat) (t : TypeId) (cs : Array Value) (fr : Nat × Nat) (d : TypeDesc)
    (hp : tmps.getD p undef = .pointer (some ⟨g, 0, none⟩)) (hg : w.heap[g]? = some (.cells cs t fr))
    (hu : P.underlying ty = some d) (hd : (match d with | .struct _ | .array _ _ => true | _ => false) = true) (hi : (P.info? ty).map (·.size) = some cs.size) :
    (results fn tmps).run P w = .ok (.tuple #[.agg cs, tmps.getD u undef]) w := by
  have hp' : tmps[p]?.getD undef = .pointer (some ⟨g, 0, none⟩) := by simpa using hp
  simp [results, h, hp', asAddr, run_loadVar_row w g t ty cs fr d hg hu hd hi, Result.andThen]
end Mem
end Go.Proofs.Ytppjjdaejhilkaa

namespace Go.Proofs.Ytppjjdaejhilkaa
namespace Jou
open Go.RowKit Mem Fla Rec Sec
set_option linter.unusedVariables false
set_option maxRecDepth 100000

/-- Nothing that was there is changed but the blocks in X. -/
structure FarS (X : Nat → Prop) (w w' : World) : Prop where
  os : w'.os = w.os
  tape : w'.tape = w.tape
  output : w'.output = w.output
  size : w.heap.size ≤ w'.heap.size
  block : ∀ k, k < w.heap.size → ¬ X k → w'.heap[k]? = w.heap[k]?
section
variable {X Y : Nat → Prop} {a b c w w' : World}
theorem FarS.refl (X : Nat → Prop) (w : World) : FarS X w w := ⟨rfl, rfl, rfl, Nat.le_refl _, fun _ _ _ => rfl⟩
theorem FarS.trans (h : FarS X a b) (k : FarS X b c) : FarS X a c :=
  ⟨k.os.trans h.os, k.tape.trans h.tape, k.output.trans h.output, Nat.le_trans h.size k.size, fun i hi h1 => (k.block i (Nat.lt_of_lt_of_le hi h.size) h1).trans (h.block i hi h1)⟩
theorem FarS.of_below {B : Nat} (h : Below B w w') (hB : w.heap.size ≤ B) : FarS X w w' := ⟨h.os, h.tape, h.output, h.size, fun k hk _ => h.block k (by omega)⟩
theorem FarS.next (h : FarS X a w) {B : Nat} (k : Below B w w') (hB : w.heap.size ≤ B) : FarS X a w' := h.trans (.of_below k hB)
theorem FarS.alloc (h : FarS X a w) (o : Obj) : FarS X a (w.alloc o) := h.next ((Below.refl _ _).alloc (Nat.le_refl _) o) (Nat.le_refl _)
theorem FarS.drew (h : FarS X a w) : FarS X a w.drew := ⟨h.os, h.tape, h.output, h.size, h.block⟩
theorem FarS.mono (h : FarS X w w') (hs : ∀ k, X k → Y k) : FarS Y w w' := ⟨h.os, h.tape, h.output, h.size, fun k hk hy => h.block k hk fun hx => hy (hs k hx)⟩
theorem FarS.of_far {p D : Nat} (h : Far p D w w') (hp : X p) (hD : X D) : FarS X w w' := ⟨h.os, h.tape, h.output, h.size, fun k hk hx => h.block k hk (fun e => hx (e ▸ hp)) (fun e => hx (e ▸ hD))⟩
theorem FarS.set (h : FarS X a w) (p : Addr) (hp : X p.block) (u : Value) : FarS X a (w.setCell p u) :=
  h.trans ⟨rfl, rfl, rfl, by simp [World.setCell], fun k _ hk => Below.heap_setCell w p u k (fun e => hk (e ▸ hp))⟩
theorem FarS.below (h : FarS X w w') {B : Nat} (hB : B ≤ w.heap.size) (hX : ∀ k, X k → B ≤ k) : Below B w w' :=
  ⟨h.os, h.tape, h.output, h.size, fun k hk => h.block k (by omega) (fun hx => by have := hX k hx; omega)⟩
end

def TJ : TypeId := 63
def TL : TypeId := 93
/-- A look's six cells. -/
def lkv (x : Lk) (v : Value) (cl : Bool) : List Value := [.int .i64 x.k, .int .u32 x.n, v, .int .i64 (x.cnt : Int), .int .i64 (x.e : Int), .bool cl]
/-- The looks of N sectors, in block L. -/
structure IsL (W : World) (L N : Nat) (f : Nat → Lk) (cl : Nat → Bool) : Prop where
  blk : ∃ cs, W.heap[L]? = some (.cells cs TL (0, 0))
  at_ : ∀ i, i < N → ∃ v, Own W (L + 1) E v (f i).d ∧ ∀ j, j < 6 → W.cell? ⟨L, i * 6 + j, none⟩ = (lkv (f i) v (cl i))[j]?
section
variable {W W' : World} {L N : Nat} {f : Nat → Lk} {cl : Nat → Bool}
theorem IsL.lt (h : IsL W L N f cl) : L < W.heap.size := by
  obtain ⟨cs, hb⟩ := h.blk
  exact (Array.getElem?_eq_some_iff.1 hb).1
theorem own_keep {b : Nat} {t : TypeId} {v : Value} {d : List UInt8} (o : Own W b t v d) (h : ∀ k, k < W.heap.size → b ≤ k → W'.heap[k]? = W.heap[k]?) : Own W' b t v d := by
  refine ⟨o.1, ?_⟩
  rcases o.2 with hn | ⟨g, cap, cur, rfl, hbg, hgg, rest⟩
  · exact .inl hn
  · exact .inr ⟨g, cap, cur, rfl, hbg, (h g (Array.getElem?_eq_some_iff.1 hgg).1 hbg).trans hgg, rest⟩
theorem IsL.keep (h : IsL W L N f cl) (hk : ∀ k, k < W.heap.size → L ≤ k → W'.heap[k]? = W.heap[k]?) : IsL W' L N f cl := by
  have hL := hk L h.lt (Nat.le_refl _)
  refine ⟨?_, fun i hi => ?_⟩
  · obtain ⟨cs, hb⟩ := h.blk
    exact ⟨cs, hL.trans hb⟩
  · obtain ⟨v, o, hc⟩ := h.at_ i hi
    refine ⟨v, own_keep o fun k h1 h2 => hk k h1 (by omega), fun j hj => ?_⟩
    rw [← hc j hj]
    exact World.cell?_of_block (w := W) hL
theorem IsL.free (h : IsL W L N f cl) (j : Nat) : W.frozen? ⟨L, j, none⟩ = false := by
  obtain ⟨cs, hb⟩ := h.blk
  exact frozen_of_row W L j _ TL hb
/-- A look is written anew. -/
def up1 {α : Type} (f : Nat → α) (t : Nat) (x : α) : Nat → α := fun i => if i = t then x else f i
theorem IsL.congr (h : IsL W L N f cl) {f' : Nat → Lk} {cl' : Nat → Bool} (e : ∀ i, i < N → f i = f' i ∧ cl i = cl' i) : IsL W L N f' cl' := by
  refine ⟨h.blk, fun i hi => ?_⟩
  obtain ⟨e1, e2⟩ := e i hi
  rw [← e1, ← e2]
  exact h.at_ i hi
/-- The looks as a list. -/
theorem IsL.list (h : IsL W L N f cl) {B : Nat} (hB : L < B) : ∃ ls : List Lv, ls.length = N ∧ RdL W B (some ⟨L, 0, none⟩) ls ∧ ∀ i, i < N → (ls.getD i Lv.zero).n = (f i).n ∧ (ls.getD i Lv.zero).cnt = (f i).cnt ∧ (ls.getD i Lv.zero).e = (f i).e ∧ (ls.getD i Lv.zero).cl = cl i ∧
    (ls.getD i Lv.zero).k = (f i).k ∧ (ls.getD i Lv.zero).m = (f i).d.length ∧ Rd W W.heap.size (ls.getD i Lv.zero).A (f i).d := by
  have hx : ∀ i, ∃ l : Lv, i < N → (∀ j, j < 6 → W.cell? ⟨L, i * 6 + j, none⟩ = l.vals[j]?) ∧ l.n = (f i).n ∧ l.cnt = (f i).cnt ∧ l.e = (f i).e ∧ l.cl = cl i ∧ l.k = (f i).k ∧ l.m = (f i).d.length ∧ Rd W W.heap.size l.A (f i).d := by
    intro i
    by_cases hi : i < N
    · obtain ⟨v, o, hc⟩ := h.at_ i hi
      obtain ⟨A, c, rfl, hr⟩ := o.form
      refine ⟨⟨(f i).k, (f i).n, A, (f i).d.length, c, (f i).cnt, (f i).e, cl i⟩, fun _ => ⟨fun j hj => ?_, rfl, rfl, rfl, rfl, rfl, rfl, hr⟩⟩
      rw [hc j hj]
      simp [lkv, Lv.vals]
    · exact ⟨Lv.zero, fun q => absurd q hi⟩
  obtain ⟨g, hg⟩ := Classical.axiomOfChoice hx
  have hget : ∀ i, i < N → ((List.range N).map g).getD i Lv.zero = g i := by
    intro i hi
    simp [hi]
  refine ⟨(List.range N).map g, by simp, .inr ⟨L, 0, rfl, hB, fun j hj i hi => ?_⟩, fun i hi => ?_⟩
  · have hj' : j < N := by simpa using hj
    rw [hget j hj', Nat.zero_add]
    exact (hg j hj').1 i hi
  · rw [hget i hi]
    exact (hg i hi).2
end
/-- In these words: which is the newest, which is next. -/
theorem nst_nstF {ls : List Lv} {f : Nat → Lk} : ∀ (k : Nat), (∀ i, i < k → (ls.getD i Lv.zero).n = (f i).n ∧ (ls.getD i Lv.zero).cnt = (f i).cnt) → nst ls k = nstF f k := by
  intro k
  induction k with
  | zero => intro _; rfl
  | succ k ih =>
    intro h
    have ih' := ih fun i hi => h i (by omega)
    have hk := h k (by omega)
    unfold nst nstF
    rw [ih']
    cases e : nstF f k with
    | none => simp only [hk.2]; simp only [Int.natCast_pos]
    | some b =>
      have hb : b < k := by
        have := nstF_spec f k
        rw [e] at this
        exact this.1
      have hb' := h b (by omega)
      simp only [hk.1, hk.2, hb'.1]; simp only [Int.natCast_pos]
theorem nxt_nxtF {ls : List Lv} {wear left : List Int} {s : Option Nat} {can : Nat → Bool} {w : Nat → Int} : ∀ (k : Nat), (∀ i, i < k → (Sec.Can ls left s i ↔ can i = true) ∧ wear.getD i 0 = w i) → nxt ls wear left s k = nxtF can w k := by
  intro k
  induction k with
  | zero => intro _; rfl
  | succ k ih =>
    intro h
    have ih' := ih fun i hi => h i (by omega)
    have hk := h k (by omega)
    unfold nxt nxtF
    rw [ih']
    cases e : nxtF can w k with
    | none => simp only [hk.1]
    | some b =>
      have hb : b < k := ((nxtF_spec can w k).2 b e).1
      have hb' := h b (by omega)
      simp only [hk.1, hk.2, hb'.2]
end Jou
end Go.Proofs.Ytppjjdaejhilkaa
