/-
  'for .. := range x.M { .. }', x.M a method value: the iterator is called with x ahead of yield, and it may keep state of its own in cells of one type T: between two rounds it writes those cells, and the body leaves them alone. A law for the statement, after the manner of Derived/RangeFuncFrom.lean and RangeFuncNested.lean (whose steps on the loop's record it uses), and the two words for its two sides. No program is named here.
-/
import Derived.RangeFuncNested
import Derived.RangeFuncCalls
import Derived.RangeFuncLeaves
import Derived.Deep.Draws
namespace Go.Proofs.YtielbmhaidjioaaDoor
namespace Rng
open Go.RowKit

variable {n : Nat} {P : Program} {T : TypeId}

/-- A block that is no cells, or one of type T. -/
def Free (T : TypeId) (W : World) (r : Nat) : Prop := (∃ o : Obj, W.heap[r]? = some o ∧ o.isCells = false) ∨ ∃ cs, W.heap[r]? = some (.cells cs T (0, 0))
/-- I abides new blocks, and turns of free blocks from B on. -/
def Abide {β : Type} (T : TypeId) (B : Nat) (I : β → World → Prop) : Prop :=
  ∀ s W W' row, I s W → W.grownBy W' row → (∀ r, row = some r → B ≤ r ∧ Free T W r) → I s W'
theorem Abide.putObj {β : Type} {B : Nat} {I : β → World → Prop} (h : Abide T B I) {s : β} {W : World} {l : Nat} {o : Obj} (o' : Obj) (hs : I s W) (hB : B ≤ l) (hl : W.heap[l]? = some o) (ho : o.isCells = false) : I s (W.putObj l o') :=
  h s W _ (some l) hs (grownBy_putObj' W l o') (fun r e => by cases e; exact ⟨hB, .inl ⟨o, hl, ho⟩⟩)
theorem Abide.alloc {β : Type} {B : Nat} {I : β → World → Prop} (h : Abide T B I) {s : β} {W : World} (o : Obj) (hs : I s W) : I s (W.alloc o) :=
  h s W _ none hs (World.grownBy_alloc W o none) (fun r e => by cases e)
theorem Abide.and {β : Type} {B : Nat} {I J : β → World → Prop} (h : Abide T B I) (k : Abide T B J) : Abide T B (fun s W => I s W ∧ J s W) := fun s W W' row hs hg hr => ⟨h s W W' row hs.1 hg hr, k s W W' row hs.2 hg hr⟩
theorem Abide.below {β : Type} {n₀ B : Nat} {w₀ : World} (hn : n₀ ≤ w₀.heap.size) (hB : n₀ ≤ B) : Abide T B (fun (_ : β) W => Below n₀ w₀ W) :=
  fun _ _ _ _ hs hg hr => hs.grown hg (Nat.le_trans hn hs.size) (fun k e => Nat.le_trans hB (hr k e).1)
theorem Abide.pure {β : Type} (B : Nat) (p : β → Prop) : Abide T B (fun s (_ : World) => p s) := fun _ _ _ _ hs _ _ => hs
/-- A box below B, or one of another type, abides. -/
theorem Abide.box {β : Type} {B b : Nat} {t : TypeId} (v : β → Value) (h : b < B ∨ t ≠ T) : Abide T B (fun s W => Boxed W b t (v s)) := by
  intro s W W' row hs hg hr
  refine hs.kept hg ?_
  rintro e
  obtain ⟨hB, hF⟩ := hr b e.symm
  rcases h with h | h
  · omega
  · rcases hF with ⟨o, ho, hc⟩ | ⟨cs, hcs⟩
    · have := (show W.heap[b]? = _ from hs).symm.trans ho
      cases this
      cases hc
    · have := (show W.heap[b]? = _ from hs).symm.trans hcs
      cases this
      exact h rfl

/-- What a round leaves to the iterator: all below n₀, and the cells of type T that were there. -/
def Kept (T : TypeId) (n₀ : Nat) (W W' : World) : Prop := Below n₀ W W' ∧ ∀ (r : Nat) (cs : Array Value), W.heap[r]? = some (Obj.cells cs T (0, 0)) → W'.heap[r]? = some (Obj.cells cs T (0, 0))
theorem Kept.trans {n₀ : Nat} {A B C : World} (h : Kept T n₀ A B) (k : Kept T n₀ B C) : Kept T n₀ A C := ⟨h.1.trans k.1, fun r cs e => k.2 r cs (h.2 r cs e)⟩
theorem Kept.refl {n₀ : Nat} (W : World) : Kept T n₀ W W := ⟨Below.refl _ _, fun _ _ h => h⟩
theorem Kept.of_grown {n₀ : Nat} {W W' : World} {row : Option Nat} (hn : n₀ ≤ W.heap.size) (hg : W.grownBy W' row) (hr : ∀ r, row = some r → n₀ ≤ r ∧ ∀ cs : Array Value, W.heap[r]? ≠ some (Obj.cells cs T (0, 0))) : Kept T n₀ W W' := by
  refine ⟨(Below.refl n₀ W).grown hg hn (fun k e => (hr k e).1), fun r cs e => ?_⟩
  rw [hg.block r (Array.getElem?_eq_some_iff.1 e).1 ?_]
  · exact e
  · rintro h
    exact (hr r h.symm).2 cs e
theorem Kept.alloc {n₀ : Nat} {W : World} (hn : n₀ ≤ W.heap.size) (o : Obj) : Kept T n₀ W (W.alloc o) := Kept.of_grown hn (World.grownBy_alloc W o none) (fun r e => by cases e)
theorem Kept.putObj {n₀ : Nat} {W : World} {l : Nat} {o : Obj} (o' : Obj) (hn : n₀ ≤ l) (h : W.heap[l]? = some o) (ho : o.isCells = false) : Kept T n₀ W (W.putObj l o') :=
  Kept.of_grown (by have := (Array.getElem?_eq_some_iff.1 h).1; omega) (grownBy_putObj' W l o') (fun r e => by cases e; exact ⟨hn, fun cs e => by rw [h] at e; cases e; cases ho⟩)
theorem Kept.drewN {n₀ : Nat} {W W' : World} (h : Kept T n₀ W W') (k : Nat) : Kept T n₀ W (W'.drewN k) := ⟨⟨h.1.os, h.1.tape, h.1.output, h.1.size, h.1.block⟩, h.2⟩

/-- The iterator's side: called with fa ahead of yield it hands on encs 0, encs 1, .., as long as it is told to, N of them at most. -/
def Seq (n : Nat) (P : Program) (T : TypeId) (g : Nat) (fa : Array Value) (encs : Nat → Array Value) (n₀ N : Nat) (w : World) : Prop :=
  ∀ (l : Nat) (J Jx : Nat → World → Prop) (W : World), Below w.heap.size w W → Abide T W.heap.size J → Abide T W.heap.size Jx →
    (∀ k W1, J k W1 → k < N → YieldAt Fence.wide (n - 1) P l (encs k) W1 fun e W' =>
      (e = .returned (.bool true) ∧ J (k + 1) W' ∧ Kept T n₀ W1 W') ∨ (e = .returned (.bool false) ∧ Jx k W')) →
    J 0 W →
    CallsIn Fence.wide n P g (fa ++ #[.func (.yield l) #[] #[]]) W fun e W' => (∃ v, e = .returned v) ∧ (J N W' ∨ ∃ k, k < N ∧ Jx k W')

/-- How the body of round k may be left. -/
def post (T : TypeId) (B n₀ : Nat) (I Ix : Nat → World → Prop) (k : Nat) (W : World) : Exit → Act → World → Prop
  | .normal, _, W' => KeepsFrom B W W' ∧ Kept T n₀ W W' ∧ I (k + 1) W'
  | .ret, _, W' => KeepsFrom B W W' ∧ Ix k W'
  | _, _, _ => False

set_option maxHeartbeats 1000000 in
/-- THE LAW. -/
theorem range {g : Operand} {ps : Array Tmp} {assign body : Code} {Q : Exit → Act → World → Prop} {a : Act} {w : World} {gf : Nat} {fa : Array Value}
    (hg : a.eval g = .func (.func gf) fa #[]) (eg : ∀ args w, (callFunc gf args).run P w = .ok (.enter gf args) w)
    {encs : Nat → Array Value} {n₀ N : Nat} (hseq : Seq (n - 1) P T gf fa encs n₀ N w) (hn₀ : n₀ ≤ w.heap.size) (hps : ∀ k, (encs k).size = ps.size)
    (I Ix : Nat → World → Prop) (hI : Abide T w.heap.size I) (hIx : Abide T w.heap.size Ix) (h0 : I 0 w) (Ax : Nat → Act → World → Prop) (hAx : ∀ k a', OwnFrom w.heap.size (fun (_ : Unit) W => Ax k a' W))
    (hassign : ∀ (l k : Nat) (W : World) (K : Act → World → Prop), I k W → (∀ a' W', KeepsFrom w.heap.size W W' → Kept T n₀ W W' → I k W' → Ax k a' W' → K a' W') →
      assign.wpIn (Fence.wide.inRound l) (n - 1 - 1) P (Exit.then K (fun _ _ _ => False)) { tmps := (ps.zip (encs k)).foldl (fun t (p, v) => t.setIfInBounds p v) a.tmps, defers := [] } W)
    (hbody : ∀ (l k : Nat) (a' : Act) (W : World), I k W → Ax k a' W → k < N → body.wpIn (Fence.wide.inRound l) (n - 1 - 1) P (post T w.heap.size n₀ I Ix k W) a' W)
    (hdone : ∀ (D : Nat) (W : World), w.heap.size ≤ D → I N W → W.heap[D]? = some (.deferred (some [])) → Q .normal { a with defers := { target := .collected D, args := #[] } :: a.defers } W)
    (hstop : ∀ (D k : Nat) (W : World), w.heap.size ≤ D → k < N → Ix k W → W.heap[D]? = some (.deferred (some [])) → Code.ret.wpIn Fence.wide n P Q { a with defers := { target := .collected D, args := #[] } :: a.defers } W) :
    (Code.rangeFunc g ps assign body).wpIn Fence.wide n P Q a w := by
  refine wpIn_rangeFunc ?_
  intro fn hfn
  obtain ⟨rec, hrec⟩ : ∃ rec : LoopState → Option Code → Loop, rec = fun st pe => { state := st, pending := pe, fn, tmps := a.tmps, params := ps, assign, body, defers := w.heap.size } := ⟨_, rfl⟩
  obtain ⟨W1, hW1⟩ : ∃ W1, (w.alloc (.deferred (some []))).alloc (.loop (rec .ready none)) = W1 := ⟨_, rfl⟩
  have hz1 : W1.heap.size = w.heap.size + 2 := by rw [← hW1]; simp
  have hL1 : W1.heap[w.heap.size + 1]? = some (.loop (rec .ready none)) := by
    rw [← hW1]; have := World.alloc_heap_new (w.alloc (.deferred (some []))) (.loop (rec .ready none)); rwa [World.size_alloc] at this
  have hK1 : W1.heap[w.heap.size]? = some (.deferred (some [])) := by
    rw [← hW1]; exact (Below.heap_alloc _ _ _ (by simp)).trans (World.alloc_heap_new w _)
  have hI1 : I 0 W1 := by rw [← hW1]; exact hI.alloc _ (hI.alloc _ h0)
  have hb1 : Below w.heap.size w W1 := by
    rw [← hW1]; exact ((Below.refl _ w).alloc (Nat.le_refl _) _).alloc (by simp) _
  refine ⟨w.heap.size + 1, [{ target := .collected w.heap.size, args := #[] }], W1, { target := .fn (.func gf) #[], args := fa ++ #[.func (.yield (w.heap.size + 1)) #[] #[]] }, W1, gf,
    fa ++ #[.func (.yield (w.heap.size + 1)) #[] #[]], W1, ?_, ?_, ?_, ?_, fun h => (by cases h), ?_⟩
  · rw [← hW1, hrec]; exact run_enterLoop_outer _ _ _ _ _
  · simp only [resolve, hg]
    simp [go_sem]
  · intro f' _; trivial
  · simp [invoke, go_sem, eg]
  · have keep : ∀ {A B : World} {row : Option Nat} {r : Nat} {o : Obj}, A.grownBy B row → (∀ r', row = some r' → W1.heap.size ≤ r' ∧ Free T A r') → r < W1.heap.size → A.heap[r]? = some o → B.heap[r]? = some o := fun {A B row r o} hg' hr hlt ho => by
      rw [hg'.block r (Array.getElem?_eq_some_iff.1 ho).1 (fun e => by have := (hr r e.symm).1; omega)]; exact ho
    have low : ∀ {A : World} {row : Option Nat}, (∀ r', row = some r' → W1.heap.size ≤ r' ∧ Free T A r') → ∀ r', row = some r' → w.heap.size ≤ r' ∧ Free T A r' := fun hr r' e => ⟨by have := (hr r' e).1; omega, (hr r' e).2⟩
    refine (hseq (w.heap.size + 1)
      (fun k W => I k W ∧ W.heap[w.heap.size + 1]? = some (.loop (rec .ready none)) ∧ W.heap[w.heap.size]? = some (.deferred (some [])))
      (fun k W => Ix k W ∧ W.heap[w.heap.size + 1]? = some (.loop (rec .done (some .ret))) ∧ W.heap[w.heap.size]? = some (.deferred (some [])))
      W1 hb1
      (fun s A B row hs hg' hr => ⟨hI s A B row hs.1 hg' (low hr), keep hg' hr (by omega) hs.2.1, keep hg' hr (by omega) hs.2.2⟩)
      (fun s A B row hs hg' hr => ⟨hIx s A B row hs.1 hg' (low hr), keep hg' hr (by omega) hs.2.1, keep hg' hr (by omega) hs.2.2⟩)
      ?_ ⟨hI1, hL1, hK1⟩).mono ?_
    · rintro k W ⟨hi, hl, hk⟩ hkN
      have hy := run_yield (P := P) (args := encs k) hl (by rw [hrec]; exact hps k)
      rw [hrec] at hy
      refine ⟨fn, _, assign, body, hy, roundIn_of_wpIn hfn (hassign _ k W _ hi ?_)⟩
      clear hy
      intro a' Wa hkfa hkpa hia hax
      have hla := hkfa.same _ _ (by omega) hl rfl
      have hka := hkfa.same _ _ (Nat.le_refl _) hk rfl
      have hlt : w.heap.size + 1 < Wa.heap.size := (Array.getElem?_eq_some_iff.1 hla).1
      refine ⟨_, run_beginRound hla (by rw [hrec]), ?_⟩
      obtain ⟨W2, hW2⟩ : ∃ W2, Wa.putObj (w.heap.size + 1) (.loop { rec .ready none with state := .busy }) = W2 := ⟨_, rfl⟩
      have hl2 : W2.heap[w.heap.size + 1]? = some (.loop { rec .ready none with state := .busy }) := by rw [← hW2]; exact World.putObj_heap_same hlt
      have hk2 : W2.heap[w.heap.size]? = some (.deferred (some [])) := by rw [← hW2]; exact (World.putObj_heap_other (by omega)).trans hka
      have hw2 : Kept T n₀ Wa W2 := by rw [← hW2]; exact Kept.putObj _ (by omega) hla rfl
      have hi2 : I k W2 := by rw [← hW2]; exact hI.putObj _ hia (by omega) hla rfl
      have hx2 : Ax k a' W2 := by rw [← hW2]; exact (hAx k a').putObj (s := ()) _ hax (by omega) hla rfl
      rw [hW2]
      refine wpIn_mono (hbody _ k a' W2 hi2 hx2 hkN) ?_
      have fin : ∀ (jump : Option Code) (W3 : World), KeepsFrom w.heap.size W2 W3 →
          (Instr.endRound (w.heap.size + 1) jump).run P W3 = .ok (.bool jump.isNone) (W3.putObj (w.heap.size + 1) (.loop (rec (if jump.isNone then .ready else .done) jump))) ∧
          W3.heap[w.heap.size + 1]? = some (.loop { rec .ready none with state := .busy }) ∧
          (W3.putObj (w.heap.size + 1) (.loop (rec (if jump.isNone then .ready else .done) jump))).heap[w.heap.size + 1]? = some (.loop (rec (if jump.isNone then .ready else .done) jump)) ∧
          (W3.putObj (w.heap.size + 1) (.loop (rec (if jump.isNone then .ready else .done) jump))).heap[w.heap.size]? = some (.deferred (some [])) := fun jump W3 hk3 => by
        have hl3 := hk3.same _ _ (by omega) hl2 rfl
        have := run_endRound (P := P) jump hl3
        rw [hrec] at this ⊢
        exact ⟨this, by rw [hrec] at hl3; exact hl3, World.putObj_heap_same (Array.getElem?_eq_some_iff.1 hl3).1, (World.putObj_heap_other (by omega)).trans (hk3.same _ _ (Nat.le_refl _) hk2 rfl)⟩
      rintro e a3 W3 hp
      cases e with
      | normal =>
        obtain ⟨hk3, hkp3, hi3⟩ := hp
        obtain ⟨hr, hl3, hl4, hk4⟩ := fin none W3 hk3
        exact ⟨_, _, hr, .inl ⟨rfl, ⟨hI.putObj _ hi3 (by omega) hl3 rfl, hl4, hk4⟩, hkpa.trans ((hw2.trans hkp3).trans (Kept.putObj _ (by omega) hl3 rfl))⟩⟩
      | ret =>
        obtain ⟨hk3, hi3⟩ := hp
        obtain ⟨hr, hl3, hl4, hk4⟩ := fin (some .ret) W3 hk3
        exact ⟨_, _, hr, .inr ⟨rfl, hIx.putObj _ hi3 (by omega) hl3 rfl, hl4, hk4⟩⟩
      | exit id => exact hp.elim
      | goto t => exact hp.elim
      | panic ch => exact hp.elim
      | outgrown => exact hp.elim
    · rintro e W2 ⟨⟨v, rfl⟩, (⟨hi, hl, hk⟩ | ⟨k, hkN, hi, hl, hk⟩)⟩
      · exact ⟨none, _, by have := run_endLoop (P := P) hl (by rw [hrec]; simp); rw [hrec] at this; exact this, hdone _ _ (Nat.le_refl _) (hI.putObj _ hi (by omega) hl rfl) ((World.putObj_heap_other (by omega)).trans hk)⟩
      · exact ⟨some .ret, _, by have := run_endLoop (P := P) hl (by rw [hrec]; simp); rw [hrec] at this; exact this, hstop _ k _ (Nat.le_refl _) hkN (hIx.putObj _ hi (by omega) hl rfl) ((World.putObj_heap_other (by omega)).trans hk)⟩
end Rng
end Go.Proofs.YtielbmhaidjioaaDoor
