/-
  Of of canid.
-/
import Derived.Test.YtdakogmkpcldbaaDoorCanIds
import Derived.Laws.Tables
import Derived.Laws.CopyOwn
namespace Go.Proofs.YtdakogmkpcldbaaDoor
open Go.RowKit
set_option linter.unusedVariables false

/-- What a call returns whose first result, a struct, lives in memory. -/
theorem results_row2 {P : Program} {fn : Func} {p u : Tmp} {ty : TypeId} (h : fn.results = #[.cell p ty, .tmp u]) (tmps : Array Value) (w : World) (g : Nat) (t : TypeId) (cs : Array Value) (fr : Nat × Nat) (d : TypeDesc)
    (hp : tmps.getD p undef = .pointer (some ⟨g, 0, none⟩)) (hg : w.heap[g]? = some (.cells cs t fr))
    (hu : P.underlying ty = some d) (hd : (match d with | .struct _ | .array _ _ => true | _ => false) = true) (hi : (P.info? ty).map (·.size) = some cs.size) :
    (results fn tmps).run P w = .ok (.tuple #[.agg cs, tmps.getD u undef]) w := by
  have hp' : tmps[p]?.getD undef = .pointer (some ⟨g, 0, none⟩) := by simpa using hp
  simp [results, h, hp', asAddr, run_loadVar_row w g t ty cs fr d hg hu hd hi, Result.andThen]
theorem size_name : (Tryd.prog.info? 26).map (·.size) = some 3 := by kernel_rfl

/-- While Of runs: the named result's cells, not written yet. -/
structure OS (t : TypeId) (w : World) (W : World) : Prop where
  b : Below w.heap.size w W
  ro : W.heap[w.heap.size]? = some (.cells #[.int .i64 0, .int .i64 0, .int .i64 0] t)
theorem OS.next {t : TypeId} {w W W' : World} (h : OS t w W) (hb : Below W.heap.size W W') : OS t w W' :=
  ⟨h.b.trans (hb.mono h.b.size), by
    have hlt : w.heap.size < W.heap.size := by
      rcases Nat.lt_or_ge w.heap.size W.heap.size with h' | h'
      · exact h'
      · have := h.ro; simp [Array.getElem?_eq_none h'] at this
    rw [hb.block _ hlt]; exact h.ro⟩
theorem OS.cells {t : TypeId} {w W : World} (h : OS t w W) : W.cell? ⟨w.heap.size, 0, none⟩ = some (.int .i64 0) ∧ W.cell? ⟨w.heap.size, 1, none⟩ = some (.int .i64 0) ∧ W.cell? ⟨w.heap.size, 2, none⟩ = some (.int .i64 0) ∧
    (∀ j, W.frozen? ⟨w.heap.size, j, none⟩ = false) := by
  have h1 := h.ro
  refine ⟨by simp [World.cell?, h1], by simp [World.cell?, h1], by simp [World.cell?, h1], fun j => by simp [World.frozen?, h1]⟩
theorem OS.set {t : TypeId} {w W : World} (h : OS t w W) (a b c : Value) :
    (((W.setCell ⟨w.heap.size, 0, none⟩ a).setCell ⟨w.heap.size, 1, none⟩ b).setCell ⟨w.heap.size, 2, none⟩ c).heap[w.heap.size]? = some (.cells #[a, b, c] t) ∧
    Below w.heap.size w (((W.setCell ⟨w.heap.size, 0, none⟩ a).setCell ⟨w.heap.size, 1, none⟩ b).setCell ⟨w.heap.size, 2, none⟩ c) := by
  have h1 := h.ro
  have e1 := setCell_eq_setRow W w.heap.size 0 _ _ _ a h1
  have h2 := setRow_heap W w.heap.size _ (#[Value.int IntKind.i64 0, Value.int IntKind.i64 0, Value.int IntKind.i64 0].setIfInBounds 0 a) _ _ h1
  rw [e1]
  have e2 := setCell_eq_setRow _ w.heap.size 1 _ _ _ b h2
  have h3 := setRow_heap _ w.heap.size _ ((#[Value.int IntKind.i64 0, Value.int IntKind.i64 0, Value.int IntKind.i64 0].setIfInBounds 0 a).setIfInBounds 1 b) _ _ h2
  rw [e2]
  have e3 := setCell_eq_setRow _ w.heap.size 2 _ _ _ c h3
  have h4 := setRow_heap _ w.heap.size _ (((#[Value.int IntKind.i64 0, Value.int IntKind.i64 0, Value.int IntKind.i64 0].setIfInBounds 0 a).setIfInBounds 1 b).setIfInBounds 2 c) _ _ h3
  rw [e3]
  exact ⟨h4, below_setRow (below_setRow (below_setRow h.b (Nat.le_refl _) _) (Nat.le_refl _) _) (Nat.le_refl _) _⟩
theorem OS.start (t : TypeId) (w : World) : OS t w (w.alloc (.cells #[.int .i64 0, .int .i64 0, .int .i64 0] t)) := ⟨below_new _ _, by
  show (w.heap.push _)[w.heap.size]? = _
  simp⟩

set_option maxRecDepth 100000 in
set_option maxHeartbeats 4000000 in
theorem of_any (x : Int) (h0 : -9223372036854775808 ≤ x) (h1 : x ≤ 9223372036854775807) (w : World) (hg : CG w) :
    Calls Tryd.prog 11 #[.int .i64 x] w fun e w' => e = .returned (.tuple #[.agg #[.int .i64 (Can.ofn x).1.1, .int .i64 (Can.ofn x).1.2.1, .int .i64 (Can.ofn x).1.2.2], .bool (Can.ofn x).2]) ∧ Below w.heap.size w w' := by
  obtain ⟨T, fr, hheap⟩ := hg.rowsLater
  have hsz : (Tryd.prog.info? 55).map (·.size) = some rall.size := by rw [rall_size]; exact rsize
  have HI := Lib.hid ridx
  have HG := Lib.hid hg
  have HX := Lib.hid (And.intro h0 h1)
  clear hg h0 h1
  generalize rall = KA at *
  go_enter Tryd.func11, Tryd.ntmps11
  go_wp2_with (with_reducible refine wpList_load_row rfl 55 (Operand.global 0) rfl 0 rfl T KA fr _ (hheap _ (OS.start 26 w).b) Tryd.underlying55 rfl hsz ?_)
  clear hheap hsz
  have S := Lib.hid (OS.start 26 w)
  generalize (w.alloc (.cells #[.int .i64 0, .int .i64 0, .int .i64 0] 26)) = W0 at *
  have HY := Lib.hid (fun i hi h => Can.of_in (x := x) (i := i) hi h)
  have HN := Lib.hid (fun h => Can.of_none (x := x) h)
  go_loopw [9] (fun i wr => ∃ j : Nat, j ≤ 15 ∧ i = .int .i64 (j : Int) ∧ (∀ m, m < j → Can.mo x m = false) ∧ OS 26 w wr) (fun i _ => 15 - (intOf i).toNat)
  case atStart => exact ⟨0, by omega, rfl, fun j hj => by omega, S.out⟩
  case round =>
    obtain ⟨j, hj, rfl, hno, hS⟩ := hrel
    have HNO := Lib.hid hno
    have HS := Lib.hid hS
    clear hno hS S
    have more : (Can.mo x j = false) → ∀ m, m < j + 1 → Can.mo x m = false := fun hm m h => by
      rcases Nat.lt_or_ge m j with h' | h'
      · exact HNO.out m h'
      · obtain rfl : m = j := by omega
        exact hm
    have more := Lib.hid more
    by_cases hlt : j < 15
    · have hrun := fun W => HI.out j hlt W
      have HM := Lib.hid (show Can.mo x j = decide (Can.row j 2 ≤ x - Can.row j 4 ∧ x - Can.row j 4 ≤ Can.row j 3) from rfl)
      have HY := Lib.hid (HY.out j hlt)
      have bd := Lib.hid (Can.row_bd hlt)
      generalize Can.row j 0 = r0 at *
      generalize Can.row j 1 = r1 at *
      generalize Can.row j 2 = r2 at *
      generalize Can.row j 3 = r3 at *
      generalize Can.row j 4 = r4 at *
      by_cases hin : r2 ≤ x - r4 ∧ x - r4 ≤ r3
      · have K := Lib.hid (fun W => at_yes (a := r0) (b := r1) (e := r4) hin.1 hin.2 W)
        have HR := Lib.hid (HY.out (HM.out.trans (decide_eq_true hin)))
        have hw : wrap64 (x - r4) = x - r4 := by
          have := bd.out
          unfold wrap64
          omega
        clear hin
        go_wp2_with fail
        refine (K.out _).mono ?_
        rintro e w1 ⟨rfl, b1⟩
        have S1 := fun o => ((HS.out.next (below_new wr (.cells #[.int .i64 r0, .int .i64 r1, .int .i64 r2, .int .i64 r3, .int .i64 r4] 54))).next b1).next (below_new w1 o)
        have q0 := fun o => (S1 o).cells.1
        have q1 := fun o => (S1 o).cells.2.1
        have q2 := fun o => (S1 o).cells.2.2.1
        have qf := fun o => (S1 o).cells.2.2.2
        have S1 := Lib.hid S1
        clear b1
        go_wp2_with fail
        obtain ⟨e1, e2⟩ := (S1.out _).set (.int .i64 r0) (.int .i64 r1) (.int .i64 (x - r4))
        (try simp only [Exit.inBlock, Exit.then])
        refine bodyPost_ret (results_row2 rfl _ _ w.heap.size _ _ _ _ rfl e1 Tryd.underlying26 rfl size_name) rfl ⟨by rw [HR.out]; rfl, e2⟩
      · have hw : wrap64 (x - r4) < r2 ∨ r3 < wrap64 (x - r4) := by
          have := bd.out
          have := HX.out
          unfold wrap64
          omega
        have K := Lib.hid (fun W => at_no (a := r0) (b := r1) (e := r4) (c := r2) (d := r3) (x := wrap64 (x - r4)) hw W)
        have HF := Lib.hid (HM.out.trans (decide_eq_false hin))
        clear hin hw
        go_wp2_with fail
        refine (K.out _).mono ?_
        rintro e w1 ⟨rfl, b1⟩
        have S1 := Lib.hid fun o => ((HS.out.next (below_new wr (.cells #[.int .i64 r0, .int .i64 r1, .int .i64 r2, .int .i64 r3, .int .i64 r4] 54))).next b1).next (below_new w1 o)
        clear b1
        go_wp2_with fail
        go_roundw
        case rel => exact ⟨j + 1, by omega, by go_num, more.out HF.out, S1.out _⟩
        case measure => simp [intOf]; omega
    · have HR := Lib.hid (HN.out fun i hi => HNO.out i (by omega))
      obtain ⟨q0, q1, q2, qf⟩ := HS.out.cells
      go_wp2_with fail
      obtain ⟨e1, e2⟩ := HS.out.set (.int .i64 0) (.int .i64 0) (.int .i64 0)
      (try simp only [Exit.inBlock, Exit.then])
      refine bodyPost_ret (results_row2 rfl _ _ w.heap.size _ _ _ _ rfl e1 Tryd.underlying26 rfl size_name) rfl ⟨by rw [HR.out]; rfl, e2⟩
end Go.Proofs.YtdakogmkpcldbaaDoor
