/-
  Id, Of and Restricted of canid.
-/
import Derived.Test.YtdakogmkpcldbaaDoorCanFns
import Derived.Laws.Rows
import Derived.ChangeKeysEq
namespace Go.Proofs.YtdakogmkpcldbaaDoor
open Go.RowKit
set_option linter.unusedVariables false

theorem rall_size : rall.size = 75 := by simp [rall]
theorem sall_size : sall.size = 12 := by simp [sall]
theorem ridx (i : Nat) (hi : i < 15) (W : World) : (Instr.index 55 (.agg rall) (.int .i64 (i : Int))).run Tryd.prog W =
    .ok (.agg #[.int .i64 (Can.row i 0), .int .i64 (Can.row i 1), .int .i64 (Can.row i 2), .int .i64 (Can.row i 3), .int .i64 (Can.row i 4)]) W := by
  revert W
  revert i
  refine Can.fif ⟨?_, ?_, ?_, ?_, ?_, ?_, ?_, ?_, ?_, ?_, ?_, ?_, ?_, ?_, ?_⟩
  all_goals intro W
  all_goals kernel_rfl
theorem sidx (i : Nat) (hi : i < 6) (W : World) : (Instr.index 61 (.agg sall) (.int .i64 (i : Int))).run Tryd.prog W =
    .ok (.agg #[.int .i64 (Can.span i 0), .int .i64 (Can.span i 1)]) W := by
  rcases (by omega : i = 0 ∨ i = 1 ∨ i = 2 ∨ i = 3 ∨ i = 4 ∨ i = 5) with rfl | rfl | rfl | rfl | rfl | rfl
  all_goals kernel_rfl
theorem rsize : (Tryd.prog.info? 55).map (·.size) = some 75 := by kernel_rfl
theorem ssize : (Tryd.prog.info? 61).map (·.size) = some 12 := by kernel_rfl
theorem CG.rowsLater {w : World} (h : CG w) : ∃ t fr, ∀ W, Below w.heap.size w W → W.heap[0]? = some (.cells rall t fr) := by
  obtain ⟨t, fr, h1⟩ := h.rowsAt
  refine ⟨t, fr, fun W b => ?_⟩
  have hlt : 0 < w.heap.size := by
    rcases Nat.lt_or_ge 0 w.heap.size with h' | h'
    · exact h'
    · simp [Array.getElem?_eq_none h'] at h1
  rw [b.block _ hlt]
  exact h1
theorem CG.restLater {w : World} (h : CG w) : ∃ t fr, ∀ W, Below w.heap.size w W → W.heap[1]? = some (.cells sall t fr) := by
  obtain ⟨t, fr, h1⟩ := h.restAt
  refine ⟨t, fr, fun W b => ?_⟩
  have hlt : 1 < w.heap.size := by
    rcases Nat.lt_or_ge 1 w.heap.size with h' | h'
    · exact h'
    · simp [Array.getElem?_eq_none h'] at h1
  rw [b.block _ hlt]
  exact h1

theorem one_int (a k : Int) (d : Nat) (W : World) : (Op.equalIn (d + 1) 3 (.int .i64 a) (.int .i64 k)).run Tryd.prog W = .ok (a == k) W := by
  simp [Op.equalIn, go_sem]
theorem eq_num (a b c k n d : Int) (W : World) : (binOp .eql 52 (.agg #[.int .i64 a, .int .i64 b, .int .i64 c]) (.agg #[.int .i64 k, .int .i64 n, .int .i64 d])).run Tryd.prog W =
    .ok (.bool (decide (a = k ∧ b = n ∧ c = d))) W := by
  have p0 : ∀ (x y z : Value) W, (part 3 #[x, y, z] 0).run Tryd.prog W = .ok x W := fun x y z W => by kernel_rfl
  have p1 : ∀ (x y z : Value) W, (part 3 #[x, y, z] 1).run Tryd.prog W = .ok y W := fun x y z W => by kernel_rfl
  have p2 : ∀ (x y z : Value) W, (part 3 #[x, y, z] 2).run Tryd.prog W = .ok z W := fun x y z W => by kernel_rfl
  have hc : Tryd.prog.cellsOf 3 = 1 := by kernel_rfl
  have hsome : (Tryd.prog.info? 3).isSome = true := by kernel_rfl
  obtain ⟨ti, hti⟩ := Option.isSome_iff_exists.1 hsome
  have e : (Op.equalIn (9999 + 1) 52 (.agg #[.int .i64 a, .int .i64 b, .int .i64 c]) (.agg #[.int .i64 k, .int .i64 n, .int .i64 d])).run Tryd.prog W = .ok (decide (a = k ∧ b = n ∧ c = d)) W := by
    rw [run_equalIn_array W 9999 _ _ Tryd.underlying52 hti, hc]
    have hr : List.range 3 = [0, 1, 2] := rfl
    have o := fun (x y : Int) W => one_int x y 9998 W
    simp only [show 9998 + 1 = 9999 from rfl] at o
    rw [hr]
    by_cases h1 : a = k <;> by_cases h2 : b = n <;> by_cases h3 : c = d
    all_goals simp [Op.eqItems, Sem.run_bind, p0, p1, p2, o, h1, h2, h3]
  simp only [binOp, Op.equal, Sem.run_bind]
  rw [show Op.maxDepth = 9999 + 1 from rfl, e]
  rfl

set_option maxRecDepth 100000 in
set_option maxHeartbeats 4000000 in
theorem restricted_any (x : Int) (w : World) (hg : CG w) :
    Calls Tryd.prog 13 #[.int .i64 x] w fun e w' => e = .returned (.bool (Can.res x)) ∧ Below w.heap.size w w' := by
  by_cases hin : 0 ≤ x ∧ x ≤ 2047
  · have K := Lib.hid (fun W => isid_yes hin.1 hin.2 W)
    obtain ⟨T, fr, hheap⟩ := hg.restLater
    have hh0 := hheap w (Below.refl _ _)
    have hsz : (Tryd.prog.info? 61).map (·.size) = some sall.size := by rw [sall_size]; exact ssize
    have HI := Lib.hid sidx
    have HN := Lib.hid (fun h => Can.res_none (x := x) hin.1 hin.2 h)
    have HY := Lib.hid (fun i hi h => Can.res_some (x := x) (i := i) hi h)
    clear hg hheap hin
    generalize sall = KA at *
    generalize Can.res x = R at *
    go_enter Tryd.func13, Tryd.ntmps13
    go_wp2_with (first
      | (go_at_call 20; refine (K.out _).mono ?_; rintro e w' ⟨rfl, rfl⟩)
      | (with_reducible refine wpList_load_row rfl 61 (Operand.global 1) rfl 1 rfl T KA fr _ hh0 Tryd.underlying61 rfl hsz ?_))
    clear hh0 hsz
    go_loopw [9] (fun i wr => ∃ k : Nat, k ≤ 6 ∧ i = .int .i64 (k : Int) ∧ (∀ j, j < k → Can.ms x j = false) ∧ Below w.heap.size w wr) (fun i _ => 6 - (intOf i).toNat)
    case atStart => exact ⟨0, by omega, rfl, fun j hj => by omega, Below.refl _ _⟩
    case round =>
      obtain ⟨k, hk, rfl, hno, hB⟩ := hrel
      have HNO := Lib.hid hno
      have HB := Lib.hid hB
      clear hno hB
      by_cases hlt : k < 6
      · have hrun := fun W => HI.out k hlt W
        have HM := Lib.hid (show Can.ms x k = (decide (Can.span k 0 ≤ x) && decide (x ≤ Can.span k 1)) by simp [Can.ms])
        generalize Can.span k 0 = s0 at *
        generalize Can.span k 1 = s1 at *
        by_cases h0 : s0 ≤ x
        · have d0 : decide (s0 ≤ x) = true := decide_eq_true h0
          by_cases h1 : x ≤ s1
          · have d1 : decide (x ≤ s1) = true := decide_eq_true h1
            have HR := Lib.hid (HY.out k hlt (by rw [HM.out, d0, d1]; rfl))
            go_wp2_with fail
            go_ret
            exact ⟨by rw [HR.out]; rfl, HB.out.alloc HB.out.size _⟩
          · have d1 : decide (x ≤ s1) = false := decide_eq_false h1
            go_wp2_with fail
            go_roundw
            case rel => exact ⟨k + 1, by omega, by go_num, fun j hj => by
              rcases Nat.lt_or_ge j k with h | h
              · exact HNO.out j h
              · obtain rfl : j = k := by omega
                rw [HM.out, d0, d1]; rfl, HB.out.alloc HB.out.size _⟩
            case measure => simp [intOf]; omega
        · have d0 : decide (s0 ≤ x) = false := decide_eq_false h0
          go_wp2_with fail
          go_roundw
          case rel => exact ⟨k + 1, by omega, by go_num, fun j hj => by
            rcases Nat.lt_or_ge j k with h | h
            · exact HNO.out j h
            · obtain rfl : j = k := by omega
              rw [HM.out, d0]; rfl, HB.out.alloc HB.out.size _⟩
          case measure => simp [intOf]; omega
      · have HR := Lib.hid (HN.out fun i hi => HNO.out i (by omega))
        go_wp2_with fail
        go_ret
        exact ⟨by rw [HR.out]; rfl, HB.out⟩
  · have K := Lib.hid (fun W => isid_no (x := x) (by omega) W)
    have HR := Lib.hid (Can.res_out (x := x) (by omega))
    clear hin hg
    go_enter Tryd.func13, Tryd.ntmps13
    go_wp2_with (go_at_call 20; refine (K.out _).mono ?_; rintro e w' ⟨rfl, rfl⟩)
    go_ret
    exact ⟨by rw [HR.out]; rfl, Below.refl _ _⟩

/-- While Id runs: n's and asked's cells. -/
structure NS (w : World) (k n d : Int) (W : World) : Prop where
  b : Below w.heap.size w W
  n0 : W.cell? ⟨w.heap.size, 0, none⟩ = some (.int .i64 k)
  n1 : W.cell? ⟨w.heap.size, 1, none⟩ = some (.int .i64 n)
  n2 : W.cell? ⟨w.heap.size, 2, none⟩ = some (.int .i64 d)
  a0 : W.cell? ⟨w.heap.size + 1, 0, none⟩ = some (.int .i64 k)
  a1 : W.cell? ⟨w.heap.size + 1, 1, none⟩ = some (.int .i64 n)
  a2 : W.cell? ⟨w.heap.size + 1, 2, none⟩ = some (.int .i64 d)
theorem cell_on {w w' : World} {p : Addr} {v : Value} (h : w.cell? p = some v) (hb : Below w.heap.size w w') : w'.cell? p = some v := by
  have hlt : p.block < w.heap.size := by
    rcases Nat.lt_or_ge p.block w.heap.size with h' | h'
    · exact h'
    · simp [World.cell?, Array.getElem?_eq_none h'] at h
  rw [hb.cell (p := p) hlt]
  exact h
theorem NS.next {w W W' : World} {k n d : Int} (h : NS w k n d W) (hb : Below W.heap.size W W') : NS w k n d W' :=
  ⟨h.b.trans (hb.mono h.b.size), cell_on h.n0 hb, cell_on h.n1 hb, cell_on h.n2 hb, cell_on h.a0 hb, cell_on h.a1 hb, cell_on h.a2 hb⟩
theorem below_new (w : World) (o : Obj) : Below w.heap.size w (w.alloc o) := (Below.refl _ _).alloc (Nat.le_refl _) o
theorem NS.start (w : World) (k n d : Int) (t t' : TypeId) : NS w k n d ((w.alloc (.cells #[.int .i64 k, .int .i64 n, .int .i64 d] t)).alloc (.cells #[.int .i64 k, .int .i64 n, .int .i64 d] t')) :=
  ⟨(below_new _ _).alloc (by simp) _, by simp [go_sem], by simp [go_sem], by simp [go_sem], by simp [go_sem], by simp [go_sem], by simp [go_sem]⟩

set_option maxRecDepth 100000 in
set_option maxHeartbeats 4000000 in
theorem id_any (k n d : Int) (w : World) (hg : CG w) :
    Calls Tryd.prog 8 #[.agg #[.int .i64 k, .int .i64 n, .int .i64 d]] w fun e w' => e = .returned (.tuple #[.int .i64 (Can.idx k n d).1, .int .i64 (Can.idx k n d).2]) ∧ Below w.heap.size w w' := by
  obtain ⟨T, fr, hheap⟩ := hg.rowsLater
  have hsz : (Tryd.prog.info? 55).map (·.size) = some rall.size := by rw [rall_size]; exact rsize
  have HI := Lib.hid ridx
  have HG := Lib.hid hg
  clear hg
  generalize rall = KA at *
  go_enter Tryd.func8, Tryd.ntmps8
  go_wp2_with (with_reducible refine wpList_load_row rfl 55 (Operand.global 0) rfl 0 rfl T KA fr _ (hheap _ (NS.start w k n d _ _).b) Tryd.underlying55 rfl hsz ?_)
  clear hheap hsz
  have S := Lib.hid (NS.start w k n d 26 52)
  generalize ((w.alloc (.cells #[.int .i64 k, .int .i64 n, .int .i64 d] 26)).alloc (.cells #[.int .i64 k, .int .i64 n, .int .i64 d] 52)) = W0 at *
  have HY := Lib.hid (fun i hi h => Can.id_some (k := k) (n := n) (d := d) (i := i) hi h)
  have HN := Lib.hid (fun h => Can.id_none (k := k) (n := n) (d := d) h)
  go_loopw [17] (fun i wr => ∃ j : Nat, j ≤ 15 ∧ i = .int .i64 (j : Int) ∧ (∀ m, m < j → Can.mi k n d m = false) ∧ NS w k n d wr) (fun i _ => 15 - (intOf i).toNat)
  case atStart => exact ⟨0, by omega, rfl, fun j hj => by omega, S.out⟩
  case round =>
    obtain ⟨j, hj, rfl, hno, hS⟩ := hrel
    have HNO := Lib.hid hno
    have HS := Lib.hid hS
    clear hno hS S
    have more : (Can.mi k n d j = false) → ∀ m, m < j + 1 → Can.mi k n d m = false := fun hm m h => by
      rcases Nat.lt_or_ge m j with h' | h'
      · exact HNO.out m h'
      · obtain rfl : m = j := by omega
        exact hm
    have more := Lib.hid more
    by_cases hlt : j < 15
    · have hrun := fun W => HI.out j hlt W
      have HM := Lib.hid (show Can.mi k n d j = decide (Can.row j 2 ≤ d ∧ d ≤ Can.row j 3 ∧ Can.row j 0 = k ∧ Can.row j 1 = n) from rfl)
      have HY := Lib.hid (HY.out j hlt)
      have bd := Lib.hid (Can.row_bd hlt)
      generalize Can.row j 0 = r0 at *
      generalize Can.row j 1 = r1 at *
      generalize Can.row j 2 = r2 at *
      generalize Can.row j 3 = r3 at *
      generalize Can.row j 4 = r4 at *
      have c2 : ∀ o, (wr.alloc o).cell? ⟨w.heap.size, 2, none⟩ = some (.int .i64 d) := fun o => cell_on HS.out.n2 (below_new wr o)
      by_cases hin : r2 ≤ d ∧ d ≤ r3
      · have K := Lib.hid (fun W => at_yes (a := r0) (b := r1) (e := r4) hin.1 hin.2 W)
        have HIN := Lib.hid hin
        clear hin
        go_wp2_with fail
        refine (K.out _).mono ?_
        rintro e w1 ⟨rfl, b1⟩
        have S1 := (HS.out.next (below_new wr (.cells #[.int .i64 r0, .int .i64 r1, .int .i64 r2, .int .i64 r3, .int .i64 r4] 54))).next b1
        have q4 : w1.cell? ⟨wr.heap.size, 4, none⟩ = some (.int .i64 r4) := cell_on (by simp [go_sem]) b1
        have a0 := fun o => cell_on S1.a0 (below_new w1 o)
        have a1 := fun o => cell_on S1.a1 (below_new w1 o)
        have a2 := fun o => cell_on S1.a2 (below_new w1 o)
        have qq := fun o => cell_on q4 (below_new w1 o)
        have n2 := fun o => cell_on S1.n2 (below_new w1 o)
        have SN := Lib.hid (fun o => S1.next (below_new w1 o))
        have hq := fun W => eq_num r0 r1 d k n d W
        clear b1 S1 q4
        by_cases he : r0 = k ∧ r1 = n
        · rw [show decide (r0 = k ∧ r1 = n ∧ d = d) = true by simp [he]] at hq
          have HR := Lib.hid (HY.out (HM.out.trans (decide_eq_true ⟨HIN.out.1, HIN.out.2, he.1, he.2⟩)))
          clear he
          have e0 : 0 ≤ r4 ∧ r4 ≤ 1792 ∧ 0 ≤ d ∧ d ≤ 127 := by have := bd.out; have := HIN.out; omega
          obtain ⟨e1, e2, e3, e4⟩ := e0
          go_wp2_with fail
          go_ret2
          exact ⟨by rw [HR.out]; rfl, (SN.out _).b⟩
        · rw [show decide (r0 = k ∧ r1 = n ∧ d = d) = false by simpa using he] at hq
          have HF := Lib.hid (HM.out.trans (decide_eq_false fun h => he ⟨h.2.2.1, h.2.2.2⟩))
          clear he
          go_wp2_with fail
          go_roundw
          case rel => exact ⟨j + 1, by omega, by go_num, more.out HF.out, SN.out _⟩
          case measure => simp [intOf]; omega
      · have K := Lib.hid (fun W => at_no (a := r0) (b := r1) (e := r4) (c := r2) (d := r3) (x := d) (by omega) W)
        have HF := Lib.hid (HM.out.trans (decide_eq_false fun h => hin ⟨h.1, h.2.1⟩))
        clear hin
        go_wp2_with fail
        refine (K.out _).mono ?_
        rintro e w1 ⟨rfl, b1⟩
        have SN := Lib.hid (fun o => ((HS.out.next (below_new wr (.cells #[.int .i64 r0, .int .i64 r1, .int .i64 r2, .int .i64 r3, .int .i64 r4] 54))).next b1).next (below_new w1 o))
        clear b1
        go_wp2_with fail
        go_roundw
        case rel => exact ⟨j + 1, by omega, by go_num, more.out HF.out, SN.out _⟩
        case measure => simp [intOf]; omega
    · have HR := Lib.hid (HN.out fun i hi => HNO.out i (by omega))
      go_wp2_with fail
      go_ret2
      exact ⟨by rw [HR.out]; rfl, HS.out.b⟩
end Go.Proofs.YtdakogmkpcldbaaDoor
