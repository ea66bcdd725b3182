/-
  EntryOrder: its walk.
-/
import Derived.Test.YtedcjfgilpgpkaaDoorEntKnown
namespace Go.Proofs.YtedcjfgilpgpkaaDoor
namespace Ent
open Go.RowKit Mem
set_option linter.unusedVariables false
set_option linter.unusedSimpArgs false
set_option maxRecDepth 100000

theorem bef_lt {i s j u : Int} (h : i < j ∨ (i = j ∧ s < u)) : befB i s j u = true := by
  unfold befB
  rcases h with h | ⟨rfl, h⟩
  · rw [decide_eq_true h]; rfl
  · rw [decide_eq_true h]; simp
theorem bef_ge {i s j u : Int} (h : ¬ (i < j ∨ (i = j ∧ s < u))) : befB i s j u = false := by
  unfold befB
  by_cases e : i = j
  · subst e
    rw [decide_eq_false (by omega : ¬ i < i), decide_eq_false (by omega : ¬ s < u)]
    simp
  · rw [decide_eq_false (by omega : ¬ i < j)]
    simp [e]
theorem bef_iff (i s j u : Int) : befB i s j u = true ↔ (i < j ∨ (i = j ∧ s < u)) := by
  refine ⟨fun h => ?_, bef_lt⟩
  by_cases e : i < j ∨ (i = j ∧ s < u)
  · exact e
  · rw [bef_ge e] at h
    cases h

abbrev plc (a b : Int) : Array Value := row a b [] 0 0 false false 0 0 0 (.slice none 0 0)
/-- The law's five blocks. -/
structure KO (w : World) (p q x y z : Nat) (a0 a1 a2 b0 b1 b2 : Int) (W : World) : Prop where
  b : Below w.heap.size w W
  g : TG W
  ha : W.heap[p]? = some (.cells #[.int .i64 a0, .int .i64 a1, .int .i64 a2] 47)
  hb : W.heap[q]? = some (.cells #[.int .i64 b0, .int .i64 b1, .int .i64 b2] 47)
  hx : W.heap[x]? = some (.cells (plc a0 b0) 24)
  hy : W.heap[y]? = some (.cells (plc a1 b1) 24)
  hz : W.heap[z]? = some (.cells (plc a2 b2) 24)
theorem KO.next {w W W' : World} {p q x y z : Nat} {a0 a1 a2 b0 b1 b2 : Int} (h : KO w p q x y z a0 a1 a2 b0 b1 b2 W) (hb : Below W.heap.size W W') : KO w p q x y z a0 a1 a2 b0 b1 b2 W' :=
  ⟨h.b.trans (hb.mono h.b.size), h.g.below hb (Nat.le_refl _), (hb.block _ (Array.getElem?_eq_some_iff.1 h.ha).1).trans h.ha, (hb.block _ (Array.getElem?_eq_some_iff.1 h.hb).1).trans h.hb,
    (hb.block _ (Array.getElem?_eq_some_iff.1 h.hx).1).trans h.hx, (hb.block _ (Array.getElem?_eq_some_iff.1 h.hy).1).trans h.hy, (hb.block _ (Array.getElem?_eq_some_iff.1 h.hz).1).trans h.hz⟩
theorem three_cells {W : World} {p : Nat} {a0 a1 a2 : Int} (h : W.heap[p]? = some (.cells #[.int .i64 a0, .int .i64 a1, .int .i64 a2] 47)) :
    W.cell? ⟨p, 0, none⟩ = some (.int .i64 a0) ∧ W.cell? ⟨p, 1, none⟩ = some (.int .i64 a1) ∧ W.cell? ⟨p, 2, none⟩ = some (.int .i64 a2) := by
  have e : ∀ j, W.cell? ⟨p, j, none⟩ = (#[.int .i64 a0, .int .i64 a1, .int .i64 a2] : Array Value)[j]? := fun j => by simp [World.cell?, h]
  exact ⟨e 0, e 1, e 2⟩
theorem old_row (w : World) (o : Obj) {p : Nat} {c : Obj} (h : w.heap[p]? = some c) : (w.alloc o).heap[p]? = some c := ((one_b w o).block _ (Array.getElem?_eq_some_iff.1 h).1).trans h
theorem ko_start (w : World) (hg : TG w) (a0 a1 a2 b0 b1 b2 : Int) : KO w w.heap.size (w.heap.size + 1) (w.heap.size + 1 + 1) (w.heap.size + 1 + 1 + 1) (w.heap.size + 1 + 1 + 1 + 1) a0 a1 a2 b0 b1 b2
    (((((w.alloc (.cells #[.int .i64 a0, .int .i64 a1, .int .i64 a2] 47)).alloc (.cells #[.int .i64 b0, .int .i64 b1, .int .i64 b2] 47)).alloc (.cells (plc a0 b0) 24)).alloc (.cells (plc a1 b1) 24)).alloc (.cells (plc a2 b2) 24)) := by
  have h0 := heap_alloc_new w (.cells #[.int .i64 a0, .int .i64 a1, .int .i64 a2] 47)
  have l0 := one_b w (.cells #[.int .i64 a0, .int .i64 a1, .int .i64 a2] 47)
  have s0 : (w.alloc (.cells #[.int .i64 a0, .int .i64 a1, .int .i64 a2] 47)).heap.size = w.heap.size + 1 := by simp
  generalize w.alloc (.cells #[.int .i64 a0, .int .i64 a1, .int .i64 a2] 47) = W0 at *
  have h1 := heap_alloc_new W0 (.cells #[.int .i64 b0, .int .i64 b1, .int .i64 b2] 47)
  have l1 := one_b W0 (.cells #[.int .i64 b0, .int .i64 b1, .int .i64 b2] 47)
  have s1 : (W0.alloc (.cells #[.int .i64 b0, .int .i64 b1, .int .i64 b2] 47)).heap.size = w.heap.size + 1 + 1 := by simp [s0]
  generalize W0.alloc (.cells #[.int .i64 b0, .int .i64 b1, .int .i64 b2] 47) = W1 at *
  have h2 := heap_alloc_new W1 (.cells (plc a0 b0) 24)
  have l2 := one_b W1 (.cells (plc a0 b0) 24)
  have s2 : (W1.alloc (.cells (plc a0 b0) 24)).heap.size = w.heap.size + 1 + 1 + 1 := by simp [s1]
  generalize W1.alloc (.cells (plc a0 b0) 24) = W2 at *
  have h3 := heap_alloc_new W2 (.cells (plc a1 b1) 24)
  have l3 := one_b W2 (.cells (plc a1 b1) 24)
  have s3 : (W2.alloc (.cells (plc a1 b1) 24)).heap.size = w.heap.size + 1 + 1 + 1 + 1 := by simp [s2]
  generalize W2.alloc (.cells (plc a1 b1) 24) = W3 at *
  have h4 := heap_alloc_new W3 (.cells (plc a2 b2) 24)
  have l4 := one_b W3 (.cells (plc a2 b2) 24)
  generalize W3.alloc (.cells (plc a2 b2) 24) = W4 at *
  rw [s0] at h1
  rw [s1] at h2
  rw [s2] at h3
  rw [s3] at h4
  have lb : Below w.heap.size w W4 := (((l0.trans (l1.mono (by omega))).trans (l2.mono (by omega))).trans (l3.mono (by omega))).trans (l4.mono (by omega))
  refine ⟨lb, hg.below lb (Nat.le_refl _), ?_, ?_, ?_, ?_, h4⟩
  · rw [l4.block _ (by omega), l3.block _ (by omega), l2.block _ (by omega), l1.block _ (by omega)]; exact h0
  · rw [l4.block _ (by omega), l3.block _ (by omega), l2.block _ (by omega)]; exact h1
  · rw [l4.block _ (by omega), l3.block _ (by omega)]; exact h2
  · rw [l4.block _ (by omega)]; exact h3

set_option maxHeartbeats 4000000 in
theorem order_law (a0 a1 a2 b0 b1 b2 : Int) (w : World) (hg : TG w) :
    Calls Tryd.prog 7 #[.agg #[.int .i64 a0, .int .i64 a1, .int .i64 a2], .agg #[.int .i64 b0, .int .i64 b1, .int .i64 b2]] w fun e w' => e = .returned (.bool true) ∧ Below w.heap.size w w' := by
  have S := Lib.hid (ko_start w hg a0 a1 a2 b0 b1 b2)
  have K1 := Lib.hid (fun W => before_any a0 b0 [] 0 0 false false 0 0 0 (.slice none 0 0) a1 b1 [] 0 0 false false 0 0 0 (.slice none 0 0) W)
  have K2 := Lib.hid (fun W => before_any a1 b1 [] 0 0 false false 0 0 0 (.slice none 0 0) a0 b0 [] 0 0 false false 0 0 0 (.slice none 0 0) W)
  have K3 := Lib.hid (fun W => before_any a1 b1 [] 0 0 false false 0 0 0 (.slice none 0 0) a2 b2 [] 0 0 false false 0 0 0 (.slice none 0 0) W)
  have K4 := Lib.hid (fun W => before_any a0 b0 [] 0 0 false false 0 0 0 (.slice none 0 0) a2 b2 [] 0 0 false false 0 0 0 (.slice none 0 0) W)
  have KN := Lib.hid (fun W (hG : TG W) => known_any W hG)
  have HT : befB a0 b0 a1 b1 = true → befB a1 b1 a2 b2 = true → befB a0 b0 a2 b2 = true := by
    rw [bef_iff, bef_iff, bef_iff]
    omega
  have HW : ((a0 == a1) = false ∧ befB a0 b0 a1 b1 = true ∧ befB a1 b1 a0 b0 = false) ∨ ((a0 == a1) = true ∧ (b0 == b1) = false ∧ befB a0 b0 a1 b1 = true ∧ befB a1 b1 a0 b0 = false) ∨
      ((a0 == a1) = false ∧ befB a0 b0 a1 b1 = false ∧ befB a1 b1 a0 b0 = true) ∨ ((a0 == a1) = true ∧ (b0 == b1) = false ∧ befB a0 b0 a1 b1 = false ∧ befB a1 b1 a0 b0 = true) ∨
      ((a0 == a1) = true ∧ (b0 == b1) = true ∧ befB a0 b0 a1 b1 = false ∧ befB a1 b1 a0 b0 = false) := by
    rcases (by omega : a0 < a1 ∨ a1 < a0 ∨ (a0 = a1 ∧ b0 < b1) ∨ (a0 = a1 ∧ b1 < b0) ∨ (a0 = a1 ∧ b0 = b1)) with h | h | ⟨h, h1⟩ | ⟨h, h1⟩ | ⟨h, h1⟩
    · left; exact ⟨by simp; omega, bef_lt (by omega), bef_ge (by omega)⟩
    · right; right; left; exact ⟨by simp; omega, bef_ge (by omega), bef_lt (by omega)⟩
    · right; left; exact ⟨by simp; omega, by simp; omega, bef_lt (by omega), bef_ge (by omega)⟩
    · right; right; right; left; exact ⟨by simp; omega, by simp; omega, bef_ge (by omega), bef_lt (by omega)⟩
    · right; right; right; right; exact ⟨by simp; omega, by simp; omega, bef_ge (by omega), bef_ge (by omega)⟩
  clear hg
  generalize befB a0 b0 a1 b1 = P at *
  generalize befB a1 b1 a0 b0 = Q at *
  generalize befB a1 b1 a2 b2 = R at *
  generalize befB a0 b0 a2 b2 = T at *
  have HT := Lib.hid HT
  go_enter Tryd.func7, Tryd.ntmps7
  go_wp2_with fail
  refine (K1.out _).mono ?_
  rintro e w1 ⟨rfl, b⟩
  have S1 := Lib.hid (S.out.next b)
  clear S b K1
  obtain ⟨x0, x1, x2, x3, x4, x5, x6, x7, x8, x9, x10⟩ := row_cells S1.out.hx
  obtain ⟨y0, y1, y2, y3, y4, y5, y6, y7, y8, y9, y10⟩ := row_cells S1.out.hy
  go_wp2_with fail
  refine (K2.out _).mono ?_
  rintro e w2 ⟨rfl, b⟩
  clear x0 x1 x2 x3 x4 x5 x6 x7 x8 x9 x10 y0 y1 y2 y3 y4 y5 y6 y7 y8 y9 y10
  have S2 := Lib.hid (S1.out.next b)
  clear S1 b K2
  obtain ⟨p0, p1, p2⟩ := three_cells S2.out.ha
  obtain ⟨q0, q1, q2⟩ := three_cells S2.out.hb
  obtain ⟨x0, x1, x2, x3, x4, x5, x6, x7, x8, x9, x10⟩ := row_cells S2.out.hx
  obtain ⟨y0, y1, y2, y3, y4, y5, y6, y7, y8, y9, y10⟩ := row_cells S2.out.hy
  obtain ⟨z0, z1, z2, z3, z4, z5, z6, z7, z8, z9, z10⟩ := row_cells S2.out.hz
  rcases HW with ⟨e, rfl, rfl⟩ | ⟨e, e1, rfl, rfl⟩ | ⟨e, rfl, rfl⟩ | ⟨e, e1, rfl, rfl⟩ | ⟨e, e1, rfl, rfl⟩
  all_goals
    go_wp2_with fail
  iterate 2
    refine (K3.out _).mono ?_
    rintro e w3 ⟨rfl, b⟩
    clear p0 p1 p2 q0 q1 q2 x0 x1 x2 x3 x4 x5 x6 x7 x8 x9 x10 y0 y1 y2 y3 y4 y5 y6 y7 y8 y9 y10 z0 z1 z2 z3 z4 z5 z6 z7 z8 z9 z10
    have S3 := Lib.hid (S2.out.next b)
    clear S2 b
    cases R with
    | false =>
      go_wp2_with fail
      refine (KN.out _ S3.out.g).mono ?_
      rintro e w4 ⟨rfl, b⟩
      have S4 := Lib.hid (S3.out.next b)
      go_wp2_with fail
      go_ret
      exact ⟨rfl, S4.out.b⟩
    | true =>
      have hT : T = true := by simpa using HT.out
      subst hT
      obtain ⟨x0, x1, x2, x3, x4, x5, x6, x7, x8, x9, x10⟩ := row_cells S3.out.hx
      obtain ⟨z0, z1, z2, z3, z4, z5, z6, z7, z8, z9, z10⟩ := row_cells S3.out.hz
      go_wp2_with fail
      refine (K4.out _).mono ?_
      rintro e w4 ⟨rfl, b⟩
      clear x0 x1 x2 x3 x4 x5 x6 x7 x8 x9 x10 z0 z1 z2 z3 z4 z5 z6 z7 z8 z9 z10
      have S4 := Lib.hid (S3.out.next b)
      clear S3 b
      go_wp2_with fail
      refine (KN.out _ S4.out.g).mono ?_
      rintro e w5 ⟨rfl, b⟩
      have S5 := Lib.hid (S4.out.next b)
      go_wp2_with fail
      go_ret
      exact ⟨rfl, S5.out.b⟩
  all_goals
    refine (KN.out _ S2.out.g).mono ?_
    rintro e w4 ⟨rfl, b⟩
    have S4 := Lib.hid (S2.out.next b)
    clear S2 p0 p1 p2 q0 q1 q2 x0 x1 x2 x3 x4 x5 x6 x7 x8 x9 x10 y0 y1 y2 y3 y4 y5 y6 y7 y8 y9 y10 z0 z1 z2 z3 z4 z5 z6 z7 z8 z9 z10
    go_wp2_with fail
    go_ret
    exact ⟨rfl, S4.out.b⟩
end Ent
end Go.Proofs.YtedcjfgilpgpkaaDoor
