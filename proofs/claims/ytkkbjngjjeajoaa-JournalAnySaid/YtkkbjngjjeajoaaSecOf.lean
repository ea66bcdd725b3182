/-
  What a sector's bytes hold: Of of package sector, and the document's.
-/
import Derived.Test.YtkkbjngjjeajoaaProg
import Derived.Test.YtkkbjngjjeajoaaRecParse
import Derived.Test.YtkkbjngjjeajoaaRecRParse
import Derived.Test.YtkkbjngjjeajoaaRecBlank
import Derived.Test.YtkkbjngjjeajoaaSecMath
namespace Go.Proofs.Ytkkbjngjjeajoaa
namespace Sec
open Go.RowKit Mem Rec
set_option linter.unusedVariables false
set_option linter.unusedSimpArgs false

/-- A look as a value. -/
abbrev look_ (x : Lk) (v : Value) (cl : Bool) : Value := .agg #[.int .i64 x.k, .int .u32 x.n, v, .int .i64 (x.cnt : Int), .int .i64 (x.e : Int), .bool cl]

/-- While Of runs: the result's block p, the look at block g. -/
structure LS (T : TypeId) (w W : World) (p g : Nat) (x : Lk) (v : Value) : Prop where
  row : W.heap[g]? = some (.cells #[.int .i64 x.k, .int .u32 x.n, v, .int .i64 (x.cnt : Int), .int .i64 (x.e : Int), .bool false] T)
  res : W.heap[p]? = some (.cells #[.int .i64 0, .int .u32 0, .slice none 0 0, .int .i64 0, .int .i64 0, .bool false] T)
  own : Own W (g + 1) 5 v x.d
  B : Below w.heap.size w W
  lo : w.heap.size ≤ p ∧ p < g ∧ g < W.heap.size
theorem LS.kept {T : TypeId} {w W W' : World} {p g : Nat} {x : Lk} {v : Value} (h : LS T w W p g x v) (b : Below W.heap.size W W') : LS T w W' p g x v := by
  obtain ⟨h1, h2, h3, h4, l1, l2, l3⟩ := h
  have hz := b.size
  exact ⟨(b.block g l3).trans h1, (b.block p (by omega)).trans h2, h3.below b (Nat.le_refl _), h4.trans (b.mono h4.size), l1, l2, by omega⟩
/-- The look's five cells are written. -/
def put5 (W : World) (g : Nat) (a b c d e : Value) : World := ((((W.setCell ⟨g, 0, none⟩ a).setCell ⟨g, 1, none⟩ b).setCell ⟨g, 2, none⟩ c).setCell ⟨g, 4, none⟩ e).setCell ⟨g, 3, none⟩ d
theorem own_far {W W' : World} {b : Nat} {t : TypeId} {v : Value} {d : List UInt8} (o : Own W b t v d) {g : Nat} (hg : g < b) (h : ∀ k, k ≠ g → W'.heap[k]? = W.heap[k]?) : Own W' b t v d := by
  refine ⟨o.1, ?_⟩
  rcases o.2 with hn | ⟨g', cap, cur, hv, hbg, hgg, rest⟩
  · exact .inl hn
  · exact .inr ⟨g', cap, cur, hv, hbg, (h g' (by omega)).trans hgg, rest⟩
theorem LS.next {T : TypeId} {w W : World} {p g : Nat} {x : Lk} {v : Value} (h : LS T w W p g x v) (y : Lk) {v' : Value} (o : Own W (g + 1) 5 v' y.d) :
    LS T w (put5 W g (.int .i64 y.k) (.int .u32 y.n) v' (.int .i64 (y.cnt : Int)) (.int .i64 (y.e : Int))) p g y v' := by
  obtain ⟨h1, h2, h3, h4, l1, l2, l3⟩ := h
  have hk : ∀ k, k ≠ g → (put5 W g (.int .i64 y.k) (.int .u32 y.n) v' (.int .i64 (y.cnt : Int)) (.int .i64 (y.e : Int))).heap[k]? = W.heap[k]? := fun k hk => by
    unfold put5
    rw [heap_setCell_other _ _ _ _ hk, heap_setCell_other _ _ _ _ hk, heap_setCell_other _ _ _ _ hk, heap_setCell_other _ _ _ _ hk, heap_setCell_other _ _ _ _ hk]
  refine ⟨?_, (hk p (by omega)).trans h2, own_far o (Nat.lt_succ_self _) hk, ?_, l1, l2, ?_⟩
  · exact heap_setCell_same _ g 3 _ _ _ (heap_setCell_same _ g 4 _ _ _ (heap_setCell_same _ g 2 _ _ _ (heap_setCell_same _ g 1 _ _ _ (heap_setCell_same _ g 0 _ _ _ h1))))
  · exact ((((h4.setCell (by show _ ≤ g; omega) _).setCell (by show _ ≤ g; omega) _).setCell (by show _ ≤ g; omega) _).setCell (by show _ ≤ g; omega) _).setCell (by show _ ≤ g; omega) _
  · simpa [put5, World.setCell] using l3
/-- The same, in another order. -/
def put5' (W : World) (g : Nat) (a b c d e : Value) : World := ((((W.setCell ⟨g, 0, none⟩ a).setCell ⟨g, 1, none⟩ b).setCell ⟨g, 2, none⟩ c).setCell ⟨g, 3, none⟩ d).setCell ⟨g, 4, none⟩ e
theorem LS.next' {T : TypeId} {w W : World} {p g : Nat} {x : Lk} {v : Value} (h : LS T w W p g x v) (y : Lk) {v' : Value} (o : Own W (g + 1) 5 v' y.d) :
    LS T w (put5' W g (.int .i64 y.k) (.int .u32 y.n) v' (.int .i64 (y.cnt : Int)) (.int .i64 (y.e : Int))) p g y v' := by
  obtain ⟨h1, h2, h3, h4, l1, l2, l3⟩ := h
  have hk : ∀ k, k ≠ g → (put5' W g (.int .i64 y.k) (.int .u32 y.n) v' (.int .i64 (y.cnt : Int)) (.int .i64 (y.e : Int))).heap[k]? = W.heap[k]? := fun k hk => by
    unfold put5'
    rw [heap_setCell_other _ _ _ _ hk, heap_setCell_other _ _ _ _ hk, heap_setCell_other _ _ _ _ hk, heap_setCell_other _ _ _ _ hk, heap_setCell_other _ _ _ _ hk]
  refine ⟨?_, (hk p (by omega)).trans h2, own_far o (Nat.lt_succ_self _) hk, ?_, l1, l2, ?_⟩
  · exact heap_setCell_same _ g 4 _ _ _ (heap_setCell_same _ g 3 _ _ _ (heap_setCell_same _ g 2 _ _ _ (heap_setCell_same _ g 1 _ _ _ (heap_setCell_same _ g 0 _ _ _ h1))))
  · exact ((((h4.setCell (by show _ ≤ g; omega) _).setCell (by show _ ≤ g; omega) _).setCell (by show _ ≤ g; omega) _).setCell (by show _ ≤ g; omega) _).setCell (by show _ ≤ g; omega) _
  · simpa [put5', World.setCell] using l3
/-- The result's six cells are written. -/
def put6 (W : World) (p : Nat) (a b c d e f : Value) : World := (((((W.setCell ⟨p, 0, none⟩ a).setCell ⟨p, 1, none⟩ b).setCell ⟨p, 2, none⟩ c).setCell ⟨p, 3, none⟩ d).setCell ⟨p, 4, none⟩ e).setCell ⟨p, 5, none⟩ f
theorem Rd.drop {w : World} {B : Nat} {A : Option Addr} {bs : List UInt8} (h : Rd w B A bs) (k : Nat) : Rd w B (A.map fun a => a.add k) (bs.drop k) := by
  rcases h with rfl | ⟨g, off, rfl, hg, hc⟩
  · exact .inl (by simp)
  · refine .inr ⟨g, off + k, by simp [Addr.add_lit], hg, fun j hj => ?_⟩
    have hj' : k + j < bs.length := by simp at hj; omega
    rw [Nat.add_assoc, hc _ hj', byt_drop]
theorem LS.fin {T : TypeId} {w W : World} {p g : Nat} {x : Lk} {v : Value} (h : LS T w W p g x v) (cl : Bool) :
    (put6 (W.setCell ⟨g, 5, none⟩ (.bool cl)) p (.int .i64 x.k) (.int .u32 x.n) v (.int .i64 (x.cnt : Int)) (.int .i64 (x.e : Int)) (.bool cl)).heap[p]? = some (.cells #[.int .i64 x.k, .int .u32 x.n, v, .int .i64 (x.cnt : Int), .int .i64 (x.e : Int), .bool cl] T) ∧
    Own (put6 (W.setCell ⟨g, 5, none⟩ (.bool cl)) p (.int .i64 x.k) (.int .u32 x.n) v (.int .i64 (x.cnt : Int)) (.int .i64 (x.e : Int)) (.bool cl)) w.heap.size 5 v x.d ∧
    Below w.heap.size w (put6 (W.setCell ⟨g, 5, none⟩ (.bool cl)) p (.int .i64 x.k) (.int .u32 x.n) v (.int .i64 (x.cnt : Int)) (.int .i64 (x.e : Int)) (.bool cl)) := by
  obtain ⟨h1, h2, h3, h4, l1, l2, l3⟩ := h
  have r1 : (W.setCell ⟨g, 5, none⟩ (.bool cl)).heap[p]? = some (.cells #[.int .i64 0, .int .u32 0, .slice none 0 0, .int .i64 0, .int .i64 0, .bool false] T) := (heap_setCell_other _ _ _ _ (by show p ≠ g; omega)).trans h2
  have o1 : Own (W.setCell ⟨g, 5, none⟩ (.bool cl)) (g + 1) 5 v x.d := own_far h3 (Nat.lt_succ_self _) (fun k hk => heap_setCell_other _ _ _ _ hk)
  have b1 : Below w.heap.size w (W.setCell ⟨g, 5, none⟩ (.bool cl)) := h4.setCell (by show _ ≤ g; omega) _
  generalize W.setCell ⟨g, 5, none⟩ (.bool cl) = W1 at *
  refine ⟨?_, (own_far o1 (show p < g + 1 by omega) fun k hk => ?_).lower (by omega), ?_⟩
  · exact heap_setCell_same _ p 5 _ _ _ (heap_setCell_same _ p 4 _ _ _ (heap_setCell_same _ p 3 _ _ _ (heap_setCell_same _ p 2 _ _ _ (heap_setCell_same _ p 1 _ _ _ (heap_setCell_same _ p 0 _ _ _ r1)))))
  · unfold put6
    rw [heap_setCell_other _ _ _ _ hk, heap_setCell_other _ _ _ _ hk, heap_setCell_other _ _ _ _ hk, heap_setCell_other _ _ _ _ hk, heap_setCell_other _ _ _ _ hk, heap_setCell_other _ _ _ _ hk]
  · exact (((((b1.setCell l1 _).setCell l1 _).setCell l1 _).setCell l1 _).setCell l1 _).setCell l1 _
theorem size_rlook : (Try.prog.info? 129).map (·.size) = some 6 := by kernel_rfl
theorem size_look : (Try.prog.info? 118).map (·.size) = some 6 := by kernel_rfl
/-- What Of ends with. -/
def LooksTo (w : World) (bs : List UInt8) (e : Ending) (w' : World) : Prop :=
  ∃ v, e = .returned (look_ (look bs) v (blankB (bs.drop (look bs).e))) ∧ Own w' w.heap.size 5 v (look bs).d ∧ Below w.heap.size w w'
/-- What a call returns whose one result, a struct, lives in memory. -/
theorem results_row1 {P : Program} {fn : Func} {p : Tmp} {ty : TypeId} (h : fn.results = #[.cell p ty]) (tmps : Array Value) (w : World) (g : Nat) (t : TypeId) (cs : Array Value) (fr : Nat × Nat) (d : TypeDesc)
    (hp : tmps.getD p undef = .pointer (some ⟨g, 0, none⟩)) (hg : w.heap[g]? = some (.cells cs t fr))
    (hu : P.underlying ty = some d) (hd : (match d with | .struct _ | .array _ _ => true | _ => false) = true) (hi : (P.info? ty).map (·.size) = some cs.size) :
    (results fn tmps).run P w = .ok (.agg cs) w := by
  have hp' : tmps[p]?.getD undef = .pointer (some ⟨g, 0, none⟩) := by simpa using hp
  simp [results, h, hp', asAddr, run_loadVar_row w g t ty cs fr d hg hu hd hi]

set_option maxRecDepth 100000 in
set_option maxHeartbeats 1000000 in
theorem of_any (A : Option Addr) (n c : Nat) (bs : List UInt8) (w : World) (hr : Rd w w.heap.size A bs) (hn : n = bs.length) (hle : n ≤ 1099511627776) (hcap : n ≤ c) (hc : c ≤ maxLen) :
    Calls Try.prog 89 #[.slice A n c] w (LooksTo w bs) := by
  subst hn
  go_enter Try.func89, Try.ntmps89
  go_wp2_with fail
  go_step3
  go_wp2_with fail
  go_step3
  go_wp2_with fail
  have L0 : LS 118 w ((w.alloc (.cells #[.int .i64 0, .int .u32 0, .slice none 0 0, .int .i64 0, .int .i64 0, .bool false] 118)).alloc (.cells #[.int .i64 0, .int .u32 0, .slice none 0 0, .int .i64 0, .int .i64 0, .bool false] 118)) w.heap.size (w.heap.size + 1) Lk.zero (.slice none 0 0) := by
    refine ⟨?_, ?_, Own.nil _ _ _, below2 _ _ _, Nat.le_refl _, by omega, by simp only [World.size_alloc]; omega⟩
    · exact heap_alloc2_new _ _ _
    · exact heap_alloc2_old _ _ _
  go_loopw [4] (fun _ wr => ∃ x v, LS 118 w wr w.heap.size (w.heap.size + 1) x v ∧ Way bs x) (fun _ wr => bs.length + 1 - (intOf ((wr.cell? ⟨w.heap.size + 1, 4, none⟩).getD undef)).toNat)
  case atStart => exact ⟨Lk.zero, _, L0, Way.zero bs⟩
  case round =>
    obtain ⟨x, v, L, hW⟩ := hrel
    have r1 := hr.below L.B
    have P := Lib.hid (parse_any A bs.length c (x.e : Int) bs wr (r1.mono L.B.size) rfl hle hcap hc (by omega) (by have := hW.1; omega))
    have hN := Lib.hid (fun h : ¬ Stop bs x => next_to h)
    have hX := Lib.hid (fun h : Stop bs x => hW.stop h)
    have hY := Lib.hid (fun h : ¬ Stop bs x => hW.next h)
    obtain ⟨⟨K, M, D, TO, E⟩, hP⟩ : ∃ P, parseA bs (x.e : Int) = P := ⟨_, rfl⟩
    have hK := parse_bd (bs := bs) (at_ := (x.e : Int))
    have hS : Stop bs x ↔ (E ≠ 0 ∨ 0 < x.cnt ∧ (x.n = 4294967295 ∨ M ≠ x.n + 1)) := by unfold Stop; rw [hP]
    have hM0 : E = 0 → M ≠ 0 := by
      intro h0
      have := parse_only (bs := bs) (at_ := (x.e : Int)) (by rw [hP]; exact h0)
      rw [hP] at this
      obtain ⟨_, _, e1, _⟩ := this
      exact (err_ok e1).2.1
    have hxn := hW.2.2.2.1.2
    have hS := Lib.hid hS
    simp only [next, hP] at hN hX hY hK
    rw [hP] at P
    have hb := hW.1
    have hcn := hW.2.2.1
    clear hP
    have c0 := cell_of L.row 0
    have c1 := cell_of L.row 1
    have c2 := cell_of L.row 2
    have c3 := cell_of L.row 3
    have c4 := cell_of L.row 4
    go_wp2_with fail
    refine P.out.mono ?_
    rintro e w1 ⟨v1, rfl, o1, b1⟩
    obtain ⟨A1, cc1, rfl, _⟩ := o1.form
    have L1 := L.kept b1
    clear c0 c1 c2 c3 c4 P
    have b2 := below1 w1 (.cells #[.int .i64 K, .int .u32 M, .slice A1 D.length cc1] 39)
    have rb := heap_alloc_new w1 (.cells #[.int .i64 K, .int .u32 M, .slice A1 D.length cc1] 39)
    have L2 := L1.kept b2
    have o2 := (o1.lower (show w.heap.size + 1 + 1 ≤ wr.heap.size from L.lo.2.2)).below b2 (Nat.le_refl _)
    have c0 := cell_of L2.row 0
    have c1 := cell_of L2.row 1
    have c2 := cell_of L2.row 2
    have c3 := cell_of L2.row 3
    have c4 := cell_of L2.row 4
    have z0 := frozen_of_row _ _ 0 _ _ L2.row
    have z1 := frozen_of_row _ _ 1 _ _ L2.row
    have z2 := frozen_of_row _ _ 2 _ _ L2.row
    have z3 := frozen_of_row _ _ 3 _ _ L2.row
    have z4 := frozen_of_row _ _ 4 _ _ L2.row
    have q0 := cell_of rb 0
    have q1 := cell_of rb 1
    have q2 := cell_of rb 2
    go_wp2_with fail
    · have hst : Stop bs x := by
        rw [hS.out]
        simp only [bne_iff_ne, bne_eq_false_iff_eq, beq_iff_eq, beq_eq_false_iff_ne, ne_eq] at *
        omega
      have hlk := hX.out hst
      have c5 := cell_of L2.row 5
      have z5 := frozen_of_row _ _ 5 _ _ L2.row
      have RD := (hr.below L2.B).mono L2.B.size
      refine (blank_any _ _ _ _ (bs.drop x.e) _ (by first | exact Sec.Rd.drop RD x.e | exact (.inl (by simp; omega) : Rd _ w.heap.size _ (bs.drop x.e))) (by simp) (by omega)).mono ?_
      rintro e w' ⟨rfl, rfl⟩
      obtain ⟨Av, cv, rfl, _⟩ := L2.own.form
      have p0 := cell_of L2.res 0
      have p1 := cell_of L2.res 1
      have p2 := cell_of L2.res 2
      have p3 := cell_of L2.res 3
      have p4 := cell_of L2.res 4
      have p5 := cell_of L2.res 5
      have y0 := frozen_of_row _ _ 0 _ _ L2.res
      have y1 := frozen_of_row _ _ 1 _ _ L2.res
      have y2 := frozen_of_row _ _ 2 _ _ L2.res
      have y3 := frozen_of_row _ _ 3 _ _ L2.res
      have y4 := frozen_of_row _ _ 4 _ _ L2.res
      have y5 := frozen_of_row _ _ 5 _ _ L2.res
      have F := L2.fin (blankB (bs.drop x.e))
      unfold put6 at F
      go_wp2_with fail
      rw [Exit.noGoto_ret]
      (try simp only [Exit.inBlock, Exit.then])
      refine bodyPost_ret (results_row1 rfl _ _ w.heap.size _ _ _ _ rfl F.1 Try.underlying118 rfl size_look) rfl ?_
      unfold LooksTo
      rw [hlk]
      exact ⟨_, rfl, F.2⟩
    · have hst : Stop bs x := by
        rw [hS.out]
        simp only [bne_iff_ne, bne_eq_false_iff_eq, beq_iff_eq, beq_eq_false_iff_ne, ne_eq] at *
        omega
      have hlk := hX.out hst
      have c5 := cell_of L2.row 5
      have z5 := frozen_of_row _ _ 5 _ _ L2.row
      have RD := (hr.below L2.B).mono L2.B.size
      refine (blank_any _ _ _ _ (bs.drop x.e) _ (by first | exact Sec.Rd.drop RD x.e | exact (.inl (by simp; omega) : Rd _ w.heap.size _ (bs.drop x.e))) (by simp) (by omega)).mono ?_
      rintro e w' ⟨rfl, rfl⟩
      obtain ⟨Av, cv, rfl, _⟩ := L2.own.form
      have p0 := cell_of L2.res 0
      have p1 := cell_of L2.res 1
      have p2 := cell_of L2.res 2
      have p3 := cell_of L2.res 3
      have p4 := cell_of L2.res 4
      have p5 := cell_of L2.res 5
      have y0 := frozen_of_row _ _ 0 _ _ L2.res
      have y1 := frozen_of_row _ _ 1 _ _ L2.res
      have y2 := frozen_of_row _ _ 2 _ _ L2.res
      have y3 := frozen_of_row _ _ 3 _ _ L2.res
      have y4 := frozen_of_row _ _ 4 _ _ L2.res
      have y5 := frozen_of_row _ _ 5 _ _ L2.res
      have F := L2.fin (blankB (bs.drop x.e))
      unfold put6 at F
      go_wp2_with fail
      rw [Exit.noGoto_ret]
      (try simp only [Exit.inBlock, Exit.then])
      refine bodyPost_ret (results_row1 rfl _ _ w.heap.size _ _ _ _ rfl F.1 Try.underlying118 rfl size_look) rfl ?_
      unfold LooksTo
      rw [hlk]
      exact ⟨_, rfl, F.2⟩
    · have hst : Stop bs x := by
        rw [hS.out]
        simp only [bne_iff_ne, bne_eq_false_iff_eq, beq_iff_eq, beq_eq_false_iff_ne, ne_eq] at *
        omega
      have hlk := hX.out hst
      have c5 := cell_of L2.row 5
      have z5 := frozen_of_row _ _ 5 _ _ L2.row
      have RD := (hr.below L2.B).mono L2.B.size
      refine (blank_any _ _ _ _ (bs.drop x.e) _ (by first | exact Sec.Rd.drop RD x.e | exact (.inl (by simp; omega) : Rd _ w.heap.size _ (bs.drop x.e))) (by simp) (by omega)).mono ?_
      rintro e w' ⟨rfl, rfl⟩
      obtain ⟨Av, cv, rfl, _⟩ := L2.own.form
      have p0 := cell_of L2.res 0
      have p1 := cell_of L2.res 1
      have p2 := cell_of L2.res 2
      have p3 := cell_of L2.res 3
      have p4 := cell_of L2.res 4
      have p5 := cell_of L2.res 5
      have y0 := frozen_of_row _ _ 0 _ _ L2.res
      have y1 := frozen_of_row _ _ 1 _ _ L2.res
      have y2 := frozen_of_row _ _ 2 _ _ L2.res
      have y3 := frozen_of_row _ _ 3 _ _ L2.res
      have y4 := frozen_of_row _ _ 4 _ _ L2.res
      have y5 := frozen_of_row _ _ 5 _ _ L2.res
      have F := L2.fin (blankB (bs.drop x.e))
      unfold put6 at F
      go_wp2_with fail
      rw [Exit.noGoto_ret]
      (try simp only [Exit.inBlock, Exit.then])
      refine bodyPost_ret (results_row1 rfl _ _ w.heap.size _ _ _ _ rfl F.1 Try.underlying118 rfl size_look) rfl ?_
      unfold LooksTo
      rw [hlk]
      exact ⟨_, rfl, F.2⟩
    · have hst : Stop bs x := by
        rw [hS.out]
        simp only [bne_iff_ne, bne_eq_false_iff_eq, beq_iff_eq, beq_eq_false_iff_ne, ne_eq] at *
        omega
      have hlk := hX.out hst
      have c5 := cell_of L2.row 5
      have z5 := frozen_of_row _ _ 5 _ _ L2.row
      have RD := (hr.below L2.B).mono L2.B.size
      refine (blank_any _ _ _ _ (bs.drop x.e) _ (by first | exact Sec.Rd.drop RD x.e | exact (.inl (by simp; omega) : Rd _ w.heap.size _ (bs.drop x.e))) (by simp) (by omega)).mono ?_
      rintro e w' ⟨rfl, rfl⟩
      obtain ⟨Av, cv, rfl, _⟩ := L2.own.form
      have p0 := cell_of L2.res 0
      have p1 := cell_of L2.res 1
      have p2 := cell_of L2.res 2
      have p3 := cell_of L2.res 3
      have p4 := cell_of L2.res 4
      have p5 := cell_of L2.res 5
      have y0 := frozen_of_row _ _ 0 _ _ L2.res
      have y1 := frozen_of_row _ _ 1 _ _ L2.res
      have y2 := frozen_of_row _ _ 2 _ _ L2.res
      have y3 := frozen_of_row _ _ 3 _ _ L2.res
      have y4 := frozen_of_row _ _ 4 _ _ L2.res
      have y5 := frozen_of_row _ _ 5 _ _ L2.res
      have F := L2.fin (blankB (bs.drop x.e))
      unfold put6 at F
      go_wp2_with fail
      rw [Exit.noGoto_ret]
      (try simp only [Exit.inBlock, Exit.then])
      refine bodyPost_ret (results_row1 rfl _ _ w.heap.size _ _ _ _ rfl F.1 Try.underlying118 rfl size_look) rfl ?_
      unfold LooksTo
      rw [hlk]
      exact ⟨_, rfl, F.2⟩
    all_goals
      have hns : ¬ Stop bs x := by
        rw [hS.out]
        simp only [bne_iff_ne, bne_eq_false_iff_eq, beq_iff_eq, beq_eq_false_iff_ne, ne_eq] at *
        omega
      have hn2 := hN.out hns
      have L3 := L2.next ⟨K, M, D, x.cnt + 1, TO.toNat⟩ o2
      have m3 := cell_of L3.row 4
      have m0 := cell_of L.row 4
      unfold put5 at L3 m3
      rw [← hn2.1] at L3 m3
      rw [show ((x.cnt + 1 : Nat) : Int) = (x.cnt : Int) + 1 by omega] at L3 m3
      refine ⟨⟨_, _, L3, hY.out hns⟩, ?_⟩
      rw [m3, m0]
      simp [intOf]
      omega

set_option maxRecDepth 100000 in
set_option maxHeartbeats 2000000 in
theorem rof_any (A : Option Addr) (n c : Nat) (bs : List UInt8) (w : World) (hr : Rd w w.heap.size A bs) (hn : n = bs.length) (hle : n ≤ 1099511627776) (hcap : n ≤ c) (hc : c ≤ maxLen) :
    Calls Try.prog 109 #[.slice A n c] w (LooksTo w bs) := by
  subst hn
  go_enter Try.func109, Try.ntmps109
  go_wp2_with fail
  have L0 : LS 129 w ((w.alloc (.cells #[.int .i64 0, .int .u32 0, .slice none 0 0, .int .i64 0, .int .i64 0, .bool false] 129)).alloc (.cells #[.int .i64 0, .int .u32 0, .slice none 0 0, .int .i64 0, .int .i64 0, .bool false] 129)) w.heap.size (w.heap.size + 1) Lk.zero (.slice none 0 0) := by
    refine ⟨?_, ?_, Own.nil _ _ _, below2 _ _ _, Nat.le_refl _, by omega, by simp only [World.size_alloc]; omega⟩
    · exact heap_alloc2_new _ _ _
    · exact heap_alloc2_old _ _ _
  go_loopw [4] (fun _ wr => ∃ x v, LS 129 w wr w.heap.size (w.heap.size + 1) x v ∧ Way bs x) (fun _ wr => bs.length + 1 - (intOf ((wr.cell? ⟨w.heap.size + 1, 4, none⟩).getD undef)).toNat)
  case atStart => exact ⟨Lk.zero, _, L0, Way.zero bs⟩
  case round =>
    obtain ⟨x, v, L, hW⟩ := hrel
    have r1 := hr.below L.B
    have P := Lib.hid (rparse_any A bs.length c (x.e : Int) bs wr (r1.mono L.B.size) rfl hle hcap hc (by omega) (by have := hW.1; omega))
    have hN := Lib.hid (fun h : ¬ Stop bs x => next_to h)
    have hX := Lib.hid (fun h : Stop bs x => hW.stop h)
    have hY := Lib.hid (fun h : ¬ Stop bs x => hW.next h)
    obtain ⟨⟨K, M, D, TO, E⟩, hP⟩ : ∃ P, parseA bs (x.e : Int) = P := ⟨_, rfl⟩
    have hK := parse_bd (bs := bs) (at_ := (x.e : Int))
    have hS : Stop bs x ↔ (E ≠ 0 ∨ 0 < x.cnt ∧ (x.n = 4294967295 ∨ M ≠ x.n + 1)) := by unfold Stop; rw [hP]
    have hM0 : E = 0 → M ≠ 0 := by
      intro h0
      have := parse_only (bs := bs) (at_ := (x.e : Int)) (by rw [hP]; exact h0)
      rw [hP] at this
      obtain ⟨_, _, e1, _⟩ := this
      exact (err_ok e1).2.1
    have hxn := hW.2.2.2.1.2
    have hS := Lib.hid hS
    simp only [next, hP] at hN hX hY hK
    rw [hP] at P
    have hb := hW.1
    have hcn := hW.2.2.1
    clear hP
    have c0 := cell_of L.row 0
    have c1 := cell_of L.row 1
    have c2 := cell_of L.row 2
    have c3 := cell_of L.row 3
    have c4 := cell_of L.row 4
    go_wp2_with fail
    refine P.out.mono ?_
    rintro e w1 ⟨v1, rfl, o1, b1⟩
    obtain ⟨A1, cc1, rfl, _⟩ := o1.form
    have L1 := L.kept b1
    clear c0 c1 c2 c3 c4 P
    have b2 := below1 w1 (.cells #[.int .i64 K, .int .u32 M, .slice A1 D.length cc1] 39)
    have rb := heap_alloc_new w1 (.cells #[.int .i64 K, .int .u32 M, .slice A1 D.length cc1] 39)
    have L2 := L1.kept b2
    have o2 := (o1.lower (show w.heap.size + 1 + 1 ≤ wr.heap.size from L.lo.2.2)).below b2 (Nat.le_refl _)
    have c0 := cell_of L2.row 0
    have c1 := cell_of L2.row 1
    have c2 := cell_of L2.row 2
    have c3 := cell_of L2.row 3
    have c4 := cell_of L2.row 4
    have z0 := frozen_of_row _ _ 0 _ _ L2.row
    have z1 := frozen_of_row _ _ 1 _ _ L2.row
    have z2 := frozen_of_row _ _ 2 _ _ L2.row
    have z3 := frozen_of_row _ _ 3 _ _ L2.row
    have z4 := frozen_of_row _ _ 4 _ _ L2.row
    have q0 := cell_of rb 0
    have q1 := cell_of rb 1
    have q2 := cell_of rb 2
    go_wp2_with fail
    · have hst : Stop bs x := by
        rw [hS.out]
        simp only [bne_iff_ne, bne_eq_false_iff_eq, beq_iff_eq, beq_eq_false_iff_ne, ne_eq] at *
        omega
      have hlk := hX.out hst
      have c5 := cell_of L2.row 5
      have z5 := frozen_of_row _ _ 5 _ _ L2.row
      have RD := (hr.below L2.B).mono L2.B.size
      refine (rblank_any _ _ _ _ (bs.drop x.e) _ (by first | exact Sec.Rd.drop RD x.e | exact (.inl (by simp; omega) : Rd _ w.heap.size _ (bs.drop x.e))) (by simp) (by omega)).mono ?_
      rintro e w' ⟨rfl, rfl⟩
      obtain ⟨Av, cv, rfl, _⟩ := L2.own.form
      have p0 := cell_of L2.res 0
      have p1 := cell_of L2.res 1
      have p2 := cell_of L2.res 2
      have p3 := cell_of L2.res 3
      have p4 := cell_of L2.res 4
      have p5 := cell_of L2.res 5
      have y0 := frozen_of_row _ _ 0 _ _ L2.res
      have y1 := frozen_of_row _ _ 1 _ _ L2.res
      have y2 := frozen_of_row _ _ 2 _ _ L2.res
      have y3 := frozen_of_row _ _ 3 _ _ L2.res
      have y4 := frozen_of_row _ _ 4 _ _ L2.res
      have y5 := frozen_of_row _ _ 5 _ _ L2.res
      have F := L2.fin (blankB (bs.drop x.e))
      unfold put6 at F
      (try rw [show x.n = 4294967295 by assumption] at F)
      go_wp2_with fail
      (try simp only [Exit.inBlock, Exit.then])
      refine bodyPost_ret (results_row1 rfl _ _ w.heap.size _ _ _ _ rfl F.1 Try.underlying129 rfl size_rlook) rfl ?_
      unfold LooksTo
      rw [hlk]
      refine ⟨_, ?_, F.2⟩
      first | rfl | (unfold look_; rw [show x.n = 4294967295 by assumption])
    · have hst : Stop bs x := by
        rw [hS.out]
        simp only [bne_iff_ne, bne_eq_false_iff_eq, beq_iff_eq, beq_eq_false_iff_ne, ne_eq] at *
        omega
      have hlk := hX.out hst
      have c5 := cell_of L2.row 5
      have z5 := frozen_of_row _ _ 5 _ _ L2.row
      have RD := (hr.below L2.B).mono L2.B.size
      refine (rblank_any _ _ _ _ (bs.drop x.e) _ (by first | exact Sec.Rd.drop RD x.e | exact (.inl (by simp; omega) : Rd _ w.heap.size _ (bs.drop x.e))) (by simp) (by omega)).mono ?_
      rintro e w' ⟨rfl, rfl⟩
      obtain ⟨Av, cv, rfl, _⟩ := L2.own.form
      have p0 := cell_of L2.res 0
      have p1 := cell_of L2.res 1
      have p2 := cell_of L2.res 2
      have p3 := cell_of L2.res 3
      have p4 := cell_of L2.res 4
      have p5 := cell_of L2.res 5
      have y0 := frozen_of_row _ _ 0 _ _ L2.res
      have y1 := frozen_of_row _ _ 1 _ _ L2.res
      have y2 := frozen_of_row _ _ 2 _ _ L2.res
      have y3 := frozen_of_row _ _ 3 _ _ L2.res
      have y4 := frozen_of_row _ _ 4 _ _ L2.res
      have y5 := frozen_of_row _ _ 5 _ _ L2.res
      have F := L2.fin (blankB (bs.drop x.e))
      unfold put6 at F
      (try rw [show x.n = 4294967295 by assumption] at F)
      go_wp2_with fail
      (try simp only [Exit.inBlock, Exit.then])
      refine bodyPost_ret (results_row1 rfl _ _ w.heap.size _ _ _ _ rfl F.1 Try.underlying129 rfl size_rlook) rfl ?_
      unfold LooksTo
      rw [hlk]
      refine ⟨_, ?_, F.2⟩
      first | rfl | (unfold look_; rw [show x.n = 4294967295 by assumption])
    · have hst : Stop bs x := by
        rw [hS.out]
        simp only [bne_iff_ne, bne_eq_false_iff_eq, beq_iff_eq, beq_eq_false_iff_ne, ne_eq] at *
        omega
      have hlk := hX.out hst
      have c5 := cell_of L2.row 5
      have z5 := frozen_of_row _ _ 5 _ _ L2.row
      have RD := (hr.below L2.B).mono L2.B.size
      refine (rblank_any _ _ _ _ (bs.drop x.e) _ (by first | exact Sec.Rd.drop RD x.e | exact (.inl (by simp; omega) : Rd _ w.heap.size _ (bs.drop x.e))) (by simp) (by omega)).mono ?_
      rintro e w' ⟨rfl, rfl⟩
      obtain ⟨Av, cv, rfl, _⟩ := L2.own.form
      have p0 := cell_of L2.res 0
      have p1 := cell_of L2.res 1
      have p2 := cell_of L2.res 2
      have p3 := cell_of L2.res 3
      have p4 := cell_of L2.res 4
      have p5 := cell_of L2.res 5
      have y0 := frozen_of_row _ _ 0 _ _ L2.res
      have y1 := frozen_of_row _ _ 1 _ _ L2.res
      have y2 := frozen_of_row _ _ 2 _ _ L2.res
      have y3 := frozen_of_row _ _ 3 _ _ L2.res
      have y4 := frozen_of_row _ _ 4 _ _ L2.res
      have y5 := frozen_of_row _ _ 5 _ _ L2.res
      have F := L2.fin (blankB (bs.drop x.e))
      unfold put6 at F
      (try rw [show x.n = 4294967295 by assumption] at F)
      go_wp2_with fail
      (try simp only [Exit.inBlock, Exit.then])
      refine bodyPost_ret (results_row1 rfl _ _ w.heap.size _ _ _ _ rfl F.1 Try.underlying129 rfl size_rlook) rfl ?_
      unfold LooksTo
      rw [hlk]
      refine ⟨_, ?_, F.2⟩
      first | rfl | (unfold look_; rw [show x.n = 4294967295 by assumption])
    · have hst : Stop bs x := by
        rw [hS.out]
        simp only [bne_iff_ne, bne_eq_false_iff_eq, beq_iff_eq, beq_eq_false_iff_ne, ne_eq] at *
        omega
      have hlk := hX.out hst
      have c5 := cell_of L2.row 5
      have z5 := frozen_of_row _ _ 5 _ _ L2.row
      have RD := (hr.below L2.B).mono L2.B.size
      refine (rblank_any _ _ _ _ (bs.drop x.e) _ (by first | exact Sec.Rd.drop RD x.e | exact (.inl (by simp; omega) : Rd _ w.heap.size _ (bs.drop x.e))) (by simp) (by omega)).mono ?_
      rintro e w' ⟨rfl, rfl⟩
      obtain ⟨Av, cv, rfl, _⟩ := L2.own.form
      have p0 := cell_of L2.res 0
      have p1 := cell_of L2.res 1
      have p2 := cell_of L2.res 2
      have p3 := cell_of L2.res 3
      have p4 := cell_of L2.res 4
      have p5 := cell_of L2.res 5
      have y0 := frozen_of_row _ _ 0 _ _ L2.res
      have y1 := frozen_of_row _ _ 1 _ _ L2.res
      have y2 := frozen_of_row _ _ 2 _ _ L2.res
      have y3 := frozen_of_row _ _ 3 _ _ L2.res
      have y4 := frozen_of_row _ _ 4 _ _ L2.res
      have y5 := frozen_of_row _ _ 5 _ _ L2.res
      have F := L2.fin (blankB (bs.drop x.e))
      unfold put6 at F
      (try rw [show x.n = 4294967295 by assumption] at F)
      go_wp2_with fail
      (try simp only [Exit.inBlock, Exit.then])
      refine bodyPost_ret (results_row1 rfl _ _ w.heap.size _ _ _ _ rfl F.1 Try.underlying129 rfl size_rlook) rfl ?_
      unfold LooksTo
      rw [hlk]
      refine ⟨_, ?_, F.2⟩
      first | rfl | (unfold look_; rw [show x.n = 4294967295 by assumption])
    · have hns : ¬ Stop bs x := by
        rw [hS.out]
        simp only [bne_iff_ne, bne_eq_false_iff_eq, beq_iff_eq, beq_eq_false_iff_ne, ne_eq] at *
        omega
      have hn2 := hN.out hns
      have L3 := L2.next' ⟨K, M, D, x.cnt + 1, TO.toNat⟩ o2
      have m3 := cell_of L3.row 4
      have m0 := cell_of L.row 4
      unfold put5' at L3 m3
      rw [← hn2.1] at L3 m3
      rw [show ((x.cnt + 1 : Nat) : Int) = (x.cnt : Int) + 1 by omega] at L3 m3
      refine ⟨⟨_, _, L3, hY.out hns⟩, ?_⟩
      rw [m3, m0]
      simp [intOf]
      omega
    · have hns : ¬ Stop bs x := by
        rw [hS.out]
        simp only [bne_iff_ne, bne_eq_false_iff_eq, beq_iff_eq, beq_eq_false_iff_ne, ne_eq] at *
        omega
      have hn2 := hN.out hns
      have L3 := L2.next' ⟨K, M, D, x.cnt + 1, TO.toNat⟩ o2
      have m3 := cell_of L3.row 4
      have m0 := cell_of L.row 4
      unfold put5' at L3 m3
      rw [← hn2.1] at L3 m3
      rw [show ((x.cnt + 1 : Nat) : Int) = (x.cnt : Int) + 1 by omega] at L3 m3
      refine ⟨⟨_, _, L3, hY.out hns⟩, ?_⟩
      rw [m3, m0]
      simp [intOf]
      omega
    · have hst : Stop bs x := by
        rw [hS.out]
        simp only [bne_iff_ne, bne_eq_false_iff_eq, beq_iff_eq, beq_eq_false_iff_ne, ne_eq] at *
        omega
      have hlk := hX.out hst
      have c5 := cell_of L2.row 5
      have z5 := frozen_of_row _ _ 5 _ _ L2.row
      have RD := (hr.below L2.B).mono L2.B.size
      refine (rblank_any _ _ _ _ (bs.drop x.e) _ (by first | exact Sec.Rd.drop RD x.e | exact (.inl (by simp; omega) : Rd _ w.heap.size _ (bs.drop x.e))) (by simp) (by omega)).mono ?_
      rintro e w' ⟨rfl, rfl⟩
      obtain ⟨Av, cv, rfl, _⟩ := L2.own.form
      have p0 := cell_of L2.res 0
      have p1 := cell_of L2.res 1
      have p2 := cell_of L2.res 2
      have p3 := cell_of L2.res 3
      have p4 := cell_of L2.res 4
      have p5 := cell_of L2.res 5
      have y0 := frozen_of_row _ _ 0 _ _ L2.res
      have y1 := frozen_of_row _ _ 1 _ _ L2.res
      have y2 := frozen_of_row _ _ 2 _ _ L2.res
      have y3 := frozen_of_row _ _ 3 _ _ L2.res
      have y4 := frozen_of_row _ _ 4 _ _ L2.res
      have y5 := frozen_of_row _ _ 5 _ _ L2.res
      have F := L2.fin (blankB (bs.drop x.e))
      unfold put6 at F
      (try rw [show x.n = 4294967295 by assumption] at F)
      go_wp2_with fail
      (try simp only [Exit.inBlock, Exit.then])
      refine bodyPost_ret (results_row1 rfl _ _ w.heap.size _ _ _ _ rfl F.1 Try.underlying129 rfl size_rlook) rfl ?_
      unfold LooksTo
      rw [hlk]
      refine ⟨_, ?_, F.2⟩
      first | rfl | (unfold look_; rw [show x.n = 4294967295 by assumption])
    · have hst : Stop bs x := by
        rw [hS.out]
        simp only [bne_iff_ne, bne_eq_false_iff_eq, beq_iff_eq, beq_eq_false_iff_ne, ne_eq] at *
        omega
      have hlk := hX.out hst
      have c5 := cell_of L2.row 5
      have z5 := frozen_of_row _ _ 5 _ _ L2.row
      have RD := (hr.below L2.B).mono L2.B.size
      refine (rblank_any _ _ _ _ (bs.drop x.e) _ (by first | exact Sec.Rd.drop RD x.e | exact (.inl (by simp; omega) : Rd _ w.heap.size _ (bs.drop x.e))) (by simp) (by omega)).mono ?_
      rintro e w' ⟨rfl, rfl⟩
      obtain ⟨Av, cv, rfl, _⟩ := L2.own.form
      have p0 := cell_of L2.res 0
      have p1 := cell_of L2.res 1
      have p2 := cell_of L2.res 2
      have p3 := cell_of L2.res 3
      have p4 := cell_of L2.res 4
      have p5 := cell_of L2.res 5
      have y0 := frozen_of_row _ _ 0 _ _ L2.res
      have y1 := frozen_of_row _ _ 1 _ _ L2.res
      have y2 := frozen_of_row _ _ 2 _ _ L2.res
      have y3 := frozen_of_row _ _ 3 _ _ L2.res
      have y4 := frozen_of_row _ _ 4 _ _ L2.res
      have y5 := frozen_of_row _ _ 5 _ _ L2.res
      have F := L2.fin (blankB (bs.drop x.e))
      unfold put6 at F
      (try rw [show x.n = 4294967295 by assumption] at F)
      go_wp2_with fail
      (try simp only [Exit.inBlock, Exit.then])
      refine bodyPost_ret (results_row1 rfl _ _ w.heap.size _ _ _ _ rfl F.1 Try.underlying129 rfl size_rlook) rfl ?_
      unfold LooksTo
      rw [hlk]
      refine ⟨_, ?_, F.2⟩
      first | rfl | (unfold look_; rw [show x.n = 4294967295 by assumption])

end Sec
end Go.Proofs.Ytkkbjngjjeajoaa
