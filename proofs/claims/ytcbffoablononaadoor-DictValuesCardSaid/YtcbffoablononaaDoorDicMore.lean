/-
  Entry of a dictionary.
-/
import Derived.Test.YtcbffoablononaaDoorDicApi
namespace Go.Proofs.YtcbffoablononaaDoor
namespace Dic
open Go.RowKit Mem Ent
set_option linter.unusedVariables false
set_option linter.unusedSimpArgs false
set_option maxRecDepth 100000

theorem results_row2 {P : Program} {fn : Func} {p u : Tmp} {ty : TypeId} (h : fn.results = #[.cell p ty, .tmp u]) (tmps : Array Value) (w : World) (g : Nat) (t : TypeId) (cs : Array Value) (fr : Nat × Nat) (d : TypeDesc)
    (hp : tmps.getD p undef = .pointer (some ⟨g, 0, none⟩)) (hg : w.heap[g]? = some (.cells cs t fr))
    (hu : P.underlying ty = some d) (hd : (match d with | .struct _ | .array _ _ => true | _ => false) = true) (hi : (P.info? ty).map (·.size) = some cs.size) :
    (results fn tmps).run P w = .ok (.tuple #[.agg cs, tmps.getD u undef]) w := by
  have hp' : tmps[p]?.getD undef = .pointer (some ⟨g, 0, none⟩) := by simpa using hp
  simp [results, h, hp', asAddr, run_loadVar_row w g t ty cs fr d hg hu hd hi, Result.andThen]
theorem size_ent : (Tryd.prog.info? 38).map (·.size) = some 11 := by kernel_rfl

/-- An entry as Go's value. -/
abbrev Ev.go (e : Ev) (v : Value) : Value := Ent.ent e.ix e.sub e.nm e.ty e.ac e.mp e.st e.mx e.lo e.hi v
abbrev Ev.row (e : Ev) (v : Value) : Array Value := Ent.row e.ix e.sub e.nm e.ty e.ac e.mp e.st e.mx e.lo e.hi v
/-- A whole entry is stored. -/
def put11 (w : World) (g : Nat) (a0 a1 a2 a3 a4 a5 a6 a7 a8 a9 a10 : Value) : World :=
  ((((((((((w.setCell ⟨g, 0, none⟩ a0).setCell ⟨g, 1, none⟩ a1).setCell ⟨g, 2, none⟩ a2).setCell ⟨g, 3, none⟩ a3).setCell ⟨g, 4, none⟩ a4).setCell ⟨g, 5, none⟩ a5).setCell ⟨g, 6, none⟩ a6).setCell ⟨g, 7, none⟩ a7).setCell ⟨g, 8, none⟩ a8).setCell ⟨g, 9, none⟩ a9).setCell ⟨g, 10, none⟩ a10
set_option maxHeartbeats 1000000 in
theorem put11_row {w : World} {g : Nat} {t : TypeId} {b0 b1 b2 b3 b4 b5 b6 b7 b8 b9 b10 : Value} (h : w.heap[g]? = some (.cells #[b0, b1, b2, b3, b4, b5, b6, b7, b8, b9, b10] t)) (a0 a1 a2 a3 a4 a5 a6 a7 a8 a9 a10 : Value) :
    (put11 w g a0 a1 a2 a3 a4 a5 a6 a7 a8 a9 a10).heap[g]? = some (.cells #[a0, a1, a2, a3, a4, a5, a6, a7, a8, a9, a10] t) := by
  have h0 : (w.setCell ⟨g, 0, none⟩ a0).heap[g]? = some (.cells #[a0, b1, b2, b3, b4, b5, b6, b7, b8, b9, b10] t) := heap_setCell_same _ g 0 _ t a0 h
  have h1 : ((w.setCell ⟨g, 0, none⟩ a0).setCell ⟨g, 1, none⟩ a1).heap[g]? = some (.cells #[a0, a1, b2, b3, b4, b5, b6, b7, b8, b9, b10] t) := heap_setCell_same _ g 1 _ t a1 h0
  have h2 : (((w.setCell ⟨g, 0, none⟩ a0).setCell ⟨g, 1, none⟩ a1).setCell ⟨g, 2, none⟩ a2).heap[g]? = some (.cells #[a0, a1, a2, b3, b4, b5, b6, b7, b8, b9, b10] t) := heap_setCell_same _ g 2 _ t a2 h1
  have h3 : ((((w.setCell ⟨g, 0, none⟩ a0).setCell ⟨g, 1, none⟩ a1).setCell ⟨g, 2, none⟩ a2).setCell ⟨g, 3, none⟩ a3).heap[g]? = some (.cells #[a0, a1, a2, a3, b4, b5, b6, b7, b8, b9, b10] t) := heap_setCell_same _ g 3 _ t a3 h2
  have h4 : (((((w.setCell ⟨g, 0, none⟩ a0).setCell ⟨g, 1, none⟩ a1).setCell ⟨g, 2, none⟩ a2).setCell ⟨g, 3, none⟩ a3).setCell ⟨g, 4, none⟩ a4).heap[g]? = some (.cells #[a0, a1, a2, a3, a4, b5, b6, b7, b8, b9, b10] t) := heap_setCell_same _ g 4 _ t a4 h3
  have h5 : ((((((w.setCell ⟨g, 0, none⟩ a0).setCell ⟨g, 1, none⟩ a1).setCell ⟨g, 2, none⟩ a2).setCell ⟨g, 3, none⟩ a3).setCell ⟨g, 4, none⟩ a4).setCell ⟨g, 5, none⟩ a5).heap[g]? = some (.cells #[a0, a1, a2, a3, a4, a5, b6, b7, b8, b9, b10] t) := heap_setCell_same _ g 5 _ t a5 h4
  have h6 : (((((((w.setCell ⟨g, 0, none⟩ a0).setCell ⟨g, 1, none⟩ a1).setCell ⟨g, 2, none⟩ a2).setCell ⟨g, 3, none⟩ a3).setCell ⟨g, 4, none⟩ a4).setCell ⟨g, 5, none⟩ a5).setCell ⟨g, 6, none⟩ a6).heap[g]? = some (.cells #[a0, a1, a2, a3, a4, a5, a6, b7, b8, b9, b10] t) := heap_setCell_same _ g 6 _ t a6 h5
  have h7 : ((((((((w.setCell ⟨g, 0, none⟩ a0).setCell ⟨g, 1, none⟩ a1).setCell ⟨g, 2, none⟩ a2).setCell ⟨g, 3, none⟩ a3).setCell ⟨g, 4, none⟩ a4).setCell ⟨g, 5, none⟩ a5).setCell ⟨g, 6, none⟩ a6).setCell ⟨g, 7, none⟩ a7).heap[g]? = some (.cells #[a0, a1, a2, a3, a4, a5, a6, a7, b8, b9, b10] t) := heap_setCell_same _ g 7 _ t a7 h6
  have h8 : (((((((((w.setCell ⟨g, 0, none⟩ a0).setCell ⟨g, 1, none⟩ a1).setCell ⟨g, 2, none⟩ a2).setCell ⟨g, 3, none⟩ a3).setCell ⟨g, 4, none⟩ a4).setCell ⟨g, 5, none⟩ a5).setCell ⟨g, 6, none⟩ a6).setCell ⟨g, 7, none⟩ a7).setCell ⟨g, 8, none⟩ a8).heap[g]? = some (.cells #[a0, a1, a2, a3, a4, a5, a6, a7, a8, b9, b10] t) := heap_setCell_same _ g 8 _ t a8 h7
  have h9 : ((((((((((w.setCell ⟨g, 0, none⟩ a0).setCell ⟨g, 1, none⟩ a1).setCell ⟨g, 2, none⟩ a2).setCell ⟨g, 3, none⟩ a3).setCell ⟨g, 4, none⟩ a4).setCell ⟨g, 5, none⟩ a5).setCell ⟨g, 6, none⟩ a6).setCell ⟨g, 7, none⟩ a7).setCell ⟨g, 8, none⟩ a8).setCell ⟨g, 9, none⟩ a9).heap[g]? = some (.cells #[a0, a1, a2, a3, a4, a5, a6, a7, a8, a9, b10] t) := heap_setCell_same _ g 9 _ t a9 h8
  have h10 : (((((((((((w.setCell ⟨g, 0, none⟩ a0).setCell ⟨g, 1, none⟩ a1).setCell ⟨g, 2, none⟩ a2).setCell ⟨g, 3, none⟩ a3).setCell ⟨g, 4, none⟩ a4).setCell ⟨g, 5, none⟩ a5).setCell ⟨g, 6, none⟩ a6).setCell ⟨g, 7, none⟩ a7).setCell ⟨g, 8, none⟩ a8).setCell ⟨g, 9, none⟩ a9).setCell ⟨g, 10, none⟩ a10).heap[g]? = some (.cells #[a0, a1, a2, a3, a4, a5, a6, a7, a8, a9, a10] t) := heap_setCell_same _ g 10 _ t a10 h9
  exact h10
theorem put11_below {w0 w : World} {g : Nat} (b : Below w0.heap.size w0 w) (hg : w0.heap.size ≤ g) (a0 a1 a2 a3 a4 a5 a6 a7 a8 a9 a10 : Value) : Below w0.heap.size w0 (put11 w g a0 a1 a2 a3 a4 a5 a6 a7 a8 a9 a10) := by
  have st : ∀ {x : World} (j : Nat) (a : Value), Below w0.heap.size w0 x → Below w0.heap.size w0 (x.setCell ⟨g, j, none⟩ a) := fun j a h => h.setCell (p := ⟨g, j, none⟩) hg a
  unfold put11
  iterate 11 apply st
  exact b
theorem put11_other {w : World} {g q : Nat} (hq : q ≠ g) (a0 a1 a2 a3 a4 a5 a6 a7 a8 a9 a10 : Value) : (put11 w g a0 a1 a2 a3 a4 a5 a6 a7 a8 a9 a10).heap[q]? = w.heap[q]? := by
  have st : ∀ (x : World) (j : Nat) (a : Value), (x.setCell ⟨g, j, none⟩ a).heap[q]? = x.heap[q]? := fun x j a => Below.heap_setCell x ⟨g, j, none⟩ a q hq
  unfold put11
  rw [st, st, st, st, st, st, st, st, st, st, st]
/-- What Entry ends with. -/
def EntryEnds (W : World) (e : Ev) (b : Bool) (x : Ending) (w' : World) : Prop := ∃ u, x = .returned (.tuple #[e.go u, .bool b]) ∧ Own w' W.heap.size YT u e.d ∧ Below W.heap.size W w'
section
variable {W : World} {p : Nat} {v : Value} {N : Nat → Prop} {s : Ds}

set_option maxHeartbeats 2000000 in
theorem entry_no (h : HasD W p v N s) (i : Int) (hi : i < 0 ∨ (s.l.length : Int) ≤ i) : Calls Tryd.prog 22 #[ptr p, .int .i64 i] W (EntryEnds W Ev.zero false) := by
  obtain ⟨rs, h, e1, e2⟩ := h
  rw [← e1, List.length_map] at hi
  have b1 := one_b W (.cells (Ev.zero.row (.slice none 0 0)) 38)
  have HN := Lib.hid (fun X (b : Below W.heap.size W X) => none_any (h.below b))
  have B1 := Lib.hid b1
  have c0 := (h.below b1).c0
  obtain ⟨A, c, rfl, _⟩ := h.form
  have HB := heap_alloc_new W (.cells (Ev.zero.row (.slice none 0 0)) 38)
  have HB := Lib.hid HB
  clear h e1 e2 b1
  generalize rs.length = n at *
  by_cases h1 : i < 0
  · have d1 : decide (i < 0) = true := decide_eq_true h1
    clear hi
    go_enter Tryd.func22, Tryd.ntmps22
    go_wp2_with fail
    refine (HN.out _ B1.out).mono ?_
    rintro e w' ⟨rfl, rfl⟩
    go_wp2_with fail
    (try simp only [Exit.inBlock, Exit.then])
    exact bodyPost_ret (results_row2 rfl _ _ W.heap.size _ _ _ _ rfl HB.out Tryd.underlying38 rfl size_ent) rfl ⟨_, rfl, Own.nil _ _ _, B1.out⟩
  · have d1 : decide (i < 0) = false := decide_eq_false h1
    have d2 : decide ((n : Int) ≤ i) = true := decide_eq_true (by omega)
    have h2 : (n : Int) ≤ i := by omega
    clear hi
    go_enter Tryd.func22, Tryd.ntmps22
    go_wp2_with fail
    refine (HN.out _ B1.out).mono ?_
    rintro e w' ⟨rfl, rfl⟩
    go_wp2_with fail
    (try simp only [Exit.inBlock, Exit.then])
    exact bodyPost_ret (results_row2 rfl _ _ W.heap.size _ _ _ _ rfl HB.out Tryd.underlying38 rfl size_ent) rfl ⟨_, rfl, Own.nil _ _ _, B1.out⟩

set_option maxHeartbeats 4000000 in
theorem entry_yes (h : HasD W p v N s) {k : Nat} (hk : k < s.l.length) : Calls Tryd.prog 22 #[ptr p, .int .i64 (k : Int)] W (EntryEnds W (at_ s.l k) true) := by
  obtain ⟨rs, h, e1, e2⟩ := h
  have hk' : k < rs.length := by rw [← e1] at hk; simpa using hk
  rw [← e1, at_evs]
  have b1 := one_b W (.cells (Ev.zero.row (.slice none 0 0)) 38)
  have HN := Lib.hid (fun X (b : Below W.heap.size W X) => none_any (h.below b))
  have B1 := Lib.hid b1
  have c0 := (h.below b1).c0
  obtain ⟨g, c, rfl, hg, _, _, ROW, _⟩ := h.at hk' rfl
  have hm : rs.getD k Rv.zero ∈ rs := getD_mem hk'
  have hl := (h.ok _ hm).1.d
  have hrd := (h.rd hm).1
  have j1 : (0 : Int) ≤ (k : Int) := by omega
  have j2 : (k : Int) < (rs.length : Int) := by omega
  have d1 : decide ((k : Int) < 0) = false := decide_eq_false (by omega)
  have d2 : decide ((rs.length : Int) ≤ (k : Int)) = false := decide_eq_false (by omega)
  have d3 : decide (rs.length ≤ k) = false := decide_eq_false (by omega)
  have ROW1 := ROW.below hg b1
  clear h e1 e2 b1 hk hk' hm ROW
  generalize rs.getD k Rv.zero = r at *
  generalize rs.length = n at *
  have CL := Lib.hid (fun X (b : Below W.heap.size W X) => Byt.clone_any r.A r.e.d.length r.cA r.e.d X ((hrd.below b).mono b.size) rfl (by omega))
  obtain ⟨q0, q1, q2, q3, q4, q5, q6, q7, q8, q9, q10, q11⟩ := ROW1
  have b2 := two_b W (.cells (Ev.zero.row (.slice none 0 0)) 38) (.cells (r.e.row (.slice r.A r.e.d.length r.cA)) 38)
  have B2 := Lib.hid b2
  have R1 : ((W.alloc (.cells (Ev.zero.row (.slice none 0 0)) 38)).alloc (.cells (r.e.row (.slice r.A r.e.d.length r.cA)) 38)).heap[W.heap.size]? = some (.cells (Ev.zero.row (.slice none 0 0)) 38) := by
    rw [Below.heap_alloc _ _ _ (by simp)]
    exact heap_alloc_new W _
  have R2 : ((W.alloc (.cells (Ev.zero.row (.slice none 0 0)) 38)).alloc (.cells (r.e.row (.slice r.A r.e.d.length r.cA)) 38)).heap[W.heap.size + 1]? = some (.cells (r.e.row (.slice r.A r.e.d.length r.cA)) 38) := by
    have := heap_alloc_new (W.alloc (.cells (Ev.zero.row (.slice none 0 0)) 38)) (.cells (r.e.row (.slice r.A r.e.d.length r.cA)) 38)
    simpa using this
  have R1 := Lib.hid R1
  have R2 := Lib.hid R2
  clear b2 hrd
  go_enter Tryd.func22, Tryd.ntmps22
  go_wp2_with fail
  refine (HN.out _ B1.out).mono ?_
  rintro e w' ⟨rfl, rfl⟩
  go_wp2_with fail
  refine (CL.out _ B2.out).mono ?_
  rintro e w3 ⟨u, rfl, o, b⟩
  obtain ⟨A3, c3, rfl, _⟩ := o.form
  have B3 := Lib.hid (B2.out.trans (b.mono B2.out.size))
  have S1 := Lib.hid ((b.block _ (Array.getElem?_eq_some_iff.1 R1.out).1).trans R1.out)
  have S2 := (b.block _ (Array.getElem?_eq_some_iff.1 R2.out).1).trans R2.out
  have O3 := Lib.hid o
  have f10 := frozen_of_row w3 (W.heap.size + 1) 10 _ _ S2
  obtain ⟨y0, y1, y2, y3, y4, y5, y6, y7, y8, y9, y10⟩ := row_cells S2
  have T2 := Lib.hid (heap_setCell_same w3 (W.heap.size + 1) 10 _ _ (.slice A3 r.e.d.length c3) S2)
  have T1 := Lib.hid ((Below.heap_setCell w3 ⟨W.heap.size + 1, 10, none⟩ (.slice A3 r.e.d.length c3) W.heap.size (by show W.heap.size ≠ W.heap.size + 1; omega)).trans S1.out)
  have B4 := Lib.hid (B3.out.setCell (p := ⟨W.heap.size + 1, 10, none⟩) (Nat.le_succ _) (.slice A3 r.e.d.length c3))
  have O4 := Lib.hid (own_keep O3.out (W' := w3.setCell ⟨W.heap.size + 1, 10, none⟩ (.slice A3 r.e.d.length c3)) fun q hq => Below.heap_setCell w3 ⟨W.heap.size + 1, 10, none⟩ _ q fun e => by
    have e' : q = W.heap.size + 1 := e
    have h1 := (World.ownsRow.lt O3.out q hq).1
    simp at h1
    omega)
  obtain ⟨s0, s1, s2, s3, s4, s5, s6, s7, s8, s9, s10⟩ := row_cells S1.out
  have fz : ∀ j, w3.frozen? ⟨W.heap.size, j, none⟩ = false := fun j => frozen_of_row w3 W.heap.size j _ _ S1.out
  clear q0 q1 q2 q3 q4 q5 q6 q7 q8 q9 q10 q11 c0 b o CL HN S2 B1 B2 B3 R1 R2 S1 O3
  go_wp2_with fail
  (try simp only [Exit.inBlock, Exit.then])
  have PR := put11_row T1.out (.int .i64 r.e.ix) (.int .i64 r.e.sub) (.string ⟨r.e.nm.toArray⟩) (.int .i64 r.e.ty) (.int .i64 r.e.ac) (.bool r.e.mp) (.bool r.e.st) (.int .i64 r.e.mx) (.int .i64 r.e.lo) (.int .i64 r.e.hi) (.slice A3 r.e.d.length c3)
  have PB := put11_below B4.out (Nat.le_refl _) (.int .i64 r.e.ix) (.int .i64 r.e.sub) (.string ⟨r.e.nm.toArray⟩) (.int .i64 r.e.ty) (.int .i64 r.e.ac) (.bool r.e.mp) (.bool r.e.st) (.int .i64 r.e.mx) (.int .i64 r.e.lo) (.int .i64 r.e.hi) (.slice A3 r.e.d.length c3)
  have O5 := own_keep O4.out (W' := put11 _ W.heap.size (.int .i64 r.e.ix) (.int .i64 r.e.sub) (.string ⟨r.e.nm.toArray⟩) (.int .i64 r.e.ty) (.int .i64 r.e.ac) (.bool r.e.mp) (.bool r.e.st) (.int .i64 r.e.mx) (.int .i64 r.e.lo) (.int .i64 r.e.hi) (.slice A3 r.e.d.length c3)) fun q hq => put11_other (by
    have h1 := (World.ownsRow.lt O4.out q hq).1
    simp at h1
    omega) _ _ _ _ _ _ _ _ _ _ _
  exact bodyPost_ret (results_row2 rfl _ _ W.heap.size _ _ _ _ rfl PR Tryd.underlying38 rfl size_ent) rfl ⟨_, rfl, Own.lower O5 (by simp; omega), PB⟩
end
end Dic
end Go.Proofs.YtcbffoablononaaDoor
