/-
  A frame with bytes of its own: of the queue, and of the document's; Take of a queue that is not there.
-/
import Derived.Test.YtlojomeofgnfjaaTxqFns
import Derived.Test.YtlojomeofgnfjaaOctRef
import Derived.Laws.Rows

namespace Go.Proofs.Ytlojomeofgnfjaa

namespace Txq
open Go.RowKit Mem Frm
set_option linter.unusedVariables false
set_option linter.unusedSimpArgs false
set_option maxRecDepth 100000

section
variable {w W W' : World} {g : Nat} {x y z : Value} {t : TypeId}

theorem cell3 (h : W.heap[g]? = some (.cells #[x, y, z] t)) : W.cell? ⟨g, 0, none⟩ = some x ∧ W.cell? ⟨g, 1, none⟩ = some y ∧ W.cell? ⟨g, 2, none⟩ = some z ∧ ∀ j, W.frozen? ⟨g, j, none⟩ = false :=
  ⟨by simp [World.cell?, h], by simp [World.cell?, h], by simp [World.cell?, h], fun j => by simp [World.frozen?, h]⟩

theorem set3 (h : W.heap[g]? = some (.cells #[x, y, z] t)) (a b c : Value) : (((W.setCell ⟨g, 0, none⟩ a).setCell ⟨g, 1, none⟩ b).setCell ⟨g, 2, none⟩ c).heap[g]? = some (.cells #[a, b, c] t) :=
  set_of (l := [a, b, z]) (set_of (l := [a, y, z]) (set_of (l := [x, y, z]) h rfl) rfl) rfl

theorem set3_2 (h : W.heap[g]? = some (.cells #[x, y, z] t)) (c : Value) : (W.setCell ⟨g, 2, none⟩ c).heap[g]? = some (.cells #[x, y, c] t) := set_of (l := [x, y, z]) h rfl

theorem set3_b {B : Nat} (h : Below B w W) (hg : B ≤ g) (a b c : Value) : Below B w (((W.setCell ⟨g, 0, none⟩ a).setCell ⟨g, 1, none⟩ b).setCell ⟨g, 2, none⟩ c) :=
  ((h.setCell (p := ⟨g, 0, none⟩) hg a).setCell (p := ⟨g, 1, none⟩) hg b).setCell (p := ⟨g, 2, none⟩) hg c

theorem lt_of {o : Obj} (h : W.heap[g]? = some o) : g < W.heap.size := (Array.getElem?_eq_some_iff.1 h).1

/-- A frame that came in, and the result's cells, not written yet. -/
structure OW (w : World) (x y z : Value) (W : World) : Prop where
  b : Below w.heap.size w W
  box : W.heap[w.heap.size]? = some (.cells #[x, y, z] 29)
  ro : W.heap[w.heap.size + 1]? = some (.cells #[.int .i64 0, .bool false, .slice none 0 0] 29)

theorem OW.start (w : World) (x y z : Value) : OW w x y z ((w.alloc (.cells #[x, y, z] 29)).alloc (.cells #[.int .i64 0, .bool false, .slice none 0 0] 29)) :=
  ⟨below_two _ _ _, heap_alloc2_old w _ _, heap_alloc2_new w _ _⟩

theorem OW.next (h : OW w x y z W) (b : Below W.heap.size W W') : OW w x y z W' :=
  ⟨h.b.trans (b.mono h.b.size), (b.block _ (lt_of h.box)).trans h.box, (b.block _ (lt_of h.ro)).trans h.ro⟩

theorem OW.set2 (h : OW w x y z W) (v : Value) : OW w x y v (W.setCell ⟨w.heap.size, 2, none⟩ v) :=
  ⟨h.b.setCell (p := ⟨w.heap.size, 2, none⟩) (Nat.le_refl _) v, set3_2 h.box v, (Below.heap_setCell W ⟨w.heap.size, 2, none⟩ v (w.heap.size + 1) (by simp)).trans h.ro⟩

end

/-- What own ends with. -/
def OwnEnds (w : World) (id : Int) (r : Bool) (d : List UInt8) (e : Ending) (w' : World) : Prop :=
  ∃ v, e = .returned (frm id r v) ∧ Own w' w.heap.size ET v d ∧ Below w.heap.size w w'

theorem size_frm : (Try.prog.info? 29).map (·.size) = some 3 := by kernel_rfl

theorem own_apart {W : World} {base g j : Nat} {v u : Value} {d : List UInt8} (h : Own W base ET v d) (hg : g < base) : Own (W.setCell ⟨g, j, none⟩ u) base ET v d := ownsRow_setCell_below h hg u

set_option maxHeartbeats 1000000 in
theorem own_any (id : Int) (r : Bool) (A : Option Addr) (n c : Nat) (d : List UInt8) (w : World) (hr : Rd w w.heap.size A d) (hn : n = d.length) (hle : n ≤ 1099511627776) :
    Calls Try.prog 38 #[frm id r (.slice A n c)] w (OwnEnds w id r d) := by
  subst hn
  have O0 := Lib.hid (OW.start w (.int .i64 id) (.bool r) (.slice A d.length c))
  have C := Lib.hid (fun W (b : Below w.heap.size w W) => Byt.clone_any A d.length c d W ((hr.below b).mono b.size) rfl hle)
  clear hr
  go_enter Try.func38, Try.ntmps38
  go_wp2_with fail
  refine (C.out _ O0.out.b).mono ?_
  rintro e w1 ⟨v, rfl, o1, b1⟩
  obtain ⟨A', c', rfl, hr'⟩ := o1.form
  have O1 := Lib.hid (O0.out.next b1)
  clear hr'
  have hs : w.heap.size + 2 ≤ ((w.alloc (.cells #[.int .i64 id, .bool r, .slice A d.length c] 29)).alloc (.cells #[.int .i64 0, .bool false, .slice none 0 0] 29)).heap.size := by simp
  have P := Lib.hid (o1.lower hs)
  obtain ⟨x0, x1, x2, xf⟩ := cell3 O1.out.box
  obtain ⟨y0, y1, y2, yf⟩ := cell3 (O1.out.set2 (.slice A' d.length c')).ro
  have R := Lib.hid (set3 (O1.out.set2 (.slice A' d.length c')).ro (.int .i64 id) (.bool r) (.slice A' d.length c'))
  have Bf := Lib.hid (set3_b (O1.out.set2 (.slice A' d.length c')).b (g := w.heap.size + 1) (by omega) (.int .i64 id) (.bool r) (.slice A' d.length c'))
  have Of := Lib.hid (own_apart (g := w.heap.size + 1) (j := 2) (u := .slice A' d.length c') (own_apart (g := w.heap.size + 1) (j := 1) (u := .bool r) (own_apart (g := w.heap.size + 1) (j := 0) (u := .int .i64 id) (own_apart (g := w.heap.size) (j := 2) (u := .slice A' d.length c') P.out (by omega)) (by omega)) (by omega)) (by omega))
  clear o1 b1 O0 C O1 P hs
  go_wp2_with fail
  (try simp only [Exit.inBlock, Exit.then])
  refine bodyPost_ret (results_cell_row rfl _ _ (w.heap.size + 1) _ _ _ _ rfl R.out Try.underlying29 rfl size_frm) rfl ⟨_, rfl, Of.out.lower (by omega), Bf.out⟩

/-- What a call returns whose first result, a struct, lives in memory. -/
theorem results_row2 {P : Program} {fn : Func} {p u : Tmp} {ty : TypeId} (h : fn.results = #[.cell p ty, .tmp u]) (tmps : Array Value) (w : World) (g : Nat) (t : TypeId) (cs : Array Value) (fr : Nat × Nat) (d : TypeDesc)
    (hp : tmps.getD p undef = .pointer (some ⟨g, 0, none⟩)) (hg : w.heap[g]? = some (.cells cs t fr))
    (hu : P.underlying ty = some d) (hd : (match d with | .struct _ | .array _ _ => true | _ => false) = true) (hi : (P.info? ty).map (·.size) = some cs.size) :
    (results fn tmps).run P w = .ok (.tuple #[.agg cs, tmps.getD u undef]) w := by
  have hp' : tmps[p]?.getD undef = .pointer (some ⟨g, 0, none⟩) := by simpa using hp
  simp [results, h, hp', asAddr, run_loadVar_row w g t ty cs fr d hg hu hd hi, Result.andThen]

def zeroF : Value := frm 0 false (.slice none 0 0)

theorem take_nil (W : World) :
    Calls Try.prog 11 #[.pointer none] W fun e w' => e = .returned (.tuple #[zeroF, .bool false]) ∧ Below W.heap.size W w' := by
  have H1 := Lib.hid (fun W => len_nil W)
  have X := Lib.hid (heap_alloc_new W (.cells #[.int .i64 0, .bool false, .slice none 0 0] 29))
  have B := Lib.hid ((Below.refl W.heap.size W).alloc (Nat.le_refl _) (.cells #[.int .i64 0, .bool false, .slice none 0 0] 29))
  go_enter Try.func11, Try.ntmps11
  go_wp2_with fail
  refine (H1.out _).mono ?_
  rintro e w' ⟨rfl, rfl⟩
  go_wp2_with fail
  (try simp only [Exit.inBlock, Exit.then])
  refine bodyPost_ret (results_row2 rfl _ _ W.heap.size _ _ _ _ rfl X.out Try.underlying29 rfl size_frm) rfl ⟨rfl, B.out⟩

end Txq

end Go.Proofs.Ytlojomeofgnfjaa
