/-
  The search for a place.
-/
import Derived.Test.YtcbffoablononaaDoorDicMem
import Derived.Test.YtcbffoablononaaDoorEntVal
import Derived.Test.YtcbffoablononaaDoorText
import Derived.BigQuiet
import Derived.Deep.QuietTactic
namespace Go.Proofs.YtcbffoablononaaDoor
namespace Dic
open Go.RowKit Mem Ent
set_option linter.unusedVariables false
set_option linter.unusedSimpArgs false
set_option maxRecDepth 100000

theorem row_cells {W : World} {b : Nat} {ix sub : Int} {nm : List UInt8} {ty ac : Int} {mp st : Bool} {mx lo hi : Int} {v : Value} {t : TypeId} (h : W.heap[b]? = some (.cells (row ix sub nm ty ac mp st mx lo hi v) t)) :
    W.cell? ⟨b, 0, none⟩ = some (.int .i64 ix) ∧ W.cell? ⟨b, 1, none⟩ = some (.int .i64 sub) ∧ W.cell? ⟨b, 2, none⟩ = some (.string ⟨nm.toArray⟩) ∧ W.cell? ⟨b, 3, none⟩ = some (.int .i64 ty) ∧ W.cell? ⟨b, 4, none⟩ = some (.int .i64 ac) ∧
    W.cell? ⟨b, 5, none⟩ = some (.bool mp) ∧ W.cell? ⟨b, 6, none⟩ = some (.bool st) ∧ W.cell? ⟨b, 7, none⟩ = some (.int .i64 mx) ∧ W.cell? ⟨b, 8, none⟩ = some (.int .i64 lo) ∧ W.cell? ⟨b, 9, none⟩ = some (.int .i64 hi) ∧ W.cell? ⟨b, 10, none⟩ = some v := by
  have e : ∀ j, W.cell? ⟨b, j, none⟩ = (row ix sub nm ty ac mp st mx lo hi v)[j]? := fun j => by simp [World.cell?, h]
  exact ⟨e 0, e 1, e 2, e 3, e 4, e 5, e 6, e 7, e 8, e 9, e 10⟩

theorem none_any {W : World} {p : Nat} {v : Value} {N : Nat → Prop} {rs : List Rv} (h : IsD W p v N rs) : Calls Tryd.prog 47 #[ptr p] W fun e w' => e = .returned (.bool false) ∧ W = w' := by
  have c1 := h.c1
  clear h
  go_enter Tryd.func47, Tryd.ntmps47
  go_wp2_with fail
  go_ret
  exact ⟨rfl, rfl⟩

theorem none_nil (W : World) : Calls Tryd.prog 47 #[.pointer none] W fun e w' => e = .returned (.bool true) ∧ W = w' := by
  go_enter Tryd.func47, Tryd.ntmps47
  go_wp2_with fail
  go_ret
  exact ⟨rfl, rfl⟩

abbrev evs (rs : List Rv) : List Ev := rs.map (·.e)
theorem at_evs (rs : List Rv) (k : Nat) : at_ (evs rs) k = (rs.getD k Rv.zero).e := by
  unfold at_ evs
  rw [List.getD_eq_getElem?_getD, List.getElem?_map, List.getD_eq_getElem?_getD]
  cases rs[k]? <;> rfl

/-- A place, as an entry. -/
abbrev plc (ix sub : Int) : Array Value := row ix sub [] 0 0 false false 0 0 0 (.slice none 0 0)
/-- What the closure of Find reads. -/
structure FC (W : World) (p : Nat) (v : Value) (N : Nat → Prop) (rs : List Rv) (pd pp : Nat) (ix sub : Int) : Prop where
  d : IsD W p v N rs
  b : W.heap[pd]? = some (.cells #[ptr p] 27)
  l : W.heap[pp]? = some (.cells (plc ix sub) 38)
section
variable {W X : World} {p : Nat} {v : Value} {N : Nat → Prop} {rs : List Rv} {pd pp : Nat} {ix sub : Int}
theorem FC.below (h : FC W p v N rs pd pp ix sub) (b : Below W.heap.size W X) : FC X p v N rs pd pp ix sub :=
  ⟨h.d.below b, (b.block pd (Array.getElem?_eq_some_iff.1 h.b).1).trans h.b, (b.block pp (Array.getElem?_eq_some_iff.1 h.l).1).trans h.l⟩
theorem FC.cb (h : FC W p v N rs pd pp ix sub) : W.cell? ⟨pd, 0, none⟩ = some (ptr p) := by simp [World.cell?, h.b]

set_option maxHeartbeats 1000000 in
theorem find1_any (h : FC W p v N rs pd pp ix sub) {k : Nat} (hk : k < rs.length) :
    Calls Tryd.prog 49 #[.int .i64 (k : Int), ptr pd, ptr pp] W fun e w' => e = .returned (.bool (!(befB (rs.getD k Rv.zero).e.ix (rs.getD k Rv.zero).e.sub ix sub))) ∧ Below W.heap.size W w' := by
  obtain ⟨g, c, rfl, hg, h1, h2, _, _⟩ := h.d.at hk rfl
  have C := Lib.hid (fun X (b : Below W.heap.size W X) => (h.below b).cb)
  have D := Lib.hid (fun X (b : Below W.heap.size W X) => (h.below b).d.c0)
  have E := Lib.hid (fun X (b : Below W.heap.size W X) => (h.below b).d.at hk rfl)
  have L := Lib.hid (fun X (b : Below W.heap.size W X) => row_cells (h.below b).l)
  have j1 : (0 : Int) ≤ (k : Int) := by omega
  have j2 : (k : Int) < (rs.length : Int) := by omega
  have BF := Lib.hid (fun X => before_any (rs.getD k Rv.zero).e.ix (rs.getD k Rv.zero).e.sub (rs.getD k Rv.zero).e.nm (rs.getD k Rv.zero).e.ty (rs.getD k Rv.zero).e.ac (rs.getD k Rv.zero).e.mp (rs.getD k Rv.zero).e.st (rs.getD k Rv.zero).e.mx (rs.getD k Rv.zero).e.lo (rs.getD k Rv.zero).e.hi (.slice (rs.getD k Rv.zero).A (rs.getD k Rv.zero).e.d.length (rs.getD k Rv.zero).cA) ix sub [] 0 0 false false 0 0 0 (.slice none 0 0) X)
  generalize rs.getD k Rv.zero = r at *
  clear h h1 h2 hg hk
  generalize rs.length = n at *
  go_enter Tryd.func49, Tryd.ntmps49
  go_wp2_with fail
  refine Txt.wp_region_textN 12 (fun X => Below W.heap.size W X) (by kernel_rfl) (by kernel_rfl) (by kernel_rfl) (by kernel_rfl) (fun _ _ _ _ _ h => h) (Below.refl _ _).drew ?_
  iterate 12 (
    apply Txt.step rfl
    · intro X hS K hK
      have cb := C.out X hS
      have c0 := D.out X hS
      obtain ⟨g', c', e1, _, _, _, ⟨q0, q1, q2, q3, q4, q5, q6, q7, q8, q9, q10, q11⟩, _⟩ := E.out X hS
      injection e1 with e1 e2 e3
      injection e1 with e1
      injection e1 with e1 _
      subst e1
      obtain ⟨x0, x1, x2, x3, x4, x5, x6, x7, x8, x9, x10⟩ := L.out X hS
      have HS := Lib.hid hS
      clear hS e2 e3
      go_simp
      first
        | exact hK.out _ HS.out
        | (go_wp2_with (go_at_call 35; refine (BF.out X).mono ?_; rintro e w' ⟨rfl, b⟩; have T := Lib.hid (HS.out.trans (b.mono HS.out.size)); clear b)
           first | exact hK.out _ HS.out | exact hK.out _ T.out)
    · first | exact ⟨_, rfl⟩ | exact ⟨undef, rfl⟩)
  refine Txt.last fun X hS => ?_
  go_wp2_with fail
  go_ret
  exact ⟨rfl, hS⟩
end
end Dic
end Go.Proofs.YtcbffoablononaaDoor
