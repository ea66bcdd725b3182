/-
  What the laws of a dictionary share: entries that are few, a dictionary made of them.
-/
import Derived.Test.YtcbffoablononaaDoorDicKnown
import Derived.Test.YtcbffoablononaaDoorDicLift
import Derived.Test.YtcbffoablononaaDoorDicSame
namespace Go.Proofs.YtcbffoablononaaDoor
namespace Dic
open Go.RowKit Mem Ent
set_option linter.unusedVariables false
set_option linter.unusedSimpArgs false
set_option maxRecDepth 100000

theorem light_ok {es : List En} (h : lightB es = true) : es.length ≤ 200 ∧ ∀ j, j < es.length → (es.getD j enZ).d.length ≤ 1000 ∧ (es.getD j enZ).nm.length ≤ 1000 := by
  unfold lightB at h
  rw [Bool.and_eq_true, List.all_eq_true] at h
  refine ⟨of_decide_eq_true h.1, fun j hj => ?_⟩
  have h1 := h.2 _ (getD_mem (z := enZ) hj)
  rw [Bool.and_eq_true] at h1
  exact ⟨of_decide_eq_true h1.1, of_decide_eq_true h1.2⟩
theorem evok_of {w : World} {x : En} (h : x.Ok w) (h1 : x.d.length ≤ 1000) (h2 : x.nm.length ≤ 1000) : EvOk (ev x) := ⟨h.ix, h.sub, h2, h.ty, h.ac, h.mx, h.lo, h.hi, h1⟩
/-- Light and New as a law calls them. -/
theorem light_law {A : Option Addr} {c : Nat} {es : List En} {w : World} (hr : RdE w w.heap.size A es) (hn : es.length ≤ maxLen) (hok : ∀ j, j < es.length → (es.getD j enZ).Ok w) :
    Calls Tryd.prog 8 #[.slice A es.length c] w fun e w' => e = .returned (.bool (lightB es)) ∧ w = w' :=
  light_any A c es w hr hn fun j hj => ⟨(hok j hj).d, (hok j hj).nm⟩
/-- What New ends with in a law. -/
def NewL (w W : World) (l : List Ev) (e : Ending) (w' : World) : Prop :=
  (∃ v, (newA l).1 = 0 ∧ e = .returned (.tuple #[ptr W.heap.size, .int .i64 0, .int .i64 0]) ∧ LD w w' W.heap.size v W.heap.size (first l)) ∨ ((newA l).1 ≠ 0 ∧ e = .returned (.tuple #[.pointer none, .int .i64 (newA l).1, .int .i64 (newA l).2]) ∧ Below w.heap.size w w')
theorem new_law {A : Option Addr} {c : Nat} {es : List En} {w W : World} (hr : RdE w w.heap.size A es) (hn : es.length ≤ maxLen) (hok : ∀ j, j < es.length → (es.getD j enZ).Ok w) (hl : lightB es = true) (hg : TG w) (b : Below w.heap.size w W) :
    Calls Tryd.prog 11 #[.slice A es.length c] W (NewL w W (es.map ev)) :=
  (new_any A c es W ((hr.below b).mono b.size) (fun j hj => evok_of (hok j hj) ((light_ok hl).2 j hj).1 ((light_ok hl).2 j hj).2) (hg.below b (Nat.le_refl _)) hn).mono fun e w' h => LD.start b hg h
theorem first_len (es : List En) : (first (es.map ev)).l.length = es.length := by simp [first]
theorem first_at (es : List En) (k : Nat) : at_ (first (es.map ev)).l k = ev (es.getD k enZ) := at_map es k
theorem own_rd {W : World} {base : Nat} {t : TypeId} {A : Option Addr} {n c : Nat} {bs : List UInt8} (h : Own W base t (.slice A n c) bs) : Rd W W.heap.size A bs := (rdB_own h rfl).rd fun g hg => hg.2
theorem LD.find {w W : World} {p : Nat} {v : Value} {B : Nat} {s : Ds} (h : LD w W p v B s) (ix sub : Int) :
    Calls Tryd.prog 23 #[ptr p, .int .i64 ix, .int .i64 sub] W fun e w' => e = .returned (.tuple #[.int .i64 (findA s.l ix sub).1, .bool (findA s.l ix sub).2]) ∧ Below W.heap.size W w' := finds_any h.d h.i ix sub
theorem find_at {w W : World} {p : Nat} {v : Value} {B : Nat} {s : Ds} (h : LD w W p v B s) {k : Nat} (hk : k < s.l.length) : findA s.l (at_ s.l k).ix (at_ s.l k).sub = ((k : Int), true) := by
  unfold findA
  rw [fnd_at h.i.fine hk rfl rfl, if_neg (by omega)]
end Dic
end Go.Proofs.YtcbffoablononaaDoor
