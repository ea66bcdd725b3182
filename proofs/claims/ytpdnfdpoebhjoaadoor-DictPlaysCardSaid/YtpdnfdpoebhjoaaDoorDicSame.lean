/-
  The document's Same, of two entries that are alike.
  What the laws of a dictionary share: entries that are few, a dictionary made of them.
  A list of values that a law holds on to; what was set is got.
-/
import Derived.Test.YtpdnfdpoebhjoaaDoorDicFind
import Derived.Test.YtpdnfdpoebhjoaaDoorDicMore
import Derived.Test.YtpdnfdpoebhjoaaDoorDicKnown
import Derived.Test.YtpdnfdpoebhjoaaDoorDicLift
namespace Go.Proofs.YtpdnfdpoebhjoaaDoor
namespace Dic
open Go.RowKit Mem Ent
set_option linter.unusedVariables false
set_option linter.unusedSimpArgs false
set_option maxRecDepth 100000

set_option maxHeartbeats 4000000 in
theorem same_yes (e : Ev) (A B : Option Addr) (c d : Nat) (W : World) (ha : Rd W W.heap.size A e.d) (hb : Rd W W.heap.size B e.d) (hl : e.d.length ≤ 1000) :
    Calls Tryd.prog 27 #[e.go (.slice A e.d.length c), e.go (.slice B e.d.length d)] W fun x w' => x = .returned (.bool true) ∧ Below W.heap.size W w' := by
  have b2 := two_b W (.cells (e.row (.slice A e.d.length c)) 38) (.cells (e.row (.slice B e.d.length d)) 38)
  have B2 := Lib.hid b2
  have R1 : ((W.alloc (.cells (e.row (.slice A e.d.length c)) 38)).alloc (.cells (e.row (.slice B e.d.length d)) 38)).heap[W.heap.size]? = some (.cells (e.row (.slice A e.d.length c)) 38) := by
    rw [Below.heap_alloc _ _ _ (by simp)]
    exact heap_alloc_new W _
  have R2 : ((W.alloc (.cells (e.row (.slice A e.d.length c)) 38)).alloc (.cells (e.row (.slice B e.d.length d)) 38)).heap[W.heap.size + 1]? = some (.cells (e.row (.slice B e.d.length d)) 38) := by
    have := heap_alloc_new (W.alloc (.cells (e.row (.slice A e.d.length c)) 38)) (.cells (e.row (.slice B e.d.length d)) 38)
    simpa using this
  have CA := Lib.hid (fun X (b : Below W.heap.size W X) => run_str (P := Tryd.prog) (ha.below b) e.d.length c rfl 36 5 9 Tryd.underlying36 Tryd.underlying5 Tryd.underlying9)
  have CB := Lib.hid (fun X (b : Below W.heap.size W X) => run_str (P := Tryd.prog) (hb.below b) e.d.length d rfl 36 5 9 Tryd.underlying36 Tryd.underlying5 Tryd.underlying9)
  have cv1 := CA.out _ b2
  have cv2 := CB.out _ b2
  clear R1 R2 ha hb CA CB b2
  go_enter Tryd.func27, Tryd.ntmps27
  go_wp2_with fail
  go_ret
  exact ⟨rfl, B2.out⟩
end Dic
end Go.Proofs.YtpdnfdpoebhjoaaDoor

namespace Go.Proofs.YtpdnfdpoebhjoaaDoor
namespace Dic
open Go.RowKit Mem Ent
set_option linter.unusedVariables false
set_option linter.unusedSimpArgs false
set_option maxRecDepth 100000

theorem light_ok {es : List En} (h : lightB es = true) : es.length ≤ 200 ∧ ∀ j, j < es.length → (es.getD j enZ).d.length ≤ 1000 ∧ (es.getD j enZ).nm.length ≤ 1000 := by
  unfold lightB at h
  rw [Bool.and_eq_true, List.all_eq_true] at h
  refine ⟨of_decide_eq_true h.1, fun j hj => ?_⟩
  have h1 := h.2 _ (getD_mem (z := enZ) hj)
  rw [Bool.and_eq_true] at h1
  exact ⟨of_decide_eq_true h1.1, of_decide_eq_true h1.2⟩
theorem evok_of {w : World} {x : En} (h : x.Ok w) (h1 : x.d.length ≤ 1000) (h2 : x.nm.length ≤ 1000) : EvOk (ev x) := ⟨h.ix, h.sub, h2, h.ty, h.ac, h.mx, h.lo, h.hi, h1⟩
/-- Light and New as a law calls them. -/
theorem light_law {A : Option Addr} {c : Nat} {es : List En} {w : World} (hr : RdE w w.heap.size A es) (hn : es.length ≤ maxLen) (hok : ∀ j, j < es.length → (es.getD j enZ).Ok w) :
    Calls Tryd.prog 4 #[.slice A es.length c] w fun e w' => e = .returned (.bool (lightB es)) ∧ w = w' :=
  light_any A c es w hr hn fun j hj => ⟨(hok j hj).d, (hok j hj).nm⟩
/-- What New ends with in a law. -/
def NewL (w W : World) (l : List Ev) (e : Ending) (w' : World) : Prop :=
  (∃ v, (newA l).1 = 0 ∧ e = .returned (.tuple #[ptr W.heap.size, .int .i64 0, .int .i64 0]) ∧ LD w w' W.heap.size v W.heap.size (first l)) ∨ ((newA l).1 ≠ 0 ∧ e = .returned (.tuple #[.pointer none, .int .i64 (newA l).1, .int .i64 (newA l).2]) ∧ Below w.heap.size w w')
theorem new_law {A : Option Addr} {c : Nat} {es : List En} {w W : World} (hr : RdE w w.heap.size A es) (hn : es.length ≤ maxLen) (hok : ∀ j, j < es.length → (es.getD j enZ).Ok w) (hl : lightB es = true) (hg : TG w) (b : Below w.heap.size w W) :
    Calls Tryd.prog 7 #[.slice A es.length c] W (NewL w W (es.map ev)) :=
  (new_any A c es W ((hr.below b).mono b.size) (fun j hj => evok_of (hok j hj) ((light_ok hl).2 j hj).1 ((light_ok hl).2 j hj).2) (hg.below b (Nat.le_refl _)) hn).mono fun e w' h => LD.start b hg h
theorem first_len (es : List En) : (first (es.map ev)).l.length = es.length := by simp [first]
theorem first_at (es : List En) (k : Nat) : at_ (first (es.map ev)).l k = ev (es.getD k enZ) := at_map es k
theorem own_rd {W : World} {base : Nat} {t : TypeId} {A : Option Addr} {n c : Nat} {bs : List UInt8} (h : Own W base t (.slice A n c) bs) : Rd W W.heap.size A bs := (rdB_own h rfl).rd fun g hg => hg.2
theorem LD.find {w W : World} {p : Nat} {v : Value} {B : Nat} {s : Ds} (h : LD w W p v B s) (ix sub : Int) :
    Calls Tryd.prog 39 #[ptr p, .int .i64 ix, .int .i64 sub] W fun e w' => e = .returned (.tuple #[.int .i64 (findA s.l ix sub).1, .bool (findA s.l ix sub).2]) ∧ Below W.heap.size W w' := finds_any h.d h.i ix sub
theorem find_at {w W : World} {p : Nat} {v : Value} {B : Nat} {s : Ds} (h : LD w W p v B s) {k : Nat} (hk : k < s.l.length) : findA s.l (at_ s.l k).ix (at_ s.l k).sub = ((k : Int), true) := by
  unfold findA
  rw [fnd_at h.i.fine hk rfl rfl, if_neg (by omega)]
end Dic
end Go.Proofs.YtpdnfdpoebhjoaaDoor

namespace Go.Proofs.YtpdnfdpoebhjoaaDoor
namespace Dic
open Go.RowKit Mem Ent
set_option linter.unusedVariables false
set_option linter.unusedSimpArgs false
set_option maxRecDepth 100000

/-- The slice at A reads as values with their places, in blocks from base on, below top. -/
structure VR (X : World) (base top : Nat) (A : Option Addr) (vs : List Vv) : Prop where
  cells : RdL Vv.vals 3 Vv.zero (fun g => base ≤ g ∧ g < top) X A vs
  data : ∀ j, j < vs.length → RdB (fun g => base ≤ g ∧ g < top) X (vs.getD j Vv.zero).A (vs.getD j Vv.zero).d
section
variable {X X' : World} {base top : Nat} {A : Option Addr} {vs : List Vv}
theorem VR.keep (h : VR X base top A vs) (k : ∀ g, base ≤ g → g < top → X'.heap[g]? = X.heap[g]?) : VR X' base top A vs :=
  ⟨h.cells.keep fun g hg => k g hg.1 hg.2, fun j hj => (h.data j hj).keep fun g hg => k g hg.1 hg.2⟩
theorem VR.below (h : VR X base top A vs) (ht : top ≤ X.heap.size) (b : Below X.heap.size X X') : VR X' base top A vs := h.keep fun g _ hg => b.block g (Nat.lt_of_lt_of_le hg ht)
theorem VR.upd (h : VR X base top A vs) (ht : top ≤ X.heap.size) {S : Nat → Prop} (u : Upd S X X') (hS : ∀ g, S g → g < base) : VR X' base top A vs := h.keep fun g h1 hg => u.block g (Nat.lt_of_lt_of_le hg ht) fun s => by have := hS g s; omega
theorem VR.at (h : VR X base top A vs) {j : Nat} (hj : j < vs.length) {x : Vv} (hx : vs.getD j Vv.zero = x) : ∃ g off, A = some ⟨g, off, none⟩ ∧ g < top ∧ X.cell? ⟨g, off + j * 3, none⟩ = some (.int .i64 x.ix) ∧ X.cell? ⟨g, off + j * 3 + 1, none⟩ = some (.int .i64 x.sub) ∧ X.cell? ⟨g, off + j * 3 + 2, none⟩ = some (.slice x.A x.d.length x.c) ∧ Rd X top x.A x.d := by
  have h2 := h.data j hj
  rw [hx] at h2
  rcases h.cells with h | ⟨g, off, e, hg, hc⟩
  · subst h; simp at hj
  · have q := hc j hj
    rw [hx] at q
    exact ⟨g, off, e, hg.2, q 0 (by omega), q 1 (by omega), q 2 (by omega), h2.rd fun g hg => hg.2⟩
theorem VR.of {n c : Nat} (own : X.ownsRow base VT 3 (.slice A n c) vs.length (flat Vv.vals vs)) (lv : LV X base vs) : VR X base X.heap.size A vs := by
  obtain ⟨A', c', e, _, _, h⟩ := own_form (z := Vv.zero) vv_len own
  injection e with e1 e2 e3
  subst e1
  refine ⟨?_, fun j hj => rdB_own (lv.own _ (getD_mem hj)) rfl⟩
  rcases h with ⟨_, h, _⟩ | ⟨g, rfl, h1, h2, _, hc⟩
  · exact .inl h
  · exact .inr ⟨g, 0, rfl, ⟨h1, h2⟩, fun j hj i hi => by rw [Nat.zero_add]; exact hc j hj i hi⟩
end
/-- What Values ends with in a law. -/
def ValuesL (w W : World) (p : Nat) (v : Value) (B : Nat) (s : Ds) (e : Ending) (w' : World) : Prop :=
  ∃ A c vs, e = .returned (.slice A s.l.length c) ∧ vs.length = s.l.length ∧ VR w' W.heap.size w'.heap.size A vs ∧ LD w w' p v B s ∧ Below W.heap.size W w' ∧ ∀ k, k < s.l.length → (vs.getD k Vv.zero).ix = (at_ s.l k).ix ∧ (vs.getD k Vv.zero).sub = (at_ s.l k).sub ∧ (vs.getD k Vv.zero).d = vat s.v k
theorem tris_len {l : List Ev} {v : List (List UInt8)} (h : v.length = l.length) : (tris l v).length = l.length := by simp [tris, h]
theorem tris_at {l : List Ev} {v : List (List UInt8)} (h : v.length = l.length) {k : Nat} (hk : k < l.length) : (tris l v)[k]? = some ((at_ l k).ix, (at_ l k).sub, vat v k) := by
  unfold tris at_ vat
  rw [List.getElem?_zipWith]
  simp [hk, show k < v.length by omega]
theorem LD.values {w W : World} {p : Nat} {v : Value} {B : Nat} {s : Ds} (h : LD w W p v B s) : Calls Tryd.prog 14 #[ptr p] W (ValuesL w W p v B s) := by
  refine (values_any h.d).mono fun e w' ⟨A, c, vs, h1, h2, h3, h4, h5⟩ => ?_
  have hl : vs.length = s.l.length := by
    have := congrArg List.length h5
    rwa [List.length_map, tris_len h.i.len] at this
  refine ⟨A, c, vs, by rw [h1, hl], hl, VR.of h2 h3, h.next h4, h4, fun k hk => ?_⟩
  have e1 := congrArg (fun l : List (Int × Int × List UInt8) => l[k]?) h5
  simp only [List.getElem?_map] at e1
  rw [tris_at h.i.len hk, List.getElem?_eq_getElem (by omega), Option.map_some] at e1
  have e2 := Option.some.inj e1
  have e3 : vs.getD k Vv.zero = vs[k]'(by omega) := by simp [List.getD_eq_getElem?_getD, show k < vs.length by omega]
  rw [e3]
  unfold Vv.tri at e2
  injection e2 with e4 e5
  injection e5 with e5 e6
  exact ⟨e4, e5, e6⟩
/-- What stands at number k behind a Set, or a Poke. -/
theorem upon_at {s : Ds} (hi : Inv s) {C ix sub : Int} {bs : List UInt8} (hc : C = 0 → s.poke ix sub bs = 0) {k : Nat} (hk : k < s.l.length) :
    vat (s.upon C ix sub bs).v k = if ((at_ s.l k).ix = ix ∧ (at_ s.l k).sub = sub) ∧ C = 0 then bs else vat s.v k := by
  unfold Ds.upon
  by_cases h : C = 0
  · obtain ⟨m, hm, e, e1, e2, _⟩ := poke_zero (hc h)
    rw [if_pos h]
    show vat (s.v.set (fnd s.l ix sub).toNat bs) k = _
    rw [e, Int.toNat_natCast, vat_set _ _ _ _ (by rw [hi.len]; exact hm)]
    by_cases hkm : k = m
    · subst hkm
      rw [if_pos rfl, if_pos ⟨⟨e1, e2⟩, h⟩]
    · rw [if_neg hkm, if_neg]
      intro hh
      exact hkm (hi.fine.uniq hk hm (hh.1.1.trans e1.symm) (hh.1.2.trans e2.symm))
  · rw [if_neg h, if_neg fun hh => h hh.2]
/-- What was set is got. -/
theorem upon_get {s : Ds} (hi : Inv s) {C ix sub : Int} {bs : List UInt8} (hc : C = 0 → s.poke ix sub bs = 0) (h : C = 0) (hg : ((s.upon C ix sub bs).get ix sub).2 = 0) : ((s.upon C ix sub bs).get ix sub).1 = bs := by
  obtain ⟨m, hm, e, e1, e2, _⟩ := poke_zero (hc h)
  have hv := upon_at hi hc hm
  rw [if_pos ⟨⟨e1, e2⟩, h⟩] at hv
  have hl : (s.upon C ix sub bs).l = s.l := by
    unfold Ds.upon
    split <;> rfl
  unfold Ds.get at hg ⊢
  rw [hl, e] at hg ⊢
  rw [if_neg (by omega)] at hg ⊢
  rw [Int.toNat_natCast] at hg ⊢
  by_cases hr : readN (at_ s.l m).ac = 0
  · rw [if_neg (by simpa using hr)]
    exact hv
  · rw [if_pos hr] at hg
    exact absurd hg hr
theorem upon_l (s : Ds) (C ix sub : Int) (bs : List UInt8) : (s.upon C ix sub bs).l = s.l := by
  unfold Ds.upon
  split <;> rfl
/-- Set, with what it leaves alone. -/
theorem LD.set' {w W : World} {p : Nat} {v : Value} {B : Nat} {s : Ds} (hg : TG w) (h : LD w W p v B s) (ix sub : Int) {A : Option Addr} {n cb : Nat} {bs : List UInt8} (hb : Rd W W.heap.size A bs) (hn : n = bs.length) (hl : bs.length ≤ 1000) :
    Calls Tryd.prog 18 #[ptr p, .int .i64 ix, .int .i64 sub, .slice A n cb] W fun e w' => e = .returned (.int .u32 (s.may ix sub bs)) ∧ LD w w' p v B (s.upon (s.may ix sub bs) ix sub bs) ∧ Upd (fun q => v.ownBlock = some q) W w' := by
  subst hn
  exact ((set_any h.d h.i h.nlt ix sub (cb := cb) hb hl h.g).2).mono fun e w' ⟨h1, h2, h3⟩ => ⟨h1, h.upd hg h2 h3 (h.i.upon fun e => may_zero e), h3⟩
end Dic
end Go.Proofs.YtpdnfdpoebhjoaaDoor
