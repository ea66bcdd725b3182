/-
  A clock in memory: sixteen timers, two numbers each; a clock as a value.
-/
import Derived.Test.YtlojomeofgnfjaaProg
import Derived.Test.YtlojomeofgnfjaaIntsOwn
namespace Go.Proofs.Ytlojomeofgnfjaa
namespace Clk
open Go.RowKit Mem
set_option linter.unusedVariables false
set_option linter.unusedSimpArgs false
set_option maxRecDepth 100000

/-- A clock as a value: each timer's ticks left, and for how many it runs again. -/
structure Ck where
  l : Nat → Int
  a : Nat → Int
def Ck.zero : Ck := ⟨fun _ => 0, fun _ => 0⟩
def upd (f : Nat → Int) (k : Nat) (v : Int) : Nat → Int := fun j => if j = k then v else f j
theorem upd_same (f : Nat → Int) (k : Nat) (v : Int) : upd f k v k = v := by simp [upd]
theorem upd_other (f : Nat → Int) {k j : Nat} (v : Int) (h : j ≠ k) : upd f k v j = f j := by simp [upd, h]
def bnd (x : Int) : Prop := 0 ≤ x ∧ x ≤ 1048576
structure Ck.Ok (s : Ck) : Prop where
  l : ∀ k, k < 16 → bnd (s.l k)
  a : ∀ k, k < 16 → bnd (s.a k)
theorem Ck.Ok.zero : Ck.zero.Ok := ⟨fun _ _ => ⟨by simp [Ck.zero], by simp [Ck.zero]⟩, fun _ _ => ⟨by simp [Ck.zero], by simp [Ck.zero]⟩⟩
theorem Ck.Ok.upd {s : Ck} (h : s.Ok) (k : Nat) {x y : Int} (hx : bnd x) (hy : bnd y) : (⟨upd s.l k x, upd s.a k y⟩ : Ck).Ok := by
  refine ⟨fun j hj => ?_, fun j hj => ?_⟩
  · by_cases e : j = k
    · subst e; simpa [Clk.upd] using hx
    · simpa [Clk.upd, e] using h.l j hj
  · by_cases e : j = k
    · subst e; simpa [Clk.upd] using hy
    · simpa [Clk.upd, e] using h.a j hj
theorem Ck.Ok.updl {s : Ck} (h : s.Ok) (k : Nat) {x : Int} (hx : bnd x) : (⟨Clk.upd s.l k x, s.a⟩ : Ck).Ok := by
  refine ⟨fun j hj => ?_, h.a⟩
  by_cases e : j = k
  · subst e; simpa [Clk.upd] using hx
  · simpa [Clk.upd, e] using h.l j hj

def CT : TypeId := 69
abbrev at_ (p : Nat) : Value := .pointer (some ⟨p, 0, none⟩)
/-- The cells of a clock. -/
def IsCs (s : Ck) (o : Obj) : Prop := ∃ cs : Array Value, o = .cells cs CT (0, 0) ∧ cs.size = 33 ∧ (∀ k, k < 16 → cs[k * 2]? = some (.int .i64 (s.l k)) ∧ cs[k * 2 + 1]? = some (.int .i64 (s.a k))) ∧ cs[32]? = some (.bool true)
/-- A clock stands in block p. -/
def IsC (W : World) (p : Nat) (s : Ck) : Prop := ∃ o, W.heap[p]? = some o ∧ IsCs s o
section
variable {W W' : World} {p : Nat} {s : Ck}
theorem IsC.lt (h : IsC W p s) : p < W.heap.size := by
  obtain ⟨o, h, _⟩ := h
  exact (Array.getElem?_eq_some_iff.1 h).1
theorem IsC.free (h : IsC W p s) (j : Nat) : W.frozen? ⟨p, j, none⟩ = false := by
  obtain ⟨o, h, cs, rfl, _⟩ := h
  exact frozen_of_row W p j _ CT h
theorem IsC.cl (h : IsC W p s) {k : Nat} (hk : k < 16) : W.cell? ⟨p, k * 2, none⟩ = some (.int .i64 (s.l k)) := by
  obtain ⟨o, h, cs, rfl, _, hc, _⟩ := h
  simp [World.cell?, h, (hc k hk).1]
theorem IsC.ca (h : IsC W p s) {k : Nat} (hk : k < 16) : W.cell? ⟨p, k * 2 + 1, none⟩ = some (.int .i64 (s.a k)) := by
  obtain ⟨o, h, cs, rfl, _, hc, _⟩ := h
  simp [World.cell?, h, (hc k hk).2]
theorem IsC.ct (h : IsC W p s) : W.cell? ⟨p, 32, none⟩ = some (.bool true) := by
  obtain ⟨o, h, cs, rfl, _, _, hc⟩ := h
  simp [World.cell?, h, hc]
theorem IsC.keep (h : IsC W p s) (hp : W'.heap[p]? = W.heap[p]?) : IsC W' p s := by
  obtain ⟨o, h, ho⟩ := h
  exact ⟨o, hp.trans h, ho⟩
theorem IsC.grown (h : IsC W p s) {r : Option Nat} (g : W.grownBy W' r) (hr : some p ≠ r) : IsC W' p s := h.keep (g.block p h.lt hr)
theorem IsC.below (h : IsC W p s) {B : Nat} (b : Below B W W') (hp : p < B) : IsC W' p s := h.keep (b.block p hp)
theorem IsC.alloc (h : IsC W p s) (o : Obj) : IsC (W.alloc o) p s := h.grown (World.grownBy_alloc W o none) (by simp)
theorem IsC.setl (h : IsC W p s) {k : Nat} (hk : k < 16) (v : Int) : IsC (W.setCell ⟨p, k * 2, none⟩ (.int .i64 v)) p ⟨upd s.l k v, s.a⟩ := by
  obtain ⟨o, h, cs, rfl, hs, hc, ht⟩ := h
  refine ⟨_, heap_setCell_same W p (k * 2) _ CT _ h, _, rfl, by simpa using hs, fun j hj => ?_, ?_⟩
  · obtain ⟨h1, h2⟩ := hc j hj
    refine ⟨?_, ?_⟩
    · by_cases e : j = k
      · subst e; rw [Array.getElem?_setIfInBounds_self_of_lt (by omega)]; simp [upd]
      · rw [Array.getElem?_setIfInBounds_ne (by omega), h1]; simp [upd, e]
    · rw [Array.getElem?_setIfInBounds_ne (by omega), h2]
  · rw [Array.getElem?_setIfInBounds_ne (by omega), ht]
theorem IsC.seta (h : IsC W p s) {k : Nat} (hk : k < 16) (v : Int) : IsC (W.setCell ⟨p, k * 2 + 1, none⟩ (.int .i64 v)) p ⟨s.l, upd s.a k v⟩ := by
  obtain ⟨o, h, cs, rfl, hs, hc, ht⟩ := h
  refine ⟨_, heap_setCell_same W p (k * 2 + 1) _ CT _ h, _, rfl, by simpa using hs, fun j hj => ?_, ?_⟩
  · obtain ⟨h1, h2⟩ := hc j hj
    refine ⟨?_, ?_⟩
    · rw [Array.getElem?_setIfInBounds_ne (by omega), h1]
    · by_cases e : j = k
      · subst e; rw [Array.getElem?_setIfInBounds_self_of_lt (by omega)]; simp [upd]
      · rw [Array.getElem?_setIfInBounds_ne (by omega), h2]; simp [upd, e]
  · rw [Array.getElem?_setIfInBounds_ne (by omega), ht]
theorem IsC.set2 (h : IsC W p s) {k : Nat} (hk : k < 16) (x y : Int) : IsC ((W.setCell ⟨p, k * 2, none⟩ (.int .i64 x)).setCell ⟨p, k * 2 + 1, none⟩ (.int .i64 y)) p ⟨upd s.l k x, upd s.a k y⟩ := (h.setl hk x).seta hk y
theorem grown_sets (W : World) (p i j : Nat) (x y : Value) : W.grownBy ((W.setCell ⟨p, i, none⟩ x).setCell ⟨p, j, none⟩ y) (some p) := grown_trans (grown_set W p i x) (grown_set _ p j y)
end
/-- What a clock's start does: ErrArg is 1. -/
def good (n t : Int) : Bool := decide (0 ≤ n) && decide (n < 16) && decide (1 ≤ t) && decide (t ≤ 1048576)
def Ck.start (s : Ck) (n t g : Int) : Ck × Int := if good n t then (⟨upd s.l n.toNat t, upd s.a n.toNat g⟩, 0) else (s, 1)
def named (n : Int) : Bool := decide (0 ≤ n) && decide (n < 16)
def Ck.stop (s : Ck) (n : Int) : Ck := if named n then ⟨upd s.l n.toNat 0, upd s.a n.toNat 0⟩ else s
def Ck.left (s : Ck) (n : Int) : Int := if named n then s.l n.toNat else 0
theorem Ck.start_ok {s : Ck} (h : s.Ok) (n t g : Int) (hg : g = 0 ∨ g = t) : (s.start n t g).1.Ok := by
  unfold Ck.start good
  split
  · rename_i e
    simp at e
    exact h.upd _ ⟨by omega, by omega⟩ ⟨by omega, by omega⟩
  · exact h
theorem Ck.stop_ok {s : Ck} (h : s.Ok) (n : Int) : (s.stop n).Ok := by
  unfold Ck.stop
  split
  · exact h.upd _ ⟨by omega, by omega⟩ ⟨by omega, by omega⟩
  · exact h
theorem Ck.left_bd {s : Ck} (h : s.Ok) (n : Int) : bnd (s.left n) := by
  unfold Ck.left named
  split
  · rename_i e
    simp at e
    exact h.l _ (by omega)
  · exact ⟨by omega, by omega⟩
end Clk
end Go.Proofs.Ytlojomeofgnfjaa
