/-
  The document's clock: sixteen numbers of ticks left, sixteen again.
-/
import Derived.Test.YtlojomeofgnfjaaClkTick
import Derived.BigQuiet
namespace Go.Proofs.Ytlojomeofgnfjaa
namespace Clk
open Go.RowKit Mem
set_option linter.unusedVariables false
set_option linter.unusedSimpArgs false
set_option maxRecDepth 100000

def RT : TypeId := 44
/-- The document's clock stands in block p. -/
def IsR (W : World) (p : Nat) (s : Ck) : Prop := ∃ cs : Array Value, W.heap[p]? = some (.cells cs RT (0, 0)) ∧ cs.size = 32 ∧ ∀ k, k < 16 → cs[k]? = some (.int .i64 (s.l k)) ∧ cs[16 + k]? = some (.int .i64 (s.a k))
section
variable {W W' : World} {p : Nat} {s : Ck}
theorem IsR.lt (h : IsR W p s) : p < W.heap.size := by
  obtain ⟨cs, h, _⟩ := h
  exact (Array.getElem?_eq_some_iff.1 h).1
theorem IsR.free (h : IsR W p s) (j : Nat) : W.frozen? ⟨p, j, none⟩ = false := by
  obtain ⟨cs, h, _⟩ := h
  exact frozen_of_row W p j _ RT h
theorem IsR.cl (h : IsR W p s) {k : Nat} (hk : k < 16) : W.cell? ⟨p, k, none⟩ = some (.int .i64 (s.l k)) := by
  obtain ⟨cs, h, _, hc⟩ := h
  simp [World.cell?, h, (hc k hk).1]
theorem IsR.ca (h : IsR W p s) {k : Nat} (hk : k < 16) : W.cell? ⟨p, 16 + k, none⟩ = some (.int .i64 (s.a k)) := by
  obtain ⟨cs, h, _, hc⟩ := h
  simp [World.cell?, h, (hc k hk).2]
theorem IsR.keep (h : IsR W p s) (hp : W'.heap[p]? = W.heap[p]?) : IsR W' p s := by
  obtain ⟨cs, h, ho⟩ := h
  exact ⟨cs, hp.trans h, ho⟩
theorem IsR.grown (h : IsR W p s) {r : Option Nat} (g : W.grownBy W' r) (hr : some p ≠ r) : IsR W' p s := h.keep (g.block p h.lt hr)
theorem IsR.below (h : IsR W p s) {B : Nat} (b : Below B W W') (hp : p < B) : IsR W' p s := h.keep (b.block p hp)
theorem IsR.setl (h : IsR W p s) {k : Nat} (hk : k < 16) (v : Int) : IsR (W.setCell ⟨p, k, none⟩ (.int .i64 v)) p ⟨upd s.l k v, s.a⟩ := by
  obtain ⟨cs, h, hs, hc⟩ := h
  refine ⟨_, heap_setCell_same W p k _ RT _ h, by simpa using hs, fun j hj => ?_⟩
  obtain ⟨h1, h2⟩ := hc j hj
  refine ⟨?_, ?_⟩
  · by_cases e : j = k
    · subst e; rw [Array.getElem?_setIfInBounds_self_of_lt (by omega)]; simp [upd]
    · rw [Array.getElem?_setIfInBounds_ne (by omega), h1]; simp [upd, e]
  · rw [Array.getElem?_setIfInBounds_ne (by omega), h2]
theorem IsR.seta (h : IsR W p s) {k : Nat} (hk : k < 16) (v : Int) : IsR (W.setCell ⟨p, 16 + k, none⟩ (.int .i64 v)) p ⟨s.l, upd s.a k v⟩ := by
  obtain ⟨cs, h, hs, hc⟩ := h
  refine ⟨_, heap_setCell_same W p (16 + k) _ RT _ h, by simpa using hs, fun j hj => ?_⟩
  obtain ⟨h1, h2⟩ := hc j hj
  refine ⟨?_, ?_⟩
  · rw [Array.getElem?_setIfInBounds_ne (by omega), h1]
  · by_cases e : j = k
    · subst e; rw [Array.getElem?_setIfInBounds_self_of_lt (by omega)]; simp [upd]
    · rw [Array.getElem?_setIfInBounds_ne (by omega), h2]; simp [upd, e]

/-- What begin ends with. -/
def BeginEnds (W : World) (p : Nat) (s : Ck) (n t g : Int) (e : Ending) (w' : World) : Prop := e = .returned (.int .i64 (s.start n t g).2) ∧ IsR w' p (s.start n t g).1 ∧ W.grownBy w' (some p)

set_option maxHeartbeats 2000000 in
theorem begin_any (h : IsR W p s) (n t g : Int) :
    Calls Try.prog 41 #[at_ p, .int .i64 n, .int .i64 t, .int .i64 g] W (BeginEnds W p s n t g) := by
  unfold BeginEnds
  by_cases hb : good n t = true
  · have e : s.start n t g = (⟨upd s.l n.toNat t, upd s.a n.toNat g⟩, 0) := by unfold Ck.start; rw [if_pos hb]
    simp [good] at hb
    rw [e]
    obtain ⟨k, rfl⟩ : ∃ k : Nat, n = (k : Int) := ⟨n.toNat, by omega⟩
    have hk : k < 16 := by omega
    have c1 : ¬ (k : Int) < 0 := by omega
    have c2 : ¬ (16 : Int) ≤ (k : Int) := by omega
    have c3 : ¬ t < 1 := by omega
    have c4 : ¬ (1048576 : Int) < t := by omega
    have HC := Lib.hid ((h.setl hk t).seta hk g)
    have HG := Lib.hid (grown_sets W p k (16 + k) (.int .i64 t) (.int .i64 g))
    have hf0 := h.free k
    have hf1 := h.free (16 + k)
    have hl := h.cl hk
    have ha := h.ca hk
    have j0 : (0 : Int) ≤ (k : Int) := by omega
    have j1 : (k : Int) < 16 := by omega
    clear h e hb
    go_enter Try.func41, Try.ntmps41
    go_wp2_with fail
    go_ret
    exact ⟨rfl, HC.out, HG.out⟩
  · have e : s.start n t g = (s, 1) := by unfold Ck.start; rw [if_neg hb]
    have hb' : n < 0 ∨ 16 ≤ n ∨ t < 1 ∨ 1048576 < t := by
      simp [good] at hb
      omega
    rw [e]
    have HC := Lib.hid h
    clear h e hb
    by_cases c1 : n < 0
    · clear hb'
      go_enter Try.func41, Try.ntmps41
      go_wp2_with fail
      go_ret
      exact ⟨rfl, HC.out, .refl _ _⟩
    · by_cases c2 : 16 ≤ n
      · clear hb'
        go_enter Try.func41, Try.ntmps41
        go_wp2_with fail
        go_ret
        exact ⟨rfl, HC.out, .refl _ _⟩
      · by_cases c3 : t < 1
        · clear hb'
          go_enter Try.func41, Try.ntmps41
          go_wp2_with fail
          go_ret
          exact ⟨rfl, HC.out, .refl _ _⟩
        · have c4 : 1048576 < t := by omega
          clear hb'
          go_enter Try.func41, Try.ntmps41
          go_wp2_with fail
          go_ret
          exact ⟨rfl, HC.out, .refl _ _⟩

theorem rset_any (h : IsR W p s) (n t : Int) :
    Calls Try.prog 17 #[at_ p, .int .i64 n, .int .i64 t] W (BeginEnds W p s n t 0) := by
  have H := Lib.hid (begin_any h n t 0)
  clear h
  go_enter Try.func17, Try.ntmps17
  go_wp2_with fail
  refine H.out.mono ?_
  rintro e w' ⟨rfl, h1, h2⟩
  go_wp2_with fail
  go_ret
  exact ⟨rfl, h1, h2⟩

theorem revery_any (h : IsR W p s) (n t : Int) :
    Calls Try.prog 19 #[at_ p, .int .i64 n, .int .i64 t] W (BeginEnds W p s n t t) := by
  have H := Lib.hid (begin_any h n t t)
  clear h
  go_enter Try.func19, Try.ntmps19
  go_wp2_with fail
  refine H.out.mono ?_
  rintro e w' ⟨rfl, h1, h2⟩
  go_wp2_with fail
  go_ret
  exact ⟨rfl, h1, h2⟩

/-- The document's Stop keeps for how many it would run again. -/
def Ck.halt (s : Ck) (n : Int) : Ck := if named n then ⟨upd s.l n.toNat 0, s.a⟩ else s

set_option maxHeartbeats 1000000 in
theorem rstop_any (h : IsR W p s) (n : Int) :
    Calls Try.prog 21 #[at_ p, .int .i64 n] W fun e w' => e = .returned (.tuple #[]) ∧ IsR w' p (s.halt n) ∧ W.grownBy w' (some p) := by
  by_cases hn : named n = true
  · have h0 : 0 ≤ n := by simp [named] at hn; omega
    have h16 : n < 16 := by simp [named] at hn; omega
    have e : s.halt n = ⟨upd s.l n.toNat 0, s.a⟩ := by unfold Ck.halt; rw [if_pos hn]
    rw [e]
    obtain ⟨k, rfl⟩ : ∃ k : Nat, n = (k : Int) := ⟨n.toNat, by omega⟩
    have hk : k < 16 := by omega
    have HC := Lib.hid (h.setl hk 0)
    have HG := Lib.hid (grown_set W p k (.int .i64 0))
    have hf0 := h.free k
    have hl := h.cl hk
    clear h e hn
    go_enter Try.func21, Try.ntmps21
    go_wp2_with fail
    go_end0
    exact ⟨rfl, HC.out, HG.out⟩
  · have e : s.halt n = s := by unfold Ck.halt; rw [if_neg hn]
    rw [e]
    have HC := Lib.hid h
    have hn' : n < 0 ∨ 16 ≤ n := by simp [named] at hn; omega
    clear h e hn
    by_cases c1 : n < 0
    · have c1' : ¬ 0 ≤ n := by omega
      clear hn'
      go_enter Try.func21, Try.ntmps21
      go_wp2_with fail
      go_end0
      exact ⟨rfl, HC.out, .refl _ _⟩
    · have c1' : 0 ≤ n := by omega
      have c2 : ¬ n < 16 := by omega
      clear hn'
      go_enter Try.func21, Try.ntmps21
      go_wp2_with fail
      go_end0
      exact ⟨rfl, HC.out, .refl _ _⟩

set_option maxHeartbeats 1000000 in
theorem rhas_any (h : IsR W p s) (ok : s.Ok) (n : Int) :
    Calls Try.prog 23 #[at_ p, .int .i64 n] W fun e w' => e = .returned (.tuple #[.int .i64 (s.left n), .bool (decide (0 < s.left n))]) ∧ W = w' := by
  generalize hx : s.left n = x
  by_cases hn : named n = true
  · have h0 : 0 ≤ n := by simp [named] at hn; omega
    have h16 : n < 16 := by simp [named] at hn; omega
    have e : s.left n = s.l n.toNat := by unfold Ck.left; rw [if_pos hn]
    rw [e] at hx
    obtain ⟨k, rfl⟩ : ∃ k : Nat, n = (k : Int) := ⟨n.toNat, by omega⟩
    have hk : k < 16 := by omega
    have hl := h.cl hk
    have hp := (ok.l k hk).1
    rw [Int.toNat_natCast] at hx
    rw [hx] at hl hp
    clear h e hn ok hx
    by_cases hz : x = 0
    · subst hz
      go_enter Try.func23, Try.ntmps23
      go_wp2_with fail
      go_ret2
      exact ⟨rfl, rfl⟩
    · have hz2 : (x == 0) = false := beq_eq_false_iff_ne.2 hz
      have E := Lib.hid (show decide (0 < x) = true by simp; omega)
      clear hz
      go_enter Try.func23, Try.ntmps23
      go_wp2_with fail
      go_ret2
      exact ⟨by rw [E.out]; rfl, rfl⟩
  · have e : s.left n = 0 := by unfold Ck.left; rw [if_neg hn]
    obtain rfl : x = 0 := by rw [← hx, e]
    have hn' : n < 0 ∨ 16 ≤ n := by simp [named] at hn; omega
    clear h e hn hx ok
    by_cases c1 : n < 0
    · clear hn'
      go_enter Try.func23, Try.ntmps23
      go_wp2_with fail
      go_ret2
      exact ⟨rfl, rfl⟩
    · have c2 : 16 ≤ n := by omega
      clear hn'
      go_enter Try.func23, Try.ntmps23
      go_wp2_with fail
      go_ret2
      exact ⟨rfl, rfl⟩
end
end Clk
end Go.Proofs.Ytlojomeofgnfjaa
