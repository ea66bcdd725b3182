/-
  The place where a frame comes to stand.
-/
import Derived.Test.YtlojomeofgnfjaaTxqRow

namespace Go.Proofs.Ytlojomeofgnfjaa

namespace Txq
open Go.RowKit Mem Frm
set_option linter.unusedVariables false
set_option linter.unusedSimpArgs false
set_option maxRecDepth 100000

/-- How many stand ahead of the first one that goes behind. -/
def plc (id : Int) (r : Bool) (fs : List Fv) : Nat := (fs.takeWhile fun g => !before id r g.id g.r).length

theorem plc_le (id : Int) (r : Bool) (fs : List Fv) : plc id r fs ≤ fs.length := (List.takeWhile_prefix _).length_le

theorem plc_at : ∀ {fs : List Fv} {k : Nat} {id : Int} {r : Bool}, k ≤ fs.length → (∀ j, j < k → before id r (fs.getD j Fv.zero).id (fs.getD j Fv.zero).r = false) → (k < fs.length → before id r (fs.getD k Fv.zero).id (fs.getD k Fv.zero).r = true) → plc id r fs = k
  | [], k, id, r, hk, h0, h1 => by simp at hk; subst hk; rfl
  | g :: fs, 0, id, r, hk, h0, h1 => by
    have := h1 (by simp)
    simp at this
    simp [plc, this]
  | g :: fs, k + 1, id, r, hk, h0, h1 => by
    have a := h0 0 (by omega)
    simp at a
    have ih := plc_at (fs := fs) (k := k) (id := id) (r := r) (by simpa using hk) (fun j hj => by have := h0 (j + 1) (by omega); simpa using this) (fun h => by have := h1 (by simpa using h); simpa using this)
    unfold plc at *
    simp [a, ih]

theorem plc_no {fs : List Fv} {id : Int} {r : Bool} {j : Nat} (h : j < plc id r fs) : ∃ hj : j < fs.length, before id r fs[j].id fs[j].r = false := by
  have hl := plc_le id r fs
  unfold plc at h
  have h1 : j < fs.length := Nat.lt_of_lt_of_le h (List.takeWhile_prefix _).length_le
  refine ⟨h1, ?_⟩
  have e := (List.takeWhile_prefix (fun g : Fv => !before id r g.id g.r) (l := fs)).getElem h
  have hm := List.getElem_mem h
  have ha := List.all_takeWhile (p := fun g : Fv => !before id r g.id g.r) (l := fs)
  have := List.all_eq_true.1 ha _ hm
  rw [e] at this
  simpa using this

theorem plc_yes : ∀ {fs : List Fv} {id : Int} {r : Bool} (h : plc id r fs < fs.length), before id r fs[plc id r fs].id fs[plc id r fs].r = true
  | [], id, r, h => by simp at h
  | g :: fs, id, r, h => by
    cases hb : before id r g.id g.r with
    | true =>
      have e : plc id r (g :: fs) = 0 := by simp [plc, hb]
      simp [e, hb]
    | false =>
      have e : plc id r (g :: fs) = plc id r fs + 1 := by simp [plc, hb]
      simp only [e, List.getElem_cons_succ]
      exact plc_yes (fs := fs) (by rw [e] at h; simpa using h)

theorem new3 (W : World) (x y z : Value) (t : TypeId) : (W.alloc (.cells #[x, y, z] t)).cell? ⟨W.heap.size, 0, none⟩ = some x ∧ (W.alloc (.cells #[x, y, z] t)).cell? ⟨W.heap.size, 1, none⟩ = some y ∧ (W.alloc (.cells #[x, y, z] t)).cell? ⟨W.heap.size, 2, none⟩ = some z := by
  obtain ⟨a, b, c, _⟩ := cell3 (heap_alloc_new W (.cells #[x, y, z] t))
  exact ⟨a, b, c⟩

/-- A frame in a block of the call's own, new since w. -/
structure One (w : World) (g : Nat) (x y z : Value) (W : World) : Prop where
  b : Below w.heap.size w W
  box : W.heap[g]? = some (.cells #[x, y, z] 29)
  ge : w.heap.size ≤ g

theorem One.start (w : World) (x y z : Value) : One w w.heap.size x y z (w.alloc (.cells #[x, y, z] 29)) := ⟨(Below.refl _ _).alloc (Nat.le_refl _) _, heap_alloc_new _ _, Nat.le_refl _⟩

section
variable {w W W' : World} {g : Nat} {x y z : Value}

theorem One.next (h : One w g x y z W) (b : Below W.heap.size W W') : One w g x y z W' := ⟨h.b.trans (b.mono h.b.size), (b.block _ (lt_of h.box)).trans h.box, h.ge⟩

theorem One.alloc (h : One w g x y z W) (o : Obj) : One w g x y z (W.alloc o) := h.next ((Below.refl _ _).alloc (Nat.le_refl _) o)

theorem One.drew (h : One w g x y z W) : One w g x y z W.drew := ⟨h.b.drew, h.box, h.ge⟩

theorem One.c (h : One w g x y z W) : W.cell? ⟨g, 0, none⟩ = some x ∧ W.cell? ⟨g, 1, none⟩ = some y ∧ W.cell? ⟨g, 2, none⟩ = some z := by
  obtain ⟨a, b, c, _⟩ := cell3 h.box
  exact ⟨a, b, c⟩

end

set_option maxHeartbeats 2000000 in
theorem place_any (A : Option Addr) (c : Nat) (fs : List Fv) (id : Int) (r : Bool) (v : Value) (w : World) (hr : RdF w w.heap.size A fs) (hm : fs.length ≤ 140737488355328) (hv : ∃ A' n' c', v = .slice A' n' c') :
    Calls Try.prog 35 #[.slice A fs.length c, frm id r v, .func (.func 36) #[] #[]] w fun e w' => e = .returned (.int .i64 (plc id r fs : Int)) ∧ Below w.heap.size w w' := by
  obtain ⟨A', n', c', rfl⟩ := hv
  have PA := Lib.hid (fun k => @plc_at fs k id r)
  generalize plc id r fs = P at *
  have O := Lib.hid (One.start w (.int .i64 id) (.bool r) (.slice A' n' c'))
  have R := Lib.hid hr
  clear hr
  go_enter Try.func35, Try.ntmps35
  go_wp2_with fail
  go_loopw [11] (fun iv wr => ∃ k : Nat, k ≤ fs.length ∧ iv = .int .i64 (k : Int) ∧ Hid (One w w.heap.size (.int .i64 id) (.bool r) (.slice A' n' c') wr) ∧ Hid (∀ j, j < k → before id r (fs.getD j Fv.zero).id (fs.getD j Fv.zero).r = false)) (fun iv _ => fs.length - (intOf iv).toNat)
  case atStart => exact ⟨0, by omega, rfl, O, Lib.hid (fun j hj => by omega)⟩
  case round =>
    obtain ⟨k, hk, rfl, hO, hq⟩ := hrel
    clear O
    by_cases hlt : k < fs.length
    · obtain ⟨g, off, rfl, hg, q0, q1, q2, _⟩ := (R.out.below hO.out.b).three hlt rfl
      have i1 : (0 : Int) ≤ (k : Int) := by omega
      have i2 : (k : Int) < (fs.length : Int) := by omega
      have N := Lib.hid (show before id r (fs.getD k Fv.zero).id (fs.getD k Fv.zero).r = false → ∀ j, j < k + 1 → before id r (fs.getD j Fv.zero).id (fs.getD j Fv.zero).r = false from fun h j hj => by
        by_cases e : j = k
        · subst e; exact h
        · exact hq.out j (by omega))
      have Y := Lib.hid (fun h => PA.out k hk hq.out (fun _ => h))
      generalize fs.getD k Fv.zero = F at *
      have x := fun o => (hO.out.alloc o).c
      have x0 := fun o => (x o).1
      have x1 := fun o => (x o).2.1
      have x2 := fun o => (x o).2.2
      have HO := Lib.hid fun o => hO.out.alloc o
      have BF := Lib.hid (fun W => before_any id r A' n' c' F.id F.r F.A F.d.length F.c W)
      clear hO hq x PA
      go_wp2_with fail
      refine (BF.out _).mono ?_
      rintro e w1 ⟨rfl, b1⟩
      have O1 := Lib.hid ((HO.out _).next b1)
      clear x0 x1 x2 HO b1
      cases hb : before id r F.id F.r with
      | true =>
        have E := Y.out hb
        clear N Y
        go_wp2_with fail
        go_ret
        exact ⟨by rw [E]; rfl, O1.out.b⟩
      | false =>
        have E := Lib.hid (N.out hb)
        clear N Y
        go_wp2_with fail
        go_roundw
        case rel => exact ⟨k + 1, by omega, by go_num, O1, E⟩
        case measure => simp [intOf]; omega
    · obtain rfl : k = fs.length := by omega
      have E := PA.out fs.length hk hq.out (fun h => by omega)
      clear PA
      go_wp2_with fail
      go_ret
      exact ⟨by rw [E]; rfl, hO.out.b⟩

end Txq

end Go.Proofs.Ytlojomeofgnfjaa
