/-
  Whether an entry has an Index.
-/
import Derived.Test.YtcbffoablononaaDoorDicSearch
namespace Go.Proofs.YtcbffoablononaaDoor
namespace Dic
open Go.RowKit Mem Ent
set_option linter.unusedVariables false
set_option linter.unusedSimpArgs false
set_option maxRecDepth 100000

/-- A row as a value. -/
abbrev Rv.arr (r : Rv) : Array Value := #[.int .i64 r.e.ix, .int .i64 r.e.sub, .string ⟨r.e.nm.toArray⟩, .int .i64 r.e.ty, .int .i64 r.e.ac, .bool r.e.mp, .bool r.e.st, .int .i64 r.e.mx, .int .i64 r.e.lo, .int .i64 r.e.hi, .slice r.A r.e.d.length r.cA, .slice r.V r.v.length r.cV]
def hasB (l : List Ev) (ix : Int) : Bool := l.any fun e => e.ix == ix
section
variable {W X : World} {p : Nat} {v : Value} {N : Nat → Prop} {rs : List Rv}

theorem has1_any (r : Rv) (pi : Nat) (ix : Int) (W : World) (hp : W.heap[pi]? = some (.cells #[.int .i64 ix] 3)) :
    Calls Tryd.prog 88 #[.agg r.arr, ptr pi] W fun e w' => e = .returned (.bool (r.e.ix == ix)) ∧ Below W.heap.size W w' := by
  have hlt := (Array.getElem?_eq_some_iff.1 hp).1
  have B := Lib.hid (one_b W (.cells r.arr 77))
  have cx : (W.alloc (.cells r.arr 77)).cell? ⟨pi, 0, none⟩ = some (.int .i64 ix) := by
    rw [B.out.cell (p := ⟨pi, 0, none⟩) hlt]
    simp [World.cell?, hp]
  clear hp hlt
  go_enter Tryd.func88, Tryd.ntmps88
  go_wp2_with fail
  go_ret
  exact ⟨rfl, B.out⟩

/-- What IndexFunc ends with. -/
def IdxEnds (W : World) (b : Bool) (e : Ending) (w' : World) : Prop := ∃ i : Int, e = .returned (.int .i64 i) ∧ decide (0 ≤ i) = b ∧ Below W.heap.size W w'
theorem any_take (rs : List Rv) (ix : Int) {k : Nat} (hk : k < rs.length) (h : (rs.getD k Rv.zero).e.ix = ix) : hasB (evs rs) ix = true := by
  unfold hasB
  rw [List.any_eq_true]
  exact ⟨(rs.getD k Rv.zero).e, List.mem_map.2 ⟨_, getD_mem hk, rfl⟩, by simp [← h]⟩
theorem any_none (rs : List Rv) (ix : Int) (h : ∀ k, k < rs.length → (rs.getD k Rv.zero).e.ix ≠ ix) : hasB (evs rs) ix = false := by
  unfold hasB
  rw [List.any_eq_false]
  intro e he
  obtain ⟨r, hr, rfl⟩ := List.mem_map.1 he
  obtain ⟨k, hk, rfl⟩ := List.getElem_of_mem hr
  have := h k hk
  simpa [List.getD_eq_getElem?_getD, hk] using this

set_option maxHeartbeats 2000000 in
theorem index_any (h : IsD W p v N rs) (pi : Nat) (ix : Int) (hp : W.heap[pi]? = some (.cells #[.int .i64 ix] 3)) :
    Calls Tryd.prog 96 #[v, .func (.func 88) #[] #[ptr pi]] W (IdxEnds W (hasB (evs rs) ix)) := by
  have few := h.few
  obtain ⟨A, c, hv, hlc, hcm⟩ := h.form
  have hplt := (Array.getElem?_eq_some_iff.1 hp).1
  have YES := Lib.hid (fun k hk e => any_take rs ix (k := k) hk e)
  have NO := Lib.hid (any_none rs ix)
  have PI := Lib.hid (fun X (b : Below W.heap.size W X) => (b.block pi hplt).trans hp)
  have AT := Lib.hid (fun k (hk : k < rs.length) => h.at hk rfl)
  generalize hasB (evs rs) ix = B at *
  clear h hp hplt
  subst hv
  go_enter Tryd.func96, Tryd.ntmps96
  go_wp2_with fail
  go_loopw [8] (fun iv wr => ∃ k : Nat, k ≤ rs.length ∧ iv = .int .i64 (k : Int) ∧ Hid (∀ a, a < k → (rs.getD a Rv.zero).e.ix ≠ ix) ∧ Hid (Below W.heap.size W wr)) (fun iv _ => rs.length - (intOf iv).toNat)
  case atStart => exact ⟨0, by omega, rfl, Lib.hid (fun a h => by omega), Lib.hid (Below.refl _ _)⟩
  case round =>
    obtain ⟨k, hk, rfl, hA, hb⟩ := hrel
    by_cases hlt : k < rs.length
    · obtain ⟨g, c', e1, hg, z1, z2, QQ, z3⟩ := AT.out k hlt
      injection e1 with e1 e2 e3
      subst e1
      clear e2 e3 z1 z2 z3
      obtain ⟨q0, q1, q2, q3, q4, q5, q6, q7, q8, q9, q10, q11⟩ := QQ.below hg hb.out
      have j1 : (0 : Int) ≤ (k : Int) := by omega
      have j2 : (k : Int) < (rs.length : Int) := by omega
      have K := Lib.hid (has1_any (rs.getD k Rv.zero) pi ix wr (PI.out wr hb.out))
      have YES := Lib.hid (YES.out k hlt)
      have NEXT := Lib.hid (fun (h : (rs.getD k Rv.zero).e.ix ≠ ix) a (ha : a < k + 1) => show (rs.getD a Rv.zero).e.ix ≠ ix by
        rcases Nat.lt_or_ge a k with h1 | h1
        · exact hA.out a h1
        · obtain rfl : a = k := by omega
          exact h)
      clear QQ AT PI hA
      generalize rs.getD k Rv.zero = r at *
      go_wp2_with fail
      refine K.out.mono ?_
      rintro e w' ⟨rfl, b⟩
      have T := Lib.hid (hb.out.trans (b.mono hb.out.size))
      clear b K q0 q1 q2 q3 q4 q5 q6 q7 q8 q9 q10 q11
      cases hx : (r.e.ix == ix) with
      | true =>
        have hB := Lib.hid (YES.out (by simpa using hx))
        clear hx YES NO NEXT
        go_wp2_with fail
        go_ret
        exact ⟨(k : Int), rfl, by rw [hB.out]; simp, T.out⟩
      | false =>
        have hB := Lib.hid (NEXT.out (by simpa using hx))
        clear hx YES NEXT
        go_wp2_with fail
        go_roundw
        case rel => exact ⟨k + 1, by omega, by go_num, hB, T⟩
        case measure => simp [intOf]; omega
    · have hE : k = rs.length := by omega
      subst hE
      have hB := Lib.hid (NO.out hA.out)
      clear NO YES AT PI hA
      go_wp2_with fail
      go_ret
      exact ⟨-1, rfl, by rw [hB.out]; rfl, hb.out⟩

theorem contains_any (h : IsD W p v N rs) (pi : Nat) (ix : Int) (hp : W.heap[pi]? = some (.cells #[.int .i64 ix] 3)) :
    Calls Tryd.prog 87 #[v, .func (.func 88) #[] #[ptr pi]] W fun e w' => e = .returned (.bool (hasB (evs rs) ix)) ∧ Below W.heap.size W w' := by
  have K := Lib.hid (index_any h pi ix hp)
  clear h hp
  go_enter Tryd.func87, Tryd.ntmps87
  go_wp2_with fail
  refine K.out.mono ?_
  rintro e w' ⟨i, rfl, hi, b⟩
  have HI := Lib.hid hi
  clear hi
  go_wp2_with fail
  go_ret
  exact ⟨by rw [← HI.out]; rfl, b⟩

theorem has_any (h : IsD W p v N rs) (ix : Int) :
    Calls Tryd.prog 72 #[ptr p, .int .i64 ix] W fun e w' => e = .returned (.bool (hasB (evs rs) ix)) ∧ Below W.heap.size W w' := by
  have b1 := one_b W (.cells #[.int .i64 ix] 3)
  have K := Lib.hid (contains_any (h.below b1) W.heap.size ix (heap_alloc_new W _))
  have c0 := (h.below b1).c0
  have B := Lib.hid b1
  clear h b1
  go_enter Tryd.func72, Tryd.ntmps72
  go_wp2_with fail
  refine K.out.mono ?_
  rintro e w' ⟨rfl, b⟩
  go_wp2_with fail
  go_ret
  exact ⟨rfl, B.out.trans (b.mono B.out.size)⟩
end
/-- The code of a place that is not there. -/
theorem miss_has {l : List Ev} {ix sub : Int} (h : fnd l ix sub < 0) : miss (fnd l ix sub) = if hasB l ix = true then 101253137 else 100794368 := by
  rcases fndTo_spec l ix sub l.length with ⟨e, h1⟩ | ⟨e, ⟨i, hi, h1⟩, _⟩ | ⟨i, hi, e, _, _⟩
  · have e' : fnd l ix sub = -2 := e
    rw [e', if_neg]
    · rfl
    · intro hb
      unfold hasB at hb
      rw [List.any_eq_true] at hb
      obtain ⟨x, hx, hxe⟩ := hb
      obtain ⟨k, hk, rfl⟩ := List.getElem_of_mem hx
      exact h1 k hk (by rw [at_lt hk]; simpa using hxe)
  · have e' : fnd l ix sub = -1 := e
    rw [e', if_pos]
    · rfl
    · unfold hasB
      rw [List.any_eq_true]
      rw [at_lt hi] at h1
      exact ⟨l[i], List.getElem_mem hi, by simp [h1]⟩
  · have e' : fnd l ix sub = (i : Int) := e
    omega
end Dic
end Go.Proofs.YtcbffoablononaaDoor
