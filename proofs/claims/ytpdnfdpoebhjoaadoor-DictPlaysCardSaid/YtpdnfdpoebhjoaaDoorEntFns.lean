/-
  The rules of an entry that call nothing: here and in the document.
-/
import Derived.Test.YtpdnfdpoebhjoaaDoorEntMath

namespace Go.Proofs.YtpdnfdpoebhjoaaDoor

namespace Ent
open Go.RowKit Mem
set_option linter.unusedVariables false
set_option linter.unusedSimpArgs false
set_option maxRecDepth 100000

/-- An entry's cells; an entry as a value. -/
abbrev row (ix sub : Int) (nm : List UInt8) (ty ac : Int) (mp st : Bool) (mx lo hi : Int) (v : Value) : Array Value :=
  #[.int .i64 ix, .int .i64 sub, .string ⟨nm.toArray⟩, .int .i64 ty, .int .i64 ac, .bool mp, .bool st, .int .i64 mx, .int .i64 lo, .int .i64 hi, v]

abbrev ent (ix sub : Int) (nm : List UInt8) (ty ac : Int) (mp st : Bool) (mx lo hi : Int) (v : Value) : Value := .agg (row ix sub nm ty ac mp st mx lo hi v)

theorem one_b (w : World) (o : Obj) : Below w.heap.size w (w.alloc o) := (Below.refl w.heap.size w).alloc (Nat.le_refl _) o

theorem two_b (w : World) (o o' : Obj) : Below w.heap.size w ((w.alloc o).alloc o') := ((Below.refl _ _).alloc (Nat.le_refl _) _).alloc (by simp) _

theorem ret_int {k : IntKind} {x y : Int} (h : x = y) : Ending.returned (.int k x) = .returned (.int k y) := by rw [h]

theorem ret_bool {x y : Bool} (h : x = y) : Ending.returned (.bool x) = .returned (.bool y) := by rw [h]

theorem readable_any (ix sub : Int) (nm : List UInt8) (ty ac : Int) (mp st : Bool) (mx lo hi : Int) (v : Value) (w : World) :
    Calls Tryd.prog 66 #[ent ix sub nm ty ac mp st mx lo hi v] w fun e w' => e = .returned (.int .u32 (readN ac)) ∧ Below w.heap.size w w' := by
  have B := Lib.hid (one_b w)
  have H : Hid (readN ac = if ac = 3 then 100728833 else 0) := Lib.hid rfl
  by_cases h : ac = 3
  · rw [H.out, if_pos h]
    subst h
    go_enter Tryd.func66, Tryd.ntmps66
    go_wp2_with fail
    go_ret
    exact ⟨rfl, B.out _⟩
  · rw [H.out, if_neg h]
    go_enter Tryd.func66, Tryd.ntmps66
    go_wp2_with fail
    go_ret
    exact ⟨rfl, B.out _⟩

theorem rreadable_any (ix sub : Int) (nm : List UInt8) (ty ac : Int) (mp st : Bool) (mx lo hi : Int) (v : Value) (w : World) :
    Calls Tryd.prog 57 #[ent ix sub nm ty ac mp st mx lo hi v] w fun e w' => e = .returned (.int .u32 (readN ac)) ∧ Below w.heap.size w w' := by
  have B := Lib.hid (one_b w)
  have H : Hid (readN ac = if ac = 3 then 100728833 else 0) := Lib.hid rfl
  by_cases h : ac = 3
  · rw [H.out, if_pos h]
    subst h
    go_enter Tryd.func57, Tryd.ntmps57
    go_wp2_with fail
    go_ret
    exact ⟨rfl, B.out _⟩
  · rw [H.out, if_neg h]
    go_enter Tryd.func57, Tryd.ntmps57
    go_wp2_with fail
    go_ret
    exact ⟨rfl, B.out _⟩

theorem writable_any (ix sub : Int) (nm : List UInt8) (ty ac : Int) (mp st : Bool) (mx lo hi : Int) (v : Value) (w : World) :
    Calls Tryd.prog 64 #[ent ix sub nm ty ac mp st mx lo hi v] w fun e w' => e = .returned (.int .u32 (writeN ac)) ∧ Below w.heap.size w w' := by
  have B := Lib.hid (one_b w)
  have H : Hid (writeN ac = if ac = 1 ∨ ac = 2 then 100728834 else 0) := Lib.hid rfl
  rcases (by omega : ac = 1 ∨ ac = 2 ∨ (ac ≠ 1 ∧ ac ≠ 2)) with rfl | rfl | ⟨h1, h2⟩
  · rw [H.out, if_pos (by omega)]
    go_enter Tryd.func64, Tryd.ntmps64
    go_wp2_with fail
    go_ret
    exact ⟨rfl, B.out _⟩
  · rw [H.out, if_pos (by omega)]
    go_enter Tryd.func64, Tryd.ntmps64
    go_wp2_with fail
    go_ret
    exact ⟨rfl, B.out _⟩
  · rw [H.out, if_neg (by omega)]
    go_enter Tryd.func64, Tryd.ntmps64
    go_wp2_with fail
    go_ret
    exact ⟨rfl, B.out _⟩

theorem rwritable_any (ix sub : Int) (nm : List UInt8) (ty ac : Int) (mp st : Bool) (mx lo hi : Int) (v : Value) (w : World) :
    Calls Tryd.prog 60 #[ent ix sub nm ty ac mp st mx lo hi v] w fun e w' => e = .returned (.int .u32 (writeN ac)) ∧ Below w.heap.size w w' := by
  have B := Lib.hid (one_b w)
  have H : Hid (writeN ac = if ac = 1 ∨ ac = 2 then 100728834 else 0) := Lib.hid rfl
  rcases (by omega : ac = 1 ∨ ac = 2 ∨ (ac ≠ 1 ∧ ac ≠ 2)) with rfl | rfl | ⟨h1, h2⟩
  · rw [H.out, if_pos (by omega)]
    go_enter Tryd.func60, Tryd.ntmps60
    go_wp2_with fail
    go_ret
    exact ⟨rfl, B.out _⟩
  · rw [H.out, if_pos (by omega)]
    go_enter Tryd.func60, Tryd.ntmps60
    go_wp2_with fail
    go_ret
    exact ⟨rfl, B.out _⟩
  · rw [H.out, if_neg (by omega)]
    have d1 : (ac == 1) = false := by simpa using h1
    have d2 : (ac == 2) = false := by simpa using h2
    go_enter Tryd.func60, Tryd.ntmps60
    go_wp2_with fail
    go_ret
    exact ⟨rfl, B.out _⟩

theorem group_q (ix : Int) : (ix.tdiv 4096 = 1 ∧ groupN ix = 2) ∨ (6 ≤ ix.tdiv 4096 ∧ ix.tdiv 4096 ≤ 9 ∧ groupN ix = 3) ∨ (2 ≤ ix.tdiv 4096 ∧ ix.tdiv 4096 ≤ 5 ∧ groupN ix = 4) ∨ (ix.tdiv 4096 ≤ 0 ∧ groupN ix = 1) ∨ (10 ≤ ix.tdiv 4096 ∧ groupN ix = 1) := by
  unfold groupN
  rcases Int.lt_or_le ix 0 with h | h
  · right; right; right; left
    rw [if_pos (by omega)]
    refine ⟨?_, rfl⟩
    have : ix.tdiv 4096 = -((-ix) / 4096) := by
      rw [show ix = -(-ix) by omega, Int.neg_tdiv, Int.tdiv_eq_ediv_of_nonneg (by omega)]
      simp
    omega
  · rw [Int.tdiv_eq_ediv_of_nonneg h]
    rcases (by omega : ix < 4096 ∨ (4096 ≤ ix ∧ 40960 ≤ ix) ∨ (4096 ≤ ix ∧ ix < 40960 ∧ ix < 8192) ∨ (8192 ≤ ix ∧ ix < 40960 ∧ ix < 24576) ∨ (24576 ≤ ix ∧ ix < 40960)) with h | ⟨h, h1⟩ | ⟨h, h1, h2⟩ | ⟨h, h1, h2⟩ | ⟨h, h1⟩
    · right; right; right; left
      rw [if_pos (by omega)]
      exact ⟨by omega, rfl⟩
    · right; right; right; right
      rw [if_pos (by omega)]
      exact ⟨by omega, rfl⟩
    · left
      rw [if_neg (by omega), if_pos (by omega)]
      exact ⟨by omega, rfl⟩
    · right; right; left
      rw [if_neg (by omega), if_neg (by omega), if_pos (by omega)]
      exact ⟨by omega, by omega, rfl⟩
    · right; left
      rw [if_neg (by omega), if_neg (by omega), if_neg (by omega)]
      exact ⟨by omega, by omega, rfl⟩

theorem before_any (ix sub : Int) (nm : List UInt8) (ty ac : Int) (mp st : Bool) (mx lo hi : Int) (v : Value) (ix' sub' : Int) (nm' : List UInt8) (ty' ac' : Int) (mp' st' : Bool) (mx' lo' hi' : Int) (v' : Value) (w : World) :
    Calls Tryd.prog 22 #[ent ix sub nm ty ac mp st mx lo hi v, ent ix' sub' nm' ty' ac' mp' st' mx' lo' hi' v'] w fun e w' => e = .returned (.bool (befB ix sub ix' sub')) ∧ Below w.heap.size w w' := by
  have B := Lib.hid (two_b w)
  have H : Hid (befB ix sub ix' sub' = (decide (ix < ix') || (ix == ix' && decide (sub < sub')))) := Lib.hid rfl
  rw [H.out]
  by_cases h : ix = ix'
  · subst h
    have d : decide (ix < ix) = false := by simp
    have HE : Hid ((decide (ix < ix) || (ix == ix && decide (sub < sub'))) = decide (sub < sub')) := Lib.hid (by simp)
    rw [HE.out]
    clear d
    go_enter Tryd.func22, Tryd.ntmps22
    go_wp2_with fail
    go_ret
    exact ⟨rfl, B.out _ _⟩
  · have d : (ix == ix') = false := by simpa using h
    have HE : Hid ((decide (ix < ix') || (ix == ix' && decide (sub < sub'))) = decide (ix < ix')) := Lib.hid (by rw [d]; simp)
    rw [HE.out]
    go_enter Tryd.func22, Tryd.ntmps22
    go_wp2_with fail
    go_ret
    exact ⟨rfl, B.out _ _⟩

theorem rbefore_any (ix sub : Int) (nm : List UInt8) (ty ac : Int) (mp st : Bool) (mx lo hi : Int) (v : Value) (ix' sub' : Int) (nm' : List UInt8) (ty' ac' : Int) (mp' st' : Bool) (mx' lo' hi' : Int) (v' : Value) (w : World) :
    Calls Tryd.prog 25 #[ent ix sub nm ty ac mp st mx lo hi v, ent ix' sub' nm' ty' ac' mp' st' mx' lo' hi' v'] w fun e w' => e = .returned (.bool (befB ix sub ix' sub')) ∧ Below w.heap.size w w' := by
  have B := Lib.hid (two_b w)
  have H : Hid (befB ix sub ix' sub' = (decide (ix < ix') || (ix == ix' && decide (sub < sub')))) := Lib.hid rfl
  rw [H.out]
  rcases (by omega : ix < ix' ∨ ix = ix' ∨ ix' < ix) with h | h | h
  · have d : decide (ix < ix') = true := by simpa using h
    have HE : Hid ((decide (ix < ix') || (ix == ix' && decide (sub < sub'))) = true) := Lib.hid (by rw [d]; rfl)
    rw [HE.out]
    go_enter Tryd.func25, Tryd.ntmps25
    go_wp2_with fail
    go_ret
    exact ⟨rfl, B.out _ _⟩
  · subst h
    have HE : Hid ((decide (ix < ix) || (ix == ix && decide (sub < sub'))) = decide (sub < sub')) := Lib.hid (by simp)
    rw [HE.out]
    go_enter Tryd.func25, Tryd.ntmps25
    go_wp2_with fail
    go_ret
    exact ⟨rfl, B.out _ _⟩
  · have d : decide (ix < ix') = false := by simp; omega
    have d1 : (ix == ix') = false := by simp; omega
    have HE : Hid ((decide (ix < ix') || (ix == ix' && decide (sub < sub'))) = false) := Lib.hid (by rw [d, d1]; rfl)
    rw [HE.out]
    go_enter Tryd.func25, Tryd.ntmps25
    go_wp2_with fail
    go_ret
    exact ⟨rfl, B.out _ _⟩

theorem q_bd (ix : Int) (h0 : -9223372036854775808 ≤ ix) (h1 : ix ≤ 9223372036854775807) : IntKind.i64.wrap (ix.tdiv 4096) = ix.tdiv 4096 := by
  refine IntWalk.i64_in _ ?_
  rcases Int.lt_or_le ix 0 with h | h
  · have : ix.tdiv 4096 = -((-ix) / 4096) := by
      rw [show ix = -(-ix) by omega, Int.neg_tdiv, Int.tdiv_eq_ediv_of_nonneg (by omega)]
      simp
    omega
  · rw [Int.tdiv_eq_ediv_of_nonneg h]
    omega

end Ent

end Go.Proofs.YtpdnfdpoebhjoaaDoor
