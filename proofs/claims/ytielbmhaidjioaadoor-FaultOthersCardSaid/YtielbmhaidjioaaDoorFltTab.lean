/-
  What package fault does with codes: family, Known, counted, New, none, Code.
-/
import Derived.Test.YtielbmhaidjioaaDoorFltGlob
namespace Go.Proofs.YtielbmhaidjioaaDoor
open Go.RowKit Mem
set_option linter.unusedVariables false

theorem fam_none {c : Int} (h : ∀ k, k < 28 → Flt.codes.getD k 0 ≠ c) : Flt.fam c = 0 := by
  unfold Flt.fam
  rw [Flt.idx_no h]
  rfl
theorem famV_zero (a : Nat → Addr) {k : Nat} (h : k = 0) : famV a k = .nilIface := by subst h; rfl
theorem codes_ne {c : Int} (h : c ∉ Flt.codes) : ∀ k, k < 28 → Flt.codes.getD k 0 ≠ c := by
  intro k hk e
  refine h ?_
  rw [← e, List.getD_eq_getElem?_getD, List.getElem?_eq_getElem (show k < Flt.codes.length from hk)]
  exact List.getElem_mem _

theorem fam_leaf {c K : Int} {a : Nat → Addr} {v : Value} (h : (c == K) = true) (hv : v = famV a (Flt.fam K)) : Ending.returned v = Ending.returned (famV a (Flt.fam c)) := by
  rw [eq_of_beq h, hv]

set_option maxHeartbeats 4000000 in
theorem family_any (c : Int) (a : Nat → Addr) (w : World) (hg : Glob w a) :
    Calls Tryd.prog 27 #[.int .u32 c] w fun e w' => e = .returned (famV a (Flt.fam c)) ∧ w = w' := by
  have h1 := hg.c1
  have h2 := hg.c2
  have h3 := hg.c3
  have h4 := hg.c4
  have h5 := hg.c5
  clear hg
  go_enter Tryd.func27, Tryd.ntmps27
  go_wp2_with fail
  all_goals go_ret
  all_goals refine ⟨?_, rfl⟩
  all_goals clear h1 h2 h3 h4 h5
  all_goals first
    | exact fam_leaf (by assumption) (by kernel_rfl)
    | (rw [famV_zero a (fam_none (codes_ne (by intro hm; simp [Flt.codes] at hm; simp_all)))]; rfl)

theorem famV_known (a : Nat → Addr) (c : Int) : (Flt.known c = true ∧ famV a (Flt.fam c) = errV (a (Flt.fam c))) ∨ (Flt.known c = false ∧ famV a (Flt.fam c) = .nilIface) := by
  cases h : Flt.known c with
  | false => exact .inr ⟨rfl, famV_zero a ((Flt.fam_known c).2 h)⟩
  | true =>
    refine .inl ⟨rfl, ?_⟩
    have : Flt.fam c ≠ 0 := fun e => by rw [(Flt.fam_known c).1 e] at h; cases h
    exact if_neg this

set_option maxHeartbeats 400000 in
theorem known_any (c : Int) (a : Nat → Addr) (w : World) (hg : Glob w a) :
    Calls Tryd.prog 9 #[.int .u32 c] w fun e w' => e = .returned (.bool (Flt.known c)) ∧ w = w' := by
  have hn := fun v => run_eql_iface_nil_left (P := Tryd.prog) w 129 v Tryd.underlying24
  rcases famV_known a c with ⟨hk, hf⟩ | ⟨hk, hf⟩
  all_goals
    have HF := Lib.hid hf
    rw [hk]
    clear hk hf
    go_enter Tryd.func9, Tryd.ntmps9
    go_wp2_with (go_at_call 27; refine (family_any c a _ hg).mono ?_; rw [HF.out]; (try unfold errV); rintro e w' ⟨rfl, rfl⟩)
    go_ret
    exact ⟨rfl, rfl⟩

theorem cnt_yes {c : Int} (h : Flt.known c = true) : Flt.cnt c = c := if_pos h
theorem cnt_no {c : Int} (h : Flt.known c = false) : Flt.cnt c = 134217728 := if_neg (by rw [h]; decide)

set_option maxHeartbeats 400000 in
theorem counted_any (c : Int) (a : Nat → Addr) (w : World) (hg : Glob w a) :
    Calls Tryd.prog 26 #[.int .u32 c] w fun e w' => e = .returned (.int .u32 (Flt.cnt c)) ∧ w = w' := by
  by_cases h : Flt.known c = true
  · have H := Lib.hid (cnt_yes h)
    go_enter Tryd.func26, Tryd.ntmps26
    go_wp2_with (go_at_call 9; refine (known_any c a _ hg).mono ?_; rintro e w' ⟨rfl, rfl⟩)
    go_ret
    exact ⟨by rw [H.out]; rfl, rfl⟩
  · have h' : Flt.known c = false := by simpa using h
    have H := Lib.hid (cnt_no h')
    clear h
    go_enter Tryd.func26, Tryd.ntmps26
    go_wp2_with (go_at_call 9; refine (known_any c a _ hg).mono ?_; rintro e w' ⟨rfl, rfl⟩)
    go_ret
    exact ⟨by rw [H.out]; rfl, rfl⟩

theorem new_any (c : Int) (a : Nat → Addr) (w : World) (hg : Glob w a) :
    Calls Tryd.prog 8 #[.int .u32 c] w fun e w' => e = .returned (.agg #[.int .u32 (Flt.cnt c), errV (a (Flt.fam (Flt.cnt c)))]) ∧ Below w.heap.size w w' := by
  have hb1 := fun o => Lib.hid ((Below.refl w.heap.size w).alloc (Nat.le_refl _) o)
  have hg1 := fun o => hg.below (hb1 o).out (Nat.le_refl _)
  have HF : Hid (famV a (Flt.fam (Flt.cnt c)) = errV (a (Flt.fam (Flt.cnt c)))) := by
    rcases famV_known a (Flt.cnt c) with ⟨hk, hf⟩ | ⟨hk, hf⟩
    · exact Lib.hid hf
    · rw [Flt.cnt_known c] at hk; cases hk
  go_enter Tryd.func8, Tryd.ntmps8
  go_wp2_with (first | (go_at_call 26; refine (counted_any c a _ (hg1 _)).mono ?_; rintro e w' ⟨rfl, rfl⟩) | (go_at_call 27; refine (family_any _ a _ (hg1 _)).mono ?_; rw [HF.out]; unfold errV; rintro e w' ⟨rfl, rfl⟩))
  refine bodyPost_ret (v := .agg #[.int .u32 (Flt.cnt c), errV (a (Flt.fam (Flt.cnt c)))]) ?_ rfl ⟨rfl, ?_⟩
  · unfold errV; simp [results, Tryd.results8, go_sem]
  · exact (Below.refl w.heap.size w).alloc (Nat.le_refl _) _

set_option maxHeartbeats 400000 in
theorem none_any (c : Int) (x : Value) (w : World) :
    Calls Tryd.prog 32 #[.agg #[.int .u32 c, x]] w fun e w' => e = .returned (.bool (c == 0)) ∧ w' = w.alloc (.cells #[.int .u32 c, x] 26) := by
  go_enter Tryd.func32, Tryd.ntmps32
  go_wp2_with fail
  go_ret
  exact ⟨rfl, rfl⟩

set_option maxHeartbeats 400000 in
theorem code_any (c : Int) (x : Value) (w : World) :
    Calls Tryd.prog 13 #[.agg #[.int .u32 c, x]] w fun e w' => e = .returned (.int .u32 c) ∧ w' = w.alloc (.cells #[.int .u32 c, x] 26) := by
  go_enter Tryd.func13, Tryd.ntmps13
  go_wp2_with fail
  go_ret
  exact ⟨rfl, rfl⟩
end Go.Proofs.YtielbmhaidjioaaDoor
