/-
  Copy: another clock that is alike in all.
-/
import Derived.Test.YtlojomeofgnfjaaClkFns
import Derived.Laws.Rows
import Derived.Laws.Tables
import Derived.Deep.WholeRow
namespace Go.Proofs.Ytlojomeofgnfjaa
namespace Clk
open Go.RowKit Mem
set_option linter.unusedVariables false
set_option linter.unusedSimpArgs false
set_option maxRecDepth 100000

theorem size_clk : (Try.prog.info? 69).map (·.size) = some 33 := by kernel_rfl
set_option maxHeartbeats 4000000 in
theorem copy_any {W : World} {p : Nat} {s : Ck} (h : IsC W p s) :
    Calls Try.prog 24 #[at_ p] W fun e w' => e = .returned (at_ W.heap.size) ∧ IsC w' W.heap.size s ∧ Below W.heap.size W w' := by
  have H1 := Lib.hid (none_any h)
  obtain ⟨o, h0, cs, rfl, hs, hc, ht⟩ := h
  have hi : (Try.prog.info? 69).map (·.size) = some cs.size := by rw [hs]; exact size_clk
  have one : cs.all (·.oneCell') = true := by
    rw [Array.all_eq_true]
    intro j hj
    by_cases e : j = 32
    · subst e
      have : cs[32] = .bool true := by rw [Array.getElem?_eq_getElem hj] at ht; exact Option.some.inj ht
      rw [this]
      rfl
    · obtain ⟨k, hk⟩ : ∃ k, j = k * 2 ∨ j = k * 2 + 1 := ⟨j / 2, by omega⟩
      rcases hk with rfl | rfl
      · have h1 := (hc k (by omega)).1
        rw [Array.getElem?_eq_getElem hj] at h1
        rw [Option.some.inj h1]
        rfl
      · have h1 := (hc k (by omega)).2
        rw [Array.getElem?_eq_getElem hj] at h1
        rw [Option.some.inj h1]
        rfl
  have FIN := Lib.hid (show IsC (W.alloc (.cells cs CT)) W.heap.size s ∧ Below W.heap.size W (W.alloc (.cells cs CT)) from ⟨⟨_, heap_alloc_new W _, cs, rfl, hs, hc, ht⟩, (Below.refl _ _).alloc (Nat.le_refl _) _⟩)
  clear ht hc
  go_enter Try.func24, Try.ntmps24
  go_wp2_with fail
  refine H1.out.mono ?_
  rintro e w' ⟨rfl, rfl⟩
  clear H1
  go_wp2_with (first
    | (refine wpList_load_row rfl 69 _ rfl p rfl CT cs (0, 0) _ h0 Try.underlying69 rfl hi ?_)
    | (refine wpList_store_row rfl 69 _ _ rfl W.heap.size cs rfl rfl CT _ (heap_alloc_new W _) hi (by rw [hs]; rfl) one ?_))
  go_ret
  refine ⟨rfl, ?_⟩
  rw [World.setRow_alloc_new]
  exact FIN.out
end Clk
end Go.Proofs.Ytlojomeofgnfjaa
