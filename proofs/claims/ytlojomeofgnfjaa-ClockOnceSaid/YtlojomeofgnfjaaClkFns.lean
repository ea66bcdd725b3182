/-
  The small functions of a clock.
-/
import Derived.Test.YtlojomeofgnfjaaClkMem
import Derived.Test.YtlojomeofgnfjaaText
import Derived.Deep.QuietTactic
import Derived.BigQuiet
namespace Go.Proofs.Ytlojomeofgnfjaa
namespace Clk
open Go.RowKit Mem
set_option linter.unusedVariables false
set_option linter.unusedSimpArgs false
set_option maxRecDepth 100000

section
variable {W : World} {p : Nat} {s : Ck}

theorem none_any (h : IsC W p s) :
    Calls Try.prog 42 #[at_ p] W fun e w' => e = .returned (.bool false) ∧ W = w' := by
  have h1 := h.ct
  clear h
  go_enter Try.func42, Try.ntmps42
  go_wp2_with fail
  go_ret
  exact ⟨rfl, rfl⟩

theorem none_nil (W : World) :
    Calls Try.prog 42 #[.pointer none] W fun e w' => e = .returned (.bool true) ∧ W = w' := by
  go_enter Try.func42, Try.ntmps42
  go_wp2_with fail
  go_ret
  exact ⟨rfl, rfl⟩

theorem isName_any (n : Int) (W : World) :
    Calls Try.prog 43 #[.int .i64 n] W fun e w' => e = .returned (.bool (named n)) ∧ W = w' := by
  by_cases h0 : 0 ≤ n
  · by_cases h1 : n < 16
    · have e : named n = true := by simp [named, h0, h1]
      rw [e]
      go_enter Try.func43, Try.ntmps43
      go_wp2_with fail
      go_ret
      exact ⟨rfl, rfl⟩
    · have e : named n = false := by simp [named, h0, h1]
      rw [e]
      go_enter Try.func43, Try.ntmps43
      go_wp2_with fail
      go_ret
      exact ⟨rfl, rfl⟩
  · have e : named n = false := by simp [named, h0]
    rw [e]
    go_enter Try.func43, Try.ntmps43
    go_wp2_with fail
    go_ret
    exact ⟨rfl, rfl⟩

theorem new_any (W : World) :
    Calls Try.prog 15 #[] W fun e w' => e = .returned (at_ W.heap.size) ∧ IsC w' W.heap.size Ck.zero ∧ Below W.heap.size W w' := by
  go_enter Try.func15, Try.ntmps15
  go_wp2_with fail
  go_ret
  refine ⟨rfl, ⟨_, heap_alloc_new W _, _, rfl, by rfl, fun k hk => ?_, by rfl⟩, (Below.refl _ _).alloc (Nat.le_refl _) _⟩
  rcases (by omega : k = 0 ∨ k = 1 ∨ k = 2 ∨ k = 3 ∨ k = 4 ∨ k = 5 ∨ k = 6 ∨ k = 7 ∨ k = 8 ∨ k = 9 ∨ k = 10 ∨ k = 11 ∨ k = 12 ∨ k = 13 ∨ k = 14 ∨ k = 15) with h | h | h | h | h | h | h | h | h | h | h | h | h | h | h | h <;> subst h <;> exact ⟨by rfl, by rfl⟩

/-- What start ends with. -/
def StartEnds (W : World) (p : Nat) (s : Ck) (n t g : Int) (e : Ending) (w' : World) : Prop := e = .returned (.int .i64 (s.start n t g).2) ∧ IsC w' p (s.start n t g).1 ∧ W.grownBy w' (some p)

set_option maxHeartbeats 1000000 in
theorem start_any (h : IsC W p s) (n t g : Int) :
    Calls Try.prog 40 #[at_ p, .int .i64 n, .int .i64 t, .int .i64 g] W (StartEnds W p s n t g) := by
  have H1 := Lib.hid (none_any h)
  have H2 := Lib.hid (isName_any n W)
  unfold StartEnds
  by_cases hn : named n = true
  · have h0 : 0 ≤ n := by simp [named] at hn; omega
    have h16 : n < 16 := by simp [named] at hn; omega
    by_cases h1 : t < 1
    · have e : s.start n t g = (s, 1) := by simp [Ck.start, good]; omega
      rw [e]
      have HC := Lib.hid h
      clear h
      go_enter Try.func40, Try.ntmps40
      go_wp2_with fail
      refine H1.out.mono ?_
      rintro e w' ⟨rfl, rfl⟩
      go_wp2_with fail
      refine H2.out.mono ?_
      rintro e w' ⟨rfl, rfl⟩
      rw [hn]
      go_wp2_with fail
      go_ret
      exact ⟨rfl, HC.out, .refl _ _⟩
    · by_cases h2 : t > 1048576
      · have e : s.start n t g = (s, 1) := by simp [Ck.start, good]; omega
        rw [e]
        have HC := Lib.hid h
        clear h
        go_enter Try.func40, Try.ntmps40
        go_wp2_with fail
        refine H1.out.mono ?_
        rintro e w' ⟨rfl, rfl⟩
        go_wp2_with fail
        refine H2.out.mono ?_
        rintro e w' ⟨rfl, rfl⟩
        rw [hn]
        go_wp2_with fail
        go_ret
        exact ⟨rfl, HC.out, .refl _ _⟩
      · have e : s.start n t g = (⟨upd s.l n.toNat t, upd s.a n.toNat g⟩, 0) := by
          unfold Ck.start
          rw [if_pos (by simp [good, h0, h16]; omega)]
        rw [e]
        obtain ⟨k, rfl⟩ : ∃ k : Nat, n = (k : Int) := ⟨n.toNat, by omega⟩
        have hk : k < 16 := by omega
        have h64 : (k : Int) ≤ 9223372036854775807 := by omega
        have HC := Lib.hid (h.set2 hk t g)
        have HG := Lib.hid (grown_sets W p (k * 2) (k * 2 + 1) (.int .i64 t) (.int .i64 g))
        have hf0 := h.free (k * 2)
        have hf1 := h.free (k * 2 + 1)
        have hl := h.cl hk
        have ha := h.ca hk
        clear h
        go_enter Try.func40, Try.ntmps40
        go_wp2_with fail
        refine H1.out.mono ?_
        rintro e w' ⟨rfl, rfl⟩
        go_wp2_with fail
        refine H2.out.mono ?_
        rintro e w' ⟨rfl, rfl⟩
        rw [hn]
        go_wp2_with fail
        go_ret
        exact ⟨rfl, HC.out, HG.out⟩
  · have hn' : named n = false := by simpa using hn
    have e : s.start n t g = (s, 1) := by simp [Ck.start, good]; simp [named] at hn'; intro h1 h2; omega
    rw [e]
    have HC := Lib.hid h
    clear h
    go_enter Try.func40, Try.ntmps40
    go_wp2_with fail
    refine H1.out.mono ?_
    rintro e w' ⟨rfl, rfl⟩
    go_wp2_with fail
    refine H2.out.mono ?_
    rintro e w' ⟨rfl, rfl⟩
    rw [hn']
    go_wp2_with fail
    go_ret
    exact ⟨rfl, HC.out, .refl _ _⟩

theorem set_any (h : IsC W p s) (n t : Int) :
    Calls Try.prog 16 #[at_ p, .int .i64 n, .int .i64 t] W (StartEnds W p s n t 0) := by
  have H := Lib.hid (start_any h n t 0)
  clear h
  go_enter Try.func16, Try.ntmps16
  go_wp2_with fail
  refine H.out.mono ?_
  rintro e w' ⟨rfl, h1, h2⟩
  go_wp2_with fail
  go_ret
  exact ⟨rfl, h1, h2⟩

theorem every_any (h : IsC W p s) (n t : Int) :
    Calls Try.prog 18 #[at_ p, .int .i64 n, .int .i64 t] W (StartEnds W p s n t t) := by
  have H := Lib.hid (start_any h n t t)
  clear h
  go_enter Try.func18, Try.ntmps18
  go_wp2_with fail
  refine H.out.mono ?_
  rintro e w' ⟨rfl, h1, h2⟩
  go_wp2_with fail
  go_ret
  exact ⟨rfl, h1, h2⟩

theorem start_nil (n t g : Int) (W : World) :
    Calls Try.prog 40 #[.pointer none, .int .i64 n, .int .i64 t, .int .i64 g] W fun e w' => e = .returned (.int .i64 17) ∧ W = w' := by
  have H1 := Lib.hid (none_nil W)
  go_enter Try.func40, Try.ntmps40
  go_wp2_with fail
  refine H1.out.mono ?_
  rintro e w' ⟨rfl, rfl⟩
  go_wp2_with fail
  go_ret
  exact ⟨rfl, rfl⟩

theorem set_nil (n t : Int) (W : World) :
    Calls Try.prog 16 #[.pointer none, .int .i64 n, .int .i64 t] W fun e w' => e = .returned (.int .i64 17) ∧ W = w' := by
  have H := Lib.hid (start_nil n t 0 W)
  go_enter Try.func16, Try.ntmps16
  go_wp2_with fail
  refine H.out.mono ?_
  rintro e w' ⟨rfl, rfl⟩
  go_wp2_with fail
  go_ret
  exact ⟨rfl, rfl⟩

theorem every_nil (n t : Int) (W : World) :
    Calls Try.prog 18 #[.pointer none, .int .i64 n, .int .i64 t] W fun e w' => e = .returned (.int .i64 17) ∧ W = w' := by
  have H := Lib.hid (start_nil n t t W)
  go_enter Try.func18, Try.ntmps18
  go_wp2_with fail
  refine H.out.mono ?_
  rintro e w' ⟨rfl, rfl⟩
  go_wp2_with fail
  go_ret
  exact ⟨rfl, rfl⟩

theorem stop_nil (n : Int) (W : World) :
    Calls Try.prog 20 #[.pointer none, .int .i64 n] W fun e w' => e = .returned (.tuple #[]) ∧ W = w' := by
  have H1 := Lib.hid (none_nil W)
  go_enter Try.func20, Try.ntmps20
  go_wp2_with fail
  refine H1.out.mono ?_
  rintro e w' ⟨rfl, rfl⟩
  go_wp2_with fail
  refine bodyPost_ret (results_none rfl _ _ _) rfl ?_
  exact ⟨rfl, rfl⟩

set_option maxHeartbeats 1000000 in
theorem stop_any (h : IsC W p s) (n : Int) :
    Calls Try.prog 20 #[at_ p, .int .i64 n] W fun e w' => e = .returned (.tuple #[]) ∧ IsC w' p (s.stop n) ∧ W.grownBy w' (some p) := by
  have H1 := Lib.hid (none_any h)
  have H2 := Lib.hid (isName_any n W)
  by_cases hn : named n = true
  · have h0 : 0 ≤ n := by simp [named] at hn; omega
    have h16 : n < 16 := by simp [named] at hn; omega
    have e : s.stop n = ⟨upd s.l n.toNat 0, upd s.a n.toNat 0⟩ := by unfold Ck.stop; rw [if_pos hn]
    rw [e]
    obtain ⟨k, rfl⟩ : ∃ k : Nat, n = (k : Int) := ⟨n.toNat, by omega⟩
    have hk : k < 16 := by omega
    have HC := Lib.hid (h.set2 hk 0 0)
    have HG := Lib.hid (grown_sets W p (k * 2) (k * 2 + 1) (.int .i64 0) (.int .i64 0))
    have hf0 := h.free (k * 2)
    have hf1 := h.free (k * 2 + 1)
    have hl := h.cl hk
    have ha := h.ca hk
    clear h
    go_enter Try.func20, Try.ntmps20
    go_wp2_with fail
    refine H1.out.mono ?_
    rintro e w' ⟨rfl, rfl⟩
    go_wp2_with fail
    refine H2.out.mono ?_
    rintro e w' ⟨rfl, rfl⟩
    rw [hn]
    go_wp2_with fail
    go_end0
    exact ⟨rfl, HC.out, HG.out⟩
  · have hn' : named n = false := by simpa using hn
    have e : s.stop n = s := by unfold Ck.stop; rw [if_neg hn]
    rw [e]
    have HC := Lib.hid h
    clear h
    go_enter Try.func20, Try.ntmps20
    go_wp2_with fail
    refine H1.out.mono ?_
    rintro e w' ⟨rfl, rfl⟩
    go_wp2_with fail
    refine H2.out.mono ?_
    rintro e w' ⟨rfl, rfl⟩
    rw [hn']
    go_wp2_with fail
    refine bodyPost_ret (results_none rfl _ _ _) rfl ?_
    exact ⟨rfl, HC.out, .refl _ _⟩

theorem left_nil (n : Int) (W : World) :
    Calls Try.prog 22 #[.pointer none, .int .i64 n] W fun e w' => e = .returned (.tuple #[.int .i64 0, .bool false]) ∧ W = w' := by
  have H1 := Lib.hid (none_nil W)
  go_enter Try.func22, Try.ntmps22
  go_wp2_with fail
  refine H1.out.mono ?_
  rintro e w' ⟨rfl, rfl⟩
  go_wp2_with fail
  go_ret2
  exact ⟨rfl, rfl⟩

set_option maxHeartbeats 1000000 in
theorem left_any (h : IsC W p s) (n : Int) :
    Calls Try.prog 22 #[at_ p, .int .i64 n] W fun e w' => e = .returned (.tuple #[.int .i64 (s.left n), .bool (decide (0 < s.left n))]) ∧ W = w' := by
  have H1 := Lib.hid (none_any h)
  have H2 := Lib.hid (isName_any n W)
  by_cases hn : named n = true
  · have h0 : 0 ≤ n := by simp [named] at hn; omega
    have h16 : n < 16 := by simp [named] at hn; omega
    have e : s.left n = s.l n.toNat := by unfold Ck.left; rw [if_pos hn]
    rw [e]
    obtain ⟨k, rfl⟩ : ∃ k : Nat, n = (k : Int) := ⟨n.toNat, by omega⟩
    have hk : k < 16 := by omega
    have hl := h.cl hk
    simp only [Int.toNat_natCast]
    clear h
    go_enter Try.func22, Try.ntmps22
    go_wp2_with fail
    refine H1.out.mono ?_
    rintro e w' ⟨rfl, rfl⟩
    go_wp2_with fail
    refine H2.out.mono ?_
    rintro e w' ⟨rfl, rfl⟩
    rw [hn]
    go_wp2_with fail
    go_ret2
    exact ⟨rfl, rfl⟩
  · have hn' : named n = false := by simpa using hn
    have e : s.left n = 0 := by unfold Ck.left; rw [if_neg hn]
    rw [e]
    clear h
    go_enter Try.func22, Try.ntmps22
    go_wp2_with fail
    refine H1.out.mono ?_
    rintro e w' ⟨rfl, rfl⟩
    go_wp2_with fail
    refine H2.out.mono ?_
    rintro e w' ⟨rfl, rfl⟩
    rw [hn']
    go_wp2_with fail
    go_ret2
    exact ⟨rfl, rfl⟩

theorem copy_nil (W : World) :
    Calls Try.prog 24 #[.pointer none] W fun e w' => e = .returned (.pointer none) ∧ W = w' := by
  have H1 := Lib.hid (none_nil W)
  go_enter Try.func24, Try.ntmps24
  go_wp2_with fail
  refine H1.out.mono ?_
  rintro e w' ⟨rfl, rfl⟩
  go_wp2_with fail
  go_ret
  exact ⟨rfl, rfl⟩

end
end Clk
end Go.Proofs.Ytlojomeofgnfjaa
