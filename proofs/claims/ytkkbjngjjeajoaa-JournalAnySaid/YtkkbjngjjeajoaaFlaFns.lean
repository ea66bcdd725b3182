/-
  The small functions of a flash.
-/
import Derived.Test.YtkkbjngjjeajoaaFlaMem
import Derived.Test.YtkkbjngjjeajoaaText
import Derived.Deep.QuietTactic
import Derived.BigQuiet
namespace Go.Proofs.Ytkkbjngjjeajoaa
namespace Fla
open Go.RowKit Mem
set_option linter.unusedVariables false

abbrev at_ (p : Nat) : Value := .pointer (some ⟨p, 0, none⟩)
section
variable {w : World} {p D c : Nat} {s : Fl}
theorem fnone_any (h : IsF w p D c s) :
    Calls Try.prog 72 #[at_ p] w fun e w' => e = .returned (.bool false) ∧ w = w' := by
  have h0 := h.c0
  have hl := h.ok.len0
  have hl' : ((s.bs.length : Int) == 0) = false := beq_eq_false_iff_ne.2 (by omega)
  clear h
  go_enter Try.func72, Try.ntmps72
  go_wp2_with fail
  go_ret
  exact ⟨rfl, rfl⟩
theorem flen_any (h : IsF w p D c s) :
    Calls Try.prog 88 #[at_ p] w fun e w' => e = .returned (.int .i64 (s.bs.length : Int)) ∧ w = w' := by
  have h0 := h.c0
  have H1 := Lib.hid (fnone_any h)
  clear h
  go_enter Try.func88, Try.ntmps88
  go_wp2_with fail
  refine H1.out.mono ?_
  rintro e w' ⟨rfl, rfl⟩
  go_wp2_with fail
  go_ret
  exact ⟨rfl, rfl⟩
theorem fsectors_any (h : IsF w p D c s) :
    Calls Try.prog 58 #[at_ p] w fun e w' => e = .returned (.int .i64 ((s.bs.length / 1024 : Nat) : Int)) ∧ w = w' := by
  have H1 := Lib.hid (flen_any h)
  have hl := h.ok.len1
  clear h
  go_enter Try.func58, Try.ntmps58
  go_wp2_with fail
  refine H1.out.mono ?_
  rintro e w' ⟨rfl, rfl⟩
  go_wp2_with fail
  go_ret
  exact ⟨by congr 2, rfl⟩
theorem fhas_any (n : Int) (h : IsF w p D c s) :
    Calls Try.prog 73 #[at_ p, .int .i64 n] w fun e w' => e = .returned (.bool (s.has n)) ∧ w = w' := by
  have H1 := Lib.hid (fsectors_any h)
  clear h
  by_cases hn : 0 ≤ n
  · have HH : Hid (s.has n = decide (n < ((s.bs.length / 1024 : Nat) : Int))) := Lib.hid (by unfold Fl.has; simp [hn])
    go_enter Try.func73, Try.ntmps73
    go_wp2_with fail
    refine H1.out.mono ?_
    rintro e w' ⟨rfl, rfl⟩
    go_wp2_with fail
    go_ret
    exact ⟨by rw [HH.out]; rfl, rfl⟩
  · have HH : Hid (s.has n = false) := Lib.hid (by unfold Fl.has; simp [hn])
    have hd : decide (n ≥ 0) = false := by simp; omega
    go_enter Try.func73, Try.ntmps73
    go_wp2_with fail
    go_ret
    exact ⟨by rw [HH.out]; rfl, rfl⟩
theorem fon_any (h : IsF w p D c s) :
    Calls Try.prog 47 #[at_ p] w fun e w' => e = .returned (.bool s.on) ∧ w = w' := by
  have h0 := h.c10
  have H1 := Lib.hid (fnone_any h)
  clear h
  go_enter Try.func47, Try.ntmps47
  go_wp2_with fail
  refine H1.out.mono ?_
  rintro e w' ⟨rfl, rfl⟩
  go_wp2_with fail
  go_ret
  exact ⟨rfl, rfl⟩

theorem fworn_any (n : Int) (h : IsF w p D c s) :
    Calls Try.prog 48 #[at_ p, .int .i64 n] w fun e w' => e = .returned (.int .i64 (s.worn n)) ∧ w = w' := by
  have H1 := Lib.hid (fhas_any n h)
  cases hh : s.has n with
  | false =>
    rw [hh] at H1
    have HW : Hid (s.worn n = 0) := Lib.hid (by unfold Fl.worn; rw [hh]; rfl)
    clear hh h
    go_enter Try.func48, Try.ntmps48
    go_wp2_with fail
    refine H1.out.mono ?_
    rintro e w' ⟨rfl, rfl⟩
    go_wp2_with fail
    go_ret
    exact ⟨by rw [HW.out]; rfl, rfl⟩
  | true =>
    obtain ⟨n0, n1, _⟩ := h.ok.has_lt hh
    obtain ⟨k, rfl⟩ : ∃ k : Nat, n = (k : Int) := ⟨n.toNat, by omega⟩
    rw [hh] at H1
    have hk : (k : Int) < 8 := by omega
    have hc := h.cw (n := k) (by omega)
    have HW : Hid (s.worn k = s.wearAt k) := Lib.hid (by unfold Fl.worn; rw [hh]; rfl)
    clear hh h n1 n0
    go_enter Try.func48, Try.ntmps48
    go_wp2_with fail
    refine H1.out.mono ?_
    rintro e w' ⟨rfl, rfl⟩
    go_wp2_with fail
    go_ret
    exact ⟨by rw [HW.out]; rfl, rfl⟩
theorem fleft_any (n : Int) (h : IsF w p D c s) :
    Calls Try.prog 101 #[at_ p, .int .i64 n] w fun e w' => e = .returned (.int .i64 (s.left n)) ∧ Below w.heap.size w w' := by
  have H1 := Lib.hid (fhas_any n h)
  cases hh : s.has n with
  | false =>
    rw [hh] at H1
    have HW : Hid (s.left n = 0) := Lib.hid (by unfold Fl.left; rw [hh]; rfl)
    clear hh h
    go_enter Try.func101, Try.ntmps101
    go_wp2_with fail
    refine H1.out.mono ?_
    rintro e w' ⟨rfl, rfl⟩
    go_wp2_with fail
    go_ret
    exact ⟨by rw [HW.out]; rfl, Below.refl _ _⟩
  | true =>
    obtain ⟨n0, n1, _⟩ := h.ok.has_lt hh
    obtain ⟨k, rfl⟩ : ∃ k : Nat, n = (k : Int) := ⟨n.toNat, by omega⟩
    rw [hh] at H1
    have hk : (k : Int) < 8 := by omega
    have hc := h.cw (n := k) (by omega)
    have h9 := h.c9
    have hb := h.ok.wear_bd k (by omega)
    have hm := h.ok.m1
    have HW : Hid (s.left k = s.most - s.wearAt k) := Lib.hid (by unfold Fl.left; rw [hh]; rfl)
    clear hh h n1 n0
    go_enter Try.func101, Try.ntmps101
    go_wp2_with fail
    refine H1.out.mono ?_
    rintro e w' ⟨rfl, rfl⟩
    go_wp2_with fail
    go_quiet (fail)
    go_wp2_with fail
    go_ret
    exact ⟨by rw [HW.out]; rfl, below_drewN (Below.refl _ _) _⟩

end

end Fla
end Go.Proofs.Ytkkbjngjjeajoaa
