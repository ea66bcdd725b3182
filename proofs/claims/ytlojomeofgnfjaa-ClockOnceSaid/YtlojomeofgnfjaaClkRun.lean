/-
  The iterator running: it goes through the timers that run.
-/
import Derived.Test.YtlojomeofgnfjaaClkFns
import Derived.Test.YtlojomeofgnfjaaClkRange
import Derived.RangeFuncBox
import Derived.RangeFuncBound
import Derived.Shelf.Abstract
import Derived.Shelf.RegionOpen
import Derived.OwnWalkIn
import Derived.TacticsInMore
import Derived.LoopNIn
import Derived.LoopIn
namespace Go.Proofs.Ytlojomeofgnfjaa
namespace Clk
open Go.RowKit Go.Shelf Mem
set_option linter.unusedVariables false
set_option linter.unusedSimpArgs false
set_option maxRecDepth 100000
attribute [local go_sem] Oper.semAt_some

def BT : TypeId := 39
theorem running_any (v : Option Addr) (W : World) :
    Calls Try.prog 44 #[.pointer v] W fun e w' => e = .returned (.func (.func 46) #[] #[.pointer (some ⟨W.heap.size, 0, none⟩)]) ∧ w' = W.alloc (.cells #[.pointer v] BT) := by
  go_enter Try.func44, Try.ntmps44
  go_wp2_with fail
  go_ret
  exact ⟨rfl, rfl⟩

/-- What is read between two rounds. -/
def Reads (bx p : Nat) (L : Nat → Int) (k : Nat) (W : World) : Prop := Boxed W bx BT (at_ p) ∧ ∃ s, IsC W p s ∧ ∀ j, k ≤ j → j < 16 → s.l j = L j

set_option maxHeartbeats 2000000 in
theorem run_seq (n bx p : Nat) (L : Nat → Int) (w : World) :
    Seq n Try.prog 46 #[.pointer (some ⟨bx, 0, none⟩)] (fun k => decide (0 < L k)) (fun k => #[.int .i64 (k : Int), .pointer (some ⟨p, k * 2, none⟩)]) (Reads bx p L) 16 w := by
  intro l J W hW hR hS hY h0
  have HR := Lib.hid hR
  have HS := Lib.hid hS
  have HY := Lib.hid hY
  obtain ⟨b0, s0, c0, _⟩ := hR 0 W h0
  have q0 := b0.cell
  have H1 := Lib.hid (none_any c0)
  have H0 := Lib.hid h0
  clear hR hS hY h0 b0 c0
  refine callsIn_of_wp Try.func46 rfl trivial ?_ rfl
  simp only [Try.ntmps46, List.size_toArray, List.length_cons, List.length_nil, Nat.reduceAdd, Nat.reduceSub, Array.replicate_succ, Array.replicate_zero, List.push_toArray, List.append_toArray, List.nil_append, List.cons_append]
  gi_wp2_with fail
  refine ⟨trivial, fun h => (by cases h), ?_⟩
  refine (callsIn_wide.2 H1.out).mono ?_
  rintro e w' ⟨rfl, rfl⟩
  gi_wp2_with fail
  gi_loopw [7] (fun x wr => ∃ k : Nat, k ≤ 16 ∧ x = .int .i64 (k : Int) ∧ J k wr) (fun x _ => 16 - (intOf x).toNat)
  case atStart => exact ⟨0, by omega, rfl, H0.out⟩
  case round =>
    obtain ⟨k, hk, rfl, hJ⟩ := hrel
    by_cases hk16 : k < 16
    · obtain ⟨b1, s1, c1, e1⟩ := HR.out k wr hJ
      have q1 := b1.cell
      have q2 := c1.cl hk16
      have e2 := e1 k (Nat.le_refl _) hk16
      rw [e2] at q2
      have h64 : (k : Int) ≤ 9223372036854775807 := by omega
      by_cases hl : 0 < L k
      · have hl' : ¬ L k ≤ 0 := by omega
        obtain ⟨fn, tmps, assign, body, hy, hR⟩ := HY.out k wr hJ hk16 (by simp [hl])
        clear b1 c1 e1 e2 hJ
        gi_wp2_with fail
        refine ⟨fun h => (by cases h), ?_⟩
        refine hR.mono ?_
        rintro e W' ⟨rfl, hJ'⟩
        clear hy hR q1 q2
        gi_wp2_with fail
        go_roundw
        case rel => exact ⟨k + 1, by omega, by go_num, hJ'⟩
        case measure => simp [intOf]; omega
      · have hl' : L k ≤ 0 := by omega
        have hJ' := HS.out k wr hJ hk16 (by simp [hl])
        clear b1 c1 e1 e2 hJ
        gi_wp2_with fail
        refine ⟨fun _ h => (by cases h), ?_⟩
        gi_wp2_with fail
        go_roundw
        case rel => exact ⟨k + 1, by omega, by go_num, hJ'⟩
        case measure => simp [intOf]; omega
    · obtain rfl : k = 16 := by omega
      gi_wp2_with fail
      go_end0
      exact ⟨⟨_, rfl⟩, hJ⟩

set_option maxHeartbeats 1000000 in
theorem run_seq_nil (n bx : Nat) (on : Nat → Bool) (encs : Nat → Array Value) (w : World) :
    Seq n Try.prog 46 #[.pointer (some ⟨bx, 0, none⟩)] on encs (fun _ W => Boxed W bx BT (.pointer none)) 0 w := by
  intro l J W hW hR hS hY h0
  have b0 := hR 0 W h0
  have q0 := b0.cell
  have H0 := Lib.hid h0
  clear hR hS hY h0 b0
  refine callsIn_of_wp Try.func46 rfl trivial ?_ rfl
  simp only [Try.ntmps46, List.size_toArray, List.length_cons, List.length_nil, Nat.reduceAdd, Nat.reduceSub, Array.replicate_succ, Array.replicate_zero, List.push_toArray, List.append_toArray, List.nil_append, List.cons_append]
  gi_wp2_with fail
  refine ⟨trivial, fun h => (by cases h), ?_⟩
  refine (callsIn_wide.2 (none_nil W)).mono ?_
  rintro e w' ⟨rfl, rfl⟩
  gi_wp2_with fail
  refine bodyPost_ret (results_none rfl _ _ _) rfl ?_
  exact ⟨⟨_, rfl⟩, H0.out⟩
end Clk
end Go.Proofs.Ytlojomeofgnfjaa
