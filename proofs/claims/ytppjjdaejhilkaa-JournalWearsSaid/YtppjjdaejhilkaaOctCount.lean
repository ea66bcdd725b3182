/-
  What the helper Count of the statements does: a number from 0 to one less than most.
-/
import Derived.Test.YtppjjdaejhilkaaProg
import Derived.Test.YtppjjdaejhilkaaOctInts
namespace Go.Proofs.Ytppjjdaejhilkaa
open Go.RowKit

theorem tmod_two (n m : Int) (h : 1 ≤ m) : (n.tmod m = n % m ∧ 0 ≤ n % m ∧ n % m < m) ∨ (n.tmod m + m = n % m ∧ n.tmod m < 0 ∧ -m ≤ n.tmod m) := by
  have h0 := Int.emod_nonneg n (show m ≠ 0 by omega)
  have h1 := Int.emod_lt_of_pos n (show 0 < m by omega)
  have e := Int.tmod_eq_emod (a := n) (b := m)
  split at e
  · exact .inl ⟨by omega, h0, h1⟩
  · exact .inr ⟨by omega, by omega, by omega⟩

set_option maxHeartbeats 400000 in
theorem count_any (n m : Int) (w : World) (h1 : 1 ≤ m) (h2 : m ≤ 1099511627776) :
    Calls Try.prog 13 #[.int .i64 n, .int .i64 m] w fun e w' => e = .returned (.int .i64 (n % m)) ∧ w = w' := by
  rcases tmod_two n m h1 with ⟨e, e1, e2⟩ | ⟨e, e1, e2⟩
  · have he := Lib.hid e
    have hb : 0 ≤ n.tmod m ∧ n.tmod m < m := by omega
    clear e e1 e2
    go_enter Try.func13, Try.ntmps13
    go_wp2_with fail
    go_ret
    exact ⟨Oct.reti he.out, rfl⟩
  · have he := Lib.hid e
    clear e
    go_enter Try.func13, Try.ntmps13
    go_wp2_with fail
    go_ret
    exact ⟨Oct.reti he.out, rfl⟩

end Go.Proofs.Ytppjjdaejhilkaa
