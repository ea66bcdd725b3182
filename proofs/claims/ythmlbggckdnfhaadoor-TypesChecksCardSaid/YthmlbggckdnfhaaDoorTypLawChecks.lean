/-
  TypesChecks: its walk.
-/
import Derived.Test.YthmlbggckdnfhaaDoorTypKnown
import Derived.Test.YthmlbggckdnfhaaDoorOctAux
namespace Go.Proofs.YthmlbggckdnfhaaDoor
open Go.RowKit Mem
set_option linter.unusedVariables false

set_option maxRecDepth 100000 in
set_option maxHeartbeats 4000000 in
theorem tchecks_law (t most : Int) (A : Option Addr) (c : Nat) (bs : List UInt8) (w : World) (h0 : -9223372036854775808 ≤ t) (h1 : t ≤ 9223372036854775807) (n0 : -9223372036854775808 ≤ most) (n1 : most ≤ 9223372036854775807) (hr : Rd w w.heap.size A bs) (hm : bs.length ≤ maxLen) (hg : TG w) :
    Calls Tryd.prog 5 #[.int .i64 t, .int .i64 most, .slice A bs.length c] w fun e w' => e = .returned (.bool true) ∧ Below w.heap.size w w' := by
  have S := Lib.hid (TS.start hg)
  have KN := Lib.hid (fun W (S : TS w W) => S.call (fixed_any W S.g))
  have hlen : (bs.length : Int) ≤ 9223372036854775807 := by unfold maxLen at hm; omega
  clear hm
  by_cases hbig : 10000 < (bs.length : Int)
  · clear hg hr
    generalize bs.length = m at *
    go_enter Tryd.func5, Tryd.ntmps5
    go_wp2_with fail
    refine (KN.out _ S.out).mono ?_
    clear S
    rintro e w1 ⟨rfl, S⟩
    have S := Lib.hid S
    go_wp2_with fail
    go_ret
    exact ⟨rfl, S.out.b⟩
  · have K1 := Lib.hid (lent_any A bs.length c bs w hr rfl (by omega))
    have K2 := Lib.hid (fun W (S : TS w W) (g cap : Nat) (h : LentAt W w.heap.size 5 g cap bs) => (check_any (some ⟨g, 0, none⟩) bs.length cap bs t most n0 n1 W h.rd rfl (by omega) S.g))
    have K3 := Lib.hid (fun W (S : TS w W) => (rcheck_any A bs.length c w.heap.size bs t most n0 n1 W (hr.below S.b) rfl (by omega)))
    have K4 := Lib.hid (fun W (S : TS w W) (g cap : Nat) (h : LentAt W w.heap.size 5 g cap bs) => (kept_yes A bs.length c w.heap.size w.heap.size g cap bs W h (hr.below S.b) rfl (by omega)))
    clear hg hr
    generalize chkA t most bs = D at *
    go_enter Tryd.func5, Tryd.ntmps5
    go_wp2_with fail
    refine K1.out.mono ?_
    clear K1
    rintro e w1 ⟨g, cap, he, hla, b1⟩
    have S1 := Lib.hid (S.out.next b1)
    have L1 := Lib.hid hla
    clear S hla b1
    subst he
    go_wp2_with fail
    refine (K2.out _ S1.out g cap L1.out).mono ?_
    rintro e w2 ⟨rfl, b2⟩
    have S := Lib.hid (S1.out.next b2)
    have L := Lib.hid (L1.out.below b2 (Nat.le_refl _))
    clear S1 L1 b2 K2
    go_wp2_with fail
    refine (K3.out _ S.out).mono ?_
    rintro e w3 ⟨rfl, rfl⟩
    go_wp2_with fail
    refine (K4.out _ S.out g cap L.out).mono ?_
    rintro e w4 ⟨rfl, rfl⟩
    clear L K4 K3
    go_wp2_with fail
    refine (KN.out _ S.out).mono ?_
    clear S
    rintro e w5 ⟨rfl, S⟩
    have S := Lib.hid S
    go_wp2_with fail
    go_ret
    exact ⟨rfl, S.out.b⟩
end Go.Proofs.YthmlbggckdnfhaaDoor
