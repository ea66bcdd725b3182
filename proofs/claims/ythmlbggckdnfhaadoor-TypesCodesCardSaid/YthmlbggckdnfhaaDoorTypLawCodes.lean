/-
  TypesCodes: its walk.
-/
import Derived.Test.YthmlbggckdnfhaaDoorTypKnown
namespace Go.Proofs.YthmlbggckdnfhaaDoor
open Go.RowKit Mem
set_option linter.unusedVariables false

set_option maxRecDepth 100000 in
set_option maxHeartbeats 4000000 in
theorem tcodes_law (t n : Int) (A : Option Addr) (c : Nat) (bs : List UInt8) (w : World) (h0 : -9223372036854775808 ≤ t) (h1 : t ≤ 9223372036854775807) (n0 : -9223372036854775808 ≤ n) (n1 : n ≤ 9223372036854775807) (hr : Rd w w.heap.size A bs) (hm : bs.length ≤ maxLen) (hg : TG w) :
    Calls Tryd.prog 4 #[.int .i64 t, .int .i64 n, .slice A bs.length c] w fun e w' => e = .returned (.bool true) ∧ Below w.heap.size w w' := by
  have S := Lib.hid (TS.start hg)
  have KN := Lib.hid (fun W (S : TS w W) => S.call (fixed_any W S.g))
  have hlen : (bs.length : Int) ≤ 9223372036854775807 := by unfold maxLen at hm; omega
  clear hm
  by_cases hbig : 10000 < (bs.length : Int)
  · clear hg hr
    generalize bs.length = m at *
    go_enter Tryd.func4, Tryd.ntmps4
    go_wp2_with fail
    refine (KN.out _ S.out).mono ?_
    clear S
    rintro e w1 ⟨rfl, S⟩
    have S := Lib.hid S
    go_wp2_with fail
    go_ret
    exact ⟨rfl, S.out.b⟩
  · have K1 := Lib.hid (fun W (S : TS w W) => S.ans (encode_any t n n0 n1 W S.g))
    have K2 := Lib.hid (fun W (S : TS w W) => (rencode_any t n n0 n1 W))
    have K3 := Lib.hid (fun W (S : TS w W) => (decode_any A bs.length c bs t W ((hr.below S.b).mono S.b.size) rfl (by omega) S.g))
    have K4 := Lib.hid (fun W (S : TS w W) => (rdecode_any A bs.length c w.heap.size bs t W (hr.below S.b) rfl (by omega)))
    clear hg hr
    generalize decA t bs = D at *
    obtain ⟨⟨EA, EC⟩, hE⟩ : ∃ x, encA t n = x := ⟨_, rfl⟩
    rw [hE] at K1 K2
    clear hE
    generalize bs.length = m at *
    go_enter Tryd.func4, Tryd.ntmps4
    go_wp2_with fail
    refine (K1.out _ S.out).mono ?_
    clear S K1
    rintro e w1 ⟨A1, c1, rfl, r1, S⟩
    have S := Lib.hid S
    have R := Lib.hid r1
    clear r1
    go_wp2_with fail
    refine (K2.out _ S.out).mono ?_
    rintro e w2 ⟨v, rfl, o2, b2⟩
    obtain ⟨A2, c2, rfl, r2⟩ := o2.form
    have S2 := Lib.hid (S.out.next b2)
    have R1 := Lib.hid (rd_next R.out b2)
    have R2 := Lib.hid r2
    clear S K2 R r2 o2 b2
    go_wp2_with fail
    refine (K3.out _ S2.out).mono ?_
    rintro e w3 ⟨rfl, b3⟩
    have S := Lib.hid (S2.out.next b3)
    have Q1 := Lib.hid (rd_next R1.out b3)
    have Q2 := Lib.hid (rd_next R2.out b3)
    clear S2 R1 R2 b3 K3
    go_wp2_with fail
    refine (K4.out _ S.out).mono ?_
    rintro e w4 ⟨rfl, rfl⟩
    have s1 := run_str Q1.out EA.length c1 rfl 31 5 9 Tryd.underlying31 Tryd.underlying5 Tryd.underlying9
    have s2 := run_str Q2.out EA.length c2 rfl 31 5 9 Tryd.underlying31 Tryd.underlying5 Tryd.underlying9
    clear Q1 Q2 K4
    generalize (⟨EA.toArray⟩ : ByteArray) = Z at *
    generalize EA.length = ll at *
    go_wp2_with fail
    refine (KN.out _ S.out).mono ?_
    clear S
    rintro e w5 ⟨rfl, S⟩
    have S := Lib.hid S
    go_wp2_with fail
    go_ret
    exact ⟨rfl, S.out.b⟩
end Go.Proofs.YthmlbggckdnfhaaDoor
