/-
  TypesKnows: its walk.
-/
import Derived.Test.YthmlbggckdnfhaaDoorTypKnown
import Derived.Test.YthmlbggckdnfhaaDoorTypByName
namespace Go.Proofs.YthmlbggckdnfhaaDoor
open Go.RowKit Mem
set_option linter.unusedVariables false

set_option maxRecDepth 100000 in
set_option maxHeartbeats 4000000 in
theorem knows_law (t : Int) (s : ByteArray) (w : World) (h0 : -9223372036854775808 ≤ t) (h1 : t ≤ 9223372036854775807) (hs : s.size ≤ maxLen) (hg : TG w) :
    Calls Tryd.prog 3 #[.int .i64 t, .string s] w fun e w' => e = .returned (.bool true) ∧ Below w.heap.size w w' := by
  have S := Lib.hid (TS.start hg)
  have KN := Lib.hid (fun W (S : TS w W) => S.call (fixed_any W S.g))
  have hlen : (s.size : Int) ≤ 9223372036854775807 := by unfold maxLen at hs; omega
  clear hs
  by_cases hbig : 1000 < (s.size : Int)
  · clear hg
    go_enter Tryd.func3, Tryd.ntmps3
    go_wp2_with fail
    refine (KN.out _ S.out).mono ?_
    clear S
    rintro e w1 ⟨rfl, S⟩
    have S := Lib.hid S
    go_wp2_with fail
    go_ret
    exact ⟨rfl, S.out.b⟩
  · obtain ⟨l, rfl⟩ : ∃ l : List UInt8, s = ⟨l.toArray⟩ := ⟨_, str_eta s⟩
    have K1 := Lib.hid (fun W (S : TS w W) => S.call (tlimits_any t W S.g))
    have K2 := Lib.hid (fun W (S : TS w W) => S.same (rlimits_any t W))
    have K3 := Lib.hid (fun W (S : TS w W) => S.call (tbyname_any l W S.g))
    have K4 := Lib.hid (fun W (S : TS w W) => S.same (rbyname_any l W))
    have K5 := Lib.hid (fun W (S : TS w W) => S.call (tknown_any t W S.g))
    have K6 := Lib.hid (fun W (S : TS w W) => S.same (rknown_any t W))
    have K7 := Lib.hid (fun W (S : TS w W) => S.call (tsize_any t W S.g))
    have K8 := Lib.hid (fun W (S : TS w W) => S.same (rsize_any t W))
    have K9 := Lib.hid (fun W (S : TS w W) => S.call (tbits_any t W S.g))
    have K10 := Lib.hid (fun W (S : TS w W) => S.same (rbits_any t W))
    have K11 := Lib.hid (fun W (S : TS w W) => S.call (tsigned_any t W S.g))
    have K12 := Lib.hid (fun W (S : TS w W) => S.same (rsigned_any t W))
    have K13 := Lib.hid (fun W (S : TS w W) => S.call (tname_any t W S.g))
    have K14 := Lib.hid (fun W (S : TS w W) => S.same (rname_any t W))
    clear hg
    generalize (⟨(Typ.name t).toArray⟩ : ByteArray) = x0 at *
    generalize Typ.size t = x1 at *
    generalize Typ.bits t = x2 at *
    generalize Typ.low t = x3 at *
    generalize Typ.high t = x4 at *
    generalize Typ.known t = x5 at *
    generalize Typ.signed t = x6 at *
    generalize Typ.isNum t = x7 at *
    generalize byN l = x8 at *
    generalize (⟨l.toArray⟩ : ByteArray) = s at *
    go_enter Tryd.func3, Tryd.ntmps3
    go_wp2_with (first
      | (go_at_call 10; refine (K1.out _ S.out).mono ?_; clear S; rintro e w1 ⟨rfl, S⟩; have S := Lib.hid S)
      | (go_at_call 11; refine (K2.out _ S.out).mono ?_; clear S; rintro e w1 ⟨rfl, S⟩; have S := Lib.hid S)
      | (go_at_call 12; refine (K3.out _ S.out).mono ?_; clear S; rintro e w1 ⟨rfl, S⟩; have S := Lib.hid S)
      | (go_at_call 13; refine (K4.out _ S.out).mono ?_; clear S; rintro e w1 ⟨rfl, S⟩; have S := Lib.hid S)
      | (go_at_call 14; refine (K5.out _ S.out).mono ?_; clear S; rintro e w1 ⟨rfl, S⟩; have S := Lib.hid S)
      | (go_at_call 15; refine (K6.out _ S.out).mono ?_; clear S; rintro e w1 ⟨rfl, S⟩; have S := Lib.hid S)
      | (go_at_call 16; refine (K7.out _ S.out).mono ?_; clear S; rintro e w1 ⟨rfl, S⟩; have S := Lib.hid S)
      | (go_at_call 17; refine (K8.out _ S.out).mono ?_; clear S; rintro e w1 ⟨rfl, S⟩; have S := Lib.hid S)
      | (go_at_call 18; refine (K9.out _ S.out).mono ?_; clear S; rintro e w1 ⟨rfl, S⟩; have S := Lib.hid S)
      | (go_at_call 19; refine (K10.out _ S.out).mono ?_; clear S; rintro e w1 ⟨rfl, S⟩; have S := Lib.hid S)
      | (go_at_call 20; refine (K11.out _ S.out).mono ?_; clear S; rintro e w1 ⟨rfl, S⟩; have S := Lib.hid S)
      | (go_at_call 21; refine (K12.out _ S.out).mono ?_; clear S; rintro e w1 ⟨rfl, S⟩; have S := Lib.hid S)
      | (go_at_call 22; refine (K13.out _ S.out).mono ?_; clear S; rintro e w1 ⟨rfl, S⟩; have S := Lib.hid S)
      | (go_at_call 23; refine (K14.out _ S.out).mono ?_; clear S; rintro e w1 ⟨rfl, S⟩; have S := Lib.hid S)
      | (go_at_call 9; refine (KN.out _ S.out).mono ?_; clear S; rintro e w1 ⟨rfl, S⟩; have S := Lib.hid S))
    go_ret
    exact ⟨rfl, S.out.b⟩
end Go.Proofs.YthmlbggckdnfhaaDoor
