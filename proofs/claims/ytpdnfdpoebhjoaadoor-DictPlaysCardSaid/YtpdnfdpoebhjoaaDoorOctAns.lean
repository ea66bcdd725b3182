/-
  The answers of Put, PutInt, Get, GetInt, and of the document's own functions for them, each as one function of the arguments, right or wrong.
-/
import Derived.Test.YtpdnfdpoebhjoaaDoorProg
import Derived.Test.YtpdnfdpoebhjoaaDoorOctRef
import Derived.Test.YtpdnfdpoebhjoaaDoorOctAux
namespace Go.Proofs.YtpdnfdpoebhjoaaDoor
open Go.RowKit Mem
set_option linter.unusedVariables false

namespace Oct
def putA (bs : List UInt8) (wd num : Int) : List UInt8 × Int :=
  if wd < 1 ∨ 8 < wd then ([], 1) else if 256 ^ wd.toNat ≤ num then ([], 9) else (bs ++ bytes num wd.toNat, 0)
def putIntA (bs : List UInt8) (wd num : Int) : List UInt8 × Int :=
  if wd < 1 ∨ 8 < wd then ([], 1) else if -(256 ^ wd.toNat) ≤ 2 * num ∧ 2 * num < 256 ^ wd.toNat then (bs ++ bytes num wd.toNat, 0) else ([], 9)
def getA (bs : List UInt8) (at_ wd : Int) : Int × Int :=
  if wd < 1 ∨ 8 < wd ∨ at_ < 0 ∨ bs.length < at_ then (0, 1) else if bs.length < at_ + wd then (0, 2) else (num bs at_.toNat wd.toNat, 0)
def getIntA (bs : List UInt8) (at_ wd : Int) : Int × Int :=
  if wd < 1 ∨ 8 < wd ∨ at_ < 0 ∨ bs.length < at_ then (0, 1) else if bs.length < at_ + wd then (0, 2) else (sgn (num bs at_.toNat wd.toNat) (8 * wd), 0)

theorem putA_length (bs : List UInt8) (wd num : Int) : (putA bs wd num).1.length ≤ bs.length + 8 := by
  unfold putA
  split
  · simp
  · split
    · simp
    · simp [bytes_length]; omega

theorem putIntA_length (bs : List UInt8) (wd num : Int) : (putIntA bs wd num).1.length ≤ bs.length + 8 := by
  unfold putIntA
  split
  · simp
  · split
    · simp [bytes_length]; omega
    · simp
end Oct

theorem get_all (A : Option Addr) (n c B : Nat) (bs : List UInt8) (at_ wd : Int) (w : World) (hr : Rd w B A bs) (hn : n = bs.length) (hle : n ≤ 1099511627776) :
    Calls Tryd.prog 90 #[.slice A n c, .int .i64 at_, .int .i64 wd] w fun e w' => e = .returned (.tuple #[.int .u64 (Oct.getA bs at_ wd).1, .int .i64 (Oct.getA bs at_ wd).2]) ∧ w = w' := by
  subst hn
  unfold Oct.getA
  split
  · exact get_no A _ c at_ wd w hle (by assumption)
  · split
    · exact get_short A _ c at_ wd w hle (by omega) (by omega) (by omega) (by omega) (by assumption)
    · exact get_ok A _ c B bs at_ wd w hr rfl hle (by omega) (by omega) (by omega) (by omega)

theorem rget_all (A : Option Addr) (n c B : Nat) (bs : List UInt8) (at_ wd : Int) (w : World) (hr : Rd w B A bs) (hn : n = bs.length) (hle : n ≤ 1099511627776) :
    Calls Tryd.prog 86 #[.slice A n c, .int .i64 at_, .int .i64 wd] w fun e w' => e = .returned (.tuple #[.int .u64 (Oct.getA bs at_ wd).1, .int .i64 (Oct.getA bs at_ wd).2]) ∧ w = w' := by
  subst hn
  unfold Oct.getA
  split
  · exact rget_no A _ c at_ wd w hle (by assumption)
  · split
    · exact rget_short A _ c at_ wd w hle (by omega) (by omega) (by omega) (by omega) (by assumption)
    · exact rget_ok A _ c B bs at_ wd w hr rfl hle (by omega) (by omega) (by omega) (by omega)

theorem getInt_all (A : Option Addr) (n c B : Nat) (bs : List UInt8) (at_ wd : Int) (w : World) (hr : Rd w B A bs) (hn : n = bs.length) (hle : n ≤ 1099511627776) :
    Calls Tryd.prog 89 #[.slice A n c, .int .i64 at_, .int .i64 wd] w fun e w' => e = .returned (.tuple #[.int .i64 (Oct.getIntA bs at_ wd).1, .int .i64 (Oct.getIntA bs at_ wd).2]) ∧ w = w' := by
  subst hn
  unfold Oct.getIntA
  split
  · exact getInt_no A _ c at_ wd w hle (by assumption)
  · split
    · exact getInt_short A _ c at_ wd w hle (by omega) (by omega) (by omega) (by omega) (by assumption)
    · exact getInt_ok A _ c B bs at_ wd w hr rfl hle (by omega) (by omega) (by omega) (by omega)

theorem rgetInt_all (A : Option Addr) (n c B : Nat) (bs : List UInt8) (at_ wd : Int) (w : World) (hr : Rd w B A bs) (hn : n = bs.length) (hle : n ≤ 1099511627776) :
    Calls Tryd.prog 85 #[.slice A n c, .int .i64 at_, .int .i64 wd] w fun e w' => e = .returned (.tuple #[.int .i64 (Oct.getIntA bs at_ wd).1, .int .i64 (Oct.getIntA bs at_ wd).2]) ∧ w = w' := by
  subst hn
  unfold Oct.getIntA
  split
  · exact rgetInt_no A _ c at_ wd w hle (by assumption)
  · split
    · exact rgetInt_short A _ c at_ wd w hle (by omega) (by omega) (by omega) (by omega) (by assumption)
    · exact rgetInt_ok A _ c B bs at_ wd w hr rfl hle (by omega) (by omega) (by omega) (by omega)
end Go.Proofs.YtpdnfdpoebhjoaaDoor
