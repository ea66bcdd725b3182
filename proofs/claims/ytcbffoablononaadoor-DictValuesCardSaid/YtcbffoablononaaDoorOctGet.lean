/-
  What Get and GetInt of package octet do: the number at a place, or a refusal.
-/
import Derived.Test.YtcbffoablononaaDoorProg
import Derived.Test.YtcbffoablononaaDoorOctInts
import Derived.Test.YtcbffoablononaaDoorMem
import Derived.WalkKit
import Derived.WalkSpells
import Derived.WalkLawsBesides
namespace Go.Proofs.YtcbffoablononaaDoor
open Go.RowKit Mem
set_option linter.unusedVariables false

set_option maxHeartbeats 400000 in
theorem get_ok (A : Option Addr) (n c B : Nat) (bs : List UInt8) (at_ wd : Int) (w : World) (hr : Rd w B A bs) (hn : n = bs.length) (hle : n ≤ 1099511627776)
    (h1 : 1 ≤ wd) (h2 : wd ≤ 8) (h3 : 0 ≤ at_) (h4 : at_ + wd ≤ n) :
    Calls Tryd.prog 91 #[.slice A n c, .int .i64 at_, .int .i64 wd] w fun e w' => e = .returned (.tuple #[.int .u64 (Oct.num bs at_.toNat wd.toNat), .int .i64 0]) ∧ w = w' := by
  subst hn
  obtain ⟨a, rfl⟩ := Int.eq_ofNat_of_zero_le h3
  rw [Int.toNat_natCast]
  go_enter Tryd.func91, Tryd.ntmps91
  go_wp2_with fail
  refine (isWidth_yes _ _ h1 h2).mono ?_
  rintro e w' ⟨rfl, rfl⟩
  have d1 : decide ((a : Int) < 0) = false := by simp
  have d2 : decide (bs.length < a) = false := by simp; omega
  go_wp2_with fail
  go_loop [8, 30] (fun v i => ∃ k : Nat, (k : Int) ≤ wd ∧ i = .int .i64 k ∧ v = .int .u64 (Oct.num bs a k)) (fun _ i => (wd - intOf i).toNat)
  case atStart => exact ⟨0, by omega, rfl, rfl⟩
  case round =>
    obtain ⟨k, hk, rfl, rfl⟩ := hrel
    by_cases hlt : (k : Int) < wd
    · obtain ⟨g, off, rfl, hg, hc⟩ := hr.at_ (k := a + k) (by omega)
      have hx := byt_bd bs (a + k)
      have hN := Oct.num_bd bs a k
      go_wp2_with fail
      go_round
      case rel => exact ⟨k + 1, by omega, by go_num, Oct.vi (Oct.num_step bs a k (by omega))⟩
      case measure => simp [intOf]; omega
    · have hw := Lib.hid (show wd.toNat = k by omega)
      go_wp2_with fail
      go_ret2
      exact ⟨by rw [hw.out]; rfl, rfl⟩

set_option maxHeartbeats 400000 in
theorem get_short (A : Option Addr) (n c : Nat) (at_ wd : Int) (w : World) (hle : n ≤ 1099511627776)
    (h1 : 1 ≤ wd) (h2 : wd ≤ 8) (h3 : 0 ≤ at_) (h4 : at_ ≤ n) (h5 : n < at_ + wd) :
    Calls Tryd.prog 91 #[.slice A n c, .int .i64 at_, .int .i64 wd] w fun e w' => e = .returned (.tuple #[.int .u64 0, .int .i64 2]) ∧ w = w' := by
  go_enter Tryd.func91, Tryd.ntmps91
  go_wp2_with fail
  refine (isWidth_yes _ _ h1 h2).mono ?_
  rintro e w' ⟨rfl, rfl⟩
  have d1 : decide (at_ < 0) = false := by simp; omega
  have d2 : decide ((n : Int) < at_) = false := by simp; omega
  go_wp2_with fail
  go_ret2
  exact ⟨rfl, rfl⟩

set_option maxHeartbeats 400000 in
theorem get_no (A : Option Addr) (n c : Nat) (at_ wd : Int) (w : World) (hle : n ≤ 1099511627776) (h : wd < 1 ∨ 8 < wd ∨ at_ < 0 ∨ n < at_) :
    Calls Tryd.prog 91 #[.slice A n c, .int .i64 at_, .int .i64 wd] w fun e w' => e = .returned (.tuple #[.int .u64 0, .int .i64 1]) ∧ w = w' := by
  by_cases hw : wd < 1 ∨ 8 < wd
  · go_enter Tryd.func91, Tryd.ntmps91
    go_wp2_with fail
    refine (isWidth_no _ _ hw).mono ?_
    rintro e w' ⟨rfl, rfl⟩
    go_wp2_with fail
    go_ret2
    exact ⟨rfl, rfl⟩
  · by_cases ha : at_ < 0
    · go_enter Tryd.func91, Tryd.ntmps91
      go_wp2_with fail
      refine (isWidth_yes _ _ (by omega) (by omega)).mono ?_
      rintro e w' ⟨rfl, rfl⟩
      clear h hw
      go_wp2_with fail
      go_ret2
      exact ⟨rfl, rfl⟩
    · have d1 : decide (at_ < 0) = false := by simp; omega
      have d2 : (n : Int) < at_ := by omega
      go_enter Tryd.func91, Tryd.ntmps91
      go_wp2_with fail
      refine (isWidth_yes _ _ (by omega) (by omega)).mono ?_
      rintro e w' ⟨rfl, rfl⟩
      clear h hw
      go_wp2_with fail
      go_ret2
      exact ⟨rfl, rfl⟩

set_option maxHeartbeats 400000 in
theorem getInt_ok (A : Option Addr) (n c B : Nat) (bs : List UInt8) (at_ wd : Int) (w : World) (hr : Rd w B A bs) (hn : n = bs.length) (hle : n ≤ 1099511627776)
    (h1 : 1 ≤ wd) (h2 : wd ≤ 8) (h3 : 0 ≤ at_) (h4 : at_ + wd ≤ n) :
    Calls Tryd.prog 90 #[.slice A n c, .int .i64 at_, .int .i64 wd] w fun e w' => e = .returned (.tuple #[.int .i64 (Oct.sgn (Oct.num bs at_.toNat wd.toNat) (8 * wd)), .int .i64 0]) ∧ w = w' := by
  have hu := Oct.num_u64 bs at_.toNat wd.toNat (by omega)
  have hN := Lib.hid hn
  clear hn
  go_enter Tryd.func90, Tryd.ntmps90
  go_wp2_with fail
  refine (get_ok _ _ _ _ bs _ _ _ hr hN.out hle h1 h2 h3 h4).mono ?_
  rintro e w' ⟨rfl, rfl⟩
  go_wp2_with fail
  refine (sign_ok _ _ _ (by omega) (by omega) hu.1 hu.2).mono ?_
  rintro e w' ⟨rfl, rfl⟩
  go_wp2_with fail
  go_ret2
  exact ⟨rfl, rfl⟩

set_option maxHeartbeats 400000 in
theorem getInt_short (A : Option Addr) (n c : Nat) (at_ wd : Int) (w : World) (hle : n ≤ 1099511627776)
    (h1 : 1 ≤ wd) (h2 : wd ≤ 8) (h3 : 0 ≤ at_) (h4 : at_ ≤ n) (h5 : n < at_ + wd) :
    Calls Tryd.prog 90 #[.slice A n c, .int .i64 at_, .int .i64 wd] w fun e w' => e = .returned (.tuple #[.int .i64 0, .int .i64 2]) ∧ w = w' := by
  go_enter Tryd.func90, Tryd.ntmps90
  go_wp2_with fail
  refine (get_short _ _ _ _ _ _ hle h1 h2 h3 h4 h5).mono ?_
  rintro e w' ⟨rfl, rfl⟩
  go_wp2_with fail
  go_ret2
  exact ⟨rfl, rfl⟩

set_option maxHeartbeats 400000 in
theorem getInt_no (A : Option Addr) (n c : Nat) (at_ wd : Int) (w : World) (hle : n ≤ 1099511627776) (h : wd < 1 ∨ 8 < wd ∨ at_ < 0 ∨ n < at_) :
    Calls Tryd.prog 90 #[.slice A n c, .int .i64 at_, .int .i64 wd] w fun e w' => e = .returned (.tuple #[.int .i64 0, .int .i64 1]) ∧ w = w' := by
  go_enter Tryd.func90, Tryd.ntmps90
  go_wp2_with fail
  refine (get_no _ _ _ _ _ _ hle h).mono ?_
  rintro e w' ⟨rfl, rfl⟩
  go_wp2_with fail
  go_ret2
  exact ⟨rfl, rfl⟩

end Go.Proofs.YtcbffoablononaaDoor
