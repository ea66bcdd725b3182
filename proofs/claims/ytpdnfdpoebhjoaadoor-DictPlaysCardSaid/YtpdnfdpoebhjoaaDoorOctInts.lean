/-
  What the integer functions of package octet do: mask, isBits, isWidth, Low, Sign.
  What lay, Put and PutInt of package octet do: new bytes, the old ones and the number's bytes behind them, or a refusal.
  What Get and GetInt of package octet do: the number at a place, or a refusal.
-/
import Derived.Test.YtpdnfdpoebhjoaaDoorProg
import Derived.Test.YtpdnfdpoebhjoaaDoorOctMath
import Derived.WalkKit
import Derived.WalkSpells
import Derived.WalkLawsBesides
import Derived.Lib.Hide
import Derived.Test.YtpdnfdpoebhjoaaDoorMem
namespace Go.Proofs.YtpdnfdpoebhjoaaDoor
open Go.RowKit

set_option maxHeartbeats 400000 in
theorem isBits_yes (b : Int) (w : World) (h1 : 1 ≤ b) (h2 : b ≤ 64) :
    Calls Tryd.prog 97 #[.int .i64 b] w fun e w' => e = .returned (.bool true) ∧ w = w' := by
  go_enter Tryd.func97, Tryd.ntmps97
  go_wp2
  go_ret
  exact ⟨rfl, rfl⟩

set_option maxHeartbeats 400000 in
theorem isBits_no (b : Int) (w : World) (h : b < 1 ∨ 64 < b) :
    Calls Tryd.prog 97 #[.int .i64 b] w fun e w' => e = .returned (.bool false) ∧ w = w' := by
  have hd : 1 ≤ b → decide (b ≤ 64) = false := fun h1 => by simp; omega
  rcases h with h | h
  case' inr => replace hd := hd (by omega)
  all_goals
    go_enter Tryd.func97, Tryd.ntmps97
    go_wp2
    go_ret
    exact ⟨rfl, rfl⟩

set_option maxHeartbeats 400000 in
theorem isWidth_yes (b : Int) (w : World) (h1 : 1 ≤ b) (h2 : b ≤ 8) :
    Calls Tryd.prog 94 #[.int .i64 b] w fun e w' => e = .returned (.bool true) ∧ w = w' := by
  go_enter Tryd.func94, Tryd.ntmps94
  go_wp2
  go_ret
  exact ⟨rfl, rfl⟩

set_option maxHeartbeats 400000 in
theorem isWidth_no (b : Int) (w : World) (h : b < 1 ∨ 8 < b) :
    Calls Tryd.prog 94 #[.int .i64 b] w fun e w' => e = .returned (.bool false) ∧ w = w' := by
  have hd : 1 ≤ b → decide (b ≤ 8) = false := fun h1 => by simp; omega
  rcases h with h | h
  case' inr => replace hd := hd (by omega)
  all_goals
    go_enter Tryd.func94, Tryd.ntmps94
    go_wp2
    go_ret
    exact ⟨rfl, rfl⟩

set_option maxHeartbeats 400000 in
theorem mask_any (b : Int) (w : World) (h1 : 1 ≤ b) (h2 : b ≤ 64) :
    Calls Tryd.prog 96 #[.int .i64 b] w fun e w' => e = .returned (.int .u64 (2 ^ b.toNat - 1)) ∧ w = w' := by
  go_enter Tryd.func96, Tryd.ntmps96
  go_wp2
  go_ret
  exact ⟨by rw [Oct.mask_eq b h2]; rfl, rfl⟩

set_option maxHeartbeats 400000 in
theorem low_ok (n b : Int) (w : World) (h1 : 1 ≤ b) (h2 : b ≤ 64) (h3 : 0 ≤ n) (h4 : n ≤ 18446744073709551615) :
    Calls Tryd.prog 95 #[.int .u64 n, .int .i64 b] w fun e w' => e = .returned (.tuple #[.int .u64 (Oct.low n b), .int .i64 0]) ∧ w = w' := by
  go_enter Tryd.func95, Tryd.ntmps95
  go_wp2_with fail
  refine (isBits_yes _ _ h1 h2).mono ?_
  rintro e w' ⟨rfl, rfl⟩
  go_wp2_with fail
  refine (mask_any _ _ h1 h2).mono ?_
  rintro e w' ⟨rfl, rfl⟩
  go_wp2_with fail
  go_ret2
  exact ⟨Oct.ret2i (Oct.and_mask n b h3 h4 h2), rfl⟩

set_option maxHeartbeats 400000 in
theorem low_no (n b : Int) (w : World) (h : b < 1 ∨ 64 < b) :
    Calls Tryd.prog 95 #[.int .u64 n, .int .i64 b] w fun e w' => e = .returned (.tuple #[.int .u64 0, .int .i64 1]) ∧ w = w' := by
  go_enter Tryd.func95, Tryd.ntmps95
  go_wp2_with fail
  refine (isBits_no _ _ h).mono ?_
  rintro e w' ⟨rfl, rfl⟩
  go_wp2_with fail
  go_ret2
  exact ⟨rfl, rfl⟩

set_option maxHeartbeats 400000 in
theorem sign_ok (n b : Int) (w : World) (h1 : 1 ≤ b) (h2 : b ≤ 64) (h3 : 0 ≤ n) (h4 : n ≤ 18446744073709551615) :
    Calls Tryd.prog 93 #[.int .u64 n, .int .i64 b] w fun e w' => e = .returned (.tuple #[.int .i64 (Oct.sgn n b), .int .i64 0]) ∧ w = w' := by
  have hl := Oct.low_u64 n b h2
  by_cases hs : 2 * Oct.low n b < 2 ^ b.toNat
  · have ht := Oct.top_no n b h1 hs
    go_enter Tryd.func93, Tryd.ntmps93
    go_wp2_with fail
    refine (low_ok _ _ _ h1 h2 h3 h4).mono ?_
    rintro e w' ⟨rfl, rfl⟩
    go_wp2_with fail
    go_ret2
    exact ⟨Oct.ret2i (Oct.sgn_no n b h2 hs), rfl⟩
  · have ht := Oct.top_yes n b h1 hs
    go_enter Tryd.func93, Tryd.ntmps93
    go_wp2_with fail
    refine (low_ok _ _ _ h1 h2 h3 h4).mono ?_
    rintro e w' ⟨rfl, rfl⟩
    go_wp2_with fail
    refine (mask_any _ _ h1 h2).mono ?_
    rintro e w' ⟨rfl, rfl⟩
    go_wp2_with fail
    go_ret2
    exact ⟨Oct.ret2i (Oct.sgn_yes n b h2 hs), rfl⟩

set_option maxHeartbeats 400000 in
theorem sign_no (n b : Int) (w : World) (h : b < 1 ∨ 64 < b) :
    Calls Tryd.prog 93 #[.int .u64 n, .int .i64 b] w fun e w' => e = .returned (.tuple #[.int .i64 0, .int .i64 1]) ∧ w = w' := by
  go_enter Tryd.func93, Tryd.ntmps93
  go_wp2_with fail
  refine (low_no _ _ _ h).mono ?_
  rintro e w' ⟨rfl, rfl⟩
  go_wp2_with fail
  go_ret2
  exact ⟨rfl, rfl⟩

end Go.Proofs.YtpdnfdpoebhjoaaDoor

namespace Go.Proofs.YtpdnfdpoebhjoaaDoor
open Go.RowKit Mem
set_option linter.unusedVariables false

theorem info_u8 : (Tryd.prog.info? 5).map (fun i => (i.zero, i.size, i.bytes)) = some (some (.int .u8 0), 1, 1) := by kernel_rfl
theorem size_u8 : (Tryd.prog.info? 5).map (·.size) = some 1 := by kernel_rfl

def pairOk (v : Value) : Value := .tuple #[v, .int .i64 0]

end Go.Proofs.YtpdnfdpoebhjoaaDoor

namespace Go.Proofs.YtpdnfdpoebhjoaaDoor
open Go.RowKit Mem
set_option linter.unusedVariables false

set_option maxHeartbeats 400000 in
theorem get_ok (A : Option Addr) (n c B : Nat) (bs : List UInt8) (at_ wd : Int) (w : World) (hr : Rd w B A bs) (hn : n = bs.length) (hle : n ≤ 1099511627776)
    (h1 : 1 ≤ wd) (h2 : wd ≤ 8) (h3 : 0 ≤ at_) (h4 : at_ + wd ≤ n) :
    Calls Tryd.prog 90 #[.slice A n c, .int .i64 at_, .int .i64 wd] w fun e w' => e = .returned (.tuple #[.int .u64 (Oct.num bs at_.toNat wd.toNat), .int .i64 0]) ∧ w = w' := by
  subst hn
  obtain ⟨a, rfl⟩ := Int.eq_ofNat_of_zero_le h3
  rw [Int.toNat_natCast]
  go_enter Tryd.func90, Tryd.ntmps90
  go_wp2_with fail
  refine (isWidth_yes _ _ h1 h2).mono ?_
  rintro e w' ⟨rfl, rfl⟩
  have d1 : decide ((a : Int) < 0) = false := by simp
  have d2 : decide (bs.length < a) = false := by simp; omega
  go_wp2_with fail
  go_loop [8, 30] (fun v i => ∃ k : Nat, (k : Int) ≤ wd ∧ i = .int .i64 k ∧ v = .int .u64 (Oct.num bs a k)) (fun _ i => (wd - intOf i).toNat)
  case atStart => exact ⟨0, by omega, rfl, rfl⟩
  case round =>
    obtain ⟨k, hk, rfl, rfl⟩ := hrel
    by_cases hlt : (k : Int) < wd
    · obtain ⟨g, off, rfl, hg, hc⟩ := hr.at_ (k := a + k) (by omega)
      have hx := byt_bd bs (a + k)
      have hN := Oct.num_bd bs a k
      go_wp2_with fail
      go_round
      case rel => exact ⟨k + 1, by omega, by go_num, Oct.vi (Oct.num_step bs a k (by omega))⟩
      case measure => simp [intOf]; omega
    · have hw := Lib.hid (show wd.toNat = k by omega)
      go_wp2_with fail
      go_ret2
      exact ⟨by rw [hw.out]; rfl, rfl⟩

set_option maxHeartbeats 400000 in
theorem get_short (A : Option Addr) (n c : Nat) (at_ wd : Int) (w : World) (hle : n ≤ 1099511627776)
    (h1 : 1 ≤ wd) (h2 : wd ≤ 8) (h3 : 0 ≤ at_) (h4 : at_ ≤ n) (h5 : n < at_ + wd) :
    Calls Tryd.prog 90 #[.slice A n c, .int .i64 at_, .int .i64 wd] w fun e w' => e = .returned (.tuple #[.int .u64 0, .int .i64 2]) ∧ w = w' := by
  go_enter Tryd.func90, Tryd.ntmps90
  go_wp2_with fail
  refine (isWidth_yes _ _ h1 h2).mono ?_
  rintro e w' ⟨rfl, rfl⟩
  have d1 : decide (at_ < 0) = false := by simp; omega
  have d2 : decide ((n : Int) < at_) = false := by simp; omega
  go_wp2_with fail
  go_ret2
  exact ⟨rfl, rfl⟩

set_option maxHeartbeats 400000 in
theorem get_no (A : Option Addr) (n c : Nat) (at_ wd : Int) (w : World) (hle : n ≤ 1099511627776) (h : wd < 1 ∨ 8 < wd ∨ at_ < 0 ∨ n < at_) :
    Calls Tryd.prog 90 #[.slice A n c, .int .i64 at_, .int .i64 wd] w fun e w' => e = .returned (.tuple #[.int .u64 0, .int .i64 1]) ∧ w = w' := by
  by_cases hw : wd < 1 ∨ 8 < wd
  · go_enter Tryd.func90, Tryd.ntmps90
    go_wp2_with fail
    refine (isWidth_no _ _ hw).mono ?_
    rintro e w' ⟨rfl, rfl⟩
    go_wp2_with fail
    go_ret2
    exact ⟨rfl, rfl⟩
  · by_cases ha : at_ < 0
    · go_enter Tryd.func90, Tryd.ntmps90
      go_wp2_with fail
      refine (isWidth_yes _ _ (by omega) (by omega)).mono ?_
      rintro e w' ⟨rfl, rfl⟩
      clear h hw
      go_wp2_with fail
      go_ret2
      exact ⟨rfl, rfl⟩
    · have d1 : decide (at_ < 0) = false := by simp; omega
      have d2 : (n : Int) < at_ := by omega
      go_enter Tryd.func90, Tryd.ntmps90
      go_wp2_with fail
      refine (isWidth_yes _ _ (by omega) (by omega)).mono ?_
      rintro e w' ⟨rfl, rfl⟩
      clear h hw
      go_wp2_with fail
      go_ret2
      exact ⟨rfl, rfl⟩

set_option maxHeartbeats 400000 in
theorem getInt_ok (A : Option Addr) (n c B : Nat) (bs : List UInt8) (at_ wd : Int) (w : World) (hr : Rd w B A bs) (hn : n = bs.length) (hle : n ≤ 1099511627776)
    (h1 : 1 ≤ wd) (h2 : wd ≤ 8) (h3 : 0 ≤ at_) (h4 : at_ + wd ≤ n) :
    Calls Tryd.prog 89 #[.slice A n c, .int .i64 at_, .int .i64 wd] w fun e w' => e = .returned (.tuple #[.int .i64 (Oct.sgn (Oct.num bs at_.toNat wd.toNat) (8 * wd)), .int .i64 0]) ∧ w = w' := by
  have hu := Oct.num_u64 bs at_.toNat wd.toNat (by omega)
  have hN := Lib.hid hn
  clear hn
  go_enter Tryd.func89, Tryd.ntmps89
  go_wp2_with fail
  refine (get_ok _ _ _ _ bs _ _ _ hr hN.out hle h1 h2 h3 h4).mono ?_
  rintro e w' ⟨rfl, rfl⟩
  go_wp2_with fail
  refine (sign_ok _ _ _ (by omega) (by omega) hu.1 hu.2).mono ?_
  rintro e w' ⟨rfl, rfl⟩
  go_wp2_with fail
  go_ret2
  exact ⟨rfl, rfl⟩

set_option maxHeartbeats 400000 in
theorem getInt_short (A : Option Addr) (n c : Nat) (at_ wd : Int) (w : World) (hle : n ≤ 1099511627776)
    (h1 : 1 ≤ wd) (h2 : wd ≤ 8) (h3 : 0 ≤ at_) (h4 : at_ ≤ n) (h5 : n < at_ + wd) :
    Calls Tryd.prog 89 #[.slice A n c, .int .i64 at_, .int .i64 wd] w fun e w' => e = .returned (.tuple #[.int .i64 0, .int .i64 2]) ∧ w = w' := by
  go_enter Tryd.func89, Tryd.ntmps89
  go_wp2_with fail
  refine (get_short _ _ _ _ _ _ hle h1 h2 h3 h4 h5).mono ?_
  rintro e w' ⟨rfl, rfl⟩
  go_wp2_with fail
  go_ret2
  exact ⟨rfl, rfl⟩

set_option maxHeartbeats 400000 in
theorem getInt_no (A : Option Addr) (n c : Nat) (at_ wd : Int) (w : World) (hle : n ≤ 1099511627776) (h : wd < 1 ∨ 8 < wd ∨ at_ < 0 ∨ n < at_) :
    Calls Tryd.prog 89 #[.slice A n c, .int .i64 at_, .int .i64 wd] w fun e w' => e = .returned (.tuple #[.int .i64 0, .int .i64 1]) ∧ w = w' := by
  go_enter Tryd.func89, Tryd.ntmps89
  go_wp2_with fail
  refine (get_no _ _ _ _ _ _ hle h).mono ?_
  rintro e w' ⟨rfl, rfl⟩
  go_wp2_with fail
  go_ret2
  exact ⟨rfl, rfl⟩

end Go.Proofs.YtpdnfdpoebhjoaaDoor
