/-
  What the document's functions for package octet do with bytes: digits, Join, Put, half, PutInt, Get, GetInt.
-/
import Derived.Test.YtpdnfdpoebhjoaaDoorProg
import Derived.Test.YtpdnfdpoebhjoaaDoorOctInts
namespace Go.Proofs.YtpdnfdpoebhjoaaDoor
open Go.RowKit Mem
set_option linter.unusedVariables false

set_option maxRecDepth 100000 in
set_option maxHeartbeats 400000 in
theorem join_any (A B : Option Addr) (n m c d X : Nat) (xs bs : List UInt8) (w : World) (ha : Rd w w.heap.size A xs) (hb : Rd w w.heap.size B bs) (hn : n = xs.length) (hm : m = bs.length) (hle : n ≤ 1099511627776) (hme : m ≤ 1099511627776) :
    Calls Tryd.prog 26 #[.slice A n c, .slice B m d] w (Made 5 w (xs ++ bs) id) := by
  subst hn
  subst hm
  obtain ⟨i0, hi, hz0, hz1, hz2⟩ := info_parts info_u8
  go_enter Tryd.func26, Tryd.ntmps26
  go_wp2_with (first
    | (at_builtin; refine wpList_app _ rfl (.tmp 6) (.tmp 7) 36 rfl w.heap.size 5 i0 Tryd.underlying36 hi hz0 hz1 hz2 (.slice none 0 0) [] rfl (Own.nil _ _ _) A xs.length c xs rfl rfl w.heap.size ha (by simp; omega) (Nat.le_refl _) ?_; intro v1 w1 o1 g1 t1; have b1 : Below w.heap.size w w1 := (Below.refl _ _).grown g1 (Nat.le_refl _) (by simp [Value.ownBlock]); have hb1 := hb.below b1; simp only [List.nil_append] at o1)
    | (at_builtin; refine wpList_app _ rfl (.tmp 9) (.tmp 10) 36 rfl w.heap.size 5 i0 Tryd.underlying36 hi hz0 hz1 hz2 v1 xs rfl o1 B bs.length d bs rfl rfl w.heap.size hb1 (by omega) b1.size ?_; intro v2 w2 o2 g2 t2))
  go_ret
  exact ⟨v2, rfl, o2, b1.grown g2 b1.size (fun g hg => (o1.lt g hg).1)⟩

set_option maxRecDepth 100000 in
set_option maxHeartbeats 400000 in
theorem half_any (wd : Int) (w : World) (h1 : 1 ≤ wd) (h2 : wd ≤ 7) :
    Calls Tryd.prog 92 #[.int .i64 wd] w fun e w' => e = .returned (.int .i64 (Oct.p2 (8 * wd.toNat - 1))) ∧ w = w' := by
  go_enter Tryd.func92, Tryd.ntmps92
  go_wp2_with fail
  go_loop [3, 4] (fun v i => ∃ k : Nat, (k : Int) ≤ 8 * wd - 1 ∧ i = .int .i64 k ∧ v = .int .i64 (Oct.p2 k)) (fun _ i => (8 * wd - 1 - intOf i).toNat)
  case atStart => exact ⟨0, by omega, rfl, rfl⟩
  case round =>
    obtain ⟨k, hk, rfl, rfl⟩ := hrel
    by_cases hlt : (k : Int) < 8 * wd - 1
    · have hp := Oct.p2_bd k (by omega)
      go_wp2_with fail
      go_round
      case rel => exact ⟨k + 1, by omega, by go_num, Oct.vi (Oct.p2_succ k)⟩
      case measure => simp [intOf]; omega
    · have hw := Lib.hid (show 8 * wd.toNat - 1 = k by omega)
      go_wp2_with fail
      go_ret
      exact ⟨by rw [hw.out]; rfl, rfl⟩

set_option maxRecDepth 100000 in
set_option maxHeartbeats 400000 in
theorem rget_ok (A : Option Addr) (n c B : Nat) (bs : List UInt8) (at_ wd : Int) (w : World) (hr : Rd w B A bs) (hn : n = bs.length) (hle : n ≤ 1099511627776)
    (h1 : 1 ≤ wd) (h2 : wd ≤ 8) (h3 : 0 ≤ at_) (h4 : at_ + wd ≤ n) :
    Calls Tryd.prog 86 #[.slice A n c, .int .i64 at_, .int .i64 wd] w fun e w' => e = .returned (.tuple #[.int .u64 (Oct.num bs at_.toNat wd.toNat), .int .i64 0]) ∧ w = w' := by
  subst hn
  obtain ⟨a, rfl⟩ := Int.eq_ofNat_of_zero_le h3
  rw [Int.toNat_natCast]
  have d0 : decide (wd < 1) = false := by simp; omega
  have d0' : decide (8 < wd) = false := by simp; omega
  have d1 : decide ((a : Int) < 0) = false := by simp
  have d2 : decide (bs.length < a) = false := by simp; omega
  go_enter Tryd.func86, Tryd.ntmps86
  go_wp2_with fail
  go_loop [8, 9] (fun v i => ∃ j : Nat, (j : Int) ≤ wd ∧ i = .int .i64 ((j : Int) - 1) ∧ v = .int .u64 (Oct.num bs (a + j) (wd.toNat - j))) (fun _ i => (intOf i + 1).toNat)
  case atStart => exact ⟨wd.toNat, by omega, by rw [Int.toNat_of_nonneg (by omega)], by simp [Oct.num]⟩
  case round =>
    obtain ⟨j, hj, rfl, rfl⟩ := hrel
    by_cases hlt : 0 < j
    · obtain ⟨i, rfl⟩ : ∃ i, j = i + 1 := ⟨j - 1, by omega⟩
      have ei : (((i + 1 : Nat) : Int) - 1) = (i : Int) := by omega
      rw [ei]
      obtain ⟨g, off, rfl, hg, hc⟩ := hr.at_ (k := a + i) (by omega)
      have hx := byt_bd bs (a + i)
      have hN := Oct.num_56 bs (a + (i + 1)) (wd.toNat - (i + 1)) (by omega)
      have hS := Lib.hid (Oct.num_front bs (a + i) (wd.toNat - (i + 1)))
      clear ei
      go_wp2_with fail
      go_round
      case rel => exact ⟨i, by omega, rfl, Oct.vi (by rw [show wd.toNat - i = wd.toNat - (i + 1) + 1 by omega, hS.out]; rw [show a + i + 1 = a + (i + 1) by omega])⟩
      case measure => simp [intOf]
    · obtain rfl : j = 0 := by omega
      go_wp2_with fail
      go_ret2
      exact ⟨rfl, rfl⟩

set_option maxRecDepth 100000 in
set_option maxHeartbeats 400000 in
theorem rget_short (A : Option Addr) (n c : Nat) (at_ wd : Int) (w : World) (hle : n ≤ 1099511627776)
    (h1 : 1 ≤ wd) (h2 : wd ≤ 8) (h3 : 0 ≤ at_) (h4 : at_ ≤ n) (h5 : n < at_ + wd) :
    Calls Tryd.prog 86 #[.slice A n c, .int .i64 at_, .int .i64 wd] w fun e w' => e = .returned (.tuple #[.int .u64 0, .int .i64 2]) ∧ w = w' := by
  have d0 : decide (wd < 1) = false := by simp; omega
  have d0' : decide (8 < wd) = false := by simp; omega
  have d1 : decide (at_ < 0) = false := by simp; omega
  have d2 : decide ((n : Int) < at_) = false := by simp; omega
  go_enter Tryd.func86, Tryd.ntmps86
  go_wp2_with fail
  go_ret2
  exact ⟨rfl, rfl⟩

set_option maxRecDepth 100000 in
set_option maxHeartbeats 400000 in
theorem rget_no (A : Option Addr) (n c : Nat) (at_ wd : Int) (w : World) (hle : n ≤ 1099511627776) (h : wd < 1 ∨ 8 < wd ∨ at_ < 0 ∨ n < at_) :
    Calls Tryd.prog 86 #[.slice A n c, .int .i64 at_, .int .i64 wd] w fun e w' => e = .returned (.tuple #[.int .u64 0, .int .i64 1]) ∧ w = w' := by
  by_cases q1 : wd < 1
  · clear h
    go_enter Tryd.func86, Tryd.ntmps86
    go_wp2_with fail
    go_ret2
    exact ⟨rfl, rfl⟩
  · have d1 : decide (wd < 1) = false := by simp; omega
    by_cases q2 : 8 < wd
    · clear h
      go_enter Tryd.func86, Tryd.ntmps86
      go_wp2_with fail
      go_ret2
      exact ⟨rfl, rfl⟩
    · have d2 : decide (8 < wd) = false := by simp; omega
      by_cases q3 : at_ < 0
      · clear h
        go_enter Tryd.func86, Tryd.ntmps86
        go_wp2_with fail
        go_ret2
        exact ⟨rfl, rfl⟩
      · have d3 : decide (at_ < 0) = false := by simp; omega
        have q4 : (n : Int) < at_ := by omega
        clear h
        go_enter Tryd.func86, Tryd.ntmps86
        go_wp2_with fail
        go_ret2
        exact ⟨rfl, rfl⟩

set_option maxRecDepth 100000 in
set_option maxHeartbeats 400000 in
theorem rgetInt_ok (A : Option Addr) (n c B : Nat) (bs : List UInt8) (at_ wd : Int) (w : World) (hr : Rd w B A bs) (hn : n = bs.length) (hle : n ≤ 1099511627776)
    (h1 : 1 ≤ wd) (h2 : wd ≤ 8) (h3 : 0 ≤ at_) (h4 : at_ + wd ≤ n) :
    Calls Tryd.prog 85 #[.slice A n c, .int .i64 at_, .int .i64 wd] w fun e w' => e = .returned (.tuple #[.int .i64 (Oct.sgn (Oct.num bs at_.toNat wd.toNat) (8 * wd)), .int .i64 0]) ∧ w = w' := by
  have hu := Oct.num_u64 bs at_.toNat wd.toNat (by omega)
  have hN := Lib.hid hn
  clear hn
  by_cases h8 : wd = 8
  · subst h8
    have hS := Lib.hid (Oct.sgn_8 hu.1 hu.2)
    go_enter Tryd.func85, Tryd.ntmps85
    go_wp2_with fail
    refine (rget_ok _ _ _ _ bs _ _ _ hr hN.out hle h1 h2 h3 h4).mono ?_
    rintro e w' ⟨rfl, rfl⟩
    go_wp2_with fail
    go_ret2
    exact ⟨Oct.ret2i hS.out, rfl⟩
  · have hp := Oct.p2_bd (8 * wd.toNat - 1) (by omega)
    have hlt := Oct.num_bd bs at_.toNat wd.toNat
    have e8 : (wd == 8) = false := by simp; omega
    have hS := Lib.hid (Oct.sgn_p2 h1 h2 hlt.1 hlt.2)
    have hk := Oct.num_56 bs at_.toNat wd.toNat (by omega)
    have h7 : wd ≤ 7 := by omega
    clear hlt h8
    by_cases hc : Oct.num bs at_.toNat wd.toNat < Oct.p2 (8 * wd.toNat - 1)
    · go_enter Tryd.func85, Tryd.ntmps85
      go_wp2_with fail
      refine (rget_ok _ _ _ _ bs _ _ _ hr hN.out hle h1 h2 h3 h4).mono ?_
      rintro e w' ⟨rfl, rfl⟩
      go_wp2_with fail
      refine (half_any _ _ h1 (by omega)).mono ?_
      rintro e w' ⟨rfl, rfl⟩
      go_wp2_with fail
      go_ret2
      exact ⟨Oct.ret2i (by rw [hS.out, if_pos hc]), rfl⟩
    · have hd : decide (Oct.num bs at_.toNat wd.toNat < Oct.p2 (8 * wd.toNat - 1)) = false := by simp; omega
      go_enter Tryd.func85, Tryd.ntmps85
      go_wp2_with fail
      refine (rget_ok _ _ _ _ bs _ _ _ hr hN.out hle h1 h2 h3 h4).mono ?_
      rintro e w' ⟨rfl, rfl⟩
      go_wp2_with fail
      refine (half_any _ _ h1 (by omega)).mono ?_
      rintro e w' ⟨rfl, rfl⟩
      go_wp2_with fail
      refine (half_any _ _ h1 (by omega)).mono ?_
      rintro e w' ⟨rfl, rfl⟩
      go_wp2_with fail
      refine (half_any _ _ h1 (by omega)).mono ?_
      rintro e w' ⟨rfl, rfl⟩
      go_wp2_with fail
      go_ret2
      exact ⟨Oct.ret2i (by rw [hS.out, if_neg (by omega)]), rfl⟩

set_option maxRecDepth 100000 in
set_option maxHeartbeats 400000 in
theorem rgetInt_short (A : Option Addr) (n c : Nat) (at_ wd : Int) (w : World) (hle : n ≤ 1099511627776)
    (h1 : 1 ≤ wd) (h2 : wd ≤ 8) (h3 : 0 ≤ at_) (h4 : at_ ≤ n) (h5 : n < at_ + wd) :
    Calls Tryd.prog 85 #[.slice A n c, .int .i64 at_, .int .i64 wd] w fun e w' => e = .returned (.tuple #[.int .i64 0, .int .i64 2]) ∧ w = w' := by
  go_enter Tryd.func85, Tryd.ntmps85
  go_wp2_with fail
  refine (rget_short _ _ _ _ _ _ hle h1 h2 h3 h4 h5).mono ?_
  rintro e w' ⟨rfl, rfl⟩
  go_wp2_with fail
  go_ret2
  exact ⟨rfl, rfl⟩

set_option maxRecDepth 100000 in
set_option maxHeartbeats 400000 in
theorem rgetInt_no (A : Option Addr) (n c : Nat) (at_ wd : Int) (w : World) (hle : n ≤ 1099511627776) (h : wd < 1 ∨ 8 < wd ∨ at_ < 0 ∨ n < at_) :
    Calls Tryd.prog 85 #[.slice A n c, .int .i64 at_, .int .i64 wd] w fun e w' => e = .returned (.tuple #[.int .i64 0, .int .i64 1]) ∧ w = w' := by
  go_enter Tryd.func85, Tryd.ntmps85
  go_wp2_with fail
  refine (rget_no _ _ _ _ _ _ hle h).mono ?_
  rintro e w' ⟨rfl, rfl⟩
  go_wp2_with fail
  go_ret2
  exact ⟨rfl, rfl⟩

end Go.Proofs.YtpdnfdpoebhjoaaDoor
