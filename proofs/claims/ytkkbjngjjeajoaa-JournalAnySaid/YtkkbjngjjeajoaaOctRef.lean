/-
  What the document's functions for package octet do with bytes: digits, Join, Put, half, PutInt, Get, GetInt.
-/
import Derived.Test.YtkkbjngjjeajoaaProg
import Derived.Test.YtkkbjngjjeajoaaOctLay
import Derived.Test.YtkkbjngjjeajoaaOctGet
namespace Go.Proofs.Ytkkbjngjjeajoaa
open Go.RowKit Mem
set_option linter.unusedVariables false

set_option maxRecDepth 100000 in
set_option maxHeartbeats 400000 in
theorem digits_any (n wd : Int) (w : World) (h1 : 0 ≤ wd) (h2 : wd ≤ 8) (h3 : 0 ≤ n) (h4 : n ≤ 18446744073709551615) :
    Calls Try.prog 124 #[.int .u64 n, .int .i64 wd] w (Made 5 w (Oct.bytes n wd.toNat) (fun v => .tuple #[v, .int .u64 (Oct.dsh n wd.toNat)])) := by
  obtain ⟨i0, hi, hz0, hz1, hz2⟩ := info_parts info_u8
  go_enter Try.func124, Try.ntmps124
  go_wp2_with fail
  go_loopw [0, 6, 7] (fun a v i wr => ∃ k : Nat, (k : Int) ≤ wd ∧ i = .int .i64 k ∧ a = .int .u64 (Oct.dsh n k) ∧ Own wr w.heap.size 5 v (Oct.bytes n k) ∧ Below w.heap.size w wr) (fun _ _ i _ => (wd - intOf i).toNat)
  case atStart => exact ⟨0, by omega, rfl, by simp [Oct.dsh], Own.nil _ _ _, Below.refl _ _⟩
  case round =>
    obtain ⟨k, hk, rfl, rfl, hown, hb⟩ := hrel
    have hd := Oct.dsh_bd n k h3 h4
    have hl := Oct.bytes_length n k
    go_wp2_with (at_builtin; refine wpList_app _ rfl _ _ 22 rfl w.heap.size 5 i0 Try.underlying22 hi hz0 hz1 hz2 _ (Oct.bytes n k) rfl (hown.alloc _) (some ⟨wr.heap.size, 0, none⟩) 1 1 [UInt8.ofNat (n / 256 ^ k % 256).toNat] rfl rfl (wr.heap.size + 1) (Rd.new1 _ _ ?c1) ?c2 ?c3 ?_)
    case c1 => exact Oct.dsh_byte n k
    case c2 => simp [hl]; omega
    case c3 => have := hb.size; simp; omega
    · intro v' w1 hown' hgrow hat
      have hb' : Below w.heap.size w w1 := (hb.alloc hb.size _).grown hgrow (by have := hb.size; simp; omega) (fun g hg => (hown.lt g hg).1)
      clear hgrow hat
      have R : Own w1 w.heap.size 5 v' (Oct.bytes n (k + 1)) := by rw [Oct.bytes_succ]; exact hown'
      clear hown' hown hb
      go_wp2_with fail
      go_roundw
      case rel => exact ⟨k + 1, by omega, by go_num, Oct.vi (Oct.dsh_succ n k), R, hb'⟩
      case measure => simp [intOf]; omega
    · have hw := Lib.hid (show wd.toNat = k by omega)
      go_ret2
      exact ⟨_, by rw [hw.out]; rfl, by rw [hw.out]; exact hown, hb⟩

set_option maxRecDepth 100000 in
set_option maxHeartbeats 400000 in
theorem join_any (A B : Option Addr) (n m c d X : Nat) (xs bs : List UInt8) (w : World) (ha : Rd w w.heap.size A xs) (hb : Rd w w.heap.size B bs) (hn : n = xs.length) (hm : m = bs.length) (hle : n ≤ 1099511627776) (hme : m ≤ 1099511627776) :
    Calls Try.prog 80 #[.slice A n c, .slice B m d] w (Made 5 w (xs ++ bs) id) := by
  subst hn
  subst hm
  obtain ⟨i0, hi, hz0, hz1, hz2⟩ := info_parts info_u8
  go_enter Try.func80, Try.ntmps80
  go_wp2_with (first
    | (at_builtin; refine wpList_app _ rfl (.tmp 6) (.tmp 7) 22 rfl w.heap.size 5 i0 Try.underlying22 hi hz0 hz1 hz2 (.slice none 0 0) [] rfl (Own.nil _ _ _) A xs.length c xs rfl rfl w.heap.size ha (by simp; omega) (Nat.le_refl _) ?_; intro v1 w1 o1 g1 t1; have b1 : Below w.heap.size w w1 := (Below.refl _ _).grown g1 (Nat.le_refl _) (by simp [Value.ownBlock]); have hb1 := hb.below b1; simp only [List.nil_append] at o1)
    | (at_builtin; refine wpList_app _ rfl (.tmp 9) (.tmp 10) 22 rfl w.heap.size 5 i0 Try.underlying22 hi hz0 hz1 hz2 v1 xs rfl o1 B bs.length d bs rfl rfl w.heap.size hb1 (by omega) b1.size ?_; intro v2 w2 o2 g2 t2))
  go_ret
  exact ⟨v2, rfl, o2, b1.grown g2 b1.size (fun g hg => (o1.lt g hg).1)⟩

set_option maxRecDepth 100000 in
set_option maxHeartbeats 400000 in
theorem rput_ok (A : Option Addr) (n c : Nat) (bs : List UInt8) (wd num : Int) (w : World) (hr : Rd w w.heap.size A bs) (hn : n = bs.length) (hle : n ≤ 1099511627776)
    (h1 : 1 ≤ wd) (h2 : wd ≤ 8) (h3 : 0 ≤ num) (h4 : num < 256 ^ wd.toNat) :
    Calls Try.prog 107 #[.slice A n c, .int .i64 wd, .int .u64 num] w (Made 5 w (bs ++ Oct.bytes num wd.toNat) pairOk) := by
  have hN := Lib.hid hn
  clear hn
  have hu := (Oct.low_same num wd h1 h2 h3 h4).2
  have hZ := Lib.hid (Oct.dsh_zero h3 h4)
  have hL := Lib.hid (Oct.bytes_length num wd.toNat)
  clear h4
  have d1 : decide (wd < 1) = false := by simp; omega
  have d2 : decide (8 < wd) = false := by simp; omega
  go_enter Try.func107, Try.ntmps107
  go_wp2_with fail
  refine (digits_any _ _ _ (by omega) h2 h3 hu).mono ?_
  rintro e w1 ⟨v1, rfl, o1, b1⟩
  obtain ⟨A1, c1, rfl, r1⟩ := o1.form_n hL.out
  clear o1
  rw [hZ.out]
  go_wp2_with fail
  refine (join_any _ _ _ _ _ _ 0 bs (Oct.bytes num wd.toNat) _ ((hr.below b1).mono b1.size) r1 hN.out hL.out.symm hle (by omega)).mono ?_
  rintro e w2 ⟨v2, rfl, o2, b2⟩
  replace o2 := o2.lower b1.size
  replace b1 := b1.trans (b2.mono b1.size)
  clear b2
  unfold id
  go_wp2_with fail
  go_ret2
  exact ⟨v2, rfl, o2, b1⟩

set_option maxRecDepth 100000 in
set_option maxHeartbeats 400000 in
theorem rput_far (A : Option Addr) (n c : Nat) (wd num : Int) (w : World)
    (h1 : 1 ≤ wd) (h2 : wd ≤ 8) (h3 : 0 ≤ num) (h4 : num ≤ 18446744073709551615) (h5 : 256 ^ wd.toNat ≤ num) :
    Calls Try.prog 107 #[.slice A n c, .int .i64 wd, .int .u64 num] w fun e w' => e = .returned (.tuple #[.slice none 0 0, .int .i64 9]) ∧ Below w.heap.size w w' := by
  have hZ := Oct.dsh_pos h5
  have d1 : decide (wd < 1) = false := by simp; omega
  have d2 : decide (8 < wd) = false := by simp; omega
  go_enter Try.func107, Try.ntmps107
  go_wp2_with fail
  refine (digits_any _ _ _ (by omega) h2 h3 h4).mono ?_
  rintro e w1 ⟨v1, rfl, o1, b1⟩
  clear o1
  go_wp2_with fail
  go_ret2
  exact ⟨rfl, b1⟩

set_option maxRecDepth 100000 in
set_option maxHeartbeats 400000 in
theorem rput_no (A : Option Addr) (n c : Nat) (wd num : Int) (w : World) (h : wd < 1 ∨ 8 < wd) :
    Calls Try.prog 107 #[.slice A n c, .int .i64 wd, .int .u64 num] w fun e w' => e = .returned (.tuple #[.slice none 0 0, .int .i64 1]) ∧ w = w' := by
  rcases h with h | h
  all_goals
    go_enter Try.func107, Try.ntmps107
    go_wp2_with fail
    go_ret2
    exact ⟨rfl, rfl⟩

set_option maxRecDepth 100000 in
set_option maxHeartbeats 400000 in
theorem rget_ok (A : Option Addr) (n c B : Nat) (bs : List UInt8) (at_ wd : Int) (w : World) (hr : Rd w B A bs) (hn : n = bs.length) (hle : n ≤ 1099511627776)
    (h1 : 1 ≤ wd) (h2 : wd ≤ 8) (h3 : 0 ≤ at_) (h4 : at_ + wd ≤ n) :
    Calls Try.prog 139 #[.slice A n c, .int .i64 at_, .int .i64 wd] w fun e w' => e = .returned (.tuple #[.int .u64 (Oct.num bs at_.toNat wd.toNat), .int .i64 0]) ∧ w = w' := by
  subst hn
  obtain ⟨a, rfl⟩ := Int.eq_ofNat_of_zero_le h3
  rw [Int.toNat_natCast]
  have d0 : decide (wd < 1) = false := by simp; omega
  have d0' : decide (8 < wd) = false := by simp; omega
  have d1 : decide ((a : Int) < 0) = false := by simp
  have d2 : decide (bs.length < a) = false := by simp; omega
  go_enter Try.func139, Try.ntmps139
  go_wp2_with fail
  go_loop [8, 9] (fun v i => ∃ j : Nat, (j : Int) ≤ wd ∧ i = .int .i64 ((j : Int) - 1) ∧ v = .int .u64 (Oct.num bs (a + j) (wd.toNat - j))) (fun _ i => (intOf i + 1).toNat)
  case atStart => exact ⟨wd.toNat, by omega, by rw [Int.toNat_of_nonneg (by omega)], by simp [Oct.num]⟩
  case round =>
    obtain ⟨j, hj, rfl, rfl⟩ := hrel
    by_cases hlt : 0 < j
    · obtain ⟨i, rfl⟩ : ∃ i, j = i + 1 := ⟨j - 1, by omega⟩
      have ei : (((i + 1 : Nat) : Int) - 1) = (i : Int) := by omega
      rw [ei]
      obtain ⟨g, off, rfl, hg, hc⟩ := hr.at_ (k := a + i) (by omega)
      have hx := byt_bd bs (a + i)
      have hN := Oct.num_56 bs (a + (i + 1)) (wd.toNat - (i + 1)) (by omega)
      have hS := Lib.hid (Oct.num_front bs (a + i) (wd.toNat - (i + 1)))
      clear ei
      go_wp2_with fail
      go_round
      case rel => exact ⟨i, by omega, rfl, Oct.vi (by rw [show wd.toNat - i = wd.toNat - (i + 1) + 1 by omega, hS.out]; rw [show a + i + 1 = a + (i + 1) by omega])⟩
      case measure => simp [intOf]
    · obtain rfl : j = 0 := by omega
      go_wp2_with fail
      go_ret2
      exact ⟨rfl, rfl⟩

set_option maxRecDepth 100000 in
set_option maxHeartbeats 400000 in
theorem rget_short (A : Option Addr) (n c : Nat) (at_ wd : Int) (w : World) (hle : n ≤ 1099511627776)
    (h1 : 1 ≤ wd) (h2 : wd ≤ 8) (h3 : 0 ≤ at_) (h4 : at_ ≤ n) (h5 : n < at_ + wd) :
    Calls Try.prog 139 #[.slice A n c, .int .i64 at_, .int .i64 wd] w fun e w' => e = .returned (.tuple #[.int .u64 0, .int .i64 2]) ∧ w = w' := by
  have d0 : decide (wd < 1) = false := by simp; omega
  have d0' : decide (8 < wd) = false := by simp; omega
  have d1 : decide (at_ < 0) = false := by simp; omega
  have d2 : decide ((n : Int) < at_) = false := by simp; omega
  go_enter Try.func139, Try.ntmps139
  go_wp2_with fail
  go_ret2
  exact ⟨rfl, rfl⟩

set_option maxRecDepth 100000 in
set_option maxHeartbeats 400000 in
theorem rget_no (A : Option Addr) (n c : Nat) (at_ wd : Int) (w : World) (hle : n ≤ 1099511627776) (h : wd < 1 ∨ 8 < wd ∨ at_ < 0 ∨ n < at_) :
    Calls Try.prog 139 #[.slice A n c, .int .i64 at_, .int .i64 wd] w fun e w' => e = .returned (.tuple #[.int .u64 0, .int .i64 1]) ∧ w = w' := by
  by_cases q1 : wd < 1
  · clear h
    go_enter Try.func139, Try.ntmps139
    go_wp2_with fail
    go_ret2
    exact ⟨rfl, rfl⟩
  · have d1 : decide (wd < 1) = false := by simp; omega
    by_cases q2 : 8 < wd
    · clear h
      go_enter Try.func139, Try.ntmps139
      go_wp2_with fail
      go_ret2
      exact ⟨rfl, rfl⟩
    · have d2 : decide (8 < wd) = false := by simp; omega
      by_cases q3 : at_ < 0
      · clear h
        go_enter Try.func139, Try.ntmps139
        go_wp2_with fail
        go_ret2
        exact ⟨rfl, rfl⟩
      · have d3 : decide (at_ < 0) = false := by simp; omega
        have q4 : (n : Int) < at_ := by omega
        clear h
        go_enter Try.func139, Try.ntmps139
        go_wp2_with fail
        go_ret2
        exact ⟨rfl, rfl⟩

end Go.Proofs.Ytkkbjngjjeajoaa
