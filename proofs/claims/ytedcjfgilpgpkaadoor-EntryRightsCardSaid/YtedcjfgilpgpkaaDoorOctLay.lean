/-
  What lay, Put and PutInt of package octet do: new bytes, the old ones and the number's bytes behind them, or a refusal.
-/
import Derived.Test.YtedcjfgilpgpkaaDoorProg
import Derived.Test.YtedcjfgilpgpkaaDoorOctInts
import Derived.Test.YtedcjfgilpgpkaaDoorMem
import Derived.WalkKit
import Derived.WalkSpells
import Derived.WalkLawsBesides
namespace Go.Proofs.YtedcjfgilpgpkaaDoor
open Go.RowKit Mem
set_option linter.unusedVariables false

theorem info_u8 : (Tryd.prog.info? 5).map (fun i => (i.zero, i.size, i.bytes)) = some (some (.int .u8 0), 1, 1) := by kernel_rfl
theorem size_u8 : (Tryd.prog.info? 5).map (·.size) = some 1 := by kernel_rfl

set_option maxRecDepth 100000 in
set_option maxHeartbeats 800000 in
theorem lay_any (A : Option Addr) (n c : Nat) (bs : List UInt8) (wd num : Int) (w : World) (hr : Rd w w.heap.size A bs) (hn : n = bs.length) (hle : n ≤ 1099511627776)
    (h1 : 1 ≤ wd) (h2 : wd ≤ 8) (h3 : 0 ≤ num) (h4 : num ≤ 18446744073709551615) :
    Calls Tryd.prog 60 #[.slice A n c, .int .i64 wd, .int .u64 num] w (Made 5 w (bs ++ Oct.bytes num wd.toNat) id) := by
  subst hn
  obtain ⟨i0, hi, hz0, hz1, hz2⟩ := info_parts info_u8
  go_enter Tryd.func60, Tryd.ntmps60
  go_wp2_with (first
    | (at_make; refine wpList_make_part _ rfl _ _ 22 rfl w.heap.size 5 i0 Tryd.underlying22 hi hz0 hz1 hz2 _ _ _ _ bs.length (bs.length + wd.toNat) rfl rfl rfl (by omega) (by omega) (by omega) (Nat.le_refl _) ?_; intro w1 hown1 hg1 hs1; have hb1 : Below w.heap.size w w1 := (Below.refl _ _).grown hg1 (Nat.le_refl _) (by simp); have hr1 := hr.below hb1; clear hg1)
    | (with_reducible show wpList _ _ _ _ _ _; refine wpList_copy_whole (o := ⟨some 18, _, _, _, _, _⟩) _ rfl (.tmp 16) (.tmp 17) 22 rfl w.heap.size 5 Tryd.underlying22 size_u8 (.slice (some ⟨w.heap.size, 0, none⟩) bs.length (bs.length + wd.toNat)) (List.replicate bs.length 0) bs rfl hown1 (by simp) A bs.length c rfl rfl w.heap.size hr1 ?_; intro w2 hown2 hg2 hs2; have hb2 : Below w.heap.size w w2 := hb1.grown hg2 (by omega) (by simp [Value.ownBlock]); clear hg2 hs2 hown1 hr1 hb1 hs1))
  go_loopw [7, 20] (fun v i wr => ∃ k : Nat, (k : Int) ≤ wd ∧ i = .int .i64 k ∧ Own wr w.heap.size 5 v (bs ++ Oct.bytes num k) ∧ Below w.heap.size w wr) (fun _ i _ => (wd - intOf i).toNat)
  case atStart => exact ⟨0, by omega, rfl, by simpa [Oct.bytes] using hown2, hb2⟩
  case round =>
    obtain ⟨k, hk, rfl, hown, hb⟩ := hrel
    clear hown2 hb2
    have hlen := Oct.bytes_length num k
    go_wp2_with (at_builtin; refine wpList_app _ rfl _ _ 22 rfl w.heap.size 5 i0 Tryd.underlying22 hi hz0 hz1 hz2 _ (bs ++ Oct.bytes num k) rfl (hown.alloc _) (some ⟨wr.heap.size, 0, none⟩) 1 1 [UInt8.ofNat (num / 256 ^ k % 256).toNat] rfl rfl (wr.heap.size + 1) (Rd.new1 _ _ ?c1) ?c2 ?c3 ?_)
    case c1 => exact Oct.byte_at num k
    case c2 => simp [hlen]; omega
    case c3 => have := hb.size; simp; omega
    · intro v' w1 hown' hgrow hat
      have hb' : Below w.heap.size w w1 := (hb.alloc hb.size _).grown hgrow (by have := hb.size; simp; omega) (fun g hg => (hown.lt g hg).1)
      clear hgrow hat
      have R : Own w1 w.heap.size 5 v' (bs ++ Oct.bytes num (k + 1)) := by rw [Oct.bytes_succ]; exact hown'
      clear hown' hown hb
      go_wp2_with fail
      go_roundw
      case rel => exact ⟨k + 1, by omega, by go_num, R, hb'⟩
      case measure => simp [intOf]; omega
    · have hw := Lib.hid (show wd.toNat = k by omega)
      go_ret
      exact ⟨_, rfl, by rw [hw.out]; exact hown, hb⟩

def pairOk (v : Value) : Value := .tuple #[v, .int .i64 0]

set_option maxRecDepth 100000 in
set_option maxHeartbeats 800000 in
theorem put_ok (A : Option Addr) (n c : Nat) (bs : List UInt8) (wd num : Int) (w : World) (hr : Rd w w.heap.size A bs) (hn : n = bs.length) (hle : n ≤ 1099511627776)
    (h1 : 1 ≤ wd) (h2 : wd ≤ 8) (h3 : 0 ≤ num) (h4 : num < 256 ^ wd.toNat) :
    Calls Tryd.prog 50 #[.slice A n c, .int .i64 wd, .int .u64 num] w (Made 5 w (bs ++ Oct.bytes num wd.toNat) pairOk) := by
  have hN := Lib.hid hn
  clear hn
  obtain ⟨hq, hu⟩ := Oct.low_same num wd h1 h2 h3 h4
  have hQ := Lib.hid hq
  clear hq h4
  go_enter Tryd.func50, Tryd.ntmps50
  go_wp2_with fail
  refine (isWidth_yes _ _ h1 h2).mono ?_
  rintro e w' ⟨rfl, rfl⟩
  go_wp2_with fail
  refine (low_ok _ _ _ (by omega) (by omega) h3 hu).mono ?_
  rintro e w' ⟨rfl, rfl⟩
  rw [hQ.out]
  go_wp2_with fail
  refine (lay_any _ _ _ bs _ _ _ hr hN.out hle h1 h2 h3 hu).mono ?_
  rintro e w' ⟨v, rfl, hown, hb⟩
  go_wp2_with fail
  go_ret2
  exact ⟨v, rfl, hown, hb⟩

set_option maxRecDepth 100000 in
set_option maxHeartbeats 800000 in
theorem put_far (A : Option Addr) (n c : Nat) (wd num : Int) (w : World)
    (h1 : 1 ≤ wd) (h2 : wd ≤ 8) (h3 : 0 ≤ num) (h4 : num ≤ 18446744073709551615) (h5 : 256 ^ wd.toNat ≤ num) :
    Calls Tryd.prog 50 #[.slice A n c, .int .i64 wd, .int .u64 num] w fun e w' => e = .returned (.tuple #[.slice none 0 0, .int .i64 9]) ∧ w = w' := by
  have hq := Oct.low_other num wd h1 h5
  go_enter Tryd.func50, Tryd.ntmps50
  go_wp2_with fail
  refine (isWidth_yes _ _ h1 h2).mono ?_
  rintro e w' ⟨rfl, rfl⟩
  go_wp2_with fail
  refine (low_ok _ _ _ (by omega) (by omega) h3 h4).mono ?_
  rintro e w' ⟨rfl, rfl⟩
  go_wp2_with fail
  go_ret2
  exact ⟨rfl, rfl⟩

set_option maxRecDepth 100000 in
set_option maxHeartbeats 800000 in
theorem put_no (A : Option Addr) (n c : Nat) (wd num : Int) (w : World) (h : wd < 1 ∨ 8 < wd) :
    Calls Tryd.prog 50 #[.slice A n c, .int .i64 wd, .int .u64 num] w fun e w' => e = .returned (.tuple #[.slice none 0 0, .int .i64 1]) ∧ w = w' := by
  go_enter Tryd.func50, Tryd.ntmps50
  go_wp2_with fail
  refine (isWidth_no _ _ h).mono ?_
  rintro e w' ⟨rfl, rfl⟩
  go_wp2_with fail
  go_ret2
  exact ⟨rfl, rfl⟩

set_option maxRecDepth 100000 in
set_option maxHeartbeats 800000 in
theorem putInt_ok (A : Option Addr) (n c : Nat) (bs : List UInt8) (wd num : Int) (w : World) (hr : Rd w w.heap.size A bs) (hn : n = bs.length) (hle : n ≤ 1099511627776)
    (h1 : 1 ≤ wd) (h2 : wd ≤ 8) (h3 : -9223372036854775808 ≤ num) (h4 : num ≤ 9223372036854775807) (h5 : Oct.fits num wd) :
    Calls Tryd.prog 49 #[.slice A n c, .int .i64 wd, .int .i64 num] w (Made 5 w (bs ++ Oct.bytes num wd.toNat) pairOk) := by
  have hN := Lib.hid hn
  clear hn
  have hQ := Lib.hid (Oct.sgn_same' num wd h1 h2 h5)
  have hB := Lib.hid (Oct.bytes_wrap' num wd.toNat (by omega))
  clear h5
  have hw := Oct.wrap_bd num
  go_enter Tryd.func49, Tryd.ntmps49
  go_wp2_with fail
  refine (isWidth_yes _ _ h1 h2).mono ?_
  rintro e w' ⟨rfl, rfl⟩
  go_wp2_with fail
  refine (sign_ok _ _ _ (by omega) (by omega) (by omega) (by omega)).mono ?_
  rintro e w' ⟨rfl, rfl⟩
  rw [hQ.out]
  go_wp2_with fail
  refine (lay_any _ _ _ bs _ _ _ hr hN.out hle h1 h2 (by omega) (by omega)).mono ?_
  rintro e w' ⟨v, rfl, hown, hb⟩
  rw [hB.out] at hown
  go_wp2_with fail
  go_ret2
  exact ⟨v, rfl, hown, hb⟩

set_option maxRecDepth 100000 in
set_option maxHeartbeats 800000 in
theorem putInt_far (A : Option Addr) (n c : Nat) (wd num : Int) (w : World)
    (h1 : 1 ≤ wd) (h2 : wd ≤ 8) (h3 : -9223372036854775808 ≤ num) (h4 : num ≤ 9223372036854775807) (h5 : ¬ Oct.fits num wd) :
    Calls Tryd.prog 49 #[.slice A n c, .int .i64 wd, .int .i64 num] w fun e w' => e = .returned (.tuple #[.slice none 0 0, .int .i64 9]) ∧ w = w' := by
  have hw := Oct.wrap_bd num
  have hq := Oct.sgn_other' num wd h1 h2 h5
  go_enter Tryd.func49, Tryd.ntmps49
  go_wp2_with fail
  refine (isWidth_yes _ _ h1 h2).mono ?_
  rintro e w' ⟨rfl, rfl⟩
  go_wp2_with fail
  refine (sign_ok _ _ _ (by omega) (by omega) (by omega) (by omega)).mono ?_
  rintro e w' ⟨rfl, rfl⟩
  go_wp2_with fail
  go_ret2
  exact ⟨rfl, rfl⟩

set_option maxRecDepth 100000 in
set_option maxHeartbeats 800000 in
theorem putInt_no (A : Option Addr) (n c : Nat) (wd num : Int) (w : World) (h : wd < 1 ∨ 8 < wd) :
    Calls Tryd.prog 49 #[.slice A n c, .int .i64 wd, .int .i64 num] w fun e w' => e = .returned (.tuple #[.slice none 0 0, .int .i64 1]) ∧ w = w' := by
  go_enter Tryd.func49, Tryd.ntmps49
  go_wp2_with fail
  refine (isWidth_no _ _ h).mono ?_
  rintro e w' ⟨rfl, rfl⟩
  go_wp2_with fail
  go_ret2
  exact ⟨rfl, rfl⟩

end Go.Proofs.YtedcjfgilpgpkaaDoor
