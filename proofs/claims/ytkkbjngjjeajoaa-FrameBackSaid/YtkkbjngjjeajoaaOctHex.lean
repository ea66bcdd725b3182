/-
  What Hex, digit and Unhex of package octet do.
-/
import Derived.Test.YtkkbjngjjeajoaaProg
import Derived.Test.YtkkbjngjjeajoaaOctLay
import Derived.Test.YtkkbjngjjeajoaaMem
import Derived.WalkKit
import Derived.WalkSpells
import Derived.WalkLawsBesides
import Derived.Deep.RegionLaw
namespace Go.Proofs.Ytkkbjngjjeajoaa
open Go.RowKit Mem

set_option maxRecDepth 100000 in
set_option maxHeartbeats 400000 in
theorem hex_any (A : Option Addr) (n c : Nat) (bs : List UInt8) (w : World) (hr : Rd w w.heap.size A bs) (hn : n = bs.length) (hle : n ≤ 1099511627776) :
    Calls Try.prog 62 #[.slice A n c] w fun e w' => e = .returned (.string ⟨(Oct.hex bs).toArray⟩) ∧ Below w.heap.size w w' := by
  subst hn
  obtain ⟨i0, hi, hz0, hz1, hz2⟩ := info_parts info_u8
  go_enter Try.func62, Try.ntmps62
  go_wp2_with (at_make; refine wpList_make_part _ rfl _ _ 22 rfl w.heap.size 5 i0 Try.underlying22 hi hz0 hz1 hz2 _ _ _ _ 0 (2 * bs.length) rfl rfl rfl (by omega) (by omega) (by omega) (Nat.le_refl _) ?_; intro w1 hown1 hg1 hs1; have hb1 : Below w.heap.size w w1 := (Below.refl _ _).grown hg1 (Nat.le_refl _) (by simp); clear hg1 hs1)
  go_loopw [3, 12] (fun v i wr => ∃ k : Nat, k ≤ bs.length ∧ i = .int .i64 k ∧ Own wr w.heap.size 5 v (Oct.hex (bs.take k)) ∧ Below w.heap.size w wr) (fun _ i _ => bs.length - (intOf i).toNat)
  case atStart => exact ⟨0, by omega, rfl, hown1, hb1⟩
  case round =>
    obtain ⟨k, hk, rfl, hown, hb⟩ := hrel
    clear hown1 hb1
    by_cases hlt : k < bs.length
    · obtain ⟨g, off, rfl, hg, hc⟩ := (hr.below hb).at_ hlt
      have hx := byt_bd bs k
      have hq : 0 ≤ byt bs k / 16 ∧ byt bs k / 16 < 16 := by omega
      have hm : 0 ≤ byt bs k % 16 ∧ byt bs k % 16 < 16 := by omega
      have ha := u8_and15 (byt bs k) hx.1 (by omega)
      have hl := Oct.hex_length (bs.take k)
      rw [List.length_take, Nat.min_eq_left hk] at hl
      go_wp2_with fail
      go_region_law (refine step_app _ rfl (.tmp 16) (.tmp 23) 22 rfl w.heap.size 5 i0 Try.underlying22 hi hz0 hz1 hz2 _ (Oct.hex (bs.take k)) rfl (hown.alloc _).drew (some ⟨wr.heap.size, 0, none⟩) 2 2 [Oct.hexd (byt bs k / 16).toNat, Oct.hexd (byt bs k % 16).toNat] rfl rfl (wr.heap.size + 1) (Rd.new2 wr _ (congrArg Int.ofNat (Oct.hexd_at _ (by omega) _)) (congrArg Int.ofNat (Oct.hexd_at _ (by omega) _))).drew (by simp [hl]; omega) (by have := hb.size; simp; omega) ?_; intro v' w1 hown' hgrow hat)
      all_goals
        have hb' : Below w.heap.size w w1 := (hb.alloc hb.size _).drew.grown hgrow (by have := hb.size; simp; omega) (fun g hg => (hown.lt g hg).1)
        clear hgrow hat
        have R : Own w1 w.heap.size 5 v' (Oct.hex (bs.take (k + 1))) := by rw [Oct.hex_take hlt]; exact hown'
        clear hown' hown hb
        go_wp2_with fail
        go_roundw
        case rel => exact ⟨k + 1, by omega, by go_num, R, hb'⟩
        case measure => simp [intOf]; omega
    · obtain rfl : k = bs.length := by omega
      rw [List.take_length] at hown
      obtain ⟨A', c', rfl, hrd⟩ := hown.form
      have hs := run_str hrd _ c' rfl 22 5 9 Try.underlying22 Try.underlying5 Try.underlying9
      go_wp2_with fail
      go_ret
      exact ⟨rfl, hb⟩

set_option maxRecDepth 100000 in
set_option maxHeartbeats 400000 in
theorem digit_yes (x : Int) (w : World) (h : Oct.digB x = true) :
    Calls Try.prog 114 #[.int .u8 x] w fun e w' => e = .returned (.tuple #[.int .u8 (Oct.digV x), .bool true]) ∧ w = w' := by
  rcases Oct.digB_yes h with ⟨h1, h2, h3⟩ | ⟨h1, h2, h3⟩
  · have hV := Lib.hid h3
    clear h3 h
    go_enter Try.func114, Try.ntmps114
    go_wp2_with fail
    go_ret2
    exact ⟨by rw [hV.out]; rfl, rfl⟩
  · have hV := Lib.hid h3
    have hd : decide (x ≤ 57) = false := by simp; omega
    clear h3 h
    go_enter Try.func114, Try.ntmps114
    go_wp2_with fail
    go_ret2
    exact ⟨by rw [hV.out]; go_num, rfl⟩

set_option maxRecDepth 100000 in
set_option maxHeartbeats 400000 in
theorem digit_no (x : Int) (w : World) (h : Oct.digB x = false) :
    Calls Try.prog 114 #[.int .u8 x] w fun e w' => e = .returned (.tuple #[.int .u8 0, .bool false]) ∧ w = w' := by
  have hn := Oct.digB_no h
  clear h
  by_cases h1 : 48 ≤ x
  · have d1 : decide (x ≤ 57) = false := by simp; omega
    by_cases h2 : 97 ≤ x
    · have d2 : decide (x ≤ 102) = false := by simp; omega
      go_enter Try.func114, Try.ntmps114
      go_wp2_with fail
      go_ret2
      exact ⟨rfl, rfl⟩
    · go_enter Try.func114, Try.ntmps114
      go_wp2_with fail
      go_ret2
      exact ⟨rfl, rfl⟩
  · go_enter Try.func114, Try.ntmps114
    go_wp2_with fail
    go_ret2
    exact ⟨rfl, rfl⟩

def Undone (t : TypeId) (w : World) (l : List UInt8) (e : Ending) (w' : World) : Prop :=
  (∀ bs, Oct.unhex l = some bs → ∃ v, e = .returned (pairOk v) ∧ Own w' w.heap.size t v bs) ∧
  (Oct.unhex l = none → e = .returned (.tuple #[.slice none 0 0, .int .i64 4])) ∧ Below w.heap.size w w'

set_option maxRecDepth 100000 in
set_option maxHeartbeats 400000 in
theorem unhex_any (l : List UInt8) (w : World) (hle : l.length ≤ 1099511627776) :
    Calls Try.prog 92 #[.string ⟨l.toArray⟩] w (Undone 5 w l) := by
  obtain ⟨i0, hi, hz0, hz1, hz2⟩ := info_parts info_u8
  by_cases hodd : l.length % 2 = 0
  · have hd : ((l.length : Int) % 2 != 0) = false := by simp; omega
    go_enter Try.func92, Try.ntmps92
    go_wp2_with (at_make; refine wpList_make_part _ rfl _ _ 22 rfl w.heap.size 5 i0 Try.underlying22 hi hz0 hz1 hz2 _ _ _ _ 0 (l.length / 2) rfl rfl rfl (by omega) (by omega) (by omega) (Nat.le_refl _) ?_; intro w1 hown1 hg1 hs1; have hb1 : Below w.heap.size w w1 := (Below.refl _ _).grown hg1 (Nat.le_refl _) (by simp); clear hg1 hs1)
    go_loopw [4, 21] (fun v i wr => ∃ k : Nat, 2 * k ≤ l.length ∧ i = .int .i64 k ∧ (∃ bs, Oct.unhex (l.take (2 * k)) = some bs ∧ bs.length = k ∧ Own wr w.heap.size 5 v bs) ∧ Below w.heap.size w wr) (fun _ i _ => l.length / 2 - (intOf i).toNat)
    case atStart => exact ⟨0, by omega, rfl, ⟨[], rfl, rfl, hown1⟩, hb1⟩
    case round =>
      obtain ⟨k, hk, rfl, ⟨bs, hu, hl, hown⟩, hb⟩ := hrel
      have hU := Lib.hid hu
      have hL := Lib.hid hl
      clear hown1 hb1 hu hl
      by_cases hlt : 2 * k < l.length
      · go_wp2_with fail
        rw [str_at]
        by_cases hd1 : Oct.digB (byt l (2 * k)) = true
        · refine (digit_yes _ _ hd1).mono ?_
          rintro e w' ⟨rfl, rfl⟩
          have v1 := Oct.digV_bd hd1
          have D1 := Lib.hid hd1
          clear hd1
          go_wp2_with fail
          rw [str_at]
          by_cases hd2 : Oct.digB (byt l (2 * k + 1)) = true
          · refine (digit_yes _ _ hd2).mono ?_
            rintro e w' ⟨rfl, rfl⟩
            have v2 := Oct.digV_bd hd2
            have D2 := Lib.hid hd2
            clear hd2
            go_wp2_with (at_builtin; refine wpList_app _ rfl _ _ 22 rfl w.heap.size 5 i0 Try.underlying22 hi hz0 hz1 hz2 _ bs rfl (hown.alloc _) (some ⟨wr.heap.size, 0, none⟩) 1 1 [UInt8.ofNat (16 * Oct.digV (byt l (2 * k)) + Oct.digV (byt l (2 * k + 1))).toNat] rfl rfl (wr.heap.size + 1) (Rd.new1 _ _ ?c1) ?c2 ?c3 ?_)
            case c1 => exact Oct.or_nib v1.1 v1.2 v2.1 v2.2
            case c2 => rw [hL.out]; simp; omega
            case c3 => have := hb.size; simp; omega
            intro v' w1 hown' hgrow hat
            have hb' : Below w.heap.size w w1 := (hb.alloc hb.size _).grown hgrow (by have := hb.size; simp; omega) (fun g hg => (hown.lt g hg).1)
            clear hgrow hat
            have R := Lib.hid (Oct.unhex_step hlt hodd hU.out D1.out D2.out)
            clear hown hb
            go_wp2_with fail
            go_roundw
            case rel => exact ⟨k + 1, by omega, by go_num, ⟨_, R.out, by simp [hL.out], hown'⟩, hb'⟩
            case measure => simp [intOf]; omega
          · have hd2' : Oct.digB (byt l (2 * k + 1)) = false := by simpa using hd2
            have hN := Lib.hid (Oct.unhex_stop hlt hodd hU.out (.inr hd2'))
            refine (digit_no _ _ hd2').mono ?_
            rintro e w' ⟨rfl, rfl⟩
            clear hd2 hd2'
            go_wp2_with fail
            go_ret2
            exact ⟨fun bs' hb' => absurd hb' (by rw [hN.out]; simp), fun _ => rfl, hb⟩
        · have hd1' : Oct.digB (byt l (2 * k)) = false := by simpa using hd1
          have hN := Lib.hid (Oct.unhex_stop hlt hodd hU.out (.inl hd1'))
          refine (digit_no _ _ hd1').mono ?_
          rintro e w' ⟨rfl, rfl⟩
          clear hd1 hd1'
          go_wp2_with fail
          rw [str_at]
          by_cases hd2 : Oct.digB (byt l (2 * k + 1)) = true
          · refine (digit_yes _ _ hd2).mono ?_
            rintro e w' ⟨rfl, rfl⟩
            clear hd2
            go_wp2_with fail
            go_ret2
            exact ⟨fun bs' hb' => absurd hb' (by rw [hN.out]; simp), fun _ => rfl, hb⟩
          · have hd2' : Oct.digB (byt l (2 * k + 1)) = false := by simpa using hd2
            refine (digit_no _ _ hd2').mono ?_
            rintro e w' ⟨rfl, rfl⟩
            clear hd2 hd2'
            go_wp2_with fail
            go_ret2
            exact ⟨fun bs' hb' => absurd hb' (by rw [hN.out]; simp), fun _ => rfl, hb⟩
      · have hN := Lib.hid hU.out
        rw [List.take_of_length_le (by omega)] at hN
        go_wp2_with fail
        go_ret2
        exact ⟨fun bs' hb' => ⟨_, rfl, by rw [hN.out] at hb'; cases hb'; exact hown⟩, fun h => absurd h (by rw [hN.out]; simp), hb⟩
  · have hd : ((l.length : Int) % 2 != 0) = true := by simp; omega
    have hN := Lib.hid (Oct.unhex_odd l (by omega))
    clear hodd
    go_enter Try.func92, Try.ntmps92
    go_wp2_with fail
    go_ret2
    exact ⟨fun bs' hb' => absurd hb' (by rw [hN.out]; simp), fun _ => rfl, Below.refl _ _⟩

end Go.Proofs.Ytkkbjngjjeajoaa
