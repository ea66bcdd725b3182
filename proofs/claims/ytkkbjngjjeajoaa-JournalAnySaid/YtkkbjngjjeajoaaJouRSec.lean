/-
  The document's Newest, Room, Next over looks.
-/
import Derived.Test.YtkkbjngjjeajoaaProg
import Derived.Test.YtkkbjngjjeajoaaJouInts
import Derived.Test.YtkkbjngjjeajoaaTextN
namespace Go.Proofs.Ytkkbjngjjeajoaa
namespace Jou
open Go.RowKit Mem Fla Rec Sec
set_option linter.unusedVariables false
set_option linter.unusedSimpArgs false
set_option maxRecDepth 100000

set_option maxHeartbeats 400000 in
theorem rroom_any (l : Lv) (data : Int) (w : World) (h1 : -9223372036854775808 ≤ data) (h2 : data ≤ 9223372036854775807) (h3 : -9223372036854775808 ≤ l.e) (h4 : l.e ≤ 9223372036854775807) :
    Calls Try.prog 82 #[.agg l.vals, .int .i64 data] w fun e w' => e = .returned (.bool (roomB l.cl l.e data)) ∧ Below w.heap.size w w' := by
  obtain ⟨k, n, A, m, c, cnt, e, cl⟩ := l
  simp only [Lv.vals] at *
  cases cl
  all_goals go_enter Try.func82, Try.ntmps82
  all_goals go_wp2_with fail
  all_goals
    go_ret
    refine ⟨retb ?_, below1 _ _⟩
    simp only [roomB, decide_eq_true_eq, Bool.false_eq_true, false_iff, true_and, false_and, not_false_eq_true]
    try omega

set_option maxHeartbeats 400000 in
theorem rat_any (A : Option Addr) (c : Nat) (zs : List Int) (i : Nat) (w : World) {B : Nat} {x : Int} (hx : zs.getD i 0 = x) (h : RdI .i64 w B A zs) (hi : i ≤ 1099511627776) (hl : zs.length ≤ 1099511627776) :
    Calls Try.prog 110 #[.slice A zs.length c, .int .i64 (i : Int)] w fun e w' => e = .returned (.int .i64 x) ∧ w = w' := by
  subst hx
  by_cases hi : i < zs.length
  · obtain ⟨g, off, rfl, hg, hc⟩ := h.at_ hi
    go_enter Try.func110, Try.ntmps110
    go_wp2_with fail
    go_ret
    refine ⟨?_, rfl⟩
    simp [hi]
  · have h0 : zs.getD i 0 = 0 := by simp [List.getElem?_eq_none (Nat.le_of_not_lt hi)]
    rw [h0]
    go_enter Try.func110, Try.ntmps110
    go_wp2_with fail
    go_ret
    exact ⟨rfl, rfl⟩

/-- An index, or -1. -/
def ixv (o : Option Nat) : Int := match o with | none => -1 | some a => (a : Int)
set_option maxHeartbeats 2000000 in
theorem rnewest_any (A : Option Addr) (c : Nat) (ls : List Lv) (w : World) (hr : RdL w w.heap.size A ls) (hl : ls.length ≤ 1099511627776) :
    Calls Try.prog 87 #[.slice A ls.length c] w fun e w' => e = .returned (.tuple #[.int .i64 (((nst ls ls.length).getD 0 : Nat) : Int), .bool (nst ls ls.length).isSome]) ∧ Below w.heap.size w w' := by
  go_enter Try.func87, Try.ntmps87
  go_wp2_with fail
  go_loopw [4, 5] (fun b i wr => ∃ k : Nat, k ≤ ls.length ∧ i = .int .i64 (k : Int) ∧ b = .int .i64 (ixv (nst ls k)) ∧ Below w.heap.size w wr) (fun _ i _ => ls.length - (intOf i).toNat)
  case atStart => exact ⟨0, by omega, rfl, rfl, Below.refl _ _⟩
  case round =>
    obtain ⟨k, hk, rfl, rfl, b⟩ := hrel
    by_cases hlt : k < ls.length
    · obtain ⟨l, hl⟩ : ∃ l, ls.getD k Lv.zero = l := ⟨_, rfl⟩
      obtain ⟨g, off, rfl, hg, _⟩ := hr.six hlt hl
      have C1 : ∀ W, Below w.heap.size w W → W.cell? ⟨g, off + k * 6 + 1, none⟩ = some (.int .u32 l.n) ∧ W.cell? ⟨g, off + k * 6 + 3, none⟩ = some (.int .i64 l.cnt) := fun W bW => by
        obtain ⟨g', off', e1, _, _, q1, _, q3, _⟩ := (hr.below bW).six hlt hl
        injection e1 with e1
        injection e1 with e1 e2
        subst e1
        subst e2
        exact ⟨q1, q3⟩
      have key : nst ls (k + 1) = match nst ls k with
        | none => if 0 < l.cnt then some k else none
        | some b => if 0 < l.cnt ∧ (ls.getD b Lv.zero).n < l.n then some k else some b := by rw [← hl]; rfl
      have KEY := Lib.hid key
      clear key
      cases hs : nst ls k with
      | none =>
        have R := KEY.out
        rw [hs] at R
        simp only [ixv]
        by_cases hc : 0 < l.cnt
        · have hcd : decide (0 < l.cnt) = true := by simpa using hc
          have R := Lib.hid (R.trans (if_pos hc))
          go_wp2_with fail
          refine Txt.wp_region_textN 25 (fun W => Below w.heap.size w W) (by kernel_rfl) (by kernel_rfl) (by kernel_rfl) (by kernel_rfl) (fun _ _ _ _ _ h => h) b.drew ?_
          repeat (
            apply Txt.step rfl
            · intro W hS K hK
              obtain ⟨s1, s3⟩ := C1 W hS
              have HS := Lib.hid hS
              clear hS
              go_simp
              first
                | exact hK.out _ HS.out
                | (go_wp2_with fail; exact hK.out _ HS.out)
            · first | exact ⟨_, rfl⟩ | exact ⟨undef, rfl⟩)
          refine Txt.last fun W hS => ?_
          have HB := Lib.hid hS
          clear hS
          go_wp2_with fail
          go_roundw
          case rel => exact ⟨k + 1, by omega, by go_num, by rw [R.out], HB.out⟩
          case measure => simp [intOf]; omega
        · have hcd : decide (0 < l.cnt) = false := by simpa using hc
          have R := Lib.hid (R.trans (if_neg hc))
          go_wp2_with fail
          refine Txt.wp_region_textN 25 (fun W => Below w.heap.size w W) (by kernel_rfl) (by kernel_rfl) (by kernel_rfl) (by kernel_rfl) (fun _ _ _ _ _ h => h) b.drew ?_
          repeat (
            apply Txt.step rfl
            · intro W hS K hK
              obtain ⟨s1, s3⟩ := C1 W hS
              have HS := Lib.hid hS
              clear hS
              go_simp
              first
                | exact hK.out _ HS.out
                | (go_wp2_with fail; exact hK.out _ HS.out)
            · first | exact ⟨_, rfl⟩ | exact ⟨undef, rfl⟩)
          refine Txt.last fun W hS => ?_
          have HB := Lib.hid hS
          clear hS
          go_wp2_with fail
          go_roundw
          case rel => exact ⟨k + 1, by omega, by go_num, by rw [R.out], HB.out⟩
          case measure => simp [intOf]; omega
      | some d =>
        have hd := nst_lt hs
        obtain ⟨l2, hl2⟩ : ∃ l, ls.getD d Lv.zero = l := ⟨_, rfl⟩
        have D1 : ∀ W, Below w.heap.size w W → W.cell? ⟨g, off + d * 6 + 1, none⟩ = some (.int .u32 l2.n) := fun W bW => by
          obtain ⟨g', off', e1, _, _, d1, _⟩ := (hr.below bW).six (Nat.lt_trans hd hlt) hl2
          injection e1 with e1
          injection e1 with e1 e2
          subst e1
          subst e2
          exact d1
        have hd0 : (0 : Int) ≤ (d : Int) := by omega
        have hdl : (d : Int) < (ls.length : Int) := by omega
        have hdn : decide ((d : Int) < 0) = false := by simp
        have R := KEY.out
        rw [hs] at R
        simp only [hl2] at R
        simp only [ixv]
        by_cases hc : 0 < l.cnt
        · have hcd : decide (0 < l.cnt) = true := by simpa using hc
          by_cases hq : l2.n < l.n
          · have hqd : decide (l2.n < l.n) = true := by simpa using hq
            have R := Lib.hid (R.trans (if_pos ⟨hc, hq⟩))
            go_wp2_with fail
            refine Txt.wp_region_textN 25 (fun W => Below w.heap.size w W) (by kernel_rfl) (by kernel_rfl) (by kernel_rfl) (by kernel_rfl) (fun _ _ _ _ _ h => h) b.drew ?_
            repeat (
              apply Txt.step rfl
              · intro W hS K hK
                obtain ⟨s1, s3⟩ := C1 W hS
                have d1 := D1 W hS
                have HS := Lib.hid hS
                clear hS
                go_simp
                first
                  | exact hK.out _ HS.out
                  | (go_wp2_with fail; exact hK.out _ HS.out)
              · first | exact ⟨_, rfl⟩ | exact ⟨undef, rfl⟩)
            refine Txt.last fun W hS => ?_
            have HB := Lib.hid hS
            clear hS
            go_wp2_with fail
            go_roundw
            case rel => exact ⟨k + 1, by omega, by go_num, by rw [R.out], HB.out⟩
            case measure => simp [intOf]; omega
          · have hqd : decide (l2.n < l.n) = false := by simpa using hq
            have R := Lib.hid (R.trans (if_neg (fun h => hq h.2)))
            go_wp2_with fail
            refine Txt.wp_region_textN 25 (fun W => Below w.heap.size w W) (by kernel_rfl) (by kernel_rfl) (by kernel_rfl) (by kernel_rfl) (fun _ _ _ _ _ h => h) b.drew ?_
            repeat (
              apply Txt.step rfl
              · intro W hS K hK
                obtain ⟨s1, s3⟩ := C1 W hS
                have d1 := D1 W hS
                have HS := Lib.hid hS
                clear hS
                go_simp
                first
                  | exact hK.out _ HS.out
                  | (go_wp2_with fail; exact hK.out _ HS.out)
              · first | exact ⟨_, rfl⟩ | exact ⟨undef, rfl⟩)
            refine Txt.last fun W hS => ?_
            have HB := Lib.hid hS
            clear hS
            go_wp2_with fail
            go_roundw
            case rel => exact ⟨k + 1, by omega, by go_num, by rw [R.out], HB.out⟩
            case measure => simp [intOf]; omega
        · have hcd : decide (0 < l.cnt) = false := by simpa using hc
          have R := Lib.hid (R.trans (if_neg (fun h => hc h.1)))
          go_wp2_with fail
          refine Txt.wp_region_textN 25 (fun W => Below w.heap.size w W) (by kernel_rfl) (by kernel_rfl) (by kernel_rfl) (by kernel_rfl) (fun _ _ _ _ _ h => h) b.drew ?_
          repeat (
            apply Txt.step rfl
            · intro W hS K hK
              obtain ⟨s1, s3⟩ := C1 W hS
              have d1 := D1 W hS
              have HS := Lib.hid hS
              clear hS
              go_simp
              first
                | exact hK.out _ HS.out
                | (go_wp2_with fail; exact hK.out _ HS.out)
            · first | exact ⟨_, rfl⟩ | exact ⟨undef, rfl⟩)
          refine Txt.last fun W hS => ?_
          have HB := Lib.hid hS
          clear hS
          go_wp2_with fail
          go_roundw
          case rel => exact ⟨k + 1, by omega, by go_num, by rw [R.out], HB.out⟩
          case measure => simp [intOf]; omega
    · obtain rfl : k = ls.length := by omega
      cases hs : nst ls ls.length with
      | none =>
        simp only [ixv]
        go_wp2_with fail
        go_ret2
        exact ⟨by rw [hs]; rfl, b⟩
      | some d =>
        have hd0 : (0 : Int) ≤ (d : Int) := by omega
        simp only [ixv]
        go_wp2_with fail
        go_ret2
        exact ⟨by rw [hs]; rfl, b⟩
set_option maxHeartbeats 2000000 in
theorem rnext_any (A Aw Al : Option Addr) (c cw cl : Nat) (ls : List Lv) (wear left : List Int) (w : World) (hr : RdL w w.heap.size A ls) (hl : ls.length ≤ 1099511627776) (hw : RdI .i64 w w.heap.size Aw wear) (hf : RdI .i64 w w.heap.size Al left)
    (lw : wear.length ≤ 1099511627776) (lf : left.length ≤ 1099511627776) :
    Calls Try.prog 84 #[.slice A ls.length c, .slice Aw wear.length cw, .slice Al left.length cl] w fun e w' =>
      e = .returned (.tuple #[.int .i64 (((nxt ls wear left (nst ls ls.length) ls.length).getD 0 : Nat) : Int), .bool (nxt ls wear left (nst ls ls.length) ls.length).isSome]) ∧ Below w.heap.size w w' := by
  have NW := Lib.hid (rnewest_any A c ls w hr hl)
  obtain ⟨s, hs⟩ : ∃ s, nst ls ls.length = s := ⟨_, rfl⟩
  rw [hs] at NW ⊢
  clear hs
  go_enter Try.func84, Try.ntmps84
  go_wp2_with fail
  refine NW.out.mono ?_
  rintro e w1 ⟨rfl, b1⟩
  clear NW
  cases s with
  | none =>
    simp only [Option.getD_none, Option.getD_some, Option.isSome_none, Option.isSome_some]
    rw [show ((0 : Nat) : Int) = 0 from rfl]
    go_wp2_with fail
    go_loopw [10, 11] (fun bb i wr => ∃ k : Nat, k ≤ ls.length ∧ i = .int .i64 (k : Int) ∧ bb = .int .i64 (ixv (nxt ls wear left none k)) ∧ Below w.heap.size w wr) (fun _ i _ => ls.length - (intOf i).toNat)
    case atStart => exact ⟨0, by omega, rfl, rfl, b1⟩
    case round =>
      obtain ⟨k, hk, rfl, rfl, b⟩ := hrel
      by_cases hlt : k < ls.length
      · obtain ⟨l, hl⟩ : ∃ l, ls.getD k Lv.zero = l := ⟨_, rfl⟩
        obtain ⟨g, off, rfl, hg, c0, c1, c2, c3, c4, c5⟩ := (hr.below b).six hlt hl
        have hsk : none ≠ some k := fun h => by cases h
        obtain ⟨z, hz⟩ : ∃ z, left.getD k 0 = z := ⟨_, rfl⟩
        have HAl := Lib.hid (rat_any Al cl left k wr hz (hf.below b) (by omega) lf)
        by_cases hE : l.cnt = 0 ∧ l.cl = true
        · have hcan : Sec.Can ls left none k := ⟨hsk, .inl (by rw [hl]; exact hE)⟩
          obtain ⟨hE1, hE2⟩ := hE
          rw [hE1] at c3
          rw [hE2] at c5
          have NC := Lib.hid (nxt_can (wear := wear) hcan)
          cases hx : nxt ls wear left none k with
          | none =>
            have R := Lib.hid (NC.out.1 hx)
            simp only [ixv] at *
            go_wp2_with fail
            go_roundw
            case rel => exact ⟨k + 1, by omega, by go_num, by rw [R.out], b⟩
            case measure => simp [intOf]; omega
          | some d =>
            have hdk := nxt_lt hx
            have R2 := Lib.hid (NC.out.2 d hx)
            obtain ⟨x, hx1⟩ : ∃ x, wear.getD k 0 = x := ⟨_, rfl⟩
            obtain ⟨y, hy1⟩ : ∃ y, wear.getD d 0 = y := ⟨_, rfl⟩
            rw [hx1, hy1] at R2
            have HA1 := Lib.hid (rat_any Aw cw wear k wr hx1 (hw.below b) (by omega) lw)
            have HA2 := Lib.hid (rat_any Aw cw wear d wr hy1 (hw.below b) (by omega) lw)
            have hd0 : (0 : Int) ≤ (d : Int) := by omega
            simp only [ixv] at *
            clear hx1 hy1
            go_wp2_with fail
            refine HA1.out.mono ?_
            rintro e w' ⟨rfl, rfl⟩
            go_wp2_with fail
            refine HA2.out.mono ?_
            rintro e w' ⟨rfl, rfl⟩
            by_cases hq : x < y
            · have hqd : decide (x < y) = true := by simpa using hq
              have R := Lib.hid (R2.out.1 hq)
              go_wp2_with fail
              go_roundw
              case rel => exact ⟨k + 1, by omega, by go_num, by rw [R.out], b⟩
              case measure => simp [intOf]; omega
            · have hqd : decide (x < y) = false := by simpa using hq
              have R := Lib.hid (R2.out.2 (by omega))
              go_wp2_with fail
              go_roundw
              case rel => exact ⟨k + 1, by omega, by go_num, by rw [R.out], b⟩
              case measure => simp [intOf]; omega
        · have HZ : Sec.Can ls left none k ↔ 0 < z := by
            unfold Sec.Can
            rw [hl, hz]
            constructor
            · rintro ⟨_, h | h⟩
              · exact absurd h hE
              · exact h
            · exact fun h => ⟨hsk, .inr h⟩
          have hEE : (l.cnt == 0) = false ∨ (l.cnt = 0 ∧ l.cl = false) := by
            by_cases h0 : l.cnt = 0
            · right
              refine ⟨h0, ?_⟩
              cases h : l.cl with
              | false => rfl
              | true => exact absurd ⟨h0, h⟩ hE
            · left; simpa using h0
          rcases hEE with hE1 | ⟨hE1, hE2⟩
          · by_cases hzz : 0 < z
            · have hcan := HZ.2 hzz
              have NC := Lib.hid (nxt_can (wear := wear) hcan)
              cases hx : nxt ls wear left none k with
              | none =>
                have R := Lib.hid (NC.out.1 hx)
                simp only [ixv] at *
                go_wp2_with fail
                refine HAl.out.mono ?_
                rintro e w' ⟨rfl, rfl⟩
                go_wp2_with fail
                go_roundw
                case rel => exact ⟨k + 1, by omega, by go_num, by rw [R.out], b⟩
                case measure => simp [intOf]; omega
              | some d =>
                have hdk := nxt_lt hx
                have R2 := Lib.hid (NC.out.2 d hx)
                obtain ⟨x, hx1⟩ : ∃ x, wear.getD k 0 = x := ⟨_, rfl⟩
                obtain ⟨y, hy1⟩ : ∃ y, wear.getD d 0 = y := ⟨_, rfl⟩
                rw [hx1, hy1] at R2
                have HA1 := Lib.hid (rat_any Aw cw wear k wr hx1 (hw.below b) (by omega) lw)
                have HA2 := Lib.hid (rat_any Aw cw wear d wr hy1 (hw.below b) (by omega) lw)
                have hd0 : (0 : Int) ≤ (d : Int) := by omega
                simp only [ixv] at *
                clear hx1 hy1
                go_wp2_with fail
                refine HAl.out.mono ?_
                rintro e w' ⟨rfl, rfl⟩
                go_wp2_with fail
                refine HA1.out.mono ?_
                rintro e w' ⟨rfl, rfl⟩
                go_wp2_with fail
                refine HA2.out.mono ?_
                rintro e w' ⟨rfl, rfl⟩
                by_cases hq : x < y
                · have hqd : decide (x < y) = true := by simpa using hq
                  have R := Lib.hid (R2.out.1 hq)
                  go_wp2_with fail
                  go_roundw
                  case rel => exact ⟨k + 1, by omega, by go_num, by rw [R.out], b⟩
                  case measure => simp [intOf]; omega
                · have hqd : decide (x < y) = false := by simpa using hq
                  have R := Lib.hid (R2.out.2 (by omega))
                  go_wp2_with fail
                  go_roundw
                  case rel => exact ⟨k + 1, by omega, by go_num, by rw [R.out], b⟩
                  case measure => simp [intOf]; omega
            · have hno : ¬ Sec.Can ls left none k := fun h => hzz (HZ.1 h)
              have R := Lib.hid (nxt_no (wear := wear) hno)
              go_wp2_with fail
              refine HAl.out.mono ?_
              rintro e w' ⟨rfl, rfl⟩
              go_wp2_with fail
              go_roundw
              case rel => exact ⟨k + 1, by omega, by go_num, by rw [R.out], b⟩
              case measure => simp [intOf]; omega
          · rw [hE1] at c3
            rw [hE2] at c5
            by_cases hzz : 0 < z
            · have hcan := HZ.2 hzz
              have NC := Lib.hid (nxt_can (wear := wear) hcan)
              cases hx : nxt ls wear left none k with
              | none =>
                have R := Lib.hid (NC.out.1 hx)
                simp only [ixv] at *
                go_wp2_with fail
                refine HAl.out.mono ?_
                rintro e w' ⟨rfl, rfl⟩
                go_wp2_with fail
                go_roundw
                case rel => exact ⟨k + 1, by omega, by go_num, by rw [R.out], b⟩
                case measure => simp [intOf]; omega
              | some d =>
                have hdk := nxt_lt hx
                have R2 := Lib.hid (NC.out.2 d hx)
                obtain ⟨x, hx1⟩ : ∃ x, wear.getD k 0 = x := ⟨_, rfl⟩
                obtain ⟨y, hy1⟩ : ∃ y, wear.getD d 0 = y := ⟨_, rfl⟩
                rw [hx1, hy1] at R2
                have HA1 := Lib.hid (rat_any Aw cw wear k wr hx1 (hw.below b) (by omega) lw)
                have HA2 := Lib.hid (rat_any Aw cw wear d wr hy1 (hw.below b) (by omega) lw)
                have hd0 : (0 : Int) ≤ (d : Int) := by omega
                simp only [ixv] at *
                clear hx1 hy1
                go_wp2_with fail
                refine HAl.out.mono ?_
                rintro e w' ⟨rfl, rfl⟩
                go_wp2_with fail
                refine HA1.out.mono ?_
                rintro e w' ⟨rfl, rfl⟩
                go_wp2_with fail
                refine HA2.out.mono ?_
                rintro e w' ⟨rfl, rfl⟩
                by_cases hq : x < y
                · have hqd : decide (x < y) = true := by simpa using hq
                  have R := Lib.hid (R2.out.1 hq)
                  go_wp2_with fail
                  go_roundw
                  case rel => exact ⟨k + 1, by omega, by go_num, by rw [R.out], b⟩
                  case measure => simp [intOf]; omega
                · have hqd : decide (x < y) = false := by simpa using hq
                  have R := Lib.hid (R2.out.2 (by omega))
                  go_wp2_with fail
                  go_roundw
                  case rel => exact ⟨k + 1, by omega, by go_num, by rw [R.out], b⟩
                  case measure => simp [intOf]; omega
            · have hno : ¬ Sec.Can ls left none k := fun h => hzz (HZ.1 h)
              have R := Lib.hid (nxt_no (wear := wear) hno)
              go_wp2_with fail
              refine HAl.out.mono ?_
              rintro e w' ⟨rfl, rfl⟩
              go_wp2_with fail
              go_roundw
              case rel => exact ⟨k + 1, by omega, by go_num, by rw [R.out], b⟩
              case measure => simp [intOf]; omega
      · obtain rfl : k = ls.length := by omega
        cases hs : nxt ls wear left none ls.length with
        | none =>
          simp only [ixv]
          go_wp2_with fail
          go_ret2
          exact ⟨by rw [hs]; rfl, b⟩
        | some d =>
          have hd0 : (0 : Int) ≤ (d : Int) := by omega
          simp only [ixv]
          go_wp2_with fail
          go_ret2
          exact ⟨by rw [hs]; rfl, b⟩
  | some q =>
    simp only [Option.getD_none, Option.getD_some, Option.isSome_none, Option.isSome_some]
    go_wp2_with fail
    go_loopw [10, 11] (fun bb i wr => ∃ k : Nat, k ≤ ls.length ∧ i = .int .i64 (k : Int) ∧ bb = .int .i64 (ixv (nxt ls wear left (some q) k)) ∧ Below w.heap.size w wr) (fun _ i _ => ls.length - (intOf i).toNat)
    case atStart => exact ⟨0, by omega, rfl, rfl, b1⟩
    case round =>
      obtain ⟨k, hk, rfl, rfl, b⟩ := hrel
      by_cases hlt : k < ls.length
      · obtain ⟨l, hl⟩ : ∃ l, ls.getD k Lv.zero = l := ⟨_, rfl⟩
        obtain ⟨g, off, rfl, hg, c0, c1, c2, c3, c4, c5⟩ := (hr.below b).six hlt hl
        by_cases hkq : k = q
        · subst hkq
          have hno : ¬ Sec.Can ls left (some k) k := fun h => h.1 rfl
          have R := Lib.hid (nxt_no (wear := wear) hno)
          go_wp2_with fail
          go_roundw
          case rel => exact ⟨k + 1, by omega, by go_num, by rw [R.out], b⟩
          case measure => simp [intOf]; omega
        · have hne : ((k : Int) == (q : Int)) = false := by simp; omega
          have hsk : some q ≠ some k := fun h => hkq (by injection h with h; exact h.symm)
          obtain ⟨z, hz⟩ : ∃ z, left.getD k 0 = z := ⟨_, rfl⟩
          have HAl := Lib.hid (rat_any Al cl left k wr hz (hf.below b) (by omega) lf)
          by_cases hE : l.cnt = 0 ∧ l.cl = true
          · have hcan : Sec.Can ls left (some q) k := ⟨hsk, .inl (by rw [hl]; exact hE)⟩
            obtain ⟨hE1, hE2⟩ := hE
            rw [hE1] at c3
            rw [hE2] at c5
            have NC := Lib.hid (nxt_can (wear := wear) hcan)
            cases hx : nxt ls wear left (some q) k with
            | none =>
              have R := Lib.hid (NC.out.1 hx)
              simp only [ixv] at *
              go_wp2_with fail
              go_roundw
              case rel => exact ⟨k + 1, by omega, by go_num, by rw [R.out], b⟩
              case measure => simp [intOf]; omega
            | some d =>
              have hdk := nxt_lt hx
              have R2 := Lib.hid (NC.out.2 d hx)
              obtain ⟨x, hx1⟩ : ∃ x, wear.getD k 0 = x := ⟨_, rfl⟩
              obtain ⟨y, hy1⟩ : ∃ y, wear.getD d 0 = y := ⟨_, rfl⟩
              rw [hx1, hy1] at R2
              have HA1 := Lib.hid (rat_any Aw cw wear k wr hx1 (hw.below b) (by omega) lw)
              have HA2 := Lib.hid (rat_any Aw cw wear d wr hy1 (hw.below b) (by omega) lw)
              have hd0 : (0 : Int) ≤ (d : Int) := by omega
              simp only [ixv] at *
              clear hx1 hy1
              go_wp2_with fail
              refine HA1.out.mono ?_
              rintro e w' ⟨rfl, rfl⟩
              go_wp2_with fail
              refine HA2.out.mono ?_
              rintro e w' ⟨rfl, rfl⟩
              by_cases hq : x < y
              · have hqd : decide (x < y) = true := by simpa using hq
                have R := Lib.hid (R2.out.1 hq)
                go_wp2_with fail
                go_roundw
                case rel => exact ⟨k + 1, by omega, by go_num, by rw [R.out], b⟩
                case measure => simp [intOf]; omega
              · have hqd : decide (x < y) = false := by simpa using hq
                have R := Lib.hid (R2.out.2 (by omega))
                go_wp2_with fail
                go_roundw
                case rel => exact ⟨k + 1, by omega, by go_num, by rw [R.out], b⟩
                case measure => simp [intOf]; omega
          · have HZ : Sec.Can ls left (some q) k ↔ 0 < z := by
              unfold Sec.Can
              rw [hl, hz]
              constructor
              · rintro ⟨_, h | h⟩
                · exact absurd h hE
                · exact h
              · exact fun h => ⟨hsk, .inr h⟩
            have hEE : (l.cnt == 0) = false ∨ (l.cnt = 0 ∧ l.cl = false) := by
              by_cases h0 : l.cnt = 0
              · right
                refine ⟨h0, ?_⟩
                cases h : l.cl with
                | false => rfl
                | true => exact absurd ⟨h0, h⟩ hE
              · left; simpa using h0
            rcases hEE with hE1 | ⟨hE1, hE2⟩
            · by_cases hzz : 0 < z
              · have hcan := HZ.2 hzz
                have NC := Lib.hid (nxt_can (wear := wear) hcan)
                cases hx : nxt ls wear left (some q) k with
                | none =>
                  have R := Lib.hid (NC.out.1 hx)
                  simp only [ixv] at *
                  go_wp2_with fail
                  refine HAl.out.mono ?_
                  rintro e w' ⟨rfl, rfl⟩
                  go_wp2_with fail
                  go_roundw
                  case rel => exact ⟨k + 1, by omega, by go_num, by rw [R.out], b⟩
                  case measure => simp [intOf]; omega
                | some d =>
                  have hdk := nxt_lt hx
                  have R2 := Lib.hid (NC.out.2 d hx)
                  obtain ⟨x, hx1⟩ : ∃ x, wear.getD k 0 = x := ⟨_, rfl⟩
                  obtain ⟨y, hy1⟩ : ∃ y, wear.getD d 0 = y := ⟨_, rfl⟩
                  rw [hx1, hy1] at R2
                  have HA1 := Lib.hid (rat_any Aw cw wear k wr hx1 (hw.below b) (by omega) lw)
                  have HA2 := Lib.hid (rat_any Aw cw wear d wr hy1 (hw.below b) (by omega) lw)
                  have hd0 : (0 : Int) ≤ (d : Int) := by omega
                  simp only [ixv] at *
                  clear hx1 hy1
                  go_wp2_with fail
                  refine HAl.out.mono ?_
                  rintro e w' ⟨rfl, rfl⟩
                  go_wp2_with fail
                  refine HA1.out.mono ?_
                  rintro e w' ⟨rfl, rfl⟩
                  go_wp2_with fail
                  refine HA2.out.mono ?_
                  rintro e w' ⟨rfl, rfl⟩
                  by_cases hq : x < y
                  · have hqd : decide (x < y) = true := by simpa using hq
                    have R := Lib.hid (R2.out.1 hq)
                    go_wp2_with fail
                    go_roundw
                    case rel => exact ⟨k + 1, by omega, by go_num, by rw [R.out], b⟩
                    case measure => simp [intOf]; omega
                  · have hqd : decide (x < y) = false := by simpa using hq
                    have R := Lib.hid (R2.out.2 (by omega))
                    go_wp2_with fail
                    go_roundw
                    case rel => exact ⟨k + 1, by omega, by go_num, by rw [R.out], b⟩
                    case measure => simp [intOf]; omega
              · have hno : ¬ Sec.Can ls left (some q) k := fun h => hzz (HZ.1 h)
                have R := Lib.hid (nxt_no (wear := wear) hno)
                go_wp2_with fail
                refine HAl.out.mono ?_
                rintro e w' ⟨rfl, rfl⟩
                go_wp2_with fail
                go_roundw
                case rel => exact ⟨k + 1, by omega, by go_num, by rw [R.out], b⟩
                case measure => simp [intOf]; omega
            · rw [hE1] at c3
              rw [hE2] at c5
              by_cases hzz : 0 < z
              · have hcan := HZ.2 hzz
                have NC := Lib.hid (nxt_can (wear := wear) hcan)
                cases hx : nxt ls wear left (some q) k with
                | none =>
                  have R := Lib.hid (NC.out.1 hx)
                  simp only [ixv] at *
                  go_wp2_with fail
                  refine HAl.out.mono ?_
                  rintro e w' ⟨rfl, rfl⟩
                  go_wp2_with fail
                  go_roundw
                  case rel => exact ⟨k + 1, by omega, by go_num, by rw [R.out], b⟩
                  case measure => simp [intOf]; omega
                | some d =>
                  have hdk := nxt_lt hx
                  have R2 := Lib.hid (NC.out.2 d hx)
                  obtain ⟨x, hx1⟩ : ∃ x, wear.getD k 0 = x := ⟨_, rfl⟩
                  obtain ⟨y, hy1⟩ : ∃ y, wear.getD d 0 = y := ⟨_, rfl⟩
                  rw [hx1, hy1] at R2
                  have HA1 := Lib.hid (rat_any Aw cw wear k wr hx1 (hw.below b) (by omega) lw)
                  have HA2 := Lib.hid (rat_any Aw cw wear d wr hy1 (hw.below b) (by omega) lw)
                  have hd0 : (0 : Int) ≤ (d : Int) := by omega
                  simp only [ixv] at *
                  clear hx1 hy1
                  go_wp2_with fail
                  refine HAl.out.mono ?_
                  rintro e w' ⟨rfl, rfl⟩
                  go_wp2_with fail
                  refine HA1.out.mono ?_
                  rintro e w' ⟨rfl, rfl⟩
                  go_wp2_with fail
                  refine HA2.out.mono ?_
                  rintro e w' ⟨rfl, rfl⟩
                  by_cases hq : x < y
                  · have hqd : decide (x < y) = true := by simpa using hq
                    have R := Lib.hid (R2.out.1 hq)
                    go_wp2_with fail
                    go_roundw
                    case rel => exact ⟨k + 1, by omega, by go_num, by rw [R.out], b⟩
                    case measure => simp [intOf]; omega
                  · have hqd : decide (x < y) = false := by simpa using hq
                    have R := Lib.hid (R2.out.2 (by omega))
                    go_wp2_with fail
                    go_roundw
                    case rel => exact ⟨k + 1, by omega, by go_num, by rw [R.out], b⟩
                    case measure => simp [intOf]; omega
              · have hno : ¬ Sec.Can ls left (some q) k := fun h => hzz (HZ.1 h)
                have R := Lib.hid (nxt_no (wear := wear) hno)
                go_wp2_with fail
                refine HAl.out.mono ?_
                rintro e w' ⟨rfl, rfl⟩
                go_wp2_with fail
                go_roundw
                case rel => exact ⟨k + 1, by omega, by go_num, by rw [R.out], b⟩
                case measure => simp [intOf]; omega
      · obtain rfl : k = ls.length := by omega
        cases hs : nxt ls wear left (some q) ls.length with
        | none =>
          simp only [ixv]
          go_wp2_with fail
          go_ret2
          exact ⟨by rw [hs]; rfl, b⟩
        | some d =>
          have hd0 : (0 : Int) ≤ (d : Int) := by omega
          simp only [ixv]
          go_wp2_with fail
          go_ret2
          exact ⟨by rw [hs]; rfl, b⟩
end Jou
end Go.Proofs.Ytkkbjngjjeajoaa
