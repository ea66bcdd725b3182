/-
  Right of the document: another entry.
-/
import Derived.Test.YtpdnfdpoebhjoaaDoorEntRRa
namespace Go.Proofs.YtpdnfdpoebhjoaaDoor
namespace Ent
open Go.RowKit Mem
set_option linter.unusedVariables false
set_option linter.unusedSimpArgs false
set_option maxRecDepth 100000

set_option maxHeartbeats 8000000 in
theorem rright_o (ix sub : Int) (nm : List UInt8) (ty ac : Int) (mp st : Bool) (mx lo hi : Int) (A : Option Addr) (n c B : Nat) (bs : List UInt8) (w : World) (hl : nm.length ≤ 1099511627776) (hm0 : -9223372036854775808 ≤ mx) (hm1 : mx ≤ 9223372036854775807)
    (hB : B ≤ w.heap.size) (hr : Rd w B A bs) (hn : n = bs.length) (hle : n ≤ 1099511627776) (h1 : placeB ix sub = true) (h2 : nameB nm = true) (h3 : Typ.known ty = true) (p0 : ¬ ix < 1) (p1 : ¬ 65535 < ix) (p2 : ¬ sub < 0) (p3 : ¬ 255 < sub) (a0 : ¬ ac < 1) (a1 : ¬ 4 < ac) (hnum : Typ.isNum ty = false) :
    Calls Tryd.prog 24 #[ent ix sub nm ty ac mp st mx lo hi (.slice A n c)] w fun e w' => e = .returned (.int .i64 (rightN ix sub nm ty ac mp st mx lo hi bs)) ∧ Below w.heap.size w w' := by
  have Bl := Lib.hid (one_b w (.cells (row ix sub nm ty ac mp st mx lo hi (.slice A n c)) 38))
  have R := Lib.hid (hr.below ((one_b w (.cells (row ix sub nm ty ac mp st mx lo hi (.slice A n c)) 38)).mono hB))
  have K1 := Lib.hid (fun W => rlimits_any ty W)
  have K2 := Lib.hid (fun W => rname_any nm W hl)
  have K3 := Lib.hid (fun W => rknown_any ty W)
  have K4 := Lib.hid (fun W (hB : B ≤ W.heap.size) (hR : Rd W B A bs) => rvalue_any ix sub nm ty ac mp st mx lo hi (.slice A n c) A n c B bs W hm0 hm1 hB hR hn hle)
  have HB := Lib.hid hB
  rw [right_rest h1 h2 h3]
  have HW : ∃ X, (if allowB ac mp st = false ∨ boundB ty mx lo hi mp = false then (1 : Int) else if valN ty mx lo hi bs ≠ 0 then 4 else 0) = X ∧ ((lo ≠ 0 ∧ X = 1) ∨ (lo = 0 ∧ hi ≠ 0 ∧ X = 1) ∨ (lo = 0 ∧ hi = 0 ∧ mx < 1 ∧ X = 1) ∨ (lo = 0 ∧ hi = 0 ∧ ¬ mx < 1 ∧ 256 < mx ∧ X = 1) ∨ (lo = 0 ∧ hi = 0 ∧ ¬ mx < 1 ∧ ¬ 256 < mx ∧ mp = true ∧ X = 1) ∨ (lo = 0 ∧ hi = 0 ∧ ¬ mx < 1 ∧ ¬ 256 < mx ∧ mp = false ∧ ((st = true ∧ ac < 3 ∧ X = 1) ∨ (st = false ∧ valN ty mx lo hi bs ≠ 0 ∧ X = 4) ∨ (st = false ∧ valN ty mx lo hi bs = 0 ∧ X = 0) ∨ (st = true ∧ ¬ ac < 3 ∧ valN ty mx lo hi bs ≠ 0 ∧ X = 4) ∨ (st = true ∧ ¬ ac < 3 ∧ valN ty mx lo hi bs = 0 ∧ X = 0)))) := by
    refine ⟨_, rfl, ?_⟩
    by_cases c0 : lo = 0
    rotate_left
    · left; exact ⟨c0, rest_bound (bound_no' hnum (by omega))⟩
    right
    by_cases c1 : hi = 0
    rotate_left
    · left; exact ⟨c0, c1, rest_bound (bound_no' hnum (by omega))⟩
    right
    by_cases c2 : mx < 1
    · left; exact ⟨c0, c1, c2, rest_bound (bound_no' hnum (by omega))⟩
    right
    by_cases c3 : 256 < mx
    · left; exact ⟨c0, c1, c2, c3, rest_bound (bound_no' hnum (by omega))⟩
    right
    by_cases c4 : mp = true
    · left; exact ⟨c0, c1, c2, c3, c4, rest_bound (bound_no' hnum (by simp [c4]))⟩
    right
    have c4 : mp = false := by simpa using c4
    have hb := bound_yes' hnum c0 c1 c2 c3 c4
    refine ⟨c0, c1, c2, c3, c4, ?_⟩
    by_cases s0 : st = true
    · by_cases s1 : ac < 3
      · left; exact ⟨s0, s1, rest_allow (allow_out (by simp [s0, s1]))⟩
      · have al : allowB ac mp st = true := allow_in a0 a1 (fun _ => s1) (fun h => by rw [c4] at h; cases h)
        by_cases v0 : valN ty mx lo hi bs = 0
        · right; right; right; right; exact ⟨s0, s1, v0, rest_ok al hb v0⟩
        · right; right; right; left; exact ⟨s0, s1, v0, rest_val al hb v0⟩
    · have s0' : st = false := by simpa using s0
      have al : allowB ac mp st = true := allow_in a0 a1 (fun h => absurd h s0) (fun h => by rw [c4] at h; cases h)
      by_cases v0 : valN ty mx lo hi bs = 0
      · right; right; left; exact ⟨s0', v0, rest_ok al hb v0⟩
      · right; left; exact ⟨s0', v0, rest_val al hb v0⟩
  obtain ⟨X, hX, HW⟩ := HW
  rw [hX]
  rw [h2] at K2
  rw [h3] at K3
  rw [hnum] at K1
  clear hX hr hn hle hm0 hm1 hl hB h1 h2 h3 hnum
  generalize Typ.low ty = low at *
  generalize Typ.high ty = high at *
  obtain ⟨vl, hvl⟩ : ∃ vl, valN ty mx lo hi bs = vl := ⟨_, rfl⟩
  rw [hvl] at HW
  have K4 := Lib.hid (show ∀ W, B ≤ W.heap.size → Rd W B A bs → Calls Tryd.prog 55 #[ent ix sub nm ty ac mp st mx lo hi (.slice A n c), .slice A n c] W fun e w' => e = .returned (.int .u32 vl) ∧ Below W.heap.size W w' from by rw [← hvl]; exact K4.out)
  clear hvl
  rcases HW with ⟨g0, rfl⟩ | ⟨rfl, g1, rfl⟩ | ⟨rfl, rfl, g2, rfl⟩ | ⟨rfl, rfl, g2, g3, rfl⟩ | ⟨rfl, rfl, g2, g3, rfl, rfl⟩ | ⟨rfl, rfl, g2, g3, rfl, ⟨rfl, r1, rfl⟩ | ⟨rfl, r1, rfl⟩ | ⟨rfl, rfl, rfl⟩ | ⟨rfl, r1, r2, rfl⟩ | ⟨rfl, r1, rfl, rfl⟩⟩
  ·
    go_enter Tryd.func24, Tryd.ntmps24
    go_wp2_with fail
    refine (K1.out _).mono ?_
    rintro e w1 ⟨rfl, rfl⟩
    go_wp2_with fail
    refine (K2.out _).mono ?_
    rintro e w1 ⟨rfl, rfl⟩
    go_wp2_with fail
    refine (K3.out _).mono ?_
    rintro e w1 ⟨rfl, rfl⟩
    go_wp2_with fail
    go_ret
    exact ⟨rfl, Bl.out⟩
  ·
    go_enter Tryd.func24, Tryd.ntmps24
    go_wp2_with fail
    refine (K1.out _).mono ?_
    rintro e w1 ⟨rfl, rfl⟩
    go_wp2_with fail
    refine (K2.out _).mono ?_
    rintro e w1 ⟨rfl, rfl⟩
    go_wp2_with fail
    refine (K3.out _).mono ?_
    rintro e w1 ⟨rfl, rfl⟩
    go_wp2_with fail
    go_ret
    exact ⟨rfl, Bl.out⟩
  ·
    go_enter Tryd.func24, Tryd.ntmps24
    go_wp2_with fail
    refine (K1.out _).mono ?_
    rintro e w1 ⟨rfl, rfl⟩
    go_wp2_with fail
    refine (K2.out _).mono ?_
    rintro e w1 ⟨rfl, rfl⟩
    go_wp2_with fail
    refine (K3.out _).mono ?_
    rintro e w1 ⟨rfl, rfl⟩
    go_wp2_with fail
    go_ret
    exact ⟨rfl, Bl.out⟩
  ·
    go_enter Tryd.func24, Tryd.ntmps24
    go_wp2_with fail
    refine (K1.out _).mono ?_
    rintro e w1 ⟨rfl, rfl⟩
    go_wp2_with fail
    refine (K2.out _).mono ?_
    rintro e w1 ⟨rfl, rfl⟩
    go_wp2_with fail
    refine (K3.out _).mono ?_
    rintro e w1 ⟨rfl, rfl⟩
    go_wp2_with fail
    go_ret
    exact ⟨rfl, Bl.out⟩
  ·
    go_enter Tryd.func24, Tryd.ntmps24
    go_wp2_with fail
    refine (K1.out _).mono ?_
    rintro e w1 ⟨rfl, rfl⟩
    go_wp2_with fail
    refine (K2.out _).mono ?_
    rintro e w1 ⟨rfl, rfl⟩
    go_wp2_with fail
    refine (K3.out _).mono ?_
    rintro e w1 ⟨rfl, rfl⟩
    go_wp2_with fail
    go_ret
    exact ⟨rfl, Bl.out⟩
  ·
    go_enter Tryd.func24, Tryd.ntmps24
    go_wp2_with fail
    refine (K1.out _).mono ?_
    rintro e w1 ⟨rfl, rfl⟩
    go_wp2_with fail
    refine (K2.out _).mono ?_
    rintro e w1 ⟨rfl, rfl⟩
    go_wp2_with fail
    refine (K3.out _).mono ?_
    rintro e w1 ⟨rfl, rfl⟩
    go_wp2_with fail
    go_ret
    exact ⟨rfl, Bl.out⟩
  ·
    go_enter Tryd.func24, Tryd.ntmps24
    go_wp2_with fail
    refine (K1.out _).mono ?_
    rintro e w1 ⟨rfl, rfl⟩
    go_wp2_with fail
    refine (K2.out _).mono ?_
    rintro e w1 ⟨rfl, rfl⟩
    go_wp2_with fail
    refine (K3.out _).mono ?_
    rintro e w1 ⟨rfl, rfl⟩
    go_wp2_with fail
    refine (K4.out _ (Nat.le_trans HB.out Bl.out.size) R.out).mono ?_
    rintro e w2 ⟨rfl, b⟩
    have Bl := Lib.hid (Bl.out.trans (b.mono Bl.out.size))
    clear b
    go_wp2_with fail
    go_ret
    exact ⟨rfl, Bl.out⟩
  ·
    go_enter Tryd.func24, Tryd.ntmps24
    go_wp2_with fail
    refine (K1.out _).mono ?_
    rintro e w1 ⟨rfl, rfl⟩
    go_wp2_with fail
    refine (K2.out _).mono ?_
    rintro e w1 ⟨rfl, rfl⟩
    go_wp2_with fail
    refine (K3.out _).mono ?_
    rintro e w1 ⟨rfl, rfl⟩
    go_wp2_with fail
    refine (K4.out _ (Nat.le_trans HB.out Bl.out.size) R.out).mono ?_
    rintro e w2 ⟨rfl, b⟩
    have Bl := Lib.hid (Bl.out.trans (b.mono Bl.out.size))
    clear b
    go_wp2_with fail
    go_ret
    exact ⟨rfl, Bl.out⟩
  ·
    go_enter Tryd.func24, Tryd.ntmps24
    go_wp2_with fail
    refine (K1.out _).mono ?_
    rintro e w1 ⟨rfl, rfl⟩
    go_wp2_with fail
    refine (K2.out _).mono ?_
    rintro e w1 ⟨rfl, rfl⟩
    go_wp2_with fail
    refine (K3.out _).mono ?_
    rintro e w1 ⟨rfl, rfl⟩
    go_wp2_with fail
    refine (K4.out _ (Nat.le_trans HB.out Bl.out.size) R.out).mono ?_
    rintro e w2 ⟨rfl, b⟩
    have Bl := Lib.hid (Bl.out.trans (b.mono Bl.out.size))
    clear b
    go_wp2_with fail
    go_ret
    exact ⟨rfl, Bl.out⟩
  ·
    go_enter Tryd.func24, Tryd.ntmps24
    go_wp2_with fail
    refine (K1.out _).mono ?_
    rintro e w1 ⟨rfl, rfl⟩
    go_wp2_with fail
    refine (K2.out _).mono ?_
    rintro e w1 ⟨rfl, rfl⟩
    go_wp2_with fail
    refine (K3.out _).mono ?_
    rintro e w1 ⟨rfl, rfl⟩
    go_wp2_with fail
    refine (K4.out _ (Nat.le_trans HB.out Bl.out.size) R.out).mono ?_
    rintro e w2 ⟨rfl, b⟩
    have Bl := Lib.hid (Bl.out.trans (b.mono Bl.out.size))
    clear b
    go_wp2_with fail
    go_ret
    exact ⟨rfl, Bl.out⟩

end Ent
end Go.Proofs.YtpdnfdpoebhjoaaDoor
