/-
  DictNil: its walk.
-/
import Derived.Test.YtcbffoablononaaDoorDicKnown
import Derived.Test.YtcbffoablononaaDoorDicNone
import Derived.Test.YtcbffoablononaaDoorDicSame
namespace Go.Proofs.YtcbffoablononaaDoor
namespace Dic
open Go.RowKit Mem Ent
set_option linter.unusedVariables false
set_option linter.unusedSimpArgs false
set_option maxRecDepth 100000

set_option maxHeartbeats 8000000 in
theorem nil_law (ix sub : Int) (A : Option Addr) (c : Nat) (bs : List UInt8) (w : World) (h0 : -9223372036854775808 ≤ ix) (h1 : ix ≤ 9223372036854775807) (h2 : -9223372036854775808 ≤ sub) (h3 : sub ≤ 9223372036854775807) (hr : Rd w w.heap.size A bs) (hm : bs.length ≤ maxLen) (hg : TG w) :
    Calls Tryd.prog 7 #[.int .i64 ix, .int .i64 sub, .slice A bs.length c] w fun e w' => e = .returned (.bool true) ∧ Below w.heap.size w w' := by
  unfold maxLen at hm
  have HG := Lib.hid (fun X (b : Below w.heap.size w X) => known_any X (hg.below b (Nat.le_refl _)))
  clear hr hg h0 h1 h2 h3
  by_cases hbig : 1000 < (bs.length : Int)
  · have HG := Lib.hid (HG.out w (Below.refl _ _))
    generalize bs.length = n at *
    go_enter Tryd.func7, Tryd.ntmps7
    go_wp2_with fail
    refine HG.out.mono ?_
    rintro e w' ⟨rfl, b⟩
    have B := Lib.hid b
    clear b
    go_wp2_with fail
    go_ret
    exact ⟨rfl, B.out⟩
  · have R := Lib.hid (fun X => reset_nil X)
    have G := Lib.hid (fun X => get_nil ix sub X)
    have P := Lib.hid (fun X => peek_nil ix sub X)
    have F := Lib.hid (fun X => find_nil ix sub X)
    have E := Lib.hid (fun X => entry_nil ix X)
    have S := Lib.hid (fun X => set_nil ix sub (.slice A bs.length c) X)
    have K := Lib.hid (fun X => poke_nil ix sub (.slice A bs.length c) X)
    have M := Lib.hid (fun X => may_nil ix sub (.slice A bs.length c) X)
    have L := Lib.hid (fun X => len_nil X)
    have V := Lib.hid (fun X => values_nil X)
    have C := Lib.hid (fun X => copy_nil X)
    have Y := Lib.hid (fun X => same_yes Ev.zero none none 0 0 X (.inl rfl) (.inl rfl) (by decide))
    generalize bs.length = n at *
    go_enter Tryd.func7, Tryd.ntmps7
    go_wp2_with fail
    refine (R.out _).mono ?_
    rintro e w' ⟨rfl, rfl⟩
    go_wp2_with fail
    refine (G.out _).mono ?_
    rintro e w' ⟨rfl, rfl⟩
    go_wp2_with fail
    refine (P.out _).mono ?_
    rintro e w' ⟨rfl, rfl⟩
    go_wp2_with fail
    refine (F.out _).mono ?_
    rintro e w1 ⟨rfl, b1⟩
    have B1 := Lib.hid b1
    clear b1
    go_wp2_with fail
    refine (E.out _).mono ?_
    rintro e w2 ⟨rfl, b⟩
    have B2 := Lib.hid (B1.out.trans (b.mono B1.out.size))
    have B3 := Lib.hid (B2.out.trans ((one_b w2 (.cells (Ev.zero.row (.slice none 0 0)) 38)).mono B2.out.size))
    clear b B1
    go_wp2_with fail
    refine (S.out _).mono ?_
    rintro e w' ⟨rfl, rfl⟩
    go_wp2_with fail
    refine (K.out _).mono ?_
    rintro e w' ⟨rfl, rfl⟩
    go_wp2_with fail
    refine (M.out _).mono ?_
    rintro e w' ⟨rfl, rfl⟩
    go_wp2_with fail
    refine (Y.out _).mono ?_
    rintro e w3 ⟨rfl, b⟩
    have B4 := Lib.hid (B3.out.trans (b.mono B3.out.size))
    clear b B3 B2
    go_wp2_with fail
    refine (L.out _).mono ?_
    rintro e w' ⟨rfl, rfl⟩
    go_wp2_with fail
    refine (V.out _).mono ?_
    rintro e w' ⟨rfl, rfl⟩
    go_wp2_with fail
    refine (C.out _).mono ?_
    rintro e w' ⟨rfl, rfl⟩
    go_wp2_with fail
    refine (HG.out _ B4.out).mono ?_
    rintro e w4 ⟨rfl, b⟩
    have B5 := Lib.hid (B4.out.trans (b.mono B4.out.size))
    clear b B4
    go_wp2_with fail
    go_ret
    exact ⟨rfl, B5.out⟩
end Dic
end Go.Proofs.YtcbffoablononaaDoor
