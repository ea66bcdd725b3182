/-
  What Same and Show of package frame do, and the document's Show.
-/
import Derived.Test.YtkkbjngjjeajoaaFrmId
import Derived.Test.YtkkbjngjjeajoaaOctHex
import Derived.Test.YtkkbjngjjeajoaaOctRefHex
import Derived.Test.YtkkbjngjjeajoaaText
namespace Go.Proofs.Ytkkbjngjjeajoaa
namespace Frm
open Go.RowKit Mem
set_option linter.unusedVariables false
set_option linter.unusedSimpArgs false
set_option maxRecDepth 100000

/-- A block whose cells are known. -/
theorem cellof {w : World} {g : Nat} {t : TypeId} {cs : Array Value} (h : w.heap[g]? = some (.cells cs t)) (j : Nat) : w.cell? ⟨g, j, none⟩ = cs[j]? := by simp [World.cell?, h]
theorem one_new (w : World) (o : Obj) : (w.alloc o).heap[w.heap.size]? = some o := heap_alloc_new w o
theorem one_below (w : World) (o : Obj) : Below w.heap.size w (w.alloc o) := (Below.refl w.heap.size w).alloc (Nat.le_refl _) o

set_option maxHeartbeats 400000 in
theorem equal_any (A : Option Addr) (c : Nat) (d : List UInt8) (A' : Option Addr) (c' : Nat) (d' : List UInt8) (B B' : Nat) (w : World) (hr : Rd w B A d) (hr' : Rd w B' A' d') :
    Calls Try.prog 60 #[.slice A d.length c, .slice A' d'.length c'] w fun e w' => e = .returned (.bool (d == d')) ∧ w = w' := by
  have s1 := run_str hr d.length c rfl 22 5 9 Try.underlying22 Try.underlying5 Try.underlying9
  have s2 := run_str hr' d'.length c' rfl 22 5 9 Try.underlying22 Try.underlying5 Try.underlying9
  go_enter Try.func60, Try.ntmps60
  go_wp2_with fail
  go_ret
  exact ⟨rfl, rfl⟩

set_option maxHeartbeats 400000 in
theorem same_any (i : Int) (r : Bool) (A : Option Addr) (c : Nat) (d : List UInt8) (j : Int) (s : Bool) (A' : Option Addr) (c' : Nat) (d' : List UInt8) (B B' : Nat) (w : World) (hr : Rd w B A d) (hr' : Rd w B' A' d') (hB : B ≤ w.heap.size) (hB' : B' ≤ w.heap.size) :
    Calls Try.prog 23 #[frm i r (.slice A d.length c), frm j s (.slice A' d'.length c')] w fun e w' => e = .returned (.bool (same i r d j s d')) ∧ Below w.heap.size w w' := by
  have H := Lib.hid (fun b h => @same_of i j r s b d d' h)
  have B2 := Lib.hid (below_two w)
  have E := Lib.hid (fun o o' => equal_any A c d A' c' d' _ _ _ ((hr.mono hB).below (below_two w o o')) ((hr'.mono hB').below (below_two w o o')))
  clear hr hr'
  by_cases hij : i = j <;> cases r <;> cases s
  all_goals
    go_enter Try.func23, Try.ntmps23
    go_wp2_with (go_at_call 60; refine (E.out _ _).mono ?_; rintro e w' ⟨rfl, rfl⟩)
    all_goals
      go_ret
      refine ⟨H.out _ ?_, B2.out _ _⟩
      clear H B2 E
      unfold same
      simp [hij]

/-- What Show answers. -/
def showV (id : Int) (r : Bool) (d : List UInt8) : Value := .tuple #[.string ⟨(showA id r d).1.toArray⟩, .int .i64 (showA id r d).2]
theorem showV_no {id : Int} {r : Bool} {d : List UInt8} {x : Int} (hx : x = err id r d.length) (h : x ≠ 0) : showV id r d = .tuple #[.string ⟨#[]⟩, .int .i64 x] := by
  subst hx
  unfold showV showA
  rw [if_neg h]
theorem showV_yes {id : Int} {r : Bool} {d : List UInt8} (h : err id r d.length = 0) : showV id r d = .tuple #[.string ⟨(text id r d).toArray⟩, .int .i64 0] := by
  unfold showV showA
  rw [if_pos h]
def bA (l : List UInt8) : ByteArray := ⟨l.toArray⟩
theorem bA_size (l : List UInt8) : (bA l).size = l.length := by simp [bA, ByteArray.size]
theorem bA_three (n : Nat) (r : Bool) (d : List UInt8) : bA (idL n) ++ ⟨#[35]⟩ ++ bA (tail r d) = bA (idL n ++ 35 :: tail r d) := by simp [bA, ByteArray.ext_iff]
theorem bA_add (W : World) (a b : List UInt8) (h : a.length + b.length ≤ 9223372036854775807) : (Op.stringOp .add (bA a) (bA b)).run Try.prog W = .ok (.string (bA a ++ bA b)) W := by
  rw [run_string_add_sum W _ _ (by simpa [bA, ByteArray.size] using h)]

set_option maxHeartbeats 1000000 in
theorem show_any (id : Int) (r : Bool) (A : Option Addr) (c : Nat) (d : List UInt8) (w : World) (hr : Rd w w.heap.size A d) (k1 : -9223372036854775808 ≤ id) (k2 : id ≤ 9223372036854775807) (hl : d.length ≤ 140737488355328) :
    Calls Try.prog 28 #[frm id r (.slice A d.length c)] w fun e w' => e = .returned (showV id r d) ∧ Below w.heap.size w w' := by
  have CK := Lib.hid (fun W => check_any id r A d.length c W k1 k2 (by omega))
  by_cases he : err id r d.length = 0
  · obtain ⟨e1, e2, e3, e4⟩ := err_ok he
    rw [showV_yes he]
    rw [he] at CK
    obtain ⟨n, rfl⟩ : ∃ n : Nat, id = n := ⟨id.toNat, by omega⟩
    have hn : n ≤ 4095 := by omega
    have T := Lib.hid (show text (n : Int) r d = idL n ++ 35 :: tail r d from by unfold text; rw [Int.toNat_natCast])
    have SI := Lib.hid (fun W => showId_any n W hn)
    rw [T.out]
    have RB0 := Lib.hid hr
    clear T he e1 e2 hr
    cases r with
    | true =>
      have HA := Lib.hid (show (⟨(idL n).toArray⟩ : ByteArray) = bA (idL n) from rfl)
      have HB := Lib.hid (bA_three n true d)
      have HC := Lib.hid (show (⟨(idL n ++ 35 :: tail true d).toArray⟩ : ByteArray) = bA (idL n ++ 35 :: tail true d) from rfl)
      rw [HC.out, ← HB.out]
      clear HB HC e4
      go_enter Try.func28, Try.ntmps28
      go_wp2_with fail
      refine (CK.out _).mono ?_
      rintro e w1 ⟨rfl, b1⟩
      have pa := (b1.block w.heap.size (by simp)).trans (one_new w _)
      have q0 := cellof pa 0
      have q1 := cellof pa 1
      have B1 := Lib.hid ((one_below w _).trans (b1.mono (one_below w _).size))
      clear pa b1
      go_wp2_with fail
      refine (SI.out _).mono ?_
      rintro e w2 ⟨rfl, b2⟩
      have B2 := Lib.hid (B1.out.trans (b2.mono B1.out.size))
      clear b2
      rw [HA.out]
      go_wp2_with fail
      go_ret2
      exact ⟨rfl, B2.out⟩
    | false =>
      have HA := Lib.hid (show (⟨(idL n).toArray⟩ : ByteArray) = bA (idL n) from rfl)
      have HB := Lib.hid (bA_three n false d)
      have HC := Lib.hid (show (⟨(idL n ++ 35 :: tail false d).toArray⟩ : ByteArray) = bA (idL n ++ 35 :: tail false d) from rfl)
      have HD := Lib.hid (show bA (tail false d) = (⟨(Oct.hex d).toArray⟩ : ByteArray) from rfl)
      rw [HC.out, ← HB.out, HD.out, ← HA.out]
      have S1 := Lib.hid (fun W => run_string_add_sum (P := Try.prog) W ⟨(idL n).toArray⟩ ⟨#[35]⟩ (by simp [idL, ByteArray.size]))
      have S2 := Lib.hid (fun W => run_string_add_sum (P := Try.prog) W (⟨(idL n).toArray⟩ ++ ⟨#[35]⟩) ⟨(Oct.hex d).toArray⟩ (by rw [ByteArray.size_append]; simp [idL, ByteArray.size, Oct.hex_length]; omega))
      have HX := Lib.hid (fun (W : World) (b : Below w.heap.size w W) => hex_any A d.length c d W ((RB0.out.below b).mono b.size) rfl (by omega))
      clear HB HC e4 HD
      go_enter Try.func28, Try.ntmps28
      go_wp2_with fail
      refine (CK.out _).mono ?_
      rintro e w1 ⟨rfl, b1⟩
      have PA := Lib.hid ((b1.block w.heap.size (by simp)).trans (one_new w _))
      have B1 := Lib.hid ((one_below w _).trans (b1.mono (one_below w _).size))
      have HZ := Lib.hid (show w.heap.size < w1.heap.size by have := b1.size; simp at this; omega)
      have q1 := cellof PA.out 1
      clear b1
      go_wp2_with fail
      refine Txt.wp_region_textN 10 (fun W => Below w1.heap.size w1 W) (by kernel_rfl) (by kernel_rfl) (by kernel_rfl) (by kernel_rfl) (fun _ _ _ _ _ h => h) (Below.refl _ _).drew ?_
      repeat (
        apply Txt.step rfl
        · intro W hS K hK
          have pa := (hS.block _ HZ.out).trans PA.out
          have q0 := cellof pa 0
          have q2 := cellof pa 2
          have s1 := S1.out W
          have s2 := S2.out W
          have HS := Lib.hid hS
          clear hS pa
          go_simp
          first
            | exact hK.out _ HS.out
            | (go_wp2_with (first
                | (go_at_call 61; refine (SI.out _).mono ?_; rintro e w' ⟨rfl, b⟩; have S := Lib.hid (HS.out.trans (b.mono HS.out.size)); clear b)
                | (go_at_call 62; refine (HX.out _ (B1.out.trans (HS.out.mono B1.out.size))).mono ?_; rintro e w' ⟨rfl, b⟩; have S := Lib.hid (HS.out.trans (b.mono HS.out.size)); clear b))
               first | exact hK.out _ HS.out | exact hK.out _ S.out)
        · first | exact ⟨_, rfl⟩ | exact ⟨undef, rfl⟩)
      refine Txt.last fun W hS => ?_
      have B4 := Lib.hid (B1.out.trans (hS.mono B1.out.size))
      clear hS
      go_wp2_with fail
      go_ret2
      exact ⟨rfl, B4.out⟩
  · have H := Lib.hid (showV_no rfl he)
    have he' : (err id r d.length != 0) = true := by simp [he]
    generalize err id r d.length = E at *
    rw [H.out]
    clear hr
    go_enter Try.func28, Try.ntmps28
    go_wp2_with fail
    refine (CK.out _).mono ?_
    rintro e w2 ⟨rfl, b2⟩
    have B2 := Lib.hid ((one_below w _).trans (b2.mono (one_below w _).size))
    clear b2
    go_wp2_with fail
    go_ret2
    exact ⟨rfl, B2.out⟩
end Frm
end Go.Proofs.Ytkkbjngjjeajoaa
