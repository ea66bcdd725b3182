/-
  Value and what it calls: here and in the document.
-/
import Derived.Test.YtpdnfdpoebhjoaaDoorEntFns
namespace Go.Proofs.YtpdnfdpoebhjoaaDoor
namespace Ent
open Go.RowKit Mem
set_option linter.unusedVariables false
set_option linter.unusedSimpArgs false
set_option maxRecDepth 100000

/-- The parameter's own block; nothing that was there is changed; the variables hold what they held. -/
structure ES (w : World) (b : Nat) (cs : Array Value) (W : World) : Prop where
  b_ : Below w.heap.size w W
  g : TG W
  r : W.heap[b]? = some (.cells cs 38)
theorem ES.lt {w W : World} {b : Nat} {cs : Array Value} (h : ES w b cs W) : b < W.heap.size := (Array.getElem?_eq_some_iff.1 h.r).1
theorem ES.next {w W W' : World} {b : Nat} {cs : Array Value} (h : ES w b cs W) (hb : Below W.heap.size W W') : ES w b cs W' :=
  ⟨h.b_.trans (hb.mono h.b_.size), h.g.below hb (Nat.le_refl _), (hb.block _ h.lt).trans h.r⟩
theorem ES.new {w : World} (cs : Array Value) (hg : TG w) : ES w w.heap.size cs (w.alloc (.cells cs 38)) :=
  ⟨one_b w _, hg.below (one_b w _) (Nat.le_refl _), heap_alloc_new w _⟩
theorem ES.drew {w W : World} {b : Nat} {cs : Array Value} (h : ES w b cs W) : ES w b cs W.drew := h.next (below_drew W)
theorem ES.call {w W : World} {b : Nat} {cs : Array Value} {f : Nat} {args : Array Value} {v : Value} (S : ES w b cs W)
    (h : Calls Tryd.prog f args W fun e w' => e = .returned v ∧ Below W.heap.size W w') : Calls Tryd.prog f args W fun e w' => e = .returned v ∧ ES w b cs w' :=
  h.mono (by rintro e w' ⟨rfl, b⟩; exact ⟨rfl, S.next b⟩)
theorem ES.same {w W : World} {b : Nat} {cs : Array Value} {f : Nat} {args : Array Value} {v : Value} (S : ES w b cs W)
    (h : Calls Tryd.prog f args W fun e w' => e = .returned v ∧ W = w') : Calls Tryd.prog f args W fun e w' => e = .returned v ∧ ES w b cs w' :=
  h.mono (by rintro e w' ⟨rfl, rfl⟩; exact ⟨rfl, S⟩)
theorem ES.cell {w W : World} {b : Nat} {cs : Array Value} (h : ES w b cs W) (j : Nat) : W.cell? ⟨b, j, none⟩ = cs[j]? := by simp [World.cell?, h.r]
theorem ES.cells {w W : World} {b : Nat} {ix sub : Int} {nm : List UInt8} {ty ac : Int} {mp st : Bool} {mx lo hi : Int} {v : Value} (h : ES w b (row ix sub nm ty ac mp st mx lo hi v) W) :
    W.cell? ⟨b, 0, none⟩ = some (.int .i64 ix) ∧ W.cell? ⟨b, 1, none⟩ = some (.int .i64 sub) ∧ W.cell? ⟨b, 2, none⟩ = some (.string ⟨nm.toArray⟩) ∧ W.cell? ⟨b, 3, none⟩ = some (.int .i64 ty) ∧ W.cell? ⟨b, 4, none⟩ = some (.int .i64 ac) ∧
    W.cell? ⟨b, 5, none⟩ = some (.bool mp) ∧ W.cell? ⟨b, 6, none⟩ = some (.bool st) ∧ W.cell? ⟨b, 7, none⟩ = some (.int .i64 mx) ∧ W.cell? ⟨b, 8, none⟩ = some (.int .i64 lo) ∧ W.cell? ⟨b, 9, none⟩ = some (.int .i64 hi) ∧ W.cell? ⟨b, 10, none⟩ = some v :=
  ⟨h.cell 0, h.cell 1, h.cell 2, h.cell 3, h.cell 4, h.cell 5, h.cell 6, h.cell 7, h.cell 8, h.cell 9, h.cell 10⟩
theorem rd_al {w : World} {A : Option Addr} {bs : List UInt8} (hr : Rd w w.heap.size A bs) (o : Obj) : Rd (w.alloc o) (w.alloc o).heap.size A bs := (hr.below (one_b w o)).mono (one_b w o).size
theorem ent_info : (Tryd.prog.info? 38).map (·.size) = some 11 := by kernel_rfl

/-- beyond, by its ways. -/
theorem byd_ways (t lo hi : Int) (bs : List UInt8) : ((decA t bs).2 ≠ 0 ∧ byd t lo hi bs = 0) ∨ ((decA t bs).2 = 0 ∧ (decA t bs).1 < lo ∧ byd t lo hi bs = 101253170) ∨
    ((decA t bs).2 = 0 ∧ ¬ (decA t bs).1 < lo ∧ hi < (decA t bs).1 ∧ byd t lo hi bs = 101253169) ∨ ((decA t bs).2 = 0 ∧ ¬ (decA t bs).1 < lo ∧ ¬ hi < (decA t bs).1 ∧ byd t lo hi bs = 0) := by
  unfold byd
  by_cases h : (decA t bs).2 ≠ 0
  · left; exact ⟨h, if_pos h⟩
  · right
    rw [if_neg h]
    have h' : (decA t bs).2 = 0 := by omega
    by_cases h1 : (decA t bs).1 < lo
    · left; exact ⟨h', h1, if_pos h1⟩
    · right
      rw [if_neg h1]
      by_cases h2 : hi < (decA t bs).1
      · left; exact ⟨h', h1, h2, if_pos h2⟩
      · right; exact ⟨h', h1, h2, if_neg h2⟩

set_option maxHeartbeats 1000000 in
theorem beyond_any (ix sub : Int) (nm : List UInt8) (ty ac : Int) (mp st : Bool) (mx lo hi : Int) (v : Value) (A : Option Addr) (n c : Nat) (bs : List UInt8) (w : World) (hr : Rd w w.heap.size A bs) (hn : n = bs.length) (hle : n ≤ 1099511627776) (hg : TG w) :
    Calls Tryd.prog 73 #[ent ix sub nm ty ac mp st mx lo hi v, .slice A n c] w fun e w' => e = .returned (.int .u32 (byd ty lo hi bs)) ∧ Below w.heap.size w w' := by
  have K := Lib.hid (fun W (hR : Rd W W.heap.size A bs) (hG : TG W) => decode_any A n c bs ty W hR hn hle hG)
  have S := Lib.hid (ES.new (row ix sub nm ty ac mp st mx lo hi v) hg)
  have R := Lib.hid (hr.below (one_b w (.cells (row ix sub nm ty ac mp st mx lo hi v) 38)))
  have HW := byd_ways ty lo hi bs
  clear hr hg hn hle
  generalize byd ty lo hi bs = X at *
  generalize decA ty bs = D at *
  obtain ⟨m, f⟩ := D
  rcases HW with ⟨h, rfl⟩ | ⟨rfl, h1, rfl⟩ | ⟨rfl, h1, h2, rfl⟩ | ⟨rfl, h1, h2, rfl⟩
  all_goals
    go_enter Tryd.func73, Tryd.ntmps73
    go_wp2_with fail
    refine (K.out _ (R.out.mono (by simp)) S.out.g).mono ?_
    rintro e w1 ⟨rfl, b1⟩
    have S1 := Lib.hid (S.out.next b1)
    clear S b1
    obtain ⟨q0, q1, q2, q3, q4, q5, q6, q7, q8, q9, q10⟩ := S1.out.cells
    go_wp2_with fail
    go_ret
    exact ⟨rfl, S1.out.b_⟩

/-- Value, by the ways that the program takes. -/
theorem val_prog (t mx lo hi : Int) (bs : List UInt8) : (chkA t mx bs = 15 ∧ valN t mx lo hi bs = 100925511) ∨ (chkA t mx bs = 2 ∧ valN t mx lo hi bs = 101122067) ∨ (chkA t mx bs = 3 ∧ valN t mx lo hi bs = 101122066) ∨
    (chkA t mx bs = 9 ∧ valN t mx lo hi bs = 101253168) ∨ (chkA t mx bs = 4 ∧ valN t mx lo hi bs = 101253168) ∨ ((chkA t mx bs ≠ 15 ∧ chkA t mx bs ≠ 2 ∧ chkA t mx bs ≠ 3 ∧ chkA t mx bs ≠ 9 ∧ chkA t mx bs ≠ 4) ∧ valN t mx lo hi bs = byd t lo hi bs) := by
  unfold valN
  generalize chkA t mx bs = k
  rcases (by omega : k = 15 ∨ k = 2 ∨ k = 3 ∨ k = 9 ∨ k = 4 ∨ (k ≠ 15 ∧ k ≠ 2 ∧ k ≠ 3 ∧ k ≠ 9 ∧ k ≠ 4)) with rfl | rfl | rfl | rfl | rfl | h
  · simp
  · simp
  · simp
  · simp
  · simp
  · right; right; right; right; right
    refine ⟨h, ?_⟩
    rw [if_neg (by omega), if_neg (by omega), if_neg (by omega), if_neg (by omega)]

set_option maxHeartbeats 1000000 in
theorem value_any (ix sub : Int) (nm : List UInt8) (ty ac : Int) (mp st : Bool) (mx lo hi : Int) (v : Value) (A : Option Addr) (n c : Nat) (bs : List UInt8) (w : World) (hm0 : -9223372036854775808 ≤ mx) (hm1 : mx ≤ 9223372036854775807)
    (hr : Rd w w.heap.size A bs) (hn : n = bs.length) (hle : n ≤ 1099511627776) (hg : TG w) :
    Calls Tryd.prog 51 #[ent ix sub nm ty ac mp st mx lo hi v, .slice A n c] w fun e w' => e = .returned (.int .u32 (valN ty mx lo hi bs)) ∧ Below w.heap.size w w' := by
  have K := Lib.hid (fun W (hR : Rd W W.heap.size A bs) (hG : TG W) => check_any A n c bs ty mx hm0 hm1 W hR hn hle hG)
  have K2 := Lib.hid (fun W (hR : Rd W W.heap.size A bs) (hG : TG W) => beyond_any ix sub nm ty ac mp st mx lo hi v A n c bs W hR hn hle hG)
  have S := Lib.hid (ES.new (row ix sub nm ty ac mp st mx lo hi v) hg)
  have R := Lib.hid (hr.below (one_b w (.cells (row ix sub nm ty ac mp st mx lo hi v) 38)))
  have HW := val_prog ty mx lo hi bs
  have hi0 := ent_info
  clear hr hg hn hle hm0 hm1
  generalize valN ty mx lo hi bs = X at *
  generalize chkA ty mx bs = k at *
  rcases HW with ⟨rfl, rfl⟩ | ⟨rfl, rfl⟩ | ⟨rfl, rfl⟩ | ⟨rfl, rfl⟩ | ⟨rfl, rfl⟩ | ⟨h, rfl⟩
  iterate 5
    go_enter Tryd.func51, Tryd.ntmps51
    go_wp2_with fail
    refine (K.out _ (R.out.mono (by simp)) S.out.g).mono ?_
    rintro e w1 ⟨rfl, b1⟩
    have S1 := Lib.hid (S.out.next b1)
    clear S b1
    go_wp2_with fail
    go_ret
    exact ⟨rfl, S1.out.b_⟩
  obtain ⟨h1, h2, h3, h4, h5⟩ := h
  go_enter Tryd.func51, Tryd.ntmps51
  go_wp2_with fail
  refine (K.out _ (R.out.mono (by simp)) S.out.g).mono ?_
  rintro e w1 ⟨rfl, b1⟩
  have S1 := Lib.hid (S.out.next b1)
  have R1 := Lib.hid (((R.out.mono (by simp)).below b1).mono b1.size)
  clear S b1 R
  go_wp2_with (refine wpList_load_row rfl 38 _ rfl _ rfl _ _ (0, 0) _ S1.out.r Tryd.underlying38 rfl hi0 ?_)
  refine (K2.out _ R1.out S1.out.g).mono ?_
  rintro e w2 ⟨rfl, b2⟩
  have S2 := Lib.hid (S1.out.next b2)
  go_wp2_with fail
  go_ret
  exact ⟨rfl, S2.out.b_⟩

set_option maxHeartbeats 2000000 in
theorem rvalue_any (ix sub : Int) (nm : List UInt8) (ty ac : Int) (mp st : Bool) (mx lo hi : Int) (v : Value) (A : Option Addr) (n c B : Nat) (bs : List UInt8) (w : World) (hm0 : -9223372036854775808 ≤ mx) (hm1 : mx ≤ 9223372036854775807)
    (hB : B ≤ w.heap.size) (hr : Rd w B A bs) (hn : n = bs.length) (hle : n ≤ 1099511627776) :
    Calls Tryd.prog 55 #[ent ix sub nm ty ac mp st mx lo hi v, .slice A n c] w fun e w' => e = .returned (.int .u32 (valN ty mx lo hi bs)) ∧ Below w.heap.size w w' := by
  have K1 := Lib.hid (fun W => rknown_any ty W)
  have K2 := Lib.hid (fun W => rbits_any ty W)
  have hbit : decide (0 < Typ.bits ty) = Typ.isNum ty := rfl
  have K3 := Lib.hid (fun W (hR : Rd W B A bs) => rdecode_any A n c B bs ty W hR hn hle)
  have K4 := Lib.hid (fun W (hR : Rd W B A bs) => rcheck_any A n c B bs ty mx hm0 hm1 W hR hn hle)
  have R := Lib.hid ((hr.below ((one_b w (.cells (row ix sub nm ty ac mp st mx lo hi v) 38)).mono hB)))
  have Bl := Lib.hid (one_b w (.cells (row ix sub nm ty ac mp st mx lo hi v) 38))
  have HW := val_ways ty mx lo hi bs
  clear hr hn hle hm0 hm1
  generalize valN ty mx lo hi bs = X at *
  generalize chkA ty mx bs = k at *
  generalize decA ty bs = D at *
  obtain ⟨m, f⟩ := D
  generalize Typ.bits ty = bt at *
  rcases HW with ⟨h, rfl⟩ | ⟨h, h1, rfl, rfl⟩ | ⟨h, h1, rfl, rfl⟩ | ⟨h, h1, rfl, rfl⟩ | ⟨h, h1, rfl, h2, rfl⟩ | ⟨h, h1, rfl, h2, h3, rfl⟩ | ⟨h, h1, rfl, h2, h3, rfl⟩ | ⟨h, h1, rfl, rfl⟩ | ⟨h, h1, rfl, rfl⟩ | ⟨h, h1, rfl, rfl⟩
  all_goals rw [h] at K1
  all_goals clear h
  · go_enter Tryd.func55, Tryd.ntmps55
    go_wp2_with fail
    refine (K1.out _).mono ?_
    rintro e w1 ⟨rfl, rfl⟩
    go_wp2_with fail
    go_ret
    exact ⟨rfl, Bl.out⟩
  iterate 6
    rw [h1] at hbit
    go_enter Tryd.func55, Tryd.ntmps55
    go_wp2_with fail
    refine (K1.out _).mono ?_
    rintro e w1 ⟨rfl, rfl⟩
    go_wp2_with fail
    refine (K2.out _).mono ?_
    rintro e w1 ⟨rfl, rfl⟩
    go_wp2_with fail
    refine (K3.out _ R.out).mono ?_
    rintro e w1 ⟨rfl, rfl⟩
    go_wp2_with fail
    go_ret
    exact ⟨rfl, Bl.out⟩
  all_goals
    rw [h1] at hbit
    go_enter Tryd.func55, Tryd.ntmps55
    go_wp2_with fail
    refine (K1.out _).mono ?_
    rintro e w1 ⟨rfl, rfl⟩
    go_wp2_with fail
    refine (K2.out _).mono ?_
    rintro e w1 ⟨rfl, rfl⟩
    go_wp2_with fail
    refine (K4.out _ R.out).mono ?_
    rintro e w1 ⟨rfl, rfl⟩
    go_wp2_with fail
    go_ret
    exact ⟨rfl, Bl.out⟩
end Ent
end Go.Proofs.YtpdnfdpoebhjoaaDoor
