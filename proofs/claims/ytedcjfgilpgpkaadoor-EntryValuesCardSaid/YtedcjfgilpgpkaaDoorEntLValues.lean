/-
  EntryValues: its walk.
-/
import Derived.Test.YtedcjfgilpgpkaaDoorEntKnown
import Derived.Test.YtedcjfgilpgpkaaDoorEntLift
import Derived.Test.YtedcjfgilpgpkaaDoorOctAux
import Derived.Test.YtedcjfgilpgpkaaDoorText
namespace Go.Proofs.YtedcjfgilpgpkaaDoor
namespace Ent
open Go.RowKit Mem
set_option linter.unusedVariables false
set_option linter.unusedSimpArgs false
set_option maxRecDepth 100000

/-- The parameter's block and bytes that were lent. -/
structure KV (w : World) (p : Nat) (cs : Array Value) (base g cap : Nat) (bs : List UInt8) (W : World) : Prop where
  b : Below w.heap.size w W
  tg : TG W
  r : W.heap[p]? = some (.cells cs 24)
  l : LentAt W base 5 g cap bs
theorem KV.next {w W W' : World} {p : Nat} {cs : Array Value} {base g cap : Nat} {bs : List UInt8} (h : KV w p cs base g cap bs W) (hb : Below W.heap.size W W') : KV w p cs base g cap bs W' :=
  ⟨h.b.trans (hb.mono h.b.size), h.tg.below hb (Nat.le_refl _), (hb.block _ (Array.getElem?_eq_some_iff.1 h.r).1).trans h.r, h.l.below hb (Nat.le_refl _)⟩
theorem KV.drew {w W : World} {p : Nat} {cs : Array Value} {base g cap : Nat} {bs : List UInt8} (h : KV w p cs base g cap bs W) : KV w p cs base g cap bs W.drew := h.next (below_drew W)
theorem KV.call {w W : World} {p : Nat} {cs : Array Value} {base g cap : Nat} {bs : List UInt8} {f : Nat} {args : Array Value} {v : Value} (S : KV w p cs base g cap bs W)
    (h : Calls Tryd.prog f args W fun e w' => e = .returned v ∧ Below W.heap.size W w') : Calls Tryd.prog f args W fun e w' => e = .returned v ∧ KV w p cs base g cap bs w' :=
  h.mono (by rintro e w' ⟨rfl, b⟩; exact ⟨rfl, S.next b⟩)
theorem KV.same {w W : World} {p : Nat} {cs : Array Value} {base g cap : Nat} {bs : List UInt8} {f : Nat} {args : Array Value} {v : Value} (S : KV w p cs base g cap bs W)
    (h : Calls Tryd.prog f args W fun e w' => e = .returned v ∧ W = w') : Calls Tryd.prog f args W fun e w' => e = .returned v ∧ KV w p cs base g cap bs w' :=
  h.mono (by rintro e w' ⟨rfl, rfl⟩; exact ⟨rfl, S⟩)

set_option maxHeartbeats 8000000 in
theorem values_law (x : En) (B : Option Addr) (k : Nat) (bs : List UInt8) (w : World) (hx : x.Ok w) (hr : Rd w w.heap.size B bs) (hm : bs.length ≤ maxLen) (hg : TG w) :
    Calls Tryd.prog 5 #[x.val, .slice B bs.length k] w fun e w' => e = .returned (.bool true) ∧ Below w.heap.size w w' := by
  have hmx := hx.mx
  clear hx
  obtain ⟨ix, sub, nm, ty, ac, mp, st, mx, lo, hi, A, d, c⟩ := x
  show Calls Tryd.prog 5 #[ent ix sub nm ty ac mp st mx lo hi (.slice A d.length c), .slice B bs.length k] w _
  have S := Lib.hid (ES.new (row ix sub nm ty ac mp st mx lo hi (.slice A d.length c)) hg)
  have KN := Lib.hid (fun W (hG : TG W) => known_any W hG)
  have L1 := Lib.hid (fun W => light_any ix sub nm ty ac mp st mx lo hi A d.length c W)
  generalize decide (d.length ≤ 2000 ∧ nm.length ≤ 2000) = l1 at *
  generalize (Value.slice A d.length c) = v at *
  have hlen : (bs.length : Int) ≤ 9223372036854775807 := by unfold maxLen at hm; omega
  clear hm
  cases l1 with
  | false =>
    clear hr hg
    generalize bs.length = n at *
    go_enter Tryd.func5, Tryd.ntmps5
    go_wp2_with fail
    refine (S.out.call (L1.out _)).mono ?_
    clear S
    rintro e w1 ⟨rfl, S⟩
    have S := Lib.hid S
    go_wp2_with fail
    refine (S.out.call (KN.out _ S.out.g)).mono ?_
    clear S
    rintro e w1 ⟨rfl, S⟩
    have S := Lib.hid S
    go_wp2_with fail
    go_ret
    exact ⟨rfl, S.out.b_⟩
  | true =>
    by_cases hbig : 2000 < (bs.length : Int)
    · clear hr hg
      generalize bs.length = n at *
      go_enter Tryd.func5, Tryd.ntmps5
      go_wp2_with fail
      refine (S.out.call (L1.out _)).mono ?_
      clear S
      rintro e w1 ⟨rfl, S⟩
      have S := Lib.hid S
      go_wp2_with fail
      refine (S.out.call (KN.out _ S.out.g)).mono ?_
      clear S
      rintro e w1 ⟨rfl, S⟩
      have S := Lib.hid S
      go_wp2_with fail
      go_ret
      exact ⟨rfl, S.out.b_⟩
    · have KL := Lib.hid (fun W (hR : Rd W W.heap.size B bs) => lent_any B bs.length k bs W hR rfl (by omega))
      have K1 := Lib.hid (fun g cap W (hR : Rd W W.heap.size (some ⟨g, 0, none⟩) bs) (hG : TG W) => value_any ix sub nm ty ac mp st mx lo hi v (some ⟨g, 0, none⟩) bs.length cap bs W hmx.1 hmx.2 hR rfl (by omega) hG)
      have K2 := Lib.hid (fun W (hB : w.heap.size ≤ W.heap.size) (hR : Rd W w.heap.size B bs) => rvalue_any ix sub nm ty ac mp st mx lo hi v B bs.length k w.heap.size bs W hmx.1 hmx.2 hB hR rfl (by omega))
      have K3 := Lib.hid (fun base g cap W (hL : LentAt W base 5 g cap bs) (hR : Rd W w.heap.size B bs) => kept_yes B bs.length k base w.heap.size g cap bs W hL hR rfl (by omega))
      have HR := Lib.hid hr
      clear hr hg hmx
      generalize valN ty mx lo hi bs = X at *
      go_enter Tryd.func5, Tryd.ntmps5
      go_wp2_with fail
      refine (S.out.call (L1.out _)).mono ?_
      clear S
      rintro e w1 ⟨rfl, S⟩
      have S := Lib.hid S
      go_wp2_with fail
      refine (KL.out _ ((HR.out.below S.out.b_).mono S.out.b_.size)).mono ?_
      rintro e w2 ⟨g, cap, he, hla, b⟩
      have S1 := S.out.next b
      have SV := Lib.hid (KV.mk S1.b_ S1.g S1.r hla)
      clear S S1 hla b KL
      subst he
      go_wp2_with fail
      generalize w1.heap.size = base at *
      refine Txt.wp_region_textN 16 (fun W => KV w w.heap.size (row ix sub nm ty ac mp st mx lo hi v) base g cap bs W) (by kernel_rfl) (by kernel_rfl) (by kernel_rfl) (by kernel_rfl) (fun _ _ _ _ _ h => h) SV.out.drew ?_
      clear SV
      iterate 16 (
        apply Txt.step rfl
        · intro W hS K hK
          obtain ⟨x0, x1, x2, x3, x4, x5, x6, x7, x8, x9, x10⟩ := row_cells hS.r
          go_simp
          first
            | exact hK.out _ hS
            | (go_wp2_with (first
                | (go_at_call 24; refine (hS.call (K1.out g cap W (hS.l.rd) hS.tg)).mono ?_; rintro e w' ⟨rfl, S⟩; have S := Lib.hid S)
                | (go_at_call 25; refine (hS.call (K2.out W hS.b.size (HR.out.below hS.b))).mono ?_; rintro e w' ⟨rfl, S⟩; have S := Lib.hid S)
                | (go_at_call 15; refine (hS.same (K3.out base g cap W hS.l (HR.out.below hS.b))).mono ?_; rintro e w' ⟨rfl, S⟩; have S := Lib.hid S)
                | (go_at_call 9; refine (hS.call (KN.out _ hS.tg)).mono ?_; rintro e w' ⟨rfl, S⟩; have S := Lib.hid S)); first | exact hK.out _ S.out | exact hK.out _ hS)
        · first | exact ⟨_, rfl⟩ | exact ⟨undef, rfl⟩)
      refine Txt.last fun W hS => ?_
      have S := Lib.hid hS
      clear hS
      go_wp2_with fail
      go_ret
      exact ⟨rfl, S.out.b⟩
end Ent
end Go.Proofs.YtedcjfgilpgpkaaDoor
