/-
  EntryRights: its walk.
-/
import Derived.Test.YtedcjfgilpgpkaaDoorEntKnown
import Derived.Test.YtedcjfgilpgpkaaDoorEntRRight
import Derived.Test.YtedcjfgilpgpkaaDoorEntLift
import Derived.Test.YtedcjfgilpgpkaaDoorOctAux
import Derived.Test.YtedcjfgilpgpkaaDoorText
namespace Go.Proofs.YtedcjfgilpgpkaaDoor
namespace Ent
open Go.RowKit Mem
set_option linter.unusedVariables false
set_option linter.unusedSimpArgs false
set_option maxRecDepth 100000

/-- The parameter's block, the copy's, bytes that were lent. -/
structure KR (w : World) (p q : Nat) (cs ds : Array Value) (base g cap : Nat) (bs : List UInt8) (W : World) : Prop where
  b : Below w.heap.size w W
  tg : TG W
  r : W.heap[p]? = some (.cells cs 24)
  s : W.heap[q]? = some (.cells ds 24)
  l : LentAt W base 5 g cap bs
theorem KR.next {w W W' : World} {p q : Nat} {cs ds : Array Value} {base g cap : Nat} {bs : List UInt8} (h : KR w p q cs ds base g cap bs W) (hb : Below W.heap.size W W') : KR w p q cs ds base g cap bs W' :=
  ⟨h.b.trans (hb.mono h.b.size), h.tg.below hb (Nat.le_refl _), (hb.block _ (Array.getElem?_eq_some_iff.1 h.r).1).trans h.r, (hb.block _ (Array.getElem?_eq_some_iff.1 h.s).1).trans h.s, h.l.below hb (Nat.le_refl _)⟩
theorem KR.drew {w W : World} {p q : Nat} {cs ds : Array Value} {base g cap : Nat} {bs : List UInt8} (h : KR w p q cs ds base g cap bs W) : KR w p q cs ds base g cap bs W.drew := h.next (below_drew W)
theorem KR.call {w W : World} {p q : Nat} {cs ds : Array Value} {base g cap : Nat} {bs : List UInt8} {f : Nat} {args : Array Value} {v : Value} (S : KR w p q cs ds base g cap bs W)
    (h : Calls Tryd.prog f args W fun e w' => e = .returned v ∧ Below W.heap.size W w') : Calls Tryd.prog f args W fun e w' => e = .returned v ∧ KR w p q cs ds base g cap bs w' :=
  h.mono (by rintro e w' ⟨rfl, b⟩; exact ⟨rfl, S.next b⟩)
theorem KR.same {w W : World} {p q : Nat} {cs ds : Array Value} {base g cap : Nat} {bs : List UInt8} {f : Nat} {args : Array Value} {v : Value} (S : KR w p q cs ds base g cap bs W)
    (h : Calls Tryd.prog f args W fun e w' => e = .returned v ∧ W = w') : Calls Tryd.prog f args W fun e w' => e = .returned v ∧ KR w p q cs ds base g cap bs w' :=
  h.mono (by rintro e w' ⟨rfl, rfl⟩; exact ⟨rfl, S⟩)
/-- The copy's bytes are put in. -/
theorem kr_put {w W w2 : World} {p q : Nat} {ix sub : Int} {nm : List UInt8} {ty ac : Int} {mp st : Bool} {mx lo hi : Int} {v v' : Value} {g cap : Nat} {bs : List UInt8}
    (hb : Below w.heap.size w W) (hg : TG W) (hp : W.heap[p]? = some (.cells (row ix sub nm ty ac mp st mx lo hi v) 24)) (hq : W.heap[q]? = some (.cells (row ix sub nm ty ac mp st mx lo hi v) 24))
    (hpq : p ≠ q) (hwq : w.heap.size ≤ q) (b : Below W.heap.size W w2) (l : LentAt w2 W.heap.size 5 g cap bs) (hgw : ∀ W', Below w.heap.size w W' → TG W') :
    KR w p q (row ix sub nm ty ac mp st mx lo hi v) (row ix sub nm ty ac mp st mx lo hi v') W.heap.size g cap bs (w2.setCell ⟨q, 10, none⟩ v') := by
  have hp2 := (b.block _ (Array.getElem?_eq_some_iff.1 hp).1).trans hp
  have hq2 := (b.block _ (Array.getElem?_eq_some_iff.1 hq).1).trans hq
  have hql := (Array.getElem?_eq_some_iff.1 hq).1
  have hb2 : Below w.heap.size w (w2.setCell ⟨q, 10, none⟩ v') := (hb.trans (b.mono hb.size)).setCell hwq _
  refine ⟨hb2, hgw _ hb2, (heap_setCell_other w2 _ _ _ hpq).trans hp2, heap_setCell_same w2 q 10 _ _ _ hq2, ?_⟩
  refine ⟨⟨l.1.1, ?_⟩, l.2.1, l.2.2.1, l.2.2.2.1, by have := l.2.2.2.2; simpa [World.setCell] using this⟩
  rcases l.1.2 with h1 | ⟨g1, cap1, cur, hu, hg1, hh, hr⟩
  · exact .inl h1
  · have hne : g1 ≠ q := by omega
    exact .inr ⟨g1, cap1, cur, hu, hg1, (heap_setCell_other w2 _ _ _ hne).trans hh, hr⟩

set_option maxHeartbeats 8000000 in
theorem rights_law (x : En) (s : ByteArray) (w : World) (hx : x.Ok w) (hs : s.size ≤ maxLen) (hg : TG w) :
    Calls Tryd.prog 3 #[x.val, .string s] w fun e w' => e = .returned (.bool true) ∧ Below w.heap.size w w' := by
  have hmx := hx.mx
  have hr := hx.rd
  clear hx
  obtain ⟨z, rfl⟩ : ∃ l : List UInt8, s = ⟨l.toArray⟩ := ⟨_, str_eta s⟩
  obtain ⟨ix, sub, nm, ty, ac, mp, st, mx, lo, hi, A, d, c⟩ := x
  show Calls Tryd.prog 3 #[ent ix sub nm ty ac mp st mx lo hi (.slice A d.length c), .string ⟨z.toArray⟩] w _
  have hr : Rd w w.heap.size A d := hr
  have hmx : I64 mx := hmx
  have S := Lib.hid (ES.new (row ix sub nm ty ac mp st mx lo hi (.slice A d.length c)) hg)
  have KN := Lib.hid (fun W (hG : TG W) => known_any W hG)
  have L1 := Lib.hid (fun W => light_any ix sub nm ty ac mp st mx lo hi A d.length c W)
  have HS := siz z
  have hlen : (z.length : Int) ≤ 9223372036854775807 := by rw [HS] at hs; unfold maxLen at hs; omega
  clear hs
  by_cases hl : d.length ≤ 2000 ∧ nm.length ≤ 2000
  rotate_left
  · have hl' : decide (d.length ≤ 2000 ∧ nm.length ≤ 2000) = false := decide_eq_false hl
    rw [hl'] at L1
    clear hr hg hl hl'
    generalize d.length = n at *
    go_enter Tryd.func3, Tryd.ntmps3
    go_wp2_with fail
    refine (S.out.call (L1.out _)).mono ?_
    clear S
    rintro e w1 ⟨rfl, S⟩
    have S := Lib.hid S
    go_wp2_with fail
    refine (S.out.call (KN.out _ S.out.g)).mono ?_
    clear S
    rintro e w1 ⟨rfl, S⟩
    have S := Lib.hid S
    go_wp2_with fail
    go_ret
    exact ⟨rfl, S.out.b_⟩
  have hl' : decide (d.length ≤ 2000 ∧ nm.length ≤ 2000) = true := decide_eq_true hl
  rw [hl'] at L1
  clear hl'
  by_cases hbig : 2000 < (z.length : Int)
  · clear hr hg hl
    generalize d.length = n at *
    go_enter Tryd.func3, Tryd.ntmps3
    go_wp2_with fail
    refine (S.out.call (L1.out _)).mono ?_
    clear S
    rintro e w1 ⟨rfl, S⟩
    have S := Lib.hid S
    go_wp2_with fail
    refine (S.out.call (KN.out _ S.out.g)).mono ?_
    clear S
    rintro e w1 ⟨rfl, S⟩
    have S := Lib.hid S
    go_wp2_with fail
    go_ret
    exact ⟨rfl, S.out.b_⟩
  · have KL := Lib.hid (fun W (hR : Rd W W.heap.size A d) => lent_any A d.length c d W hR rfl (by omega))
    have K1 := Lib.hid (fun g cap W (hR : Rd W W.heap.size (some ⟨g, 0, none⟩) d) (hG : TG W) => right_any ix sub nm ty ac mp st mx lo hi (some ⟨g, 0, none⟩) d.length cap d W (by omega) hmx.1 hmx.2 hR rfl (by omega) hG)
    have K2 := Lib.hid (fun W (hB : w.heap.size ≤ W.heap.size) (hR : Rd W w.heap.size A d) => rright_any ix sub nm ty ac mp st mx lo hi A d.length c w.heap.size d W (by omega) hmx.1 hmx.2 hB hR rfl (by omega))
    have K3 := Lib.hid (fun W => name_any z W (by omega))
    have K4 := Lib.hid (fun W => rname_any z W (by omega))
    have K5 := Lib.hid (fun base g cap W (hL : LentAt W base 5 g cap d) (hR : Rd W w.heap.size A d) => kept_yes A d.length c base w.heap.size g cap d W hL hR rfl (by omega))
    have HR := Lib.hid hr
    have HG := Lib.hid (fun W' (h : Below w.heap.size w W') => hg.below h (Nat.le_refl _))
    clear hr hg hmx hl
    generalize rightN ix sub nm ty ac mp st mx lo hi d = X at *
    generalize nameB z = Y at *
    go_enter Tryd.func3, Tryd.ntmps3
    go_wp2_with fail
    refine (S.out.call (L1.out _)).mono ?_
    clear S
    rintro e w1 ⟨rfl, S⟩
    have S := Lib.hid S
    obtain ⟨x0, x1, x2, x3, x4, x5, x6, x7, x8, x9, x10⟩ := S.out.cells
    have S1 := S.out.next (one_b w1 (.cells (row ix sub nm ty ac mp st mx lo hi (.slice A d.length c)) 24))
    have h1 := heap_alloc_new w1 (.cells (row ix sub nm ty ac mp st mx lo hi (.slice A d.length c)) 24)
    have hpq := S.out.lt
    have hwq := S.out.b_.size
    have y10 := S1.cell 10
    have S1 := Lib.hid S1
    have h1 := Lib.hid h1
    clear S
    go_wp2_with fail
    refine (KL.out _ ((HR.out.below S1.out.b_).mono S1.out.b_.size)).mono ?_
    rintro e w2 ⟨g, cap, he, hla, b⟩
    have hrow := (b.block _ (Array.getElem?_eq_some_iff.1 h1.out).1).trans h1.out
    have hf := frozen_of_row w2 w1.heap.size 10 _ _ hrow
    have hc := (row_cells hrow).2.2.2.2.2.2.2.2.2.2
    clear hrow
    have SR := Lib.hid (kr_put (v' := .slice (some ⟨g, 0, none⟩) d.length cap) S1.out.b_ S1.out.g S1.out.r h1.out (by omega) hwq b hla HG.out)
    clear S1 hla b KL h1
    subst he
    go_wp2_with fail
    clear hf hc y10
    generalize (w1.alloc (.cells (row ix sub nm ty ac mp st mx lo hi (.slice A d.length c)) 24)).heap.size = base at *
    refine Txt.wp_region_textN 23 (fun W => KR w w.heap.size w1.heap.size (row ix sub nm ty ac mp st mx lo hi (.slice A d.length c)) (row ix sub nm ty ac mp st mx lo hi (.slice (some ⟨g, 0, none⟩) d.length cap)) base g cap d W) (by kernel_rfl) (by kernel_rfl) (by kernel_rfl) (by kernel_rfl) (fun _ _ _ _ _ h => h) SR.out.drew ?_
    clear SR
    iterate 23 (
      apply Txt.step rfl
      · intro W hS K hK
        obtain ⟨x0, x1, x2, x3, x4, x5, x6, x7, x8, x9, x10⟩ := row_cells hS.r
        obtain ⟨y0, y1, y2, y3, y4, y5, y6, y7, y8, y9, y10⟩ := row_cells hS.s
        go_simp
        first
          | exact hK.out _ hS
          | (go_wp2_with (first
              | (go_at_call 11; refine (hS.call (K1.out g cap W (hS.l.rd) hS.tg)).mono ?_; rintro e w' ⟨rfl, S⟩; have S := Lib.hid S)
              | (go_at_call 12; refine (hS.call (K2.out W hS.b.size (HR.out.below hS.b))).mono ?_; rintro e w' ⟨rfl, S⟩; have S := Lib.hid S)
              | (go_at_call 13; refine (hS.same (K3.out W)).mono ?_; rintro e w' ⟨rfl, S⟩; have S := Lib.hid S)
              | (go_at_call 14; refine (hS.same (K4.out W)).mono ?_; rintro e w' ⟨rfl, S⟩; have S := Lib.hid S)
              | (go_at_call 15; refine (hS.same (K5.out base g cap W hS.l (HR.out.below hS.b))).mono ?_; rintro e w' ⟨rfl, S⟩; have S := Lib.hid S)
              | (go_at_call 9; refine (hS.call (KN.out _ hS.tg)).mono ?_; rintro e w' ⟨rfl, S⟩; have S := Lib.hid S)); first | exact hK.out _ S.out | exact hK.out _ hS)
      · first | exact ⟨_, rfl⟩ | exact ⟨undef, rfl⟩)
    refine Txt.last fun W hS => ?_
    have S := Lib.hid hS
    clear hS
    go_wp2_with fail
    go_ret
    exact ⟨rfl, S.out.b⟩
end Ent
end Go.Proofs.YtedcjfgilpgpkaaDoor
