/-
  EntryRules: its walk.
-/
import Derived.Test.YtedcjfgilpgpkaaDoorEntKnown
import Derived.Test.YtedcjfgilpgpkaaDoorEntLift
import Derived.Test.YtedcjfgilpgpkaaDoorText
namespace Go.Proofs.YtedcjfgilpgpkaaDoor
namespace Ent
open Go.RowKit Mem
set_option linter.unusedVariables false
set_option linter.unusedSimpArgs false
set_option maxRecDepth 100000

theorem KS2.call {w W : World} {p q : Nat} {cs ds : Array Value} {A : Option Addr} {bs : List UInt8} {f : Nat} {args : Array Value} {v : Value} (S : KS2 w p q cs ds A bs W)
    (h : Calls Tryd.prog f args W fun e w' => e = .returned v ∧ Below W.heap.size W w') : Calls Tryd.prog f args W fun e w' => e = .returned v ∧ KS2 w p q cs ds A bs w' :=
  h.mono (by rintro e w' ⟨rfl, b⟩; exact ⟨rfl, S.next b⟩)
theorem KS2.drew {w W : World} {p q : Nat} {cs ds : Array Value} {A : Option Addr} {bs : List UInt8} (h : KS2 w p q cs ds A bs W) : KS2 w p q cs ds A bs W.drew := h.next (below_drew W)
theorem ks_two (w : World) (hg : TG w) (cs ds : Array Value) : KS2 w w.heap.size (w.heap.size + 1) cs ds none [] ((w.alloc (.cells cs 24)).alloc (.cells ds 24)) := by
  have h1 := heap_alloc_new (w.alloc (.cells cs 24)) (.cells ds 24)
  have b := two_b w (.cells cs 24) (.cells ds 24)
  refine ⟨b, hg.below b (Nat.le_refl _), ?_, by simpa using h1, .inl rfl⟩
  rw [(one_b (w.alloc (.cells cs 24)) (.cells ds 24)).block _ (by simp)]
  exact heap_alloc_new w _

set_option maxHeartbeats 8000000 in
theorem rules_law (x y : En) (w : World) (hx : x.Ok w) (hy : y.Ok w) (hg : TG w) :
    Calls Tryd.prog 4 #[x.val, y.val] w fun e w' => e = .returned (.bool true) ∧ Below w.heap.size w w' := by
  have hix := hx.ix
  have hiy := hy.ix
  clear hx hy
  obtain ⟨ix, sub, nm, ty, ac, mp, st, mx, lo, hi, A, d, c⟩ := x
  obtain ⟨ix', sub', nm', ty', ac', mp', st', mx', lo', hi', A', d', c'⟩ := y
  show Calls Tryd.prog 4 #[ent ix sub nm ty ac mp st mx lo hi (.slice A d.length c), ent ix' sub' nm' ty' ac' mp' st' mx' lo' hi' (.slice A' d'.length c')] w _
  have S := Lib.hid (ks_two w hg (row ix sub nm ty ac mp st mx lo hi (.slice A d.length c)) (row ix' sub' nm' ty' ac' mp' st' mx' lo' hi' (.slice A' d'.length c')))
  have KN := Lib.hid (fun W (hG : TG W) => known_any W hG)
  have L1 := Lib.hid (fun W => light_any ix sub nm ty ac mp st mx lo hi A d.length c W)
  have L2 := Lib.hid (fun W => light_any ix' sub' nm' ty' ac' mp' st' mx' lo' hi' A' d'.length c' W)
  have K1 := Lib.hid (fun W => readable_any ix sub nm ty ac mp st mx lo hi (.slice A d.length c) W)
  have K2 := Lib.hid (fun W => rreadable_any ix sub nm ty ac mp st mx lo hi (.slice A d.length c) W)
  have K3 := Lib.hid (fun W => writable_any ix sub nm ty ac mp st mx lo hi (.slice A d.length c) W)
  have K4 := Lib.hid (fun W => rwritable_any ix sub nm ty ac mp st mx lo hi (.slice A d.length c) W)
  have K5 := Lib.hid (fun W => group_any ix sub nm ty ac mp st mx lo hi (.slice A d.length c) W)
  have K6 := Lib.hid (fun W => rgroup_any ix sub nm ty ac mp st mx lo hi (.slice A d.length c) W hix.1 hix.2)
  have K7 := Lib.hid (fun W => before_any ix sub nm ty ac mp st mx lo hi (.slice A d.length c) ix' sub' nm' ty' ac' mp' st' mx' lo' hi' (.slice A' d'.length c') W)
  have K8 := Lib.hid (fun W => rbefore_any ix sub nm ty ac mp st mx lo hi (.slice A d.length c) ix' sub' nm' ty' ac' mp' st' mx' lo' hi' (.slice A' d'.length c') W)
  clear hg hix hiy
  generalize decide (d.length ≤ 2000 ∧ nm.length ≤ 2000) = l1 at *
  generalize decide (d'.length ≤ 2000 ∧ nm'.length ≤ 2000) = l2 at *
  generalize (Value.slice A d.length c) = v at *
  generalize (Value.slice A' d'.length c') = v' at *
  generalize readN ac = r1 at *
  generalize writeN ac = r2 at *
  generalize groupN ix = r3 at *
  generalize befB ix sub ix' sub' = r4 at *
  clear A A' d d' c c'
  cases l1 with
  | false =>
    go_enter Tryd.func4, Tryd.ntmps4
    go_wp2_with fail
    refine (S.out.call (L1.out _)).mono ?_
    clear S
    rintro e w1 ⟨rfl, S⟩
    have S := Lib.hid S
    go_wp2_with fail
    refine (S.out.call (KN.out _ S.out.g)).mono ?_
    clear S
    rintro e w1 ⟨rfl, S⟩
    have S := Lib.hid S
    go_wp2_with fail
    go_ret
    exact ⟨rfl, S.out.b⟩
  | true =>
    go_enter Tryd.func4, Tryd.ntmps4
    go_wp2_with fail
    refine (S.out.call (L1.out _)).mono ?_
    clear S
    rintro e w1 ⟨rfl, S⟩
    have S := Lib.hid S
    obtain ⟨y0, y1, y2, y3, y4, y5, y6, y7, y8, y9, y10⟩ := row_cells S.out.s
    go_wp2_with fail
    refine (S.out.call (L2.out _)).mono ?_
    clear S y0 y1 y2 y3 y4 y5 y6 y7 y8 y9 y10
    rintro e w2 ⟨rfl, S⟩
    have S := Lib.hid S
    cases l2 with
    | false =>
      go_wp2_with fail
      refine (S.out.call (KN.out _ S.out.g)).mono ?_
      clear S
      rintro e w1 ⟨rfl, S⟩
      have S := Lib.hid S
      go_wp2_with fail
      go_ret
      exact ⟨rfl, S.out.b⟩
    | true =>
      go_wp2_with fail
      refine Txt.wp_region_textN 32 (fun W => KS2 w w.heap.size (w.heap.size + 1) (row ix sub nm ty ac mp st mx lo hi v) (row ix' sub' nm' ty' ac' mp' st' mx' lo' hi' v') none [] W) (by kernel_rfl) (by kernel_rfl) (by kernel_rfl) (by kernel_rfl) (fun _ _ _ _ _ h => h) S.out.drew ?_
      clear S
      iterate 32 (
        apply Txt.step rfl
        · intro W hS K hK
          obtain ⟨x0, x1, x2, x3, x4, x5, x6, x7, x8, x9, x10⟩ := row_cells hS.r
          obtain ⟨y0, y1, y2, y3, y4, y5, y6, y7, y8, y9, y10⟩ := row_cells hS.s
          go_simp
          first
            | exact hK.out _ hS
            | (go_wp2_with (first
                | (go_at_call 16; refine (hS.call (K1.out _)).mono ?_; rintro e w' ⟨rfl, S⟩; have S := Lib.hid S)
                | (go_at_call 17; refine (hS.call (K2.out _)).mono ?_; rintro e w' ⟨rfl, S⟩; have S := Lib.hid S)
                | (go_at_call 18; refine (hS.call (K3.out _)).mono ?_; rintro e w' ⟨rfl, S⟩; have S := Lib.hid S)
                | (go_at_call 19; refine (hS.call (K4.out _)).mono ?_; rintro e w' ⟨rfl, S⟩; have S := Lib.hid S)
                | (go_at_call 20; refine (hS.call (K5.out _)).mono ?_; rintro e w' ⟨rfl, S⟩; have S := Lib.hid S)
                | (go_at_call 21; refine (hS.call (K6.out _)).mono ?_; rintro e w' ⟨rfl, S⟩; have S := Lib.hid S)
                | (go_at_call 22; refine (hS.call (K7.out _)).mono ?_; rintro e w' ⟨rfl, S⟩; have S := Lib.hid S)
                | (go_at_call 23; refine (hS.call (K8.out _)).mono ?_; rintro e w' ⟨rfl, S⟩; have S := Lib.hid S)
                | (go_at_call 9; refine (hS.call (KN.out _ hS.g)).mono ?_; rintro e w' ⟨rfl, S⟩; have S := Lib.hid S)); first | exact hK.out _ S.out | exact hK.out _ hS)
        · first | exact ⟨_, rfl⟩ | exact ⟨undef, rfl⟩)
      refine Txt.last fun W hS => ?_
      have S := Lib.hid hS
      clear hS
      go_wp2_with fail
      go_ret
      exact ⟨rfl, S.out.b⟩
end Ent
end Go.Proofs.YtedcjfgilpgpkaaDoor
