/-
  A journal and the document's, side by side: pair's alike.
  A journal and the document's, side by side: pair's open.
  JournalAny's ways: too many bytes, no flash, too few sectors, a journal.
  JournalAny's last way: a journal.
-/
import Derived.Test.YtkkbjngjjeajoaaJouRLook
import Derived.Test.YtkkbjngjjeajoaaJouReady
import Derived.Test.YtkkbjngjjeajoaaTextV
import Derived.Test.YtkkbjngjjeajoaaOctAux
import Derived.Test.YtkkbjngjjeajoaaRecRef
import Derived.Test.YtkkbjngjjeajoaaJouData
import Derived.Test.YtkkbjngjjeajoaaFlaBytes
namespace Go.Proofs.Ytkkbjngjjeajoaa
namespace Jou
open Go.RowKit Mem Fla Rec Sec
set_option linter.unusedVariables false
set_option linter.unusedSimpArgs false
set_option maxRecDepth 100000
section
variable {w W W' : World} {x p D c q L j r c2 : Nat} {s : Fl} {ws : List Int} {m o : Int} {AB AW A : Option Addr} {cB cW : Nat}
def PT : TypeId := 37
/-- Both, and the pair in block x. -/
structure AJ (W : World) (x p D c q L j r : Nat) (s : Fl) (ws : List Int) (m o : Int) (AB : Option Addr) (cB : Nat) (AW : Option Addr) (cW : Nat) (A : Option Addr) (c2 : Nat) : Prop where
  ij : IsJ W q L p D c s
  g : IsG W r s.bs ws m o AB cB AW cW
  jr : JRow W j r (tell s.bs) A c2 (newest s.bs).isSome ((newest s.bs).getD 0) false
  jo : Own W 0 E (.slice A (tell s.bs).d.length c2) (tell s.bs).d
  px : W.heap[x]? = some (.cells #[at_ p, at_ r, at_ q, at_ j] PT (0, 0))
theorem AJ.below (h : AJ W x p D c q L j r s ws m o AB cB AW cW A c2) (b : Below W.heap.size W W') : AJ W' x p D c q L j r s ws m o AB cB AW cW A c2 :=
  ⟨h.ij.below b (Nat.le_refl _), h.g.below b (Nat.le_refl _), (b.block j (Array.getElem?_eq_some_iff.1 h.jr).1).trans h.jr, h.jo.below b (Nat.le_refl _), (b.block x (Array.getElem?_eq_some_iff.1 h.px).1).trans h.px⟩
/-- What alike holds on to: both, the record that was told, in block g0. -/
structure AL (w W : World) (x p D c q L j r : Nat) (s : Fl) (ws : List Int) (m o : Int) (AB : Option Addr) (cB : Nat) (AW : Option Addr) (cW : Nat) (A : Option Addr) (c2 : Nat) (g0 : Nat) (k n : Int) (d : List UInt8) (A5 : Option Addr) (c5 : Nat) : Prop where
  b : Below w.heap.size w W
  a : AJ W x p D c q L j r s ws m o AB cB AW cW A c2
  row : W.heap[g0]? = some (.cells #[.int .i64 k, .int .u32 n, .slice A5 d.length c5] 39 (0, 0))
  o5 : Own W w.heap.size E (.slice A5 d.length c5) d
theorem AL.next {g0 : Nat} {k n : Int} {d : List UInt8} {A5 : Option Addr} {c5 : Nat} (h : AL w W x p D c q L j r s ws m o AB cB AW cW A c2 g0 k n d A5 c5) (b : Below W.heap.size W W') : AL w W' x p D c q L j r s ws m o AB cB AW cW A c2 g0 k n d A5 c5 :=
  ⟨h.b.trans (b.mono h.b.size), h.a.below b, (b.block g0 (Array.getElem?_eq_some_iff.1 h.row).1).trans h.row, h.o5.below b (Nat.le_refl _)⟩
theorem tnext {g0 : Nat} {k n : Int} {d : List UInt8} {A5 : Option Addr} {c5 : Nat} {ou : Option Value} {bs : List UInt8} (h : Txt.T (fun W => AL w W x p D c q L j r s ws m o AB cB AW cW A c2 g0 k n d A5 c5) (fun u W => Own W 0 E u bs) ou W) (b : Below W.heap.size W W') :
    Txt.T (fun W => AL w W x p D c q L j r s ws m o AB cB AW cW A c2 g0 k n d A5 c5) (fun u W => Own W 0 E u bs) ou W' := ⟨h.1.next b, fun u hu => (h.2 u hu).below b (Nat.le_refl _)⟩
theorem sameB_self (k n : Int) (d : List UInt8) : sameB k n d k n d = true := by simp [sameB]
set_option maxHeartbeats 4000000 in
theorem palike_any (h : AJ w x p D c q L j r s ws m o AB cB AW cW A c2) (hon : s.on = true) (hN : ws.length = nsec s.bs) (hl : s.bs.length ≤ 8192) (hw : ∀ i, i < nsec s.bs → ws.getD i 0 = s.wearAt i) :
    Calls Try.prog 13 #[at_ x] w fun e w' => e = .returned (.bool true) ∧ Below w.heap.size w w' := by
  have LA := Lib.hid (last_any h.ij)
  have H := Lib.hid h
  have q0 := cell_of h.px 0
  have q1 := cell_of h.px 1
  have q2 := cell_of h.px 2
  have q3 := cell_of h.px 3
  have HW := Lib.hid hw
  clear h hw
  go_enter Try.func13, Try.ntmps13
  go_wp2_with fail
  refine LA.out.mono ?_
  rintro e w1 ⟨v, rfl, o1, b1⟩
  obtain ⟨A5, c5, rfl, r5⟩ := o1.form
  have B1 := below1 w1 (.cells #[.int .i64 (tell s.bs).k, .int .u32 (tell s.bs).n, .slice A5 (tell s.bs).d.length c5] 39)
  have S1 := Lib.hid (show AL w (w1.alloc (.cells #[.int .i64 (tell s.bs).k, .int .u32 (tell s.bs).n, .slice A5 (tell s.bs).d.length c5] 39)) x p D c q L j r s ws m o AB cB AW cW A c2 w1.heap.size (tell s.bs).k (tell s.bs).n (tell s.bs).d A5 c5 from
    ⟨b1.trans (B1.mono b1.size), (H.out.below b1).below B1, heap_alloc_new w1 _, o1.below B1 (Nat.le_refl _)⟩)
  clear b1 o1 r5 B1 q0 q1 q2 q3
  go_wp2_with fail
  refine Txt.wp_region_textV 69 40 41 55 (fun W => AL w W x p D c q L j r s ws m o AB cB AW cW A c2 w1.heap.size (tell s.bs).k (tell s.bs).n (tell s.bs).d A5 c5) (fun u W => Own W 0 E u s.bs) (by kernel_rfl) (by kernel_rfl) (by kernel_rfl) (by kernel_rfl) (by kernel_rfl) (fun _ _ _ _ _ h => h) (S1.out.next (Below.refl _ _).drew) ?_
  clear S1
  iterate 40 (
    apply Txt.stepV rfl (by decide) (by decide)
    · intro ou W hS K hK
      have HS := Lib.hid hS
      have a := hS.1.a
      have x0 := cell_of a.px 0
      have x1 := cell_of a.px 1
      have x2 := cell_of a.px 2
      have x3 := cell_of a.px 3
      have j1 := cell_of a.jr 1
      have j2 := cell_of a.jr 2
      have j3 := cell_of a.jr 3
      have j4 := cell_of a.jr 4
      have j5 := cell_of a.jr 5
      have g0 := cell_of hS.1.row 0
      have g1 := cell_of hS.1.row 1
      have g2 := cell_of hS.1.row 2
      clear hS a
      go_simp
      first
        | exact hK.out _ HS.out
        | (go_wp2_with (first
             | (go_at_call 19; refine (same_any _ _ _ _ A5 A c5 c2 W.heap.size (tell s.bs).d (tell s.bs).d W (own_rd HS.out.1.o5) (own_rd HS.out.1.a.jo) (Nat.le_refl _)).mono ?_; rw [sameB_self]; rintro e w' ⟨rfl, b⟩; have TT := Lib.hid (tnext HS.out b); clear b)
             | (go_at_call 41; refine (at_any HS.out.1.a.ij).mono ?_; rintro e w' ⟨rfl, b⟩; have TT := Lib.hid (tnext HS.out b); clear b))
           first | exact hK.out _ HS.out | exact hK.out _ TT.out)
    · first | exact ⟨_, rfl⟩ | exact ⟨undef, rfl⟩)
  apply Txt.specV rfl rfl rfl
  · intro W hS K hK
    have x0 := cell_of hS.a.px 0
    have HS := Lib.hid hS
    have BY := Lib.hid (bytes_any hS.a.ij.fl)
    clear hS
    go_simp
    go_wp2_with (go_at_call 46; refine BY.out.mono ?_; rintro e w' ⟨v6, rfl, o6, b6⟩)
    exact hK.out _ _ ⟨HS.out.next b6, fun u hu => by cases hu; exact o6.lower (Nat.zero_le _)⟩
  · rfl
  apply Txt.lookV (.string ⟨s.bs.toArray⟩) rfl rfl (by decide)
  · intro u W hS K hK
    obtain ⟨A6, c6, rfl, r6⟩ := (hS.2 u rfl).form
    have s6 := run_str r6 s.bs.length c6 rfl 22 5 9 Try.underlying22 Try.underlying5 Try.underlying9
    have HS := Lib.hid hS
    clear hS
    go_simp
    exact hK.out _ HS.out
  · rfl
  iterate 27 (
    apply Txt.stepV rfl (by decide) (by decide)
    · intro ou W hS K hK
      have HS := Lib.hid hS
      have a := hS.1.a
      have x0 := cell_of a.px 0
      have x1 := cell_of a.px 1
      have x2 := cell_of a.px 2
      have x3 := cell_of a.px 3
      have r0 := a.g.c0
      have r3 := a.g.c3
      have s2 := run_str (own_rd a.g.ob) s.bs.length cB rfl 22 5 9 Try.underlying22 Try.underlying5 Try.underlying9
      clear hS a
      go_simp
      first
        | exact hK.out _ HS.out
        | (go_wp2_with (
             go_at_call 47; refine (fon_any HS.out.1.a.ij.fl).mono ?_; rw [hon]; rintro e w' ⟨rfl, rfl⟩)
           exact hK.out _ HS.out)
    · first | exact ⟨_, rfl⟩ | exact ⟨undef, rfl⟩)
  refine Txt.lastV fun u W hS => ?_
  have HS := Lib.hid hS
  clear hS
  go_simp
  go_wp2_with fail
  go_loopw [5, 6] (fun ok i wr => ∃ k : Nat, ok = .bool true ∧ i = .int .i64 (k : Int) ∧ k ≤ nsec s.bs ∧ AL w wr x p D c q L j r s ws m o AB cB AW cW A c2 w1.heap.size (tell s.bs).k (tell s.bs).n (tell s.bs).d A5 c5) (fun _ i _ => nsec s.bs - (intOf i).toNat)
  case atStart => exact ⟨0, rfl, rfl, by omega, HS.out⟩
  case round =>
    obtain ⟨k, rfl, rfl, hk, hA⟩ := hrel
    have x0 := cell_of hA.a.px 0
    have x1 := cell_of hA.a.px 1
    have r1 := hA.a.g.c1
    have h8 : nsec s.bs ≤ 8 := by unfold nsec; omega
    rw [hN] at r1
    by_cases hlt : k < nsec s.bs
    · have HA := Lib.hid hA
      have hki : (k : Int) < ((nsec s.bs : Nat) : Int) := by omega
      have WN := Lib.hid (fun W (h : AL w W x p D c q L j r s ws m o AB cB AW cW A c2 w1.heap.size (tell s.bs).k (tell s.bs).n (tell s.bs).d A5 c5) => fworn_any (k : Int) h.a.ij.fl)
      have hwk : s.worn (k : Int) = s.wearAt k := worn_at hlt
      rw [hwk, ← HW.out k hlt] at WN
      obtain ⟨gW, hAW, hcw⟩ := hA.a.g.wear (i := k) (by omega)
      clear hA hwk
      go_wp2_with fail
      refine Txt.wp_region_tailN 20 (fun W => AL w W x p D c q L j r s ws m o AB cB AW cW A c2 w1.heap.size (tell s.bs).k (tell s.bs).n (tell s.bs).d A5 c5 ∧ W.cell? ⟨gW, k, none⟩ = some (.int .i64 (ws.getD k 0))) (by kernel_rfl) (by kernel_rfl) (by kernel_rfl) (by kernel_rfl) (by kernel_rfl) (fun _ _ _ _ _ h => h) ⟨HA.out.next (Below.refl _ _).drew, hcw⟩ ?_
      subst hAW
      generalize ws.getD k 0 = y at *
      clear HA hcw x0 x1 r1
      iterate 20 (
        apply Txt.stepR rfl
        · intro W hS K hK
          have x0 := cell_of hS.1.a.px 0
          have x1 := cell_of hS.1.a.px 1
          have r1 := hS.1.a.g.c1
          have hc := hS.2
          have HS := Lib.hid hS
          rw [hN] at r1
          clear hS
          go_simp
          first
            | exact hK.out _ HS.out
            | (go_wp2_with (go_at_call 48; refine (WN.out W HS.out.1).mono ?_; rintro e w' ⟨rfl, rfl⟩)
               exact hK.out _ HS.out)
        · first | exact ⟨_, rfl⟩ | exact ⟨undef, rfl⟩)
      refine Txt.lastR rfl ?_
      intro W hS K hK
      have HS := Lib.hid hS.1
      clear hS
      go_simp
      refine hK.out _ _ ?_
      clear hK K
      go_wp2_with fail
      go_roundw
      case rel => exact ⟨k + 1, rfl, by go_num, by omega, HS.out⟩
      case measure => simp [intOf]; omega
    · obtain rfl : k = nsec s.bs := by omega
      have HA := Lib.hid hA
      clear hA
      have g2 := cell_of HA.out.row 2
      have SP := Lib.hid (spoil_any _ w.heap.size (tell s.bs).d wr HA.out.o5 HA.out.b.size (by have := (tell_bd s.bs).2.2; omega))
      go_wp2_with fail
      refine SP.out.mono ?_
      rintro e w2 ⟨rfl, b2, _⟩
      have B2 := Lib.hid (HA.out.b.trans b2)
      clear b2 g2 x0 x1 r1 SP
      go_wp2_with fail
      go_ret
      exact ⟨rfl, B2.out⟩
end
end Jou
end Go.Proofs.Ytkkbjngjjeajoaa

namespace Go.Proofs.Ytkkbjngjjeajoaa
namespace Jou
open Go.RowKit Mem Fla Rec Sec
set_option linter.unusedVariables false
set_option linter.unusedSimpArgs false
set_option maxRecDepth 100000
section
variable {w W W' : World} {x p D c q L j r c2 : Nat} {s : Fl} {ws : List Int} {m o : Int} {AB AW A : Option Addr} {cB cW : Nat}
theorem IsF.farS {X : Nat → Prop} (h : IsF W p D c s) (f : FarS X W W') (hp : ¬ X p) (hD : ¬ X D) : IsF W' p D c s := by
  refine ⟨(f.block p (Array.getElem?_eq_some_iff.1 h.blk).1 hp).trans h.blk, ?_, h.ne, h.cap, h.ge, h.ok⟩
  refine own_keep2 h.own ?_
  rintro g ⟨a, ha, rfl⟩
  injection ha with ha
  subst ha
  have hlt : D < W.heap.size := by
    have := h.own
    obtain ⟨gB, cap, hv, hge, hgs, _⟩ := this.some_ h.ok.len0
    injection hv with e1
    injection e1 with e1
    injection e1 with e1
    subst e1
    exact hgs
  exact f.block D hlt hD
theorem IsJ.farX (h : IsJ W q L p D c s) (f : FarS (· = x) W W') (hxq : x < q) (hxp : x ≠ p) (hxD : x ≠ D) : IsJ W' q L p D c s :=
  ⟨h.fd.far (p := x) (D := x) ⟨f.os, f.tape, f.output, f.size, fun k hk h1 _ => f.block k hk h1⟩ hxq hxq, (f.block q h.lt (fun e => by omega)).trans h.row, IsF.farS h.fl f (fun e => hxp e.symm) (fun e => hxD e.symm), h.pq, h.Dq⟩
theorem own_px {W W' : World} {b x : Nat} {v : Value} {d : List UInt8} {y : Array Value} (o : Own W b E v d) (hj : W.heap[x]? = some (.cells y PT (0, 0))) (f : FarS (· = x) W W') : Own W' b E v d := by
  refine ⟨o.1, ?_⟩
  rcases o.2 with h1 | ⟨g1, cap, cur, hu, hb, hh, hr⟩
  · exact .inl h1
  · refine .inr ⟨g1, cap, cur, hu, hb, (f.block g1 (Array.getElem?_eq_some_iff.1 hh).1 ?_).trans hh, hr⟩
    intro e
    have e : g1 = x := e
    subst e
    rw [hh] at hj
    injection hj with hj
    injection hj with _ ht
    exact absurd ht (by decide)
theorem row4_two {W : World} {x : Nat} {a b c d : Value} (hr : W.heap[x]? = some (.cells #[a, b, c, d] PT (0, 0))) (v2 v3 : Value) :
    ((W.setCell ⟨x, 2, none⟩ v2).setCell ⟨x, 3, none⟩ v3).heap[x]? = some (.cells #[a, b, v2, v3] PT (0, 0)) :=
  heap_setCell_same _ x 3 _ _ v3 (heap_setCell_same _ x 2 _ _ v2 hr)
theorem gx_some {bs : List UInt8} (h : IsG W r bs ws m o AB cB AW cW) {k : Nat} (hk : GX r AB AW k) : k < W.heap.size := by
  rcases hk with rfl | ⟨a, ha, rfl⟩ | ⟨a, ha, rfl⟩
  · exact h.lt
  · rcases h.ob.2 with ⟨h1, _⟩ | ⟨g, cap, cur, hu, hb, hh, hr⟩
    · injection h1 with h1
      rw [h1] at ha
      cases ha
    · injection hu with h1
      rw [h1] at ha
      injection ha with ha
      subst ha
      exact (Array.getElem?_eq_some_iff.1 hh).1
  · rcases h.ow.2 with ⟨h1, _⟩ | ⟨g, cap, cur, hu, hb, hh, hr⟩
    · injection h1 with h1
      rw [h1] at ha
      cases ha
    · injection hu with h1
      rw [h1] at ha
      injection ha with ha
      subst ha
      exact (Array.getElem?_eq_some_iff.1 hh).1
set_option maxHeartbeats 2000000 in
theorem popen_few (i : IsF w p D c s) (g : IsG w r s.bs ws m o AB cB AW cW) (hon : s.on = true) (hN : ws.length = nsec s.bs) (h3 : nsec s.bs < 3) (px : w.heap[x]? = some (.cells #[at_ p, at_ r, .pointer none, .pointer none] PT (0, 0))) :
    Calls Try.prog 12 #[at_ x] w fun e w' => e = .returned (.bool true) ∧ w'.cell? ⟨x, 2, none⟩ = some (.pointer none) ∧ FarS (· = x) w w' := by
  have O1 := Lib.hid (open_few i hon h3)
  have O2 := Lib.hid (ropen_few g (by omega))
  have q0 := cell_of px 0
  have q1 := cell_of px 1
  have q2 := cell_of px 2
  have q3 := cell_of px 3
  have z2 := frozen_of_row _ _ 2 _ _ px
  have z3 := frozen_of_row _ _ 3 _ _ px
  have PX := Lib.hid px
  clear i g hon hN h3 px
  go_enter Try.func12, Try.ntmps12
  go_wp2_with fail
  refine O1.out.mono ?_
  rintro e w1 ⟨rfl, rfl⟩
  go_wp2_with fail
  refine O2.out.mono ?_
  rintro e w2 ⟨rfl, b2⟩
  have row2 := (b2.block x (Array.getElem?_eq_some_iff.1 PX.out).1).trans PX.out
  have ROW2 := Lib.hid row2
  have B2 := Lib.hid b2
  clear q0 q1 q2 q3 z2 z3 O1 O2 b2
  have q2 := cell_of row2 2
  have q3 := cell_of row2 3
  have z2 := frozen_of_row _ _ 2 _ _ row2
  have z3 := frozen_of_row _ _ 3 _ _ row2
  clear row2
  go_wp2_with fail
  go_ret
  have r4 := row4_two ROW2.out (.pointer none) (at_ w.heap.size)
  exact ⟨rfl, cell_of r4 2, (FarS.of_below B2.out (Nat.le_refl _)).trans (((FarS.refl (· = x) w2).set ⟨x, 2, none⟩ rfl (.pointer none)).set ⟨x, 3, none⟩ rfl (at_ w.heap.size))⟩
/-- What pair's open leaves. -/
def POpen (w : World) (x p D c r : Nat) (s : Fl) (ws : List Int) (m o : Int) (AB : Option Addr) (cB : Nat) (AW : Option Addr) (cW : Nat) (e : Ending) (w' : World) : Prop :=
  e = .returned (.bool true) ∧ ∃ j A c2, AJ w' x p D c w.heap.size (w.heap.size + 1) j r s ws m o AB cB AW cW A c2 ∧ FarS (· = x) w w' ∧ w.heap.size + 1 < j
set_option maxHeartbeats 2000000 in
theorem popen_ok (i : IsF w p D c s) (g : IsG w r s.bs ws m o AB cB AW cW) (hon : s.on = true) (hN : ws.length = nsec s.bs) (hl : s.bs.length ≤ 8192) (h3 : 3 ≤ nsec s.bs) (px : w.heap[x]? = some (.cells #[at_ p, at_ r, .pointer none, .pointer none] PT (0, 0)))
    (hxp : x ≠ p) (hxD : x ≠ D) (hxg : ¬ GX r AB AW x) :
    Calls Try.prog 12 #[at_ x] w (POpen w x p D c r s ws m o AB cB AW cW) := by
  have O1 := Lib.hid (open_ok i hon h3)
  have O2 := Lib.hid (fun W (b : Below w.heap.size w W) => ropen_ok (g.below b (Nat.le_refl _)) hN hl h3)
  have HG := Lib.hid g
  have q0 := cell_of px 0
  have q1 := cell_of px 1
  have q2 := cell_of px 2
  have q3 := cell_of px 3
  have z2 := frozen_of_row _ _ 2 _ _ px
  have z3 := frozen_of_row _ _ 3 _ _ px
  have PX := Lib.hid px
  have hxlt := (Array.getElem?_eq_some_iff.1 px).1
  clear i g hon hN h3 px
  go_enter Try.func12, Try.ntmps12
  go_wp2_with fail
  refine O1.out.mono ?_
  rintro e w1 ⟨rfl, i1, b1⟩
  have I1 := Lib.hid i1
  have B1 := Lib.hid b1
  have row1 := (b1.block x hxlt).trans PX.out
  have ROW1 := Lib.hid row1
  clear q0 q1 q2 q3 z2 z3 O1 b1 i1
  have q1 := cell_of row1 1
  clear row1
  go_wp2_with fail
  refine (O2.out _ B1.out).mono ?_
  rintro e w2 ⟨A, c2, rfl, jr, jo, b2⟩
  have JR := Lib.hid jr
  have JO := Lib.hid jo
  have I2 := Lib.hid (I1.out.below b2 (Nat.le_refl _))
  have row2 := (b2.block x (Array.getElem?_eq_some_iff.1 ROW1.out).1).trans ROW1.out
  have ROW2 := Lib.hid row2
  have B2 := Lib.hid (B1.out.trans (b2.mono B1.out.size))
  have hj := I1.out.fsize
  clear q1 jr jo b2
  have q2 := cell_of row2 2
  have q3 := cell_of row2 3
  have z2 := frozen_of_row _ _ 2 _ _ row2
  have z3 := frozen_of_row _ _ 3 _ _ row2
  clear row2
  go_wp2_with fail
  go_ret
  have r4 := row4_two ROW2.out (at_ w.heap.size) (at_ w1.heap.size)
  have f4 := ((FarS.refl (· = x) w2).set ⟨x, 2, none⟩ rfl (at_ w.heap.size)).set ⟨x, 3, none⟩ rfl (at_ w1.heap.size)
  refine ⟨rfl, w1.heap.size, A, c2, ⟨I2.out.farX f4 hxlt hxp hxD, ?_, ?_, own_px JO.out ROW2.out f4, r4⟩, (FarS.of_below B2.out (Nat.le_refl _)).trans f4, hj⟩
  · refine (HG.out.below B2.out (Nat.le_refl _)).keepX fun k hk => ?_
    exact f4.block k (gx_some (HG.out.below B2.out (Nat.le_refl _)) hk) (fun e => hxg (e ▸ hk))
  · exact (f4.block w1.heap.size (Array.getElem?_eq_some_iff.1 JR.out).1 (fun e => by have := B1.out.size; omega)).trans JR.out
end
end Jou
end Go.Proofs.Ytkkbjngjjeajoaa

namespace Go.Proofs.Ytkkbjngjjeajoaa
namespace Jou
open Go.RowKit Mem Fla Rec Sec
set_option linter.unusedVariables false
set_option linter.unusedSimpArgs false
set_option maxRecDepth 100000
def OT : TypeId := 26
set_option maxHeartbeats 1000000 in
theorem any_big (A : Option Addr) (c : Nat) (b : List UInt8) (o : OpV) (w : World) (h : 10000 < b.length) (hm : b.length ≤ 2 ^ 63 - 1) :
    Calls Try.prog 3 #[.slice A b.length c, .agg o.vals] w fun e w' => e = .returned (.bool true) ∧ Below w.heap.size w w' := by
  have B0 := Lib.hid (below1 w (.cells o.vals OT))
  have K := Lib.hid (fun W => Jou.known_any W)
  unfold OpV.vals at *
  unfold OT at *
  go_enter Try.func3, Try.ntmps3
  go_wp2_with fail
  refine (K.out _).mono ?_
  rintro e w1 ⟨rfl, b1⟩
  have B1 := Lib.hid (B0.out.trans (b1.mono B0.out.size))
  clear b1
  go_wp2_with fail
  go_ret
  exact ⟨rfl, B1.out⟩
set_option maxHeartbeats 1000000 in
theorem any_none (A : Option Addr) (c : Nat) (b : List UInt8) (o : OpV) (w : World) (hr : Rd w w.heap.size A b) (h : b.length ≤ 10000) (hok : ofB b.length 5 = false) :
    Calls Try.prog 3 #[.slice A b.length c, .agg o.vals] w fun e w' => e = .returned (.bool true) ∧ Below w.heap.size w w' := by
  have B0 := Lib.hid (below1 w (.cells o.vals OT))
  have K := Lib.hid (fun W => Jou.known_any W)
  have O1 := Lib.hid (fun W => of_no A b.length c 5 W (by omega) hok)
  have O2 := Lib.hid (fun W => rof_no A b.length c 5 W (by omega) hok)
  have d1 : decide (10000 < b.length) = false := by simp; omega
  clear hr hok
  unfold OpV.vals at *
  unfold OT at *
  go_enter Try.func3, Try.ntmps3
  go_wp2_with fail
  refine (O1.out _).mono ?_
  rintro e w1 ⟨rfl, rfl⟩
  go_wp2_with fail
  refine (O2.out _).mono ?_
  rintro e w2 ⟨⟨r, rfl⟩, b2⟩
  have B2 := Lib.hid (B0.out.trans (b2.mono B0.out.size))
  clear b2 B0
  go_wp2_with fail
  refine (K.out _).mono ?_
  rintro e w3 ⟨rfl, b3⟩
  have B3 := Lib.hid (B2.out.trans (b3.mono B2.out.size))
  clear b3
  go_wp2_with fail
  go_ret
  exact ⟨rfl, B3.out⟩
set_option maxHeartbeats 1000000 in
theorem any_few (A : Option Addr) (c : Nat) (b : List UInt8) (o : OpV) (w : World) (hr : Rd w w.heap.size A b) (h : b.length ≤ 10000) (hok : ofB b.length 5 = true) (h3 : nsec b < 3) (ho : o.Ok) :
    Calls Try.prog 3 #[.slice A b.length c, .agg o.vals] w fun e w' => e = .returned (.bool true) ∧ Below w.heap.size w w' := by
  have B0 := Lib.hid (below1 w (.cells o.vals OT))
  have K := Lib.hid (fun W => Jou.known_any W)
  have O1 := Lib.hid (fun W (hb : Below w.heap.size w W) => of_yes A b.length c 5 b W ((hr.below hb).mono hb.size) rfl (by omega) (by omega) hok)
  have O2 := Lib.hid (fun W (hb : Below w.heap.size w W) => gof_yes A b.length c 5 b W ((hr.below hb).mono hb.size) rfl (by omega) hok)
  have d1 : decide (10000 < b.length) = false := by simp; omega
  clear hr hok
  unfold OpV.vals at *
  unfold OT at *
  go_enter Try.func3, Try.ntmps3
  go_wp2_with fail
  refine (O1.out _ B0.out).mono ?_
  rintro e w1 ⟨p, D, c1, rfl, S1⟩
  have B1 := Lib.hid (B0.out.trans (S1.b.mono B0.out.size))
  have hS1 := Lib.hid S1
  clear S1
  go_wp2_with fail
  refine (O2.out _ B1.out).mono ?_
  rintro e w2 ⟨r, AB, cB, AW, cW, rfl, G2, b2, hr2⟩
  have hF := hS1.out.i.below b2 (Nat.le_refl _)
  have B2 := Lib.hid (B1.out.trans (b2.mono B1.out.size))
  have bx := below1 w2 (.cells #[at_ p, at_ r, .pointer none, .pointer none] PT)
  have PO := Lib.hid (popen_few (x := w2.heap.size) (hF.below bx (Nat.le_refl _)) (s := Fl.new b 5) (G2.below bx (Nat.le_refl _)) rfl (by simp [nsec, newBs]) h3 (heap_alloc_new w2 _))
  have BX := Lib.hid (B2.out.trans (bx.mono B2.out.size))
  clear hF bx G2 b2 O1 O2
  unfold PT at *
  go_wp2_with fail
  refine PO.out.mono ?_
  rintro e w4 ⟨rfl, c2, f4⟩
  have B4 := Lib.hid (BX.out.trans (f4.below (B := w.heap.size) BX.out.size (fun k hk => by have := B2.out.size; omega)))
  clear f4 PO
  go_wp2_with fail
  refine (K.out _).mono ?_
  rintro e w5 ⟨rfl, b5⟩
  have B5 := Lib.hid (B4.out.trans (b5.mono B4.out.size))
  clear b5 c2
  go_wp2_with fail
  go_ret
  exact ⟨rfl, B5.out⟩
end Jou
end Go.Proofs.Ytkkbjngjjeajoaa

namespace Go.Proofs.Ytkkbjngjjeajoaa
namespace Jou
open Go.RowKit Mem Fla Rec Sec
set_option linter.unusedVariables false
set_option linter.unusedSimpArgs false
set_option maxRecDepth 100000
theorem own_above {X : Nat → Prop} {W W' : World} {Bs : Nat} {v : Value} {d : List UInt8} (o : Own W Bs E v d) (f : FarS X W W') (hX : ∀ k, X k → k < Bs) : Own W' Bs E v d := by
  refine ⟨o.1, ?_⟩
  rcases o.2 with h1 | ⟨g1, cap, cur, hu, hb, hh, hr⟩
  · exact .inl h1
  · exact .inr ⟨g1, cap, cur, hu, hb, (f.block g1 (Array.getElem?_eq_some_iff.1 hh).1 (fun hx => by have := hX _ hx; omega)).trans hh, hr⟩
/-- What the law holds on to while both append: the operation, the record that was, the data. -/
structure PJ (w W : World) (o : OpV) (Bs wb : Nat) (k n : Int) (d : List UInt8) (A5 : Option Addr) (c5 : Nat) (A6 : Option Addr) (c6 : Nat) (dd : List UInt8) : Prop where
  b : Below w.heap.size w W
  ob : W.heap[w.heap.size]? = some (.cells o.vals OT (0, 0))
  wr : W.heap[wb]? = some (.cells #[.int .i64 k, .int .u32 n, .slice A5 d.length c5] 39 (0, 0))
  wl : Bs ≤ wb
  wo : Own W Bs E (.slice A5 d.length c5) d
  xo : Own W Bs E (.slice A6 dd.length c6) dd
section
variable {w W W' : World} {o : OpV} {Bs wb : Nat} {k n : Int} {d dd : List UInt8} {A5 A6 : Option Addr} {c5 c6 : Nat}
theorem PJ.next (h : PJ w W o Bs wb k n d A5 c5 A6 c6 dd) (b : Below W.heap.size W W') : PJ w W' o Bs wb k n d A5 c5 A6 c6 dd :=
  ⟨h.b.trans (b.mono h.b.size), (b.block _ (Array.getElem?_eq_some_iff.1 h.ob).1).trans h.ob, (b.block _ (Array.getElem?_eq_some_iff.1 h.wr).1).trans h.wr, h.wl, h.wo.below b (Nat.le_refl _), h.xo.below b (Nat.le_refl _)⟩
theorem PJ.far {X : Nat → Prop} (h : PJ w W o Bs wb k n d A5 c5 A6 c6 dd) (f : FarS X W W') (hX : ∀ i, X i → w.heap.size < i ∧ i < Bs) : PJ w W' o Bs wb k n d A5 c5 A6 c6 dd :=
  ⟨h.b.trans (f.below (B := w.heap.size) h.b.size (fun i hi => by have := hX i hi; omega)), (f.block _ (Array.getElem?_eq_some_iff.1 h.ob).1 (fun hx => by have := hX _ hx; omega)).trans h.ob,
    (f.block _ (Array.getElem?_eq_some_iff.1 h.wr).1 (fun hx => by have := hX _ hx; have := h.wl; omega)).trans h.wr, h.wl, own_above h.wo f (fun i hi => (hX i hi).2), own_above h.xo f (fun i hi => (hX i hi).2)⟩
end
/-- The same, and the record that is told. -/
structure QJ (w W : World) (o : OpV) (Bs wb : Nat) (k n : Int) (d : List UInt8) (A5 : Option Addr) (c5 : Nat) (A6 : Option Addr) (c6 : Nat) (dd : List UInt8) (rb : Nat) (k' n' : Int) (d' : List UInt8) (A8 : Option Addr) (c8 : Nat) : Prop where
  p : PJ w W o Bs wb k n d A5 c5 A6 c6 dd
  rr : W.heap[rb]? = some (.cells #[.int .i64 k', .int .u32 n', .slice A8 d'.length c8] 39 (0, 0))
  ro : Own W 0 E (.slice A8 d'.length c8) d'
theorem QJ.next {w W W' : World} {o : OpV} {Bs wb : Nat} {k n : Int} {d dd : List UInt8} {A5 A6 : Option Addr} {c5 c6 : Nat} {rb : Nat} {k' n' : Int} {d' : List UInt8} {A8 : Option Addr} {c8 : Nat} (h : QJ w W o Bs wb k n d A5 c5 A6 c6 dd rb k' n' d' A8 c8) (b : Below W.heap.size W W') : QJ w W' o Bs wb k n d A5 c5 A6 c6 dd rb k' n' d' A8 c8 :=
  ⟨h.p.next b, (b.block _ (Array.getElem?_eq_some_iff.1 h.rr).1).trans h.rr, h.ro.below b (Nat.le_refl _)⟩
theorem new_wear (b : List UInt8) {i : Nat} : (List.replicate (b.length / 1024) (0 : Int)).getD i 0 = 0 := by
  rw [List.getD_eq_getElem?_getD, List.getElem?_replicate]
  split <;> rfl
theorem new_wearAt (b : List UInt8) (m : Int) (i : Nat) : (Fl.new b m).wearAt i = 0 := by
  show (List.replicate 8 (0 : Int)).getD i 0 = 0
  rw [List.getD_eq_getElem?_getD, List.getElem?_replicate]
  split <;> rfl
theorem new_leftAt (b : List UInt8) (m : Int) {i : Nat} (hi : i < nsec b) : (Fl.new b m).left (i : Int) = m := by
  unfold Fl.left
  have h : (Fl.new b m).has (i : Int) = true := by
    unfold Fl.has
    have : (Fl.new b m).bs = b := rfl
    rw [this]
    unfold nsec at hi
    simp
    omega
  rw [if_pos h, Int.toNat_natCast, new_wearAt]
  show m - 0 = m
  omega
theorem ofB_facts {n : Nat} (h : ofB n 5 = true) : n % 1024 = 0 ∧ 0 < n ∧ n ≤ 8192 := by
  simp [ofB, canB] at h
  omega
theorem ra_new {W : World} {b : List UInt8} {j r : Nat} {AB AW A : Option Addr} {cB cW c : Nat} (m1 : b.length % 1024 = 0) (m2 : 0 < b.length) (m3 : b.length ≤ 8192) (g : IsG W r (Fl.new b 5).bs (List.replicate (b.length / 1024) 0) 5 0 AB cB AW cW)
    (row : JRow W j r (tell (Fl.new b 5).bs) A c (newest (Fl.new b 5).bs).isSome ((newest (Fl.new b 5).bs).getD 0) false) (jx : ¬ GX r AB AW j) : RA W (Fl.new b 5) (List.replicate (b.length / 1024) 0) 5 0 j r AB cB AW cW :=
  ⟨g, ⟨A, c, row⟩, by simp [nsec, newBs], m3, m2, m1, fun i hi => by rw [new_wear, new_wearAt], fun i hi => by rw [new_wear, new_leftAt b 5 hi]; omega, fun i hi => by rw [new_wear]; omega, by omega, by omega, by omega, jx⟩
set_option maxHeartbeats 4000000 in
theorem any_go (A : Option Addr) (c : Nat) (b : List UInt8) (o : OpV) (w : World) (hr : Rd w w.heap.size A b) (h : b.length ≤ 10000) (hok : ofB b.length 5 = true) (h3 : 3 ≤ nsec b) (ho : o.Ok) :
    Calls Try.prog 3 #[.slice A b.length c, .agg o.vals] w fun e w' => e = .returned (.bool true) ∧ Below w.heap.size w w' := by
  have B0 := Lib.hid (below1 w (.cells o.vals OT))
  have OB := Lib.hid (heap_alloc_new w (.cells o.vals OT))
  have K := Lib.hid (fun W => Jou.known_any W)
  have O1 := Lib.hid (fun W (hb : Below w.heap.size w W) => of_yes A b.length c 5 b W ((hr.below hb).mono hb.size) rfl (by omega) (by omega) hok)
  have O2 := Lib.hid (fun W (hb : Below w.heap.size w W) => gof_yes A b.length c 5 b W ((hr.below hb).mono hb.size) rfl (by omega) hok)
  have HO := Lib.hid ho
  have d1 : decide (10000 < b.length) = false := by simp; omega
  obtain ⟨m1, m2, m3⟩ := ofB_facts hok
  clear hr hok ho
  unfold OpV.vals at *
  unfold OT at *
  go_enter Try.func3, Try.ntmps3
  go_wp2_with fail
  refine (O1.out _ B0.out).mono ?_
  rintro e w1 ⟨p, D, c1, rfl, S1⟩
  have B1 := Lib.hid (B0.out.trans (S1.b.mono B0.out.size))
  have hS1 := Lib.hid S1
  have hOB := Lib.hid ((S1.b.block w.heap.size (by simp)).trans OB.out)
  have hp0 : w.heap.size < p ∧ w.heap.size < D := by
    have := S1.hp
    have := S1.hD
    simp at *
    omega
  clear S1 OB
  go_wp2_with fail
  refine (O2.out _ B1.out).mono ?_
  rintro e w2 ⟨r, AB, cB, AW, cW, rfl, G2, b2, hr2⟩
  have hF := hS1.out.i.below b2 (Nat.le_refl _)
  have hFlt := hS1.out.i
  have B2 := Lib.hid (B1.out.trans (b2.mono B1.out.size))
  have hOB2 := Lib.hid ((b2.block w.heap.size (Array.getElem?_eq_some_iff.1 hOB.out).1).trans hOB.out)
  have bx := below1 w2 (.cells #[at_ p, at_ r, .pointer none, .pointer none] PT)
  have hplt : p < w1.heap.size := (Array.getElem?_eq_some_iff.1 hFlt.blk).1
  have hDlt : D < w1.heap.size := by
    obtain ⟨gB, cap, hv, hge, hgs, _⟩ := hFlt.own.some_ hFlt.ok.len0
    injection hv with e1
    injection e1 with e1
    injection e1 with e1
    subst e1
    exact hgs
  have hgx : ∀ i, GX r AB AW i → r ≤ i ∧ i < w2.heap.size := fun i hi => ⟨G2.gx_ge m2 (by simp; omega) hi, gx_some G2 hi⟩
  have hGX := Lib.hid hgx
  have w2s := b2.size
  have PO := Lib.hid (popen_ok (x := w2.heap.size) (hF.below bx (Nat.le_refl _)) (s := Fl.new b 5) (G2.below bx (Nat.le_refl _)) rfl (by simp [nsec, newBs]) m3 h3 (heap_alloc_new w2 _)
    (by omega) (by omega) (fun hx => by have := hgx _ hx; omega))
  have BX := Lib.hid (B2.out.trans (bx.mono B2.out.size))
  have hOBX := Lib.hid ((bx.block w.heap.size (Array.getElem?_eq_some_iff.1 hOB2.out).1).trans hOB2.out)
  clear hF bx G2 b2 O1 O2 hgx hFlt hOB hOB2
  unfold PT at *
  go_wp2_with fail
  refine PO.out.mono ?_
  rintro e w4 ⟨rfl, j, A4, c4, AJ4, f4, hj⟩
  have sz : (w2.alloc (.cells #[at_ p, at_ r, .pointer none, .pointer none] 37)).heap.size = w2.heap.size + 1 := by simp
  rw [sz] at AJ4 hj
  have B4 := Lib.hid (BX.out.trans (f4.below (B := w.heap.size) BX.out.size (fun k hk => by have := B2.out.size; omega)))
  have OB4 := Lib.hid ((f4.block w.heap.size (by rw [sz]; have := B2.out.size; omega) (fun e => by omega)).trans hOBX.out)
  have HJ4 := Lib.hid AJ4
  have JL4 := Lib.hid (And.intro AJ4.ij.fsize (Array.getElem?_eq_some_iff.1 AJ4.jr).1)
  have x2 := cell_of AJ4.px 2
  clear f4 AJ4 hOBX BX B2 B1 B0 hS1 PO sz
  generalize w2.heap.size = x at *
  have PA := Lib.hid (palike_any HJ4.out rfl (by simp [nsec, newBs]) m3 (fun i hi => by rw [new_wear, new_wearAt]))
  go_wp2_with fail
  refine PA.out.mono ?_
  rintro e w5 ⟨rfl, b5⟩
  have HJ5 := Lib.hid (HJ4.out.below b5)
  have B5 := Lib.hid (B4.out.trans (b5.mono B4.out.size))
  have OB5 := Lib.hid ((b5.block w.heap.size (Array.getElem?_eq_some_iff.1 OB4.out).1).trans OB4.out)
  have BS5 := Lib.hid b5.size
  clear b5 x2 PA HJ4 B4 OB4
  have RAN := Lib.hid (fun (W : World) (j : Nat) (A : Option Addr) (c : Nat) g row jx => ra_new (W := W) (b := b) (j := j) (r := r) (AB := AB) (AW := AW) (A := A) (cB := cB) (cW := cW) (c := c) m1 m2 m3 g row jx)
  have FRE := Lib.hid (fun (k : Int) (d : List UInt8) => app_fresh (s := Fl.new b 5) (k := k) (d := d) rfl rfl (by show (0 : Int) ≤ 0; omega))
  have HON := Lib.hid (show (Fl.new b 5).on = true from rfl)
  have HOP := Lib.hid (show (Fl.new b 5).ops + 2000 ≤ 4611686018427387904 by show (0 : Int) + 2000 ≤ _; omega)
  have H3 := Lib.hid (show 3 ≤ nsec (Fl.new b 5).bs from h3)
  have TB := Lib.hid (tell_bd (Fl.new b 5).bs)
  generalize Fl.new b 5 = s at *
  generalize List.replicate (b.length / 1024) (0 : Int) = ws at *
  have x2 := cell_of HJ5.out.px 2
  have LA := Lib.hid (last_any HJ5.out.ij)
  go_wp2_with fail
  refine LA.out.mono ?_
  rintro e w6 ⟨v6, rfl, o6, b6⟩
  obtain ⟨A6, c6, rfl, r6⟩ := o6.form
  have bw := below1 w6 (.cells #[.int .i64 (tell s.bs).k, .int .u32 (tell s.bs).n, .slice A6 (tell s.bs).d.length c6] 39)
  have ROW6 := Lib.hid (heap_alloc_new w6 (.cells #[.int .i64 (tell s.bs).k, .int .u32 (tell s.bs).n, .slice A6 (tell s.bs).d.length c6] 39))
  have b67 := b6.trans (bw.mono b6.size)
  have B6 := Lib.hid (B5.out.trans (b67.mono B5.out.size))
  have HJ6 := Lib.hid (HJ5.out.below b67)
  have OB6 := Lib.hid ((b67.block w.heap.size (Array.getElem?_eq_some_iff.1 OB5.out).1).trans OB5.out)
  have WO6 := Lib.hid ((o6.below bw (Nat.le_refl _)).lower BS5.out)
  have WL := Lib.hid (show w4.heap.size ≤ w6.heap.size from Nat.le_trans BS5.out b6.size)
  have u0 := cell_of OB6.out 0
  have u1 := cell_of OB6.out 1
  have u2 := cell_of OB6.out 2
  have u3 := cell_of OB6.out 3
  have u4 := cell_of OB6.out 4
  have DA := Lib.hid (fun W => data_any o HO.out 0 (by omega) W)
  clear o6 r6 b6 bw b67 B5 HJ5 OB5 BS5 LA x2
  go_wp2_with fail
  refine (DA.out _).mono ?_
  rintro e w7 ⟨v7, dd, rfl, hdl, o7, b7⟩
  obtain ⟨A7, c7, rfl, r7⟩ := o7.form
  have hd1 : dd.length ≤ 1000 := by omega
  have PJ7 := Lib.hid (show PJ w w7 o w4.heap.size w6.heap.size (tell s.bs).k (tell s.bs).n (tell s.bs).d A6 c6 A7 c7 dd from
    ⟨B6.out.trans (b7.mono B6.out.size), (b7.block w.heap.size (Array.getElem?_eq_some_iff.1 OB6.out).1).trans OB6.out, (b7.block w6.heap.size (Array.getElem?_eq_some_iff.1 ROW6.out).1).trans ROW6.out, WL.out, WO6.out.below b7 (Nat.le_refl _),
      o7.lower (by have := WL.out; simp; omega)⟩)
  have HJ7 := Lib.hid (HJ6.out.below b7)
  have R7 := Lib.hid r7
  clear o7 r7 b7 u0 u1 u2 u3 u4 B6 HJ6 OB6 ROW6 WO6 WL DA hdl
  have x2 := cell_of HJ7.out.px 2
  have u1 : w7.cell? ⟨w.heap.size, 1, none⟩ = some (.int .i64 o.K) := cell_of PJ7.out.ob 1
  have AP := Lib.hid (fun (W : World) (hb : Below w7.heap.size w7 W) => append_any o.K A7 c7 dd HO.out.K0 HO.out.K1 (HJ7.out.ij.below hb (Nat.le_refl _)) ((R7.out.below hb).mono hb.size) (by omega) HOP.out)
  have HF := Lib.hid (FRE.out o.K dd)
  obtain ⟨⟨s', a⟩, hsa⟩ : ∃ q, q = app s o.K dd := ⟨_, rfl⟩
  rw [← hsa] at AP HF
  clear hsa
  have hJX : ∀ i, JX (x + 1) (x + 1 + 1) p D i → w.heap.size < i ∧ i < w4.heap.size ∧ i ≠ x ∧ i ≠ j ∧ ¬ GX r AB AW i := by
    intro i hi
    have h1 := JL4.out.1
    have h2 : ∀ i, GX r AB AW i → r ≤ i ∧ i < x := hGX.out
    unfold JX at hi
    rcases hi with rfl | rfl | rfl | rfl
    · exact ⟨by omega, by omega, by omega, by omega, fun hg => by have := h2 _ hg; omega⟩
    · exact ⟨by omega, by omega, by omega, by omega, fun hg => by have := h2 _ hg; omega⟩
    · exact ⟨by omega, by omega, by omega, by omega, fun hg => by have := h2 _ hg; omega⟩
    · exact ⟨by omega, by omega, by omega, by omega, fun hg => by have := h2 _ hg; omega⟩
  have HJX := Lib.hid hJX
  clear hJX
  go_wp2_with fail
  go_region_held (fun W => W.cell? ⟨x, 2, none⟩ = some (at_ (x + 1)) ∧ W.cell? ⟨w.heap.size, 1, none⟩ = some (.int .i64 o.K)) (first | exact ⟨x2, u1⟩ | exact ⟨y2, y1⟩) (first | (go_at_call 16; refine (AP.out _ (Below.refl _ _).drew).mono ?_; rintro e w8 ⟨rfl, fl8, far8, _⟩; have y2 : w8.cell? ⟨x, 2, none⟩ = some (at_ (x + 1)) := cell_of ((far8.block x (Array.getElem?_eq_some_iff.1 HJ7.out.px).1 (fun hx => (HJX.out _ hx).2.2.1 rfl)).trans HJ7.out.px) 2; have y1 : w8.cell? ⟨w.heap.size, 1, none⟩ = some (.int .i64 o.K) := cell_of ((far8.block w.heap.size (Array.getElem?_eq_some_iff.1 PJ7.out.ob).1 (fun hx => by have := (HJX.out _ hx).1; omega)).trans PJ7.out.ob) 1))
  clear y1 y2
  have far8 := ((FarS.refl (JX (x + 1) (x + 1 + 1) p D) w7).drew).trans far8
  have PJ8 := Lib.hid (PJ7.out.far far8 (fun i hi => ⟨(HJX.out i hi).1, (HJX.out i hi).2.1⟩))
  have RA8 := Lib.hid (RAN.out w8 j A4 c4 (HJ7.out.g.keepX fun i hi => far8.block i (gx_some HJ7.out.g hi) (fun hx => (HJX.out i hx).2.2.2.2 hi)) (HJ7.out.jr.far far8 (fun hx => (HJX.out _ hx).2.2.2.1 rfl)) (fun hg => by have h2 : ∀ i, GX r AB AW i → r ≤ i ∧ i < x := hGX.out; have := h2 _ hg; omega))
  have px8 := (far8.block x (Array.getElem?_eq_some_iff.1 HJ7.out.px).1 (fun hx => (HJX.out _ hx).2.2.1 rfl)).trans HJ7.out.px
  have PX8 := Lib.hid px8
  have FL8 := Lib.hid fl8
  clear x2 u1 fl8 far8 px8 AP R7 PJ7 HJ7
  have x3 := cell_of PX8.out 3
  have u1 : w8.cell? ⟨w.heap.size, 1, none⟩ = some (.int .i64 o.K) := cell_of PJ8.out.ob 1
  have AP2 := Lib.hid (fun (W : World) (hb : Below w8.heap.size w8 W) => rapp_any o.K A7 c7 dd HO.out.K0 HO.out.K1 (own_rd (PJ8.out.next hb).xo) (by omega) (RA8.out.below hb))
  rw [← HF.out.code] at AP2
  have hRX : ∀ i, RX j r AB AW i → w.heap.size < i ∧ i < w4.heap.size ∧ i ≠ p ∧ i ≠ D ∧ i ≠ x := by
    intro i hi
    have h1 := JL4.out
    have h2 : ∀ i, GX r AB AW i → r ≤ i ∧ i < x := hGX.out
    rcases hi with rfl | hg
    · exact ⟨by omega, by omega, by omega, by omega, by omega⟩
    · have := h2 _ hg
      exact ⟨by omega, by omega, by omega, by omega, by omega⟩
  have HRX := Lib.hid hRX
  clear hRX
  go_wp2_with fail
  go_region_held (fun W => W.cell? ⟨x, 3, none⟩ = some (at_ j) ∧ W.cell? ⟨w.heap.size, 1, none⟩ = some (.int .i64 o.K)) (first | exact ⟨x3, u1⟩ | exact ⟨y3, y1⟩) (first | (go_at_call 17; refine (AP2.out _ (Below.refl _ _).drew).mono ?_; rintro e w9 ⟨rfl, far9⟩; have y3 : w9.cell? ⟨x, 3, none⟩ = some (at_ j) := cell_of ((far9.block x (Array.getElem?_eq_some_iff.1 PX8.out).1 (fun hx => (HRX.out _ hx).2.2.2.2 rfl)).trans PX8.out) 3; have y1 : w9.cell? ⟨w.heap.size, 1, none⟩ = some (.int .i64 o.K) := cell_of ((far9.block w.heap.size (Array.getElem?_eq_some_iff.1 PJ8.out.ob).1 (fun hx => by have := (HRX.out _ hx).1; omega)).trans PJ8.out.ob) 1))
  clear y1 y3
  have far9 := ((FarS.refl (RX j r AB AW) w8).drew).trans far9
  have PJ9 := Lib.hid (PJ8.out.far far9 (fun i hi => ⟨(HRX.out i hi).1, (HRX.out i hi).2.1⟩))
  have FL9 := IsF.farS FL8.out far9 (fun hx => (HRX.out _ hx).2.2.1 rfl) (fun hx => (HRX.out _ hx).2.2.2.1 rfl)
  have HS : s'.on = true ∧ 3 ≤ nsec s'.bs := by
    by_cases ha : a = 0
    · obtain ⟨h1, h2, _⟩ := HF.out.new ha
      exact ⟨h1, by rw [h2]; exact H3.out⟩
    · rw [HF.out.old ha]
      exact ⟨HON.out, H3.out⟩
  have OP := Lib.hid (open_ok FL9 HS.1 HS.2)
  clear x3 u1 far9 FL9 HS AP2 RA8 PX8 FL8 PJ8
  go_wp2_with fail
  refine OP.out.mono ?_
  rintro e w10 ⟨rfl, i10, b10⟩
  have PJ10 := Lib.hid (PJ9.out.next b10)
  have LA := Lib.hid (last_any i10)
  clear i10 b10 PJ9 OP
  go_wp2_with fail
  refine LA.out.mono ?_
  rintro e w11 ⟨v11, rfl, o11, b11⟩
  obtain ⟨A11, c11, rfl, r11⟩ := o11.form
  have br := below1 w11 (.cells #[.int .i64 (tell s'.bs).k, .int .u32 (tell s'.bs).n, .slice A11 (tell s'.bs).d.length c11] 39)
  have b12 := b11.trans (br.mono b11.size)
  have Q12 := Lib.hid (show QJ w (w11.alloc (.cells #[.int .i64 (tell s'.bs).k, .int .u32 (tell s'.bs).n, .slice A11 (tell s'.bs).d.length c11] 39)) o w4.heap.size w6.heap.size (tell s.bs).k (tell s.bs).n (tell s.bs).d A6 c6 A7 c7 dd w11.heap.size (tell s'.bs).k (tell s'.bs).n (tell s'.bs).d A11 c11 from
    ⟨PJ10.out.next b12, heap_alloc_new w11 _, (o11.lower (Nat.zero_le _)).below br (Nat.le_refl _)⟩)
  have TB' := tell_bd s'.bs
  clear b11 br b12 o11 r11 LA PJ10
  by_cases ha : a = 0
  · obtain ⟨_, _, n1, n2, n3, n4⟩ := HF.out.new ha
    have hn1 : IntKind.u32.wrap ((tell s.bs).n + 1) = (tell s.bs).n + 1 := IntWalk.u32_in _ (by have h1 := TB'.1; have h2 := TB.out.1; rw [n3] at h1; omega)
    clear TB'
    rw [n2, n3, n4] at Q12
    rw [n1, n2, n3, n4]
    subst ha
    clear n1 n2 n3 n4 HF
    have K0 := K
    clear K
    have QD := Q12.out
    have r0 := cell_of QD.rr 0
    have r1 := cell_of QD.rr 1
    have r2 := cell_of QD.rr 2
    have q0 := cell_of QD.p.wr 0
    have q1 := cell_of QD.p.wr 1
    have q2 := cell_of QD.p.wr 2
    have u1 : World.cell? _ ⟨w.heap.size, 1, none⟩ = some (.int .i64 o.K) := cell_of QD.p.ob 1
    have rw1 := QD.rr
    have rw2 := QD.p.wr
    have s1 := run_str (own_rd QD.ro) dd.length c11 rfl 22 5 9 Try.underlying22 Try.underlying5 Try.underlying9
    have s2 := run_str (own_rd QD.p.xo) dd.length c7 rfl 22 5 9 Try.underlying22 Try.underlying5 Try.underlying9
    have HD := Lib.hid QD
    clear QD Q12
    go_wp2_with (first
      | (go_at_call 9; refine (K0.out _).mono ?_; rintro e w' ⟨rfl, b⟩; have T := Lib.hid (HD.out.next b); clear b))
    go_ret
    exact ⟨rfl, T.out.p.b⟩
  · have hs := HF.out.old ha
    subst hs
    have ha' : (a != 0) = true := by simpa using ha
    clear HF ha TB'
    have K0 := K
    clear K
    have QD := Q12.out
    have r0 := cell_of QD.rr 0
    have r1 := cell_of QD.rr 1
    have r2 := cell_of QD.rr 2
    have q0 := cell_of QD.p.wr 0
    have q1 := cell_of QD.p.wr 1
    have q2 := cell_of QD.p.wr 2
    have u1 : World.cell? _ ⟨w.heap.size, 1, none⟩ = some (.int .i64 o.K) := cell_of QD.p.ob 1
    have rw1 := QD.rr
    have rw2 := QD.p.wr
    have s1 := run_str (own_rd QD.ro) (tell s'.bs).d.length c11 rfl 22 5 9 Try.underlying22 Try.underlying5 Try.underlying9
    have s2 := run_str (own_rd QD.p.xo) dd.length c7 rfl 22 5 9 Try.underlying22 Try.underlying5 Try.underlying9
    have HD := Lib.hid QD
    clear QD Q12
    go_wp2_with (first
      | (go_at_call 19; refine (same_any _ _ _ _ A11 A6 c11 c6 _ (tell s'.bs).d (tell s'.bs).d _ (own_rd HD.out.ro) (own_rd HD.out.p.wo) (Nat.le_refl _)).mono ?_; rw [sameB_self]; rintro e w' ⟨rfl, b⟩; have T := Lib.hid (HD.out.next b); clear b)
      | (go_at_call 9; refine (K0.out _).mono ?_; rintro e w' ⟨rfl, b⟩; have T2 := Lib.hid (T.out.next b); clear b))
    go_ret
    exact ⟨rfl, T2.out.p.b⟩
end Jou
end Go.Proofs.Ytkkbjngjjeajoaa
