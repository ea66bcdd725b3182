/-
  The document's Lent: an entry, and entries, in new memory; All.
  The document's Lent of a list of entries; All.
-/
import Derived.Test.YtpdnfdpoebhjoaaDoorDicRef
import Derived.Test.YtpdnfdpoebhjoaaDoorDicMore
import Derived.Test.YtpdnfdpoebhjoaaDoorDicSame
import Derived.Laws.Rows
import Derived.Test.YtpdnfdpoebhjoaaDoorDicNew
import Derived.Test.YtpdnfdpoebhjoaaDoorDicVals
import Derived.Deep.RegionHeld3
namespace Go.Proofs.YtpdnfdpoebhjoaaDoor
namespace Dic
open Go.RowKit Mem Ent
set_option linter.unusedVariables false
set_option linter.unusedSimpArgs false
set_option maxRecDepth 100000

theorem info_byte : (Tryd.prog.info? 5).map (fun i => (i.zero, i.size, i.bytes)) = some (some (.int .u8 0), 1, 1) := by kernel_rfl
/-- What the document's Lent of an entry ends with. -/
def LentE (w : World) (x : En) (e : Ending) (w' : World) : Prop := ∃ A c, e = .returned ((ev x).go (.slice A x.d.length c)) ∧ Own w' w.heap.size YT (.slice A x.d.length c) x.d ∧ Below w.heap.size w w'

set_option maxHeartbeats 4000000 in
theorem rlent_any (x : En) (w : World) (hr : Rd w w.heap.size x.A x.d) (hl : x.d.length ≤ 1000) :
    Calls Tryd.prog 20 #[(ev x).go (.slice x.A x.d.length x.c)] w (LentE w x) := by
  obtain ⟨i0, hi, hz0, hz1, hz2⟩ := info_parts info_byte
  have b2 := two_b w (.cells ((ev x).row (.slice x.A x.d.length x.c)) 38) (.cells (Ev.zero.row (.slice none 0 0)) 38)
  have R1 : ((w.alloc (.cells ((ev x).row (.slice x.A x.d.length x.c)) 38)).alloc (.cells (Ev.zero.row (.slice none 0 0)) 38)).heap[w.heap.size]? = some (.cells ((ev x).row (.slice x.A x.d.length x.c)) 38) := by
    rw [Below.heap_alloc _ _ _ (by simp)]
    exact heap_alloc_new w _
  have R2 : ((w.alloc (.cells ((ev x).row (.slice x.A x.d.length x.c)) 38)).alloc (.cells (Ev.zero.row (.slice none 0 0)) 38)).heap[w.heap.size + 1]? = some (.cells (Ev.zero.row (.slice none 0 0)) 38) := by
    have := heap_alloc_new (w.alloc (.cells ((ev x).row (.slice x.A x.d.length x.c)) 38)) (.cells (Ev.zero.row (.slice none 0 0)) 38)
    simpa using this
  have o1 := Own.nil ((w.alloc (.cells ((ev x).row (.slice x.A x.d.length x.c)) 38)).alloc (.cells (Ev.zero.row (.slice none 0 0)) 38)) ((w.alloc (.cells ((ev x).row (.slice x.A x.d.length x.c)) 38)).alloc (.cells (Ev.zero.row (.slice none 0 0)) 38)).heap.size YT
  have r1 := (hr.below b2).mono b2.size
  have B2 := Lib.hid b2
  have R1 := Lib.hid R1
  have R2 := Lib.hid R2
  have S2 := Lib.hid (show w.heap.size + 2 ≤ ((w.alloc (.cells ((ev x).row (.slice x.A x.d.length x.c)) 38)).alloc (.cells (Ev.zero.row (.slice none 0 0)) 38)).heap.size by simp)
  clear b2 hr
  go_enter Tryd.func20, Tryd.ntmps20
  go_wp2_with (at_builtin; go_loud (refine wpList_app _ rfl (.tmp 4) (.tmp 6) 36 rfl ((w.alloc (.cells ((ev x).row (.slice x.A x.d.length x.c)) 38)).alloc (.cells (Ev.zero.row (.slice none 0 0)) 38)).heap.size 5 i0 Tryd.underlying36 hi hz0 hz1 hz2 (.slice none 0 0) [] rfl o1 x.A x.d.length x.c x.d rfl rfl _ r1 (by simp; omega) (Nat.le_refl _) ?_; intro v2 w3 o2 g2 t2; simp only [List.nil_append] at o2; clear o1 r1; have P2 := Lib.hid o2; have G2 := Lib.hid g2; obtain ⟨A3, c3, rfl, _⟩ := o2.form; have S1 := (G2.out.block w.heap.size (Nat.lt_of_lt_of_le (show w.heap.size < w.heap.size + 2 by omega) S2.out) (by simp [Value.ownBlock])).trans R1.out; have T1 := (G2.out.block (w.heap.size + 1) (Nat.lt_of_lt_of_le (show w.heap.size + 1 < w.heap.size + 2 by omega) S2.out) (by simp [Value.ownBlock])).trans R2.out; obtain ⟨y0, y1, y2, y3, y4, y5, y6, y7, y8, y9, y10⟩ := row_cells S1; obtain ⟨s0, s1, s2, s3, s4, s5, s6, s7, s8, s9, s10⟩ := row_cells T1; have f10 := frozen_of_row w3 w.heap.size 10 _ _ S1; have fz : ∀ j, w3.frozen? ⟨w.heap.size + 1, j, none⟩ = false := (fun j => frozen_of_row w3 (w.heap.size + 1) j _ _ T1); have HS := Lib.hid S1; have HT := Lib.hid T1; clear o2 g2 t2 S1 T1))
  (try simp only [Exit.inBlock, Exit.then])
  have T1 := (Below.heap_setCell w3 ⟨w.heap.size, 10, none⟩ (.slice A3 x.d.length c3) (w.heap.size + 1) (by show w.heap.size + 1 ≠ w.heap.size; omega)).trans HT.out
  have B3 := B2.out.grown G2.out B2.out.size (by simp [Value.ownBlock])
  have B4 := B3.setCell (p := ⟨w.heap.size, 10, none⟩) (Nat.le_refl _) (.slice A3 x.d.length c3)
  have PR := put11_row T1 (.int .i64 (ev x).ix) (.int .i64 (ev x).sub) (.string ⟨(ev x).nm.toArray⟩) (.int .i64 (ev x).ty) (.int .i64 (ev x).ac) (.bool (ev x).mp) (.bool (ev x).st) (.int .i64 (ev x).mx) (.int .i64 (ev x).lo) (.int .i64 (ev x).hi) (.slice A3 x.d.length c3)
  have PB := put11_below B4 (g := w.heap.size + 1) (Nat.le_succ _) (.int .i64 (ev x).ix) (.int .i64 (ev x).sub) (.string ⟨(ev x).nm.toArray⟩) (.int .i64 (ev x).ty) (.int .i64 (ev x).ac) (.bool (ev x).mp) (.bool (ev x).st) (.int .i64 (ev x).mx) (.int .i64 (ev x).lo) (.int .i64 (ev x).hi) (.slice A3 x.d.length c3)
  have O4 := own_keep P2.out (W' := w3.setCell ⟨w.heap.size, 10, none⟩ (.slice A3 x.d.length c3)) fun q hq => Below.heap_setCell w3 ⟨w.heap.size, 10, none⟩ _ q fun e => by
    have e' : q = w.heap.size := e
    have h1 := (World.ownsRow.lt P2.out q hq).1
    have := S2.out
    omega
  have O5 := own_keep O4 (W' := put11 _ (w.heap.size + 1) (.int .i64 (ev x).ix) (.int .i64 (ev x).sub) (.string ⟨(ev x).nm.toArray⟩) (.int .i64 (ev x).ty) (.int .i64 (ev x).ac) (.bool (ev x).mp) (.bool (ev x).st) (.int .i64 (ev x).mx) (.int .i64 (ev x).lo) (.int .i64 (ev x).hi) (.slice A3 x.d.length c3)) fun q hq => put11_other (by
    have h1 := (World.ownsRow.lt O4 q hq).1
    have := S2.out
    omega) _ _ _ _ _ _ _ _ _ _ _
  exact bodyPost_ret (results_cell_row rfl _ _ (w.heap.size + 1) _ _ _ _ rfl PR Tryd.underlying38 rfl size_ent) rfl ⟨A3, c3, rfl, Own.lower O5 B2.out.size, PB⟩
end Dic
end Go.Proofs.YtpdnfdpoebhjoaaDoor

namespace Go.Proofs.YtpdnfdpoebhjoaaDoor
namespace Dic
open Go.RowKit Mem Ent
set_option linter.unusedVariables false
set_option linter.unusedSimpArgs false
set_option maxRecDepth 100000

theorem info_ent' : (Tryd.prog.info? 38).map (fun i => (i.zero, i.size, i.bytes)) = some (some (.agg #[.int .i64 0, .int .i64 0, .string ⟨#[]⟩, .int .i64 0, .int .i64 0, .bool false, .bool false, .int .i64 0, .int .i64 0, .int .i64 0, .slice none 0 0]), 11, 104) := by kernel_rfl
/-- Entries whose bytes are the call's own, each apart from the others. -/
structure LE (W : World) (B : Nat) (xs : List En) : Prop where
  own : ∀ x ∈ xs, Own W B YT (.slice x.A x.d.length x.c) x.d
  apart : xs.Pairwise fun x y => ∀ b, (Value.slice x.A x.d.length x.c).ownBlock = some b → (Value.slice y.A y.d.length y.c).ownBlock ≠ some b
theorem LE.below {W W' : World} {B : Nat} {xs : List En} (h : LE W B xs) (b : Below W.heap.size W W') : LE W' B xs := ⟨fun f hf => (h.own f hf).below b (Nat.le_refl _), h.apart⟩
theorem et_ne : ET ≠ YT := by decide
/-- While Lent runs: k are there. -/
structure LS (W : World) (es : List En) (vv : Value) (xs : List En) (wr : World) : Prop where
  own : wr.ownsRow W.heap.size ET 11 vv xs.length (flat enl xs)
  le : LE wr W.heap.size xs
  b : Below W.heap.size W wr
  eq : xs.map ev = (es.map ev).take xs.length
section
variable {W wr w5 w7 : World} {es xs : List En} {vv v7 : Value}
theorem LS.start (W : World) (es : List En) : LS W es (.slice none 0 0) [] W := ⟨World.ownsRow_nil _ _ _ _, ⟨fun x hx => by simp at hx, .nil⟩, Below.refl _ _, rfl⟩
theorem LS.next (h : LS W es vv xs wr) (b : Below wr.heap.size wr w5) : LS W es vv xs w5 := ⟨own_below h.own b, h.le.below b, h.b.trans (b.mono h.b.size), h.eq⟩
theorem LS.more (h : LS W es vv xs wr) (b : Below wr.heap.size wr w5) {x : En} (o : Own w5 wr.heap.size YT (.slice x.A x.d.length x.c) x.d) {ob : Obj} (own : w7.ownsRow W.heap.size ET 11 v7 (xs.length + 1) (flat enl xs ++ enl x)) (g7 : (w5.alloc ob).grownBy w7 vv.ownBlock)
    (hk : xs.length < es.length) (hx : ev x = ev (es.getD xs.length enZ)) : LS W es v7 (xs ++ [x]) w7 := by
  have h5 := h.next b
  have b6 := (Below.refl w5.heap.size w5).alloc (Nat.le_refl _) ob
  have h6 := h5.next b6
  have o6 := o.alloc ob
  have B7 : Below W.heap.size W w7 := h6.b.grown g7 h6.b.size (fun q hq => (h6.own.lt q hq).1)
  refine ⟨by rw [flat_snoc, List.length_append]; exact own, ⟨fun y hy => ?_, List.pairwise_append.2 ⟨h.le.apart, by simp, fun y hy z hz => ?_⟩⟩, B7, ?_⟩
  · rcases List.mem_append.1 hy with hy | hy
    · exact own_grown et_ne h6.own (h6.le.own y hy) g7
    · simp only [List.mem_singleton] at hy
      subst hy
      exact (own_grown et_ne h6.own o6 g7).lower h.b.size
  · simp only [List.mem_singleton] at hz
    subst hz
    intro q e1 e2
    have l1 := own_lt (h.le.own y hy) e1
    have l2 := own_lt o e2
    omega
  · rw [List.map_append, h.eq, List.length_append, List.length_singleton, List.take_succ_eq_append_getElem (by simpa using hk)]
    congr 1
    simp only [List.map_cons, List.map_nil]
    rw [hx]
    simp [List.getD_eq_getElem?_getD, hk]
end
/-- What the document's Lent of a list ends with. -/
def LentL (W : World) (es : List En) (e : Ending) (w' : World) : Prop :=
  ∃ A c xs, e = .returned (.slice A es.length c) ∧ w'.ownsRow W.heap.size ET 11 (.slice A es.length c) xs.length (flat enl xs) ∧ xs.length = es.length ∧ LE w' W.heap.size xs ∧ Below W.heap.size W w' ∧ xs.map ev = es.map ev

set_option maxHeartbeats 8000000 in
theorem rlentl_any (A : Option Addr) (c : Nat) (es : List En) (W : World) (hr : RdE W W.heap.size A es) (hl : es.length ≤ 200) (hd : ∀ j, j < es.length → (es.getD j enZ).d.length ≤ 1000) :
    Calls Tryd.prog 6 #[.slice A es.length c] W (LentL W es) := by
  obtain ⟨i0, hi, hz0, hz1, hz2⟩ := info_parts info_ent'
  have S := Lib.hid (LS.start W es)
  have HR := Lib.hid (fun X (b : Below W.heap.size W X) => hr.below b)
  have HD := Lib.hid hd
  clear hr hd
  go_enter Tryd.func6, Tryd.ntmps6
  go_wp2_with fail
  go_loopw [3, 4] (fun vv iv wr => ∃ (xs : List En), xs.length ≤ es.length ∧ iv = .int .i64 (xs.length : Int) ∧ Hid (LS W es vv xs wr)) (fun _ iv _ => es.length - (intOf iv).toNat)
  case atStart => exact ⟨[], by simp, rfl, S⟩
  case round =>
    obtain ⟨xs, hk, rfl, hS⟩ := hrel
    clear S
    by_cases hlt : xs.length < es.length
    · obtain ⟨g, off, hA, hgB, ROW, hrd⟩ := (HR.out W (Below.refl _ _)).at hlt rfl
      have dl := HD.out _ hlt
      have MORE := Lib.hid (fun w5 w7 v7 ob b x o own g7 (hx : ev x = ev (es.getD xs.length enZ)) => hS.out.more (w5 := w5) (w7 := w7) (v7 := v7) (ob := ob) b (x := x) o own g7 hlt hx)
      obtain ⟨k, hkk⟩ : ∃ k, xs.length = k := ⟨_, rfl⟩
      have j1 : (0 : Int) ≤ (k : Int) := by omega
      have j2 : (k : Int) < (es.length : Int) := by omega
      have k200 : k ≤ 200 := by omega
      have BW := Lib.hid hS.out.b
      subst hA
      rw [hkk] at ROW hrd dl MORE ⊢
      obtain ⟨q0, q1, q2, q3, q4, q5, q6, q7, q8, q9, q10⟩ := ROW.below hgB BW.out
      have LN := Lib.hid (rlent_any (es.getD k enZ) wr ((hrd.below BW.out).mono BW.out.size) dl)
      have OWN := hS.out.own
      rw [hkk] at OWN
      obtain ⟨A1, c1', rfl⟩ := row_form OWN
      have OWN := Lib.hid OWN
      have KK := Lib.hid hkk
      have MEAS := Lib.hid hk
      clear ROW hrd hgB hS hkk hk
      generalize es.getD k enZ = x at *
      go_wp2_with fail
      refine LN.out.mono ?_
      rintro e w3 ⟨A3, c3, rfl, o3, b3⟩
      have O3 := Lib.hid o3
      have B3 := Lib.hid b3
      have OW3 := Lib.hid ((own_below OWN.out b3).alloc (.cells (Ev.row (ev x) (.slice A3 x.d.length c3)) 38))
      have NC := Lib.hid (new_cells w3 (enl { x with A := A3, c := c3 }) 38)
      have ONE := Lib.hid (enl_one { x with A := A3, c := c3 })
      clear o3 b3 LN q0 q1 q2 q3 q4 q5 q6 q7 q8 q9 q10
      go_wp2_with (at_builtin; refine wpList_appX _ rfl (.tmp 11) (.tmp 17) 22 rfl W.heap.size 38 i0 _ 11 104 Tryd.underlying22 hi hz0 hz1 hz2 rfl (by decide) _ k (flat enl xs) rfl OW3.out (some ⟨w3.heap.size, 0, none⟩) 1 1 (enl { x with A := A3, c := c3 }) rfl rfl (.inr ⟨_, rfl, NC.out⟩) ONE.out (by unfold maxLen; omega) (by omega) (by have h1 := BW.out.size; have h3 := B3.out.size; simp; omega) ?_; intro v7 w7 o7 g7 t7; have M7 := Lib.hid (MORE.out w3 w7 v7 _ B3.out { x with A := A3, c := c3 } O3.out o7 g7 rfl); clear o7 g7 t7)
      go_roundw
      case rel => exact ⟨_, by have := MEAS.out; have := KK.out; simp; omega, by simp [KK.out], M7⟩
      case measure => simp [intOf]; omega
    · have hE : xs.length = es.length := by omega
      have S := hS.out
      obtain ⟨A1, c1', rfl⟩ := row_form S.own
      have EQ := Lib.hid (show xs.map ev = es.map ev by rw [S.eq, hE, List.take_of_length_le (by simp)])
      have S := Lib.hid S
      clear HR HD hS
      go_wp2_with fail
      go_ret
      exact ⟨A1, c1', xs, by rw [hE]; rfl, by rw [← hE]; exact S.out.own, hE, S.out.le, S.out.b, EQ.out⟩

set_option maxHeartbeats 4000000 in
theorem rall_yes {W : World} {A B : Option Addr} {xs ys : List En} (c d : Nat) (h1 : RdE W W.heap.size A xs) (h2 : RdE W W.heap.size B ys) (e : ys.map ev = xs.map ev) (hl : xs.length ≤ 200) (hd : ∀ j, j < xs.length → (xs.getD j enZ).d.length ≤ 1000) :
    Calls Tryd.prog 9 #[.slice A xs.length c, .slice B xs.length d] W fun e w' => e = .returned (.bool true) ∧ Below W.heap.size W w' := by
  have hy : ys.length = xs.length := by
    have := congrArg List.length e
    simpa using this
  have EQ := Lib.hid (fun k (hk : k < xs.length) => show ev (ys.getD k enZ) = ev (xs.getD k enZ) from by
    rw [← evs_at ys k, ← evs_at xs k, e])
  have R1 := Lib.hid (fun X (b : Below W.heap.size W X) => h1.below b)
  have R2 := Lib.hid (fun X (b : Below W.heap.size W X) => h2.below b)
  have HD := Lib.hid hd
  have HY := Lib.hid hy
  clear h1 h2 e hd hy
  go_enter Tryd.func9, Tryd.ntmps9
  go_wp2_with fail
  go_loopw [5] (fun iv wr => ∃ k : Nat, k ≤ xs.length ∧ iv = .int .i64 (k : Int) ∧ Hid (Below W.heap.size W wr)) (fun iv _ => xs.length - (intOf iv).toNat)
  case atStart => exact ⟨0, by omega, rfl, Lib.hid (Below.refl _ _)⟩
  case round =>
    obtain ⟨k, hk, rfl, hb⟩ := hrel
    by_cases hlt : k < xs.length
    · obtain ⟨g1, o1, hA1, hg1, W1, RD1⟩ := (R1.out W (Below.refl _ _)).at hlt rfl
      obtain ⟨g2, o2, hA2, hg2, W2, RD2⟩ := (R2.out W (Below.refl _ _)).at (j := k) (by rw [HY.out]; exact hlt) rfl
      have E := EQ.out k hlt
      have SH := HD.out k hlt
      have C1 := Lib.hid (fun X (b : Below W.heap.size W X) => W1.below hg1 b)
      have C2 := Lib.hid (fun X (b : Below W.heap.size W X) => W2.below hg2 b)
      have ed : (ys.getD k enZ).d = (xs.getD k enZ).d := congrArg Ev.d E
      have SM := Lib.hid (fun X (b : Below W.heap.size W X) => same_yes (ev (xs.getD k enZ)) (xs.getD k enZ).A (ys.getD k enZ).A (xs.getD k enZ).c (ys.getD k enZ).c X ((RD1.below b).mono b.size) (by
        have r := (RD2.below b).mono b.size
        rw [ed] at r
        exact r) SH)
      have SM2 : Hid (∀ X, Below W.heap.size W X → Calls Tryd.prog 27 #[(ev (xs.getD k enZ)).go (.slice (xs.getD k enZ).A (xs.getD k enZ).d.length (xs.getD k enZ).c), (ev (ys.getD k enZ)).go (.slice (ys.getD k enZ).A (ys.getD k enZ).d.length (ys.getD k enZ).c)] X fun x w' => x = .returned (.bool true) ∧ Below X.heap.size X w') := Lib.hid (fun X b => by
        rw [E, ed]
        exact SM.out X b)
      have NEXT := Lib.hid (fun X (b : Below wr.heap.size wr X) => hb.out.trans (b.mono hb.out.size))
      have HLT := Lib.hid hlt
      have j1 : (0 : Int) ≤ (k : Int) := by omega
      have j2 : (k : Int) < (xs.length : Int) := by omega
      subst hA1
      subst hA2
      clear W1 W2 RD1 RD2 E SH ed SM hg1 hg2 EQ R1 R2 hb HD
      generalize xs.getD k enZ = x at *
      generalize ys.getD k enZ = y at *
      go_wp2_with fail
      refine Txt.wp_region_textN 10 (fun X => Below wr.heap.size wr X) (by kernel_rfl) (by kernel_rfl) (by kernel_rfl) (by kernel_rfl) (fun _ _ _ _ _ h => h) (Below.refl _ _).drew ?_
      iterate 10 (
        apply Txt.step rfl
        · intro X hS K hK
          obtain ⟨p0, p1, p2, p3, p4, p5, p6, p7, p8, p9, p10⟩ := C1.out X (NEXT.out X hS)
          obtain ⟨y0, y1, y2, y3, y4, y5, y6, y7, y8, y9, y10⟩ := C2.out X (NEXT.out X hS)
          have SX := Lib.hid (SM2.out X (NEXT.out X hS))
          have HS := Lib.hid hS
          clear hS
          go_simp
          first
            | exact hK.out _ HS.out
            | (go_wp2_with (go_at_call 27; refine SX.out.mono ?_; rintro e w' ⟨rfl, b⟩; have T := Lib.hid (HS.out.trans (b.mono HS.out.size)); clear b)
               first | exact hK.out _ HS.out | exact hK.out _ T.out)
        · first | exact ⟨_, rfl⟩ | exact ⟨undef, rfl⟩)
      refine Txt.last fun w9 hS9 => ?_
      have N9 := Lib.hid (NEXT.out w9 hS9)
      clear hS9 C1 C2 SM2 NEXT
      go_wp2_with fail
      go_roundw
      case rel => exact ⟨k + 1, by have := HLT.out; omega, by go_num, N9⟩
      case measure => have := HLT.out; simp [intOf]; omega
    · clear EQ R1 R2 HD
      go_wp2_with fail
      go_ret
      exact ⟨rfl, hb.out⟩
end Dic
end Go.Proofs.YtpdnfdpoebhjoaaDoor
