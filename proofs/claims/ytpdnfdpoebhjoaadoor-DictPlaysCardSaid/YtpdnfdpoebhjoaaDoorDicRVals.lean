/-
  The document's dictionary: Values; two lists of values that are alike.
  The document's Same, of two lists of values that are alike.
-/
import Derived.Test.YtpdnfdpoebhjoaaDoorDicRef
import Derived.Test.YtpdnfdpoebhjoaaDoorDicSame
import Derived.Test.YtpdnfdpoebhjoaaDoorDicVals
import Derived.Deep.RegionHeld3
namespace Go.Proofs.YtpdnfdpoebhjoaaDoor
namespace Dic
open Go.RowKit Mem Ent
set_option linter.unusedVariables false
set_option linter.unusedSimpArgs false
set_option maxRecDepth 100000

/-- Entries and values as rows. -/
def zipR (xs : List En) (bs : List Bv) : List Rv := List.zipWith (fun x b => ⟨ev x, none, 0, none, b.d, 0⟩) xs bs
theorem zipR_len {xs : List En} {bs : List Bv} (h : bs.length = xs.length) : (zipR xs bs).length = xs.length := by simp [zipR, h]
theorem zipR_at {xs : List En} {bs : List Bv} (h : bs.length = xs.length) {k : Nat} (hk : k < xs.length) : (zipR xs bs).getD k Rv.zero = ⟨ev (xs.getD k enZ), none, 0, none, (bs.getD k Bv.zero).d, 0⟩ := by
  unfold zipR
  rw [List.getD_eq_getElem?_getD, List.getElem?_zipWith]
  simp [List.getD_eq_getElem?_getD, hk, show k < bs.length by omega]
theorem zipR_tri {xs : List En} {bs : List Bv} (h : bs.length = xs.length) : (zipR xs bs).map Rv.tri = tris (xs.map ev) (bs.map (·.d)) := by
  rw [← tris_rs]
  congr 1
  · unfold zipR evs
    rw [List.map_zipWith]
    apply List.ext_getElem?
    intro i
    rw [List.getElem?_zipWith, List.getElem?_map]
    by_cases hi : i < xs.length
    · simp [hi, show i < bs.length by omega]
    · simp [hi]
  · unfold zipR
    rw [List.map_zipWith]
    apply List.ext_getElem?
    intro i
    rw [List.getElem?_zipWith, List.getElem?_map]
    by_cases hi : i < xs.length
    · simp [hi, show i < bs.length by omega]
    · simp [hi, show ¬ i < bs.length by omega]
section
variable {W W' : World} {q : Nat} {vL vV : Value} {K : Nat → Prop}

set_option maxHeartbeats 8000000 in
theorem rvalues_any {s : Ds} (h : HasG W q vL vV K s) : Calls Tryd.prog 16 #[ptr q] W (ValuesEnds W (tris s.l s.v)) := by
  obtain ⟨xs, bs, h, e1, e2⟩ := h
  have hln := h.len
  rw [← e1, ← e2, ← zipR_tri hln]
  obtain ⟨i0, hi, hz0, hz1, hz2⟩ := info_parts info_val
  have few := h.few
  have c0 := h.c0
  obtain ⟨A, c, rfl⟩ := h.formL
  obtain ⟨Bq, d, rfl⟩ := h.formV
  have zl := zipR_len hln
  have AT := Lib.hid (fun k (hk : k < xs.length) => h.at hk rfl)
  have VA := Lib.hid (fun k (hk : k < xs.length) => h.val hk rfl)
  have CC := Lib.hid (fun X (b : Below W.heap.size W X) => And.intro (h.below b).c0 (h.below b).c1)
  have RD := Lib.hid (fun k (hk : k < xs.length) => show Rd W W.heap.size (bs.getD k Bv.zero).A (bs.getD k Bv.zero).d from (h.dataV _ (getD_mem (z := Bv.zero) (by rw [hln]; exact hk))).rd fun g hg => hg.1)
  have OK := Lib.hid (fun k (hk : k < xs.length) => h.okb _ (getD_mem (z := Bv.zero) (by rw [hln]; exact hk)))
  have ZA := Lib.hid (fun k (hk : k < xs.length) => zipR_at hln hk)
  have S := Lib.hid (VS.start W (zipR xs bs))
  generalize zipR xs bs = rs at *
  clear h e1 e2 hln
  go_enter Tryd.func16, Tryd.ntmps16
  go_wp2_with fail
  go_loopw [3, 4] (fun vv iv wr => ∃ (vs : List Vv), vs.length ≤ xs.length ∧ iv = .int .i64 (vs.length : Int) ∧ Hid (VS W rs vv vs wr)) (fun _ iv _ => xs.length - (intOf iv).toNat)
  case atStart => exact ⟨[], by simp, rfl, S⟩
  case round =>
    obtain ⟨vs, hk, rfl, hS⟩ := hrel
    clear S
    by_cases hlt : vs.length < xs.length
    · obtain ⟨g, c', e3, hg, QQ⟩ := AT.out vs.length hlt
      obtain ⟨g2, c2, e4, hg2, vc, _⟩ := VA.out vs.length hlt
      injection e3 with e3 _ _
      injection e4 with e4 _ _
      subst e3
      subst e4
      have hrd := RD.out _ hlt
      have hok := OK.out _ hlt
      have za := ZA.out _ hlt
      have MORE := Lib.hid (fun w5 w7 v7 ob b x o own g7 (hx : x.tri = (⟨ev (xs.getD vs.length enZ), none, 0, none, (bs.getD vs.length Bv.zero).d, 0⟩ : Rv).tri) => hS.out.more (w5 := w5) (w7 := w7) (v7 := v7) (ob := ob) b (x := x) o own g7 (by omega) (by rw [za]; exact hx))
      obtain ⟨k, hkk⟩ : ∃ k, vs.length = k := ⟨_, rfl⟩
      have j1 : (0 : Int) ≤ (k : Int) := by omega
      have j2 : (k : Int) < (xs.length : Int) := by omega
      have k96 : k ≤ 96 := by omega
      have BW := Lib.hid hS.out.b
      rw [hkk] at QQ vc hrd hok MORE ⊢
      have CK := Lib.hid (fun X (bb : Below W.heap.size W X) => show X.cell? ⟨q, 0, none⟩ = _ ∧ X.cell? ⟨q, 1, none⟩ = _ ∧ X.cell? ⟨g, k * 11, none⟩ = _ ∧ X.cell? ⟨g, k * 11 + 1, none⟩ = _ ∧ X.cell? ⟨g2, k, none⟩ = _ from
        ⟨(CC.out X bb).1, (CC.out X bb).2, (QQ.below hg bb).1, (QQ.below hg bb).2.1, (bb.cell (p := ⟨g2, k, none⟩) hg2).trans vc⟩)
      have JN := Lib.hid (fun X (b : Below wr.heap.size wr X) => rjoin_any (c := (bs.getD k Bv.zero).c) ((hrd.below (BW.out.trans (b.mono BW.out.size))).mono (BW.out.trans (b.mono BW.out.size)).size) (bs.getD k Bv.zero).d.length rfl hok)
      have OWN := hS.out.own
      rw [hkk] at OWN
      obtain ⟨A1, c1', rfl⟩ := row_form OWN
      have OWN := Lib.hid OWN
      have KK := Lib.hid hkk
      have MEAS := Lib.hid hk
      clear QQ AT VA CC RD OK ZA hS hkk hk vc hrd hg hg2 za c0 zl
      generalize xs.getD k enZ = x at *
      generalize bs.getD k Bv.zero = r at *
      obtain ⟨y0, y1, y2, y3, y4⟩ := CK.out wr BW.out
      go_wp2_with fail
      go_region_held3 (fun w' => w'.cell? ⟨q, 0, none⟩ = some (.slice (some ⟨g, 0, none⟩) xs.length c) ∧ w'.cell? ⟨q, 1, none⟩ = some (.slice (some ⟨g2, 0, none⟩) xs.length d) ∧ w'.cell? ⟨g, k * 11, none⟩ = some (.int .i64 x.ix) ∧ w'.cell? ⟨g, k * 11 + 1, none⟩ = some (.int .i64 x.sub) ∧ w'.cell? ⟨g2, k, none⟩ = some (.slice r.A r.d.length r.c))
        (first | (obtain ⟨z0, z1, z2, z3, z4⟩ := CK.out w7 M7.out.b; first | exact ⟨z0, z1, z2, z3, z4⟩ | exact z0 | exact z1 | exact z2 | exact z3 | exact z4) | (obtain ⟨z0, z1, z2, z3, z4⟩ := CK.out w5 (BW.out.trans (B5.out.mono BW.out.size)); first | exact ⟨z0, z1, z2, z3, z4⟩ | exact z0 | exact z1 | exact z2 | exact z3 | exact z4) | go_keep)
        (first
          | (go_at_call 26; refine (JN.out _ (below_drew wr)).mono ?_; rintro e w5 ⟨u, rfl, o5, b5⟩; obtain ⟨A5, c5, rfl, _⟩ := o5.form; have B5 := Lib.hid ((below_drew wr).trans (b5.mono (Nat.le_refl _))); have O5 := Lib.hid (show Own w5 wr.heap.size YT (.slice A5 r.d.length c5) r.d from o5); have W5 := Lib.hid ((own_below OWN.out B5.out).alloc (.cells #[.int .i64 x.ix, .int .i64 x.sub, .slice A5 r.d.length c5] 53)); have N5 := Lib.hid (new_cells w5 (Vv.vals ⟨x.ix, x.sub, A5, r.d, c5⟩) 53); have X5 := Lib.hid (vv_one ⟨x.ix, x.sub, A5, r.d, c5⟩); clear b5 o5)
          | (refine step_appX _ rfl (.tmp 14) (.tmp 40) 45 rfl W.heap.size 53 i0 _ 3 40 Tryd.underlying45 hi hz0 hz1 hz2 rfl (by decide) _ k (flat Vv.vals vs) rfl W5.out (some ⟨w5.heap.size, 0, none⟩) 1 1 (Vv.vals ⟨x.ix, x.sub, A5, r.d, c5⟩) rfl rfl (.inr ⟨_, rfl, N5.out⟩) X5.out (by unfold maxLen; omega) (by omega) (by have h1 := BW.out.size; have h3 := B5.out.size; simp; omega) ?_; intro v7 w7 o7 g7 t7; have M7 := Lib.hid (MORE.out w5 w7 v7 _ B5.out ⟨x.ix, x.sub, A5, r.d, c5⟩ O5.out o7 g7 rfl); clear o7 g7 t7))
      all_goals
        clear y0 y1 y2 y3 y4
        go_wp2_with fail
        go_roundw
        case rel => exact ⟨_, by have := MEAS.out; have := KK.out; simp; omega, by simp [KK.out], M7⟩
        case measure => simp [intOf]; omega
    · have hE : vs.length = xs.length := by omega
      have S := hS.out
      obtain ⟨A1, c1', rfl⟩ := row_form S.own
      have EQ := Lib.hid (show vs.map Vv.tri = rs.map Rv.tri by rw [S.eq, hE, ← zl, List.take_length])
      have S := Lib.hid S
      have cc := (CC.out wr S.out.b).1
      clear AT VA CC RD OK ZA hS c0
      go_wp2_with fail
      go_ret
      exact ⟨A1, c1', vs, rfl, S.out.own, S.out.lv, S.out.b, EQ.out⟩
end
end Dic
end Go.Proofs.YtpdnfdpoebhjoaaDoor

namespace Go.Proofs.YtpdnfdpoebhjoaaDoor
namespace Dic
open Go.RowKit Mem Ent
set_option linter.unusedVariables false
set_option linter.unusedSimpArgs false
set_option maxRecDepth 100000

theorem conv_of {w : World} {B : Nat} {A : Option Addr} {bs : List UInt8} (h : Rd w B A bs) (n c : Nat) (hn : n = bs.length) (t : List UInt8) (ht : t = bs) :
    (convert 36 9 (.slice A n c)).run Tryd.prog w = .ok (.string ⟨t.toArray⟩) w := by
  subst ht
  exact run_str (P := Tryd.prog) h n c hn 36 5 9 Tryd.underlying36 Tryd.underlying5 Tryd.underlying9

set_option maxHeartbeats 8000000 in
theorem rsame_yes {W : World} {b1 t1 b2 t2 : Nat} {A1 A2 : Option Addr} {vs us : List Vv} (c1 c2 : Nat) (h1 : VR W b1 t1 A1 vs) (h2 : VR W b2 t2 A2 us) (ht1 : t1 ≤ W.heap.size) (ht2 : t2 ≤ W.heap.size) (hn : vs.length ≤ 96) (e : us.map Vv.tri = vs.map Vv.tri) :
    Calls Tryd.prog 15 #[.slice A1 vs.length c1, .slice A2 us.length c2] W fun e w' => e = .returned (.bool true) ∧ Below W.heap.size W w' := by
  have hl : us.length = vs.length := by
    have := congrArg List.length e
    simpa using this
  rw [hl]
  have EQ := Lib.hid (fun k (hk : k < vs.length) => show (us.getD k Vv.zero).ix = (vs.getD k Vv.zero).ix ∧ (us.getD k Vv.zero).sub = (vs.getD k Vv.zero).sub ∧ (us.getD k Vv.zero).d = (vs.getD k Vv.zero).d from by
    have e1 := congrArg (fun l : List (Int × Int × List UInt8) => l[k]?) e
    simp only [List.getElem?_map] at e1
    rw [List.getElem?_eq_getElem (show k < us.length by omega), List.getElem?_eq_getElem hk, Option.map_some, Option.map_some] at e1
    have e2 := Option.some.inj e1
    unfold Vv.tri at e2
    injection e2 with e3 e4
    injection e4 with e4 e5
    simp only [List.getD_eq_getElem?_getD, hk, show k < us.length by omega, List.getElem?_eq_getElem, Option.getD_some]
    exact ⟨e3, e4, e5⟩)
  have R1 := Lib.hid (fun X (b : Below W.heap.size W X) => h1.below ht1 b)
  have R2 := Lib.hid (fun X (b : Below W.heap.size W X) => h2.below ht2 b)
  have HL := Lib.hid hl
  clear h1 h2 e hl
  go_enter Tryd.func15, Tryd.ntmps15
  go_wp2_with fail
  go_loopw [5] (fun iv wr => ∃ k : Nat, k ≤ vs.length ∧ iv = .int .i64 (k : Int) ∧ Hid (Below W.heap.size W wr)) (fun iv _ => vs.length - (intOf iv).toNat)
  case atStart => exact ⟨0, by omega, rfl, Lib.hid (Below.refl _ _)⟩
  case round =>
    obtain ⟨k, hk, rfl, hb⟩ := hrel
    by_cases hlt : k < vs.length
    · obtain ⟨g1, o1, hA1, hg1, u0, u1, u2, _⟩ := (R1.out W (Below.refl _ _)).at hlt rfl
      obtain ⟨g2, o2, hA2, hg2, v0, v1, v2, _⟩ := (R2.out W (Below.refl _ _)).at (j := k) (by have := HL.out; omega) rfl
      subst hA1
      subst hA2
      obtain ⟨q1, q2, q3⟩ := EQ.out k hlt
      have C1 := Lib.hid (fun X (b : Below W.heap.size W X) => show X.cell? ⟨g1, o1 + k * 3, none⟩ = _ ∧ X.cell? ⟨g1, o1 + k * 3 + 1, none⟩ = _ ∧ X.cell? ⟨g1, o1 + k * 3 + 2, none⟩ = _ from
        ⟨(b.cell (p := ⟨g1, _, none⟩) (Nat.lt_of_lt_of_le hg1 ht1)).trans u0, (b.cell (p := ⟨g1, _, none⟩) (Nat.lt_of_lt_of_le hg1 ht1)).trans u1, (b.cell (p := ⟨g1, _, none⟩) (Nat.lt_of_lt_of_le hg1 ht1)).trans u2⟩)
      rw [q1] at v0
      rw [q2] at v1
      have C2 := Lib.hid (fun X (b : Below W.heap.size W X) => show X.cell? ⟨g2, o2 + k * 3, none⟩ = _ ∧ X.cell? ⟨g2, o2 + k * 3 + 1, none⟩ = _ ∧ X.cell? ⟨g2, o2 + k * 3 + 2, none⟩ = _ from
        ⟨(b.cell (p := ⟨g2, _, none⟩) (Nat.lt_of_lt_of_le hg2 ht2)).trans v0, (b.cell (p := ⟨g2, _, none⟩) (Nat.lt_of_lt_of_le hg2 ht2)).trans v1, (b.cell (p := ⟨g2, _, none⟩) (Nat.lt_of_lt_of_le hg2 ht2)).trans v2⟩)
      have V1 := Lib.hid (fun X (b : Below W.heap.size W X) => conv_of (((R1.out X b).data k hlt).rd fun g hg => hg.2) (vs.getD k Vv.zero).d.length (vs.getD k Vv.zero).c rfl (vs.getD k Vv.zero).d rfl)
      have V2 := Lib.hid (fun X (b : Below W.heap.size W X) => conv_of (((R2.out X b).data k (by have := HL.out; omega)).rd fun g hg => hg.2) (us.getD k Vv.zero).d.length (us.getD k Vv.zero).c rfl (vs.getD k Vv.zero).d q3.symm)
      have NEXT := Lib.hid (fun X (b : Below wr.heap.size wr X) => hb.out.trans (b.mono hb.out.size))
      have HLT := Lib.hid hlt
      have j1 : (0 : Int) ≤ (k : Int) := by omega
      have j2 : (k : Int) < (vs.length : Int) := by omega
      clear q1 q2 q3 u0 u1 u2 v0 v1 v2 hg1 hg2 EQ R1 R2 hb
      generalize vs.getD k Vv.zero = x at *
      generalize us.getD k Vv.zero = y at *
      go_wp2_with fail
      refine Txt.wp_region_textN 39 (fun X => Below wr.heap.size wr X) (by kernel_rfl) (by kernel_rfl) (by kernel_rfl) (by kernel_rfl) (fun _ _ _ _ _ h => h) (Below.refl _ _).drew ?_
      iterate 39 (
        apply Txt.step rfl
        · intro X hS K hK
          obtain ⟨u0, u1, u2⟩ := C1.out X (NEXT.out X hS)
          obtain ⟨v0, v1, v2⟩ := C2.out X (NEXT.out X hS)
          have cv := V1.out X (NEXT.out X hS)
          have cw := V2.out X (NEXT.out X hS)
          have HS := Lib.hid hS
          clear hS
          go_simp
          first
            | exact hK.out _ HS.out
            | (go_wp2_with fail
               exact hK.out _ HS.out)
        · first | exact ⟨_, rfl⟩ | exact ⟨undef, rfl⟩)
      refine Txt.last fun w9 hS9 => ?_
      have N9 := Lib.hid (NEXT.out w9 hS9)
      clear hS9 C1 C2 V1 V2 NEXT
      go_wp2_with fail
      go_roundw
      case rel => exact ⟨k + 1, by have := HLT.out; omega, by go_num, N9⟩
      case measure => have := HLT.out; simp [intOf]; omega
    · clear EQ R1 R2
      go_wp2_with fail
      go_ret
      exact ⟨rfl, hb.out⟩
end Dic
end Go.Proofs.YtpdnfdpoebhjoaaDoor
