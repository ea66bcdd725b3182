/-
  DictSets: its walk.
-/
import Derived.Test.YtcbffoablononaaDoorDicVR
namespace Go.Proofs.YtcbffoablononaaDoor
namespace Dic
open Go.RowKit Mem Ent
set_option linter.unusedVariables false
set_option linter.unusedSimpArgs false
set_option maxRecDepth 100000

theorem conv_of {w : World} {B : Nat} {A : Option Addr} {bs : List UInt8} (h : Rd w B A bs) (n c : Nat) (hn : n = bs.length) (t : List UInt8) (ht : t = bs) :
    (convert 36 9 (.slice A n c)).run Tryd.prog w = .ok (.string ⟨t.toArray⟩) w := by
  subst ht
  exact run_str (P := Tryd.prog) h n c hn 36 5 9 Tryd.underlying36 Tryd.underlying5 Tryd.underlying9

set_option maxHeartbeats 16000000 in
theorem sets_law (A : Option Addr) (c : Nat) (es : List En) (o : Ov) (w : World) (hr : RdE w w.heap.size A es) (hn : es.length ≤ maxLen) (hok : ∀ j, j < es.length → (es.getD j enZ).Ok w) (ho : o.Ok w) (hg : TG w) :
    Calls Tryd.prog 5 #[.slice A es.length c, o.val] w fun e w' => e = .returned (.bool true) ∧ Below w.heap.size w w' := by
  obtain ⟨ok, ix, sub, Ab, bs, cb⟩ := o
  show Calls Tryd.prog 5 #[.slice A es.length c, .agg #[.int .i64 ok, .int .i64 ix, .int .i64 sub, .slice Ab bs.length cb]] w _
  have hob : bs.length ≤ maxLen := ho.d
  have hrb : Rd w w.heap.size Ab bs := ho.rd
  clear ho
  unfold maxLen at hob
  have b0 := one_b w (.cells #[.int .i64 ok, .int .i64 ix, .int .i64 sub, .slice Ab bs.length cb] 40)
  have B0 := Lib.hid b0
  have HL := Lib.hid (light_any A c es (w.alloc (.cells #[.int .i64 ok, .int .i64 ix, .int .i64 sub, .slice Ab bs.length cb] 40)) ((hr.below b0).mono b0.size) hn (fun j hj => ⟨(hok j hj).d, (hok j hj).nm⟩))
  have KN := Lib.hid (fun X (b : Below w.heap.size w X) => known_any X (hg.below b (Nat.le_refl _)))
  have HG := Lib.hid hg
  cases hl : lightB es with
  | false =>
    rw [hl] at HL
    have HK := Lib.hid (KN.out _ b0)
    clear hr hn hok hg hl KN hrb hob b0
    generalize es.length = n at *
    generalize bs.length = m at *
    go_enter Tryd.func5, Tryd.ntmps5
    go_wp2_with fail
    refine HL.out.mono ?_
    rintro e w' ⟨rfl, rfl⟩
    go_wp2_with fail
    refine HK.out.mono ?_
    rintro e w' ⟨rfl, b⟩
    have B := Lib.hid (B0.out.trans (b.mono B0.out.size))
    clear b
    go_wp2_with fail
    go_ret
    exact ⟨rfl, B.out⟩
  | true =>
    rw [hl] at HL
    have HNW := Lib.hid (new_law (c := c) hr hn hok hl hg b0)
    have HR := Lib.hid (fun X (b : Below w.heap.size w X) => hr.below b)
    have HB := Lib.hid (fun X (b : Below w.heap.size w X) => (hrb.below b).mono b.size)
    have l200 := (light_ok hl).1
    by_cases hbig : 1000 < bs.length
    · have d1 : decide (1000 < (bs.length : Int)) = true := decide_eq_true (by omega)
      have d2 : decide (1000 < bs.length) = true := decide_eq_true hbig
      have HK := Lib.hid (KN.out _ b0)
      clear hr hn hok hg hl KN hrb hob b0 HNW HR HB
      generalize es.length = n at *
      generalize bs.length = m at *
      go_enter Tryd.func5, Tryd.ntmps5
      go_wp2_with fail
      refine HL.out.mono ?_
      rintro e w' ⟨rfl, rfl⟩
      go_wp2_with fail
      refine HK.out.mono ?_
      rintro e w' ⟨rfl, b⟩
      have B := Lib.hid (B0.out.trans (b.mono B0.out.size))
      clear b
      go_wp2_with fail
      go_ret
      exact ⟨rfl, B.out⟩
    have hsm : bs.length ≤ 1000 := by omega
    have d1 : decide (1000 < (bs.length : Int)) = false := decide_eq_false (by omega)
    have d2 : decide (1000 < bs.length) = false := decide_eq_false hbig
    clear hr hn hok hg hl hrb hob hbig b0
    go_enter Tryd.func5, Tryd.ntmps5
    go_wp2_with fail
    refine HL.out.mono ?_
    rintro e w' ⟨rfl, rfl⟩
    go_wp2_with fail
    refine HNW.out.mono ?_
    intro e w1 h
    clear HL HNW
    rcases h with ⟨v, hz, rfl, L⟩ | ⟨hz, rfl, b⟩
    rotate_left
    · have hd : ((newA (es.map ev)).1 != 0) = true := by simpa using hz
      have HK := Lib.hid (KN.out w1 b)
      have B := Lib.hid b
      clear hz b HR HB KN B0
      generalize (newA (es.map ev)).1 = E at *
      generalize (newA (es.map ev)).2 = F at *
      generalize es.length = n at *
      go_wp2_with fail
      refine HK.out.mono ?_
      rintro e w' ⟨rfl, b⟩
      have B2 := Lib.hid (B.out.trans (b.mono B.out.size))
      clear b
      go_wp2_with fail
      go_ret
      exact ⟨rfl, B2.out⟩
    have hp : (w.alloc (.cells #[.int .i64 ok, .int .i64 ix, .int .i64 sub, .slice Ab bs.length cb] 40)).heap.size = w.heap.size + 1 := by simp
    rw [hp] at L ⊢
    generalize w.heap.size + 1 = p at *
    have sl : (first (es.map ev)).l.length = es.length := first_len es
    have AT := Lib.hid (fun k => first_at es k)
    have INV := L.i
    generalize first (es.map ev) = s at *
    have V1 := Lib.hid L.values
    have VLT := Lib.hid (fun g (hg : v.ownBlock = some g) => L.d.vlt hg)
    clear L hz hp B0
    go_wp2_with fail
    refine V1.out.mono ?_
    rintro e w2 ⟨A1, c1, vs1, rfl, n1, R1a, L, b2, E1a⟩
    rw [sl] at n1 ⊢
    have M := Lib.hid (L.may ix sub (cb := cb) (n := bs.length) (HB.out w2 L.b) rfl hsm)
    have R1 := Lib.hid R1a
    have E1 := Lib.hid E1a
    clear R1a E1a
    have B2 := Lib.hid b2
    clear V1 L b2
    go_wp2_with fail
    refine M.out.mono ?_
    rintro e w3 ⟨rfl, L, b3⟩
    have R3 := Lib.hid (R1.out.below (Nat.le_refl _) b3)
    have hs3 := Lib.hid b3.size
    have ST := Lib.hid (L.set' HG.out ix sub (cb := cb) (n := bs.length) (HB.out w3 L.b) rfl hsm)
    have HC := Lib.hid (fun (h : s.may ix sub bs = 0) => may_zero h)
    have UA := Lib.hid (fun k hk => upon_at INV (bs := bs) HC.out (k := k) hk)
    have UG := Lib.hid (fun h hg => upon_get INV (bs := bs) HC.out h hg)
    have UL := Lib.hid (upon_l s (s.may ix sub bs) ix sub bs)
    generalize s.may ix sub bs = C at *
    clear M R1 b3 L HC
    go_wp2_with fail
    refine ST.out.mono ?_
    rintro e w4 ⟨rfl, L, u⟩
    have R4 := Lib.hid (R3.out.upd hs3.out u (fun g hg => VLT.out g hg))
    have hs4 := Lib.hid (Nat.le_trans hs3.out u.size)
    generalize s.upon C ix sub bs = t at *
    have V2 := Lib.hid L.values
    clear ST R3 L u VLT
    go_wp2_with fail
    refine V2.out.mono ?_
    rintro e w5 ⟨A2, c2, vs2, rfl, n2, R2a, L, b5, E2a⟩
    rw [UL.out, sl] at n2 ⊢
    have R5 := Lib.hid (R4.out.below hs4.out b5)
    have T1 := Lib.hid (show w2.heap.size ≤ w5.heap.size from Nat.le_trans hs4.out b5.size)
    have LW := Lib.hid L
    have R2 := Lib.hid R2a
    have E2 := Lib.hid E2a
    clear R2a E2a
    clear V2 R4 L b5 hs3 hs4
    go_wp2_with fail
    go_loopw [15] (fun iv wr => ∃ k : Nat, k ≤ es.length ∧ iv = .int .i64 (k : Int) ∧ Hid (Below w5.heap.size w5 wr)) (fun iv _ => es.length - (intOf iv).toNat)
    case atStart => exact ⟨0, by omega, rfl, Lib.hid (Below.refl _ _)⟩
    case round =>
      obtain ⟨k, hk, rfl, hb⟩ := hrel
      by_cases hlt : k < es.length
      · obtain ⟨g, off, hA, hgB, RE, _⟩ := (HR.out w (Below.refl _ _)).at hlt rfl
        obtain ⟨g1, o1, hA1, hg1, u0, u1, u2, RD1⟩ := R5.out.at (j := k) (by omega) rfl
        obtain ⟨g2, o2, hA2, hg2, v0, v1, v2, RD2⟩ := R2.out.at (j := k) (by omega) rfl
        have F1 := E1.out k (by omega)
        have F2 := E2.out k (by rw [UL.out]; omega)
        have UK := UA.out k (by omega)
        have EI : (vs2.getD k Vv.zero).ix = (es.getD k enZ).ix := by rw [F2.1, UL.out, AT.out]; rfl
        have ES : (vs2.getD k Vv.zero).sub = (es.getD k enZ).sub := by rw [F2.2.1, UL.out, AT.out]; rfl
        have e3 : (at_ s.l k).ix = (vs2.getD k Vv.zero).ix := by rw [F2.1, UL.out]
        have e4 : (at_ s.l k).sub = (vs2.getD k Vv.zero).sub := by rw [F2.2.1, UL.out]
        rw [← F2.2.2, ← F1.2.2, e3, e4] at UK
        have WAY : Hid (((vs2.getD k Vv.zero).ix ≠ ix ∧ (vs2.getD k Vv.zero).d = (vs1.getD k Vv.zero).d) ∨ ((vs2.getD k Vv.zero).ix = ix ∧ (vs2.getD k Vv.zero).sub ≠ sub ∧ (vs2.getD k Vv.zero).d = (vs1.getD k Vv.zero).d) ∨
            ((vs2.getD k Vv.zero).ix = ix ∧ (vs2.getD k Vv.zero).sub = sub ∧ C ≠ 0 ∧ (vs2.getD k Vv.zero).d = (vs1.getD k Vv.zero).d) ∨ ((vs2.getD k Vv.zero).ix = ix ∧ (vs2.getD k Vv.zero).sub = sub ∧ C = 0 ∧ (vs2.getD k Vv.zero).d = bs)) := Lib.hid (by
          by_cases a1 : (vs2.getD k Vv.zero).ix = ix
          · by_cases a2 : (vs2.getD k Vv.zero).sub = sub
            · by_cases a3 : C = 0
              · rw [if_pos ⟨⟨a1, a2⟩, a3⟩] at UK
                exact .inr (.inr (.inr ⟨a1, a2, a3, UK⟩))
              · rw [if_neg fun h => a3 h.2] at UK
                exact .inr (.inr (.inl ⟨a1, a2, a3, UK⟩))
            · rw [if_neg fun h => a2 h.1.2] at UK
              exact .inr (.inl ⟨a1, a2, UK⟩)
          · rw [if_neg fun h => a1 h.1.1] at UK
            exact .inl ⟨a1, UK⟩)
        have e5 := hb.out.size
        have CE := Lib.hid (fun X (b : Below wr.heap.size wr X) => show X.cell? ⟨g, off + k * 11, none⟩ = some (.int .i64 (vs2.getD k Vv.zero).ix) ∧ X.cell? ⟨g, off + k * 11 + 1, none⟩ = some (.int .i64 (vs2.getD k Vv.zero).sub) from by
          have bb := LW.out.b.trans ((hb.out.trans (b.mono e5)).mono LW.out.b.size)
          have r := RE.below hgB bb
          rw [EI, ES]
          exact ⟨r.1, r.2.1⟩)
        have C2 := Lib.hid (fun X (b : Below wr.heap.size wr X) => show X.cell? ⟨g2, o2 + k * 3, none⟩ = _ ∧ X.cell? ⟨g2, o2 + k * 3 + 1, none⟩ = _ ∧ X.cell? ⟨g2, o2 + k * 3 + 2, none⟩ = _ from
          have bb := hb.out.trans (b.mono e5)
          ⟨(bb.cell (p := ⟨g2, _, none⟩) hg2).trans v0, (bb.cell (p := ⟨g2, _, none⟩) hg2).trans v1, (bb.cell (p := ⟨g2, _, none⟩) hg2).trans v2⟩)
        have u2' := (hb.out.cell (p := ⟨g1, o1 + k * 3 + 2, none⟩) (Nat.lt_of_lt_of_le hg1 T1.out)).trans u2
        have CV := Lib.hid (fun X (b : Below wr.heap.size wr X) => conv_of (RD2.below (hb.out.trans (b.mono e5))) (vs2.getD k Vv.zero).d.length (vs2.getD k Vv.zero).c rfl (vs2.getD k Vv.zero).d rfl)
        have CV1 := Lib.hid (fun X (b : Below wr.heap.size wr X) t ht => conv_of ((RD1.mono T1.out).below (hb.out.trans (b.mono e5))) (vs1.getD k Vv.zero).d.length (vs1.getD k Vv.zero).c rfl t ht)
        have CVB := Lib.hid (fun X (b : Below wr.heap.size wr X) t ht => conv_of (HB.out X (LW.out.b.trans ((hb.out.trans (b.mono e5)).mono LW.out.b.size))) bs.length cb rfl t ht)
        have NEXT := Lib.hid (fun X (b : Below wr.heap.size wr X) => hb.out.trans (b.mono e5))
        have HLT := Lib.hid hlt
        have j1 : (0 : Int) ≤ (k : Int) := by omega
        have j2 : (k : Int) < (es.length : Int) := by omega
        obtain ⟨v0', v1', v2'⟩ := C2.out wr (Below.refl _ _)
        subst hA
        subst hA1
        subst hA2
        clear n1 n2 F1 F2 UK EI ES e3 e4 e5 RE RD1 RD2 u0 u1 u2 v0 v1 v2 hgB hg1 hg2 R5 R2 E1 E2 UA UG AT HR HB LW KN HG T1 INV hb
        generalize vs2.getD k Vv.zero = x2 at *
        generalize vs1.getD k Vv.zero = x1 at *
        rcases WAY.out with ⟨h1, hd⟩ | ⟨h1, h2, hd⟩ | ⟨h1, h2, h3, hd⟩ | ⟨h1, h2, h3, hd⟩
        · have d1 : (x2.ix == ix) = false := beq_eq_false_iff_ne.2 h1
          have CW := Lib.hid (fun X b => CV1.out X b x2.d hd)
          clear WAY h1 hd CV1 CVB
          go_wp2_with fail
          refine Txt.wp_region_textN 35 (fun X => Below wr.heap.size wr X) (by kernel_rfl) (by kernel_rfl) (by kernel_rfl) (by kernel_rfl) (fun _ _ _ _ _ h => h) (Below.refl _ _).drew ?_
          iterate 35 (
            apply Txt.step rfl
            · intro X hS K hK
              obtain ⟨p0, p1⟩ := CE.out X hS
              obtain ⟨q0, q1, q2⟩ := C2.out X hS
              have cv := CV.out X hS
              have cw := CW.out X hS
              have HS := Lib.hid hS
              clear hS
              go_simp
              first
                | exact hK.out _ HS.out
                | (go_wp2_with fail
                   exact hK.out _ HS.out)
            · first | exact ⟨_, rfl⟩ | exact ⟨undef, rfl⟩)
          refine Txt.last fun w9 hS => ?_
          have N9 := Lib.hid (NEXT.out w9 hS)
          clear hS CE C2 CV CW NEXT
          go_wp2_with fail
          go_roundw
          case rel => exact ⟨k + 1, by have := HLT.out; omega, by go_num, N9⟩
          case measure => have := HLT.out; simp [intOf]; omega
        · have d1 : (x2.ix == ix) = true := beq_iff_eq.2 h1
          have d2 : (x2.sub == sub) = false := beq_eq_false_iff_ne.2 h2
          have CW := Lib.hid (fun X b => CV1.out X b x2.d hd)
          clear WAY h1 h2 hd CV1 CVB
          go_wp2_with fail
          refine Txt.wp_region_textN 35 (fun X => Below wr.heap.size wr X) (by kernel_rfl) (by kernel_rfl) (by kernel_rfl) (by kernel_rfl) (fun _ _ _ _ _ h => h) (Below.refl _ _).drew ?_
          iterate 35 (
            apply Txt.step rfl
            · intro X hS K hK
              obtain ⟨p0, p1⟩ := CE.out X hS
              obtain ⟨q0, q1, q2⟩ := C2.out X hS
              have cv := CV.out X hS
              have cw := CW.out X hS
              have HS := Lib.hid hS
              clear hS
              go_simp
              first
                | exact hK.out _ HS.out
                | (go_wp2_with fail
                   exact hK.out _ HS.out)
            · first | exact ⟨_, rfl⟩ | exact ⟨undef, rfl⟩)
          refine Txt.last fun w9 hS => ?_
          have N9 := Lib.hid (NEXT.out w9 hS)
          clear hS CE C2 CV CW NEXT
          go_wp2_with fail
          go_roundw
          case rel => exact ⟨k + 1, by have := HLT.out; omega, by go_num, N9⟩
          case measure => have := HLT.out; simp [intOf]; omega
        · have d1 : (x2.ix == ix) = true := beq_iff_eq.2 h1
          have d2 : (x2.sub == sub) = true := beq_iff_eq.2 h2
          have d3 : (C == 0) = false := beq_eq_false_iff_ne.2 h3
          have CW := Lib.hid (fun X b => CV1.out X b x2.d hd)
          clear WAY h1 h2 h3 hd CV1 CVB
          go_wp2_with fail
          refine Txt.wp_region_textN 35 (fun X => Below wr.heap.size wr X) (by kernel_rfl) (by kernel_rfl) (by kernel_rfl) (by kernel_rfl) (fun _ _ _ _ _ h => h) (Below.refl _ _).drew ?_
          iterate 35 (
            apply Txt.step rfl
            · intro X hS K hK
              obtain ⟨p0, p1⟩ := CE.out X hS
              obtain ⟨q0, q1, q2⟩ := C2.out X hS
              have cv := CV.out X hS
              have cw := CW.out X hS
              have HS := Lib.hid hS
              clear hS
              go_simp
              first
                | exact hK.out _ HS.out
                | (go_wp2_with fail
                   exact hK.out _ HS.out)
            · first | exact ⟨_, rfl⟩ | exact ⟨undef, rfl⟩)
          refine Txt.last fun w9 hS => ?_
          have N9 := Lib.hid (NEXT.out w9 hS)
          clear hS CE C2 CV CW NEXT
          go_wp2_with fail
          go_roundw
          case rel => exact ⟨k + 1, by have := HLT.out; omega, by go_num, N9⟩
          case measure => have := HLT.out; simp [intOf]; omega
        · have d1 : (x2.ix == ix) = true := beq_iff_eq.2 h1
          have d2 : (x2.sub == sub) = true := beq_iff_eq.2 h2
          have d3 : (C == 0) = true := beq_iff_eq.2 h3
          have CW := Lib.hid (fun X b => CVB.out X b x2.d hd)
          clear WAY h1 h2 h3 hd CV1 CVB
          go_wp2_with fail
          refine Txt.wp_region_textN 35 (fun X => Below wr.heap.size wr X) (by kernel_rfl) (by kernel_rfl) (by kernel_rfl) (by kernel_rfl) (fun _ _ _ _ _ h => h) (Below.refl _ _).drew ?_
          iterate 35 (
            apply Txt.step rfl
            · intro X hS K hK
              obtain ⟨p0, p1⟩ := CE.out X hS
              obtain ⟨q0, q1, q2⟩ := C2.out X hS
              have cv := CV.out X hS
              have cw := CW.out X hS
              have HS := Lib.hid hS
              clear hS
              go_simp
              first
                | exact hK.out _ HS.out
                | (go_wp2_with fail
                   exact hK.out _ HS.out)
            · first | exact ⟨_, rfl⟩ | exact ⟨undef, rfl⟩)
          refine Txt.last fun w9 hS => ?_
          have N9 := Lib.hid (NEXT.out w9 hS)
          clear hS CE C2 CV CW NEXT
          go_wp2_with fail
          go_roundw
          case rel => exact ⟨k + 1, by have := HLT.out; omega, by go_num, N9⟩
          case measure => have := HLT.out; simp [intOf]; omega
      · have G := (LW.out.next hb.out).get ix sub
        have UG := UG.out
        have bw := (LW.out.next hb.out).b
        generalize t.get ix sub = gg at *
        obtain ⟨D, G2⟩ := gg
        simp only at G UG
        have G := Lib.hid G
        have UG := Lib.hid UG
        have BW := Lib.hid bw
        clear AT UA UL R5 R2 E1 E2 LW hb bw HR INV T1
        go_wp2_with fail
        refine G.out.mono ?_
        rintro e w6 ⟨⟨x, rfl, o⟩, L, b⟩
        obtain ⟨A6, c6, rfl, r6⟩ := o.form
        have R6 := Lib.hid (show Rd w6 w6.heap.size A6 D from r6)
        have HK := Lib.hid (KN.out w6 L.b)
        have B6 := Lib.hid L.b
        by_cases h1 : C = 0
        · have d3 : (C == 0) = true := beq_iff_eq.2 h1
          by_cases h2 : G2 = 0
          · have d4 : (G2 == 0) = true := beq_iff_eq.2 h2
            have hD := UG.out h1 h2
            have cv1 := conv_of R6.out D.length c6 rfl bs hD.symm
            have cv2 := conv_of (HB.out w6 L.b) bs.length cb rfl bs rfl
            clear h1 h2 hD G UG o L b r6 R6 HB KN
            go_wp2_with fail
            refine HK.out.mono ?_
            rintro e w7 ⟨rfl, b⟩
            have B7 := Lib.hid (B6.out.trans (b.mono B6.out.size))
            clear b HK B6
            go_wp2_with fail
            go_ret
            exact ⟨rfl, B7.out⟩
          · have d4 : (G2 == 0) = false := beq_eq_false_iff_ne.2 h2
            clear h1 h2 G UG o L b r6 R6 HB KN
            go_wp2_with fail
            refine HK.out.mono ?_
            rintro e w7 ⟨rfl, b⟩
            have B7 := Lib.hid (B6.out.trans (b.mono B6.out.size))
            clear b HK B6
            go_wp2_with fail
            go_ret
            exact ⟨rfl, B7.out⟩
        · have d3 : (C == 0) = false := beq_eq_false_iff_ne.2 h1
          clear h1 G UG o L b r6 R6 HB KN
          go_wp2_with fail
          refine HK.out.mono ?_
          rintro e w7 ⟨rfl, b⟩
          have B7 := Lib.hid (B6.out.trans (b.mono B6.out.size))
          clear b HK B6
          go_wp2_with fail
          go_ret
          exact ⟨rfl, B7.out⟩
end Dic
end Go.Proofs.YtcbffoablononaaDoor
