/-
  DictValues: its walk.
-/
import Derived.Test.YtcbffoablononaaDoorDicVR
import Derived.Deep.CutRange
import Derived.Deep.CutBlock
namespace Go.Proofs.YtcbffoablononaaDoor
namespace Dic
open Go.RowKit Mem Ent
set_option linter.unusedVariables false
set_option linter.unusedSimpArgs false
set_option maxRecDepth 100000

theorem HasD.short {W : World} {p : Nat} {v : Value} {N : Nat → Prop} {s : Ds} (h : HasD W p v N s) (k : Nat) (hk : k < s.l.length) : (vat s.v k).length ≤ 1000 := by
  obtain ⟨rs, h, e1, e2⟩ := h
  have hk' : k < rs.length := by rw [← e1] at hk; simpa using hk
  rw [← e2, vat_map]
  exact (h.ok _ (getD_mem hk')).2
theorem reset_l (s : Ds) : s.reset.l = s.l := rfl
theorem box4 {W : World} {q : Nat} {a b c d : Value} {t : TypeId} (h : W.heap[q]? = some (.cells #[a, b, c, d] t)) : W.cell? ⟨q, 0, none⟩ = some a ∧ W.cell? ⟨q, 1, none⟩ = some b ∧ W.cell? ⟨q, 2, none⟩ = some c ∧ W.cell? ⟨q, 3, none⟩ = some d :=
  ⟨by simp [World.cell?, h], by simp [World.cell?, h], by simp [World.cell?, h], by simp [World.cell?, h]⟩

set_option maxHeartbeats 16000000 in
theorem values_law (A : Option Addr) (c : Nat) (es : List En) (Ao : Option Addr) (co : Nat) (os : List Ov) (w : World) (hr : RdE w w.heap.size A es) (hn : es.length ≤ maxLen) (hok : ∀ j, j < es.length → (es.getD j enZ).Ok w)
    (hro : RdO w w.heap.size Ao os) (hno : os.length ≤ maxLen) (hoo : ∀ j, j < os.length → (os.getD j Ov.zero).Ok w) (hg : TG w) :
    Calls Tryd.prog 6 #[.slice A es.length c, .slice Ao os.length co] w fun e w' => e = .returned (.bool true) ∧ Below w.heap.size w w' := by
  have HL := Lib.hid (light_law (c := c) hr hn hok)
  have KN := Lib.hid (fun X (b : Below w.heap.size w X) => known_any X (hg.below b (Nat.le_refl _)))
  have HG := Lib.hid hg
  cases hl : lightB es with
  | false =>
    rw [hl] at HL
    have HK := Lib.hid (KN.out w (Below.refl _ _))
    clear hr hn hok hro hno hoo hg hl KN
    generalize es.length = n at *
    generalize os.length = m at *
    go_enter Tryd.func6, Tryd.ntmps6
    go_wp2_with fail
    refine HL.out.mono ?_
    rintro e w' ⟨rfl, rfl⟩
    go_wp2_with fail
    refine HK.out.mono ?_
    rintro e w' ⟨rfl, b⟩
    have B := Lib.hid b
    clear b
    go_wp2_with fail
    go_ret
    exact ⟨rfl, B.out⟩
  | true =>
    rw [hl] at HL
    have HNW := Lib.hid (new_law (c := c) hr hn hok hl hg (Below.refl _ _))
    have HR := Lib.hid (fun X (b : Below w.heap.size w X) => hr.below b)
    have HO := Lib.hid (fun X (b : Below w.heap.size w X) => hro.below b)
    have HOK := Lib.hid hoo
    have HEK := Lib.hid hok
    have l200 := (light_ok hl).1
    unfold maxLen at hno
    clear hr hn hok hg hl hro hoo
    go_enter Tryd.func6, Tryd.ntmps6
    go_wp2_with fail
    refine HL.out.mono ?_
    rintro e w' ⟨rfl, rfl⟩
    go_wp2_with fail
    refine HNW.out.mono ?_
    intro e w1 h
    clear HL HNW
    rcases h with ⟨v, hz, rfl, L⟩ | ⟨hz, rfl, b⟩
    rotate_left
    · have hd : ((newA (es.map ev)).1 != 0) = true := by simpa using hz
      have HK := Lib.hid (KN.out w1 b)
      have B := Lib.hid b
      clear hz b HR HO HOK HEK KN
      generalize (newA (es.map ev)).1 = E at *
      generalize (newA (es.map ev)).2 = F at *
      generalize es.length = n at *
      go_wp2_with fail
      refine HK.out.mono ?_
      rintro e w' ⟨rfl, b⟩
      have B2 := Lib.hid (B.out.trans (b.mono B.out.size))
      clear b
      go_wp2_with fail
      go_ret
      exact ⟨rfl, B2.out⟩
    have SL := Lib.hid (show (first (es.map ev)).l = es.map ev from rfl)
    generalize first (es.map ev) = s at *
    obtain ⟨p, hp⟩ : ∃ p, w.heap.size = p := ⟨_, rfl⟩
    have La : LD w w1 p v p s := by rw [← hp]; exact L
    have La := Lib.hid La
    clear hz L
    have L := La
    clear La
    rw [hp]
    clear hp
    go_wp2_with fail
    go_loopw [8] (fun iv wr => ∃ (k : Nat) (s : Ds), k ≤ os.length ∧ k ≤ 40 ∧ iv = .int .i64 (k : Int) ∧ Hid (s.l = es.map ev) ∧ Hid (LD w wr p v p s)) (fun iv _ => os.length - (intOf iv).toNat)
    case atStart => exact ⟨0, s, by omega, by omega, rfl, SL, L⟩
    case round =>
      obtain ⟨k, s, hk, hk40, rfl, hS, hL⟩ := hrel
      clear L SL
      by_cases hlt : k < os.length ∧ k < 40
      · obtain ⟨h1, h2⟩ := hlt
        obtain ⟨g, off, hA, hgB, q0, q1, q2, q3, hrd⟩ := (HO.out _ hL.out.b).at h1 rfl
        subst hA
        have OK := HOK.out k h1
        have i0 : (0 : Int) ≤ (k : Int) := by omega
        have i1 : (k : Int) < (os.length : Int) := by omega
        have d40 : decide ((k : Int) < 40) = true := decide_eq_true (by omega)
        have d40' : decide (k < 40) = true := decide_eq_true (by omega)
        have RDB := Lib.hid (fun X (b : Below w.heap.size w X) => ((HO.out X b).data k h1).mono b.size)
        have LT := Lib.hid (And.intro h1 h2)
        clear h1 h2 hgB hrd
        have OD := OK.d
        unfold maxLen at OD
        clear OK HOK
        generalize os.getD k Ov.zero = O at *
        obtain ⟨ok, ix, sub, Ab, bs, cb⟩ := O
        simp only at q0 q1 q2 q3 OD RDB
        have b1 := one_b wr (.cells #[.int .i64 ok, .int .i64 ix, .int .i64 sub, .slice Ab bs.length cb] 40)
        have L1 := Lib.hid (hL.out.next b1)
        have BX := Lib.hid (heap_alloc_new wr (.cells #[.int .i64 ok, .int .i64 ix, .int .i64 sub, .slice Ab bs.length cb] 40))
        clear b1 hL
        by_cases hbig : 1000 < bs.length
        · have d1 : decide (1000 < (bs.length : Int)) = true := decide_eq_true (by omega)
          have d2 : decide (1000 < bs.length) = true := decide_eq_true hbig
          clear RDB
          go_wp2_with fail
          go_roundw
          case rel => exact ⟨k + 1, s, by have := LT.out; omega, by have := LT.out; omega, by go_num, hS, L1⟩
          case measure => have := LT.out; simp [intOf]; omega
        · have d1 : decide (1000 < (bs.length : Int)) = false := decide_eq_false (by omega)
          have d2 : decide (1000 < bs.length) = false := decide_eq_false hbig
          have hsm : bs.length ≤ 1000 := by omega
          go_upto_block 2 with fail
          generalize wr.alloc (.cells #[.int .i64 ok, .int .i64 ix, .int .i64 sub, .slice Ab bs.length cb] 40) = W1 at *
          clear q0 q1 q2 q3
          go_cut [5] from 46 to 79 (fun pv wx => ∃ s' : Ds, pv = ptr p ∧ Hid (s'.l = es.map ev) ∧ Hid (LD w wx p v p s'))
          case first =>
            obtain ⟨x0, x1, x2, x3⟩ := box4 BX.out
            have RD1 := RDB.out _ L1.out.b
            have hK : ok = 0 ∨ ok = 2 ∨ ok = 5 ∨ (ok ≠ 0 ∧ ok ≠ 2 ∧ ok ≠ 5) := by omega
            rcases hK with hK | hK | hK | ⟨h0, h2, h5⟩
            · have dk : (ok == 0) = true := beq_iff_eq.2 hK
              have ST := Lib.hid (L1.out.set HG.out ix sub (cb := cb) (n := bs.length) RD1 rfl hsm)
              have UL := Lib.hid (show (s.upon (s.may ix sub bs) ix sub bs).l = es.map ev by rw [upon_l]; exact hS.out)
              generalize s.upon (s.may ix sub bs) ix sub bs = t at *
              generalize s.may ix sub bs = C at *
              clear hK RD1 RDB L1 BX
              go_wp2_with fail
              refine ST.out.mono ?_
              rintro e w4 ⟨rfl, L⟩
              have L4 := Lib.hid L
              clear L ST
              go_wp2_with fail
              go_meet
              exact ⟨t, rfl, UL, L4⟩
            · have dk : (ok == 0) = false := beq_eq_false_iff_ne.2 (by omega)
              have dk2 : (ok == 2) = true := beq_iff_eq.2 hK
              have ST := Lib.hid (L1.out.poke HG.out ix sub (cb := cb) (n := bs.length) RD1 rfl hsm)
              have UL := Lib.hid (show (s.upon (s.poke ix sub bs) ix sub bs).l = es.map ev by rw [upon_l]; exact hS.out)
              generalize s.upon (s.poke ix sub bs) ix sub bs = t at *
              generalize s.poke ix sub bs = C at *
              clear hK RD1 RDB L1 BX
              go_wp2_with fail
              refine ST.out.mono ?_
              rintro e w4 ⟨rfl, L⟩
              have L4 := Lib.hid L
              clear L ST
              go_wp2_with fail
              go_meet
              exact ⟨t, rfl, UL, L4⟩
            · have dk : (ok == 0) = false := beq_eq_false_iff_ne.2 (by omega)
              have dk2 : (ok == 2) = false := beq_eq_false_iff_ne.2 (by omega)
              have dk5 : (ok == 5) = true := beq_iff_eq.2 hK
              have ST := Lib.hid (L1.out.reset HG.out)
              have UL := Lib.hid (show s.reset.l = es.map ev from hS.out)
              generalize s.reset = t at *
              clear hK RD1 RDB L1 BX
              go_wp2_with fail
              refine ST.out.mono ?_
              rintro e w4 ⟨rfl, L⟩
              have L4 := Lib.hid L
              clear L ST
              go_wp2_with fail
              go_meet
              exact ⟨t, rfl, UL, L4⟩
            · have dk : (ok == 0) = false := beq_eq_false_iff_ne.2 h0
              have dk2 : (ok == 2) = false := beq_eq_false_iff_ne.2 h2
              have dk5 : (ok == 5) = false := beq_eq_false_iff_ne.2 h5
              clear h0 h2 h5 RD1 RDB BX
              go_wp2_with fail
              go_meet
              exact ⟨s, rfl, hS, L1⟩
          obtain ⟨t, rfl, hT, hM⟩ := hcut
          clear L1 hS BX RDB OD hsm hbig d1 d2
          have tl : t.l.length = es.length := by rw [hT.out, List.length_map]
          have V := Lib.hid hM.out.values
          have VAL := Lib.hid (fun k (hk : k < t.l.length) => hM.out.i.ok k hk)
          clear hM
          go_wp2_with fail
          refine V.out.mono ?_
          rintro e w2 ⟨A1, c1, vs, rfl, n1, R1a, La, b2, E1a⟩
          rw [tl] at n1 ⊢
          have R1 := Lib.hid R1a
          have L := Lib.hid La
          have E1 := Lib.hid E1a
          clear R1a La E1a b2 V
          go_wp2_with fail
          go_loopw [11] (fun iv wi => ∃ m : Nat, m ≤ es.length ∧ iv = .int .i64 (m : Int) ∧ Hid (Below w2.heap.size w2 wi)) (fun iv _ => es.length - (intOf iv).toNat)
          case atStart => exact ⟨0, by omega, rfl, Lib.hid (Below.refl _ _)⟩
          case round =>
            obtain ⟨m, hm, rfl, hb⟩ := hrel
            by_cases hlm : m < es.length
            · obtain ⟨ge, oe, hAe, hge, RE, _⟩ := (HR.out w (Below.refl _ _)).at hlm rfl
              obtain ⟨g1, o1, hA1, hg1, u0, u1, u2, RD1⟩ := R1.out.at (j := m) (by omega) rfl
              have F1 := (E1.out m (by omega)).2.2
              have EO := HEK.out m hlm
              have hat : at_ t.l m = ev (es.getD m enZ) := by rw [hT.out]; exact at_map es m
              have ZV := VAL.out m (by omega)
              rw [hat, ← F1] at ZV
              have SH : (vs.getD m Vv.zero).d.length ≤ 1099511627776 := by
                rw [F1]
                exact Nat.le_trans (L.out.d.short m (by omega)) (by omega)
              have e5 := hb.out.size
              have CE := Lib.hid (fun X (b : Below wr.heap.size wr X) => RE.below hge (L.out.b.trans ((hb.out.trans (b.mono e5)).mono L.out.b.size)))
              have C1 := Lib.hid (fun X (b : Below wr.heap.size wr X) => show X.cell? ⟨g1, o1 + m * 3 + 2, none⟩ = _ from ((hb.out.trans (b.mono e5)).cell (p := ⟨g1, o1 + m * 3 + 2, none⟩) hg1).trans u2)
              have VA := Lib.hid (fun X (b : Below wr.heap.size wr X) => value_any (es.getD m enZ).ix (es.getD m enZ).sub (es.getD m enZ).nm (es.getD m enZ).ty (es.getD m enZ).ac (es.getD m enZ).mp (es.getD m enZ).st (es.getD m enZ).mx (es.getD m enZ).lo (es.getD m enZ).hi (.slice (es.getD m enZ).A (es.getD m enZ).d.length (es.getD m enZ).c)
                (vs.getD m Vv.zero).A (vs.getD m Vv.zero).d.length (vs.getD m Vv.zero).c (vs.getD m Vv.zero).d X EO.mx.1 EO.mx.2 ((RD1.below (hb.out.trans (b.mono e5))).mono (hb.out.trans (b.mono e5)).size) rfl SH (HG.out.below (L.out.b.trans ((hb.out.trans (b.mono e5)).mono L.out.b.size)) (Nat.le_refl _)))
              have hv : valN (es.getD m enZ).ty (es.getD m enZ).mx (es.getD m enZ).lo (es.getD m enZ).hi (vs.getD m Vv.zero).d = 0 := ZV
              rw [hv] at VA
              have NEXT := Lib.hid (fun X (b : Below wr.heap.size wr X) => hb.out.trans (b.mono e5))
              have HLM := Lib.hid hlm
              have j1 : (0 : Int) ≤ (m : Int) := by omega
              have j2 : (m : Int) < (es.length : Int) := by omega
              subst hAe
              subst hA1
              clear RE RD1 u0 u1 u2 F1 EO hat ZV SH hv hge hg1 hb E1 R1 VAL
              generalize vs.getD m Vv.zero = y at *
              generalize es.getD m enZ = x at *
              go_wp2_with fail
              refine Txt.wp_region_textN 11 (fun X => Below wr.heap.size wr X) (by kernel_rfl) (by kernel_rfl) (by kernel_rfl) (by kernel_rfl) (fun _ _ _ _ _ h => h) (Below.refl _ _).drew ?_
              iterate 11 (
                apply Txt.step rfl
                · intro X hS K hK
                  obtain ⟨p0, p1, p2, p3, p4, p5, p6, p7, p8, p9, p10⟩ := CE.out X hS
                  have c2 := C1.out X hS
                  have VX := Lib.hid (VA.out X hS)
                  have HS := Lib.hid hS
                  clear hS
                  go_simp
                  first
                    | exact hK.out _ HS.out
                    | (go_wp2_with (go_at_call 30; refine VX.out.mono ?_; rintro e w' ⟨rfl, b⟩; have T := Lib.hid (HS.out.trans (b.mono HS.out.size)); clear b)
                       first | exact hK.out _ HS.out | exact hK.out _ T.out)
                · first | exact ⟨_, rfl⟩ | exact ⟨undef, rfl⟩)
              refine Txt.last fun w9 hS9 => ?_
              have N9 := Lib.hid (NEXT.out w9 hS9)
              clear hS9 CE C1 VA NEXT
              go_wp2_with fail
              go_roundw
              case rel => exact ⟨m + 1, by have := HLM.out; omega, by go_num, N9⟩
              case measure => have := HLM.out; simp [intOf]; omega
            · have L9 := Lib.hid (L.out.next hb.out)
              clear hb L E1 R1 VAL
              go_wp2_with fail
              go_roundw
              case rel => exact ⟨k + 1, t, by have := LT.out; omega, by have := LT.out; omega, by go_num, hT, L9⟩
              case measure => have := LT.out; simp [intOf]; omega
      · have dw : (k : Int) < (os.length : Int) ∨ ¬ (k : Int) < (os.length : Int) := by omega
        have HK := Lib.hid (KN.out wr hL.out.b)
        have BK := Lib.hid hL.out.b
        clear HR HO HOK HEK KN HG hS hL
        by_cases h1 : k < os.length
        · have d40 : decide ((k : Int) < 40) = false := decide_eq_false (by omega)
          have d40' : decide (k < 40) = false := decide_eq_false (by omega)
          clear dw
          go_wp2_with fail
          refine HK.out.mono ?_
          rintro e w' ⟨rfl, b⟩
          have B2 := Lib.hid (BK.out.trans (b.mono BK.out.size))
          clear b
          go_wp2_with fail
          go_ret
          exact ⟨rfl, B2.out⟩
        · have d41 : decide ((k : Int) < (os.length : Int)) = false := decide_eq_false (by omega)
          have d41' : decide (k < os.length) = false := decide_eq_false (by omega)
          clear dw
          go_wp2_with fail
          refine HK.out.mono ?_
          rintro e w' ⟨rfl, b⟩
          have B2 := Lib.hid (BK.out.trans (b.mono BK.out.size))
          clear b
          go_wp2_with fail
          go_ret
          exact ⟨rfl, B2.out⟩
end Dic
end Go.Proofs.YtcbffoablononaaDoor
