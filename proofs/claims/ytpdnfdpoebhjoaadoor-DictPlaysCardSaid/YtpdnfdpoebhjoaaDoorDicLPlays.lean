/-
  DictPlays: its walk.
-/
import Derived.Test.YtpdnfdpoebhjoaaDoorDicSpoil
import Derived.Deep.CutRange
import Derived.Deep.CutBlock
import Derived.Test.YtpdnfdpoebhjoaaDoorTextV
namespace Go.Proofs.YtpdnfdpoebhjoaaDoor
namespace Dic
open Go.RowKit Mem Ent
set_option linter.unusedVariables false
set_option linter.unusedSimpArgs false
set_option maxRecDepth 100000

theorem box4' {W : World} {q : Nat} {a b c d : Value} {t : TypeId} (h : W.heap[q]? = some (.cells #[a, b, c, d] t)) : W.cell? ⟨q, 0, none⟩ = some a ∧ W.cell? ⟨q, 1, none⟩ = some b ∧ W.cell? ⟨q, 2, none⟩ = some c ∧ W.cell? ⟨q, 3, none⟩ = some d :=
  ⟨by simp [World.cell?, h], by simp [World.cell?, h], by simp [World.cell?, h], by simp [World.cell?, h]⟩

theorem lt_heap {W : World} {g : Nat} {o : Obj} (h : W.heap[g]? = some o) : g < W.heap.size := (Array.getElem?_eq_some_iff.1 h).1
theorem HasG.c0' {W : World} {q : Nat} {vL vV : Value} {K : Nat → Prop} {s : Ds} (h : HasG W q vL vV K s) : ∃ A c, W.cell? ⟨q, 0, none⟩ = some (.slice A s.l.length c) := by
  obtain ⟨xs, bs, h, e, _⟩ := h
  obtain ⟨A, c, hv⟩ := h.formL
  have := h.c0
  rw [hv] at this
  rw [← e, List.length_map]
  exact ⟨A, c, this⟩
theorem HasG.lt' {W : World} {q : Nat} {vL vV : Value} {K : Nat → Prop} {s : Ds} (h : HasG W q vL vV K s) : q < W.heap.size := by
  obtain ⟨xs, bs, h, e, _⟩ := h
  exact h.lt
theorem VR.mono {X : World} {base top top' : Nat} {A : Option Addr} {vs : List Vv} (h : VR X base top A vs) (ht : top ≤ top') : VR X base top' A vs :=
  ⟨h.cells.mono fun g hg => ⟨hg.1, by omega⟩, fun j hj => (h.data j hj).mono fun g hg => ⟨hg.1, by omega⟩⟩
theorem few_tris {W : World} {p : Nat} {v : Value} {N : Nat → Prop} {s : Ds} (h : HasD W p v N s) (hl : s.v.length = s.l.length) {vs : List Vv} (t : vs.map Vv.tri = tris s.l s.v) : ∀ x ∈ vs, x.d.length ≤ 1000 := fun x hx => by
  obtain ⟨j, hj, rfl⟩ := List.getElem_of_mem hx
  have hjl : j < s.l.length := by
    have := congrArg List.length t
    rw [List.length_map, tris_len hl] at this
    omega
  have h1 := congrArg (fun l : List (Int × Int × List UInt8) => l[j]?) t
  simp only [List.getElem?_map, List.getElem?_eq_getElem hj, Option.map_some] at h1
  rw [tris_at hl hjl] at h1
  have h2 := Option.some.inj h1
  unfold Vv.tri at h2
  injection h2 with _ h2
  injection h2 with _ h2
  rw [h2]
  exact vat_short h j
/-- The document's values, wherever they lie. -/
def VV (w8 : World) (s : Ds) (u : Value) (W : World) : Prop := ∃ A c us, u = .slice A (List.length us) c ∧ us.map Vv.tri = tris s.l s.v ∧ ∃ b, VR W b W.heap.size A us
set_option maxHeartbeats 16000000 in
theorem plays_good (A : Option Addr) (c : Nat) (es : List En) (Ao : Option Addr) (co : Nat) (os : List Ov) (w : World) (hr : RdE w w.heap.size A es) (hn : es.length ≤ maxLen) (hok : ∀ j, j < es.length → (es.getD j enZ).Ok w)
    (hro : RdO w w.heap.size Ao os) (hno : os.length ≤ maxLen) (hoo : ∀ j, j < os.length → (os.getD j Ov.zero).Ok w) (hg : TG w) (hl : lightB es = true) (hz : (newA (es.map ev)).1 = 0) :
    Calls Tryd.prog 3 #[.slice A es.length c, .slice Ao os.length co] w fun e w' => e = .returned (.bool true) ∧ Below w.heap.size w w' := by
  have HL := Lib.hid (light_law (c := c) hr hn hok)
  rw [hl] at HL
  have l200 := (light_ok hl).1
  have LEN := Lib.hid (fun X (b : Below w.heap.size w X) => rlentl_any A c es X ((hr.below b).mono b.size) l200 fun j hj => ((light_ok hl).2 j hj).1)
  have KN := Lib.hid (fun X (b : Below w.heap.size w X) => known_any X (hg.below b (Nat.le_refl _)))
  have HO := Lib.hid (fun X (b : Below w.heap.size w X) => hro.below b)
  have HOK := Lib.hid hoo
  have HG := Lib.hid hg
  have EVS := Lib.hid (fun (xs : List En) (h : xs.map ev = es.map ev) => light_en hl h)
  have NW := Lib.hid (fun (w1 : World) (b : Below w.heap.size w w1) A1 c1 (xs : List En) (h : xs.map ev = es.map ev) (hr1 : RdE w1 w1.heap.size A1 xs) => show Calls Tryd.prog 7 #[.slice A1 xs.length c1] w1 (NewEnds w1 (es.map ev)) from by
    have h1 := light_en hl h
    have e1 : ∀ j, j < xs.length → EvOk (ev (xs.getD j enZ)) := fun j hj => by
      have h2 : at_ (xs.map ev) j = at_ (es.map ev) j := by rw [h]
      rw [at_map, at_map] at h2
      rw [h2]
      exact evok_of (hok j (by omega)) ((light_ok hl).2 j (by omega)).1 ((light_ok hl).2 j (by omega)).2
    have := new_any A1 c1 xs w1 hr1 e1 (hg.below b (Nat.le_refl _)) (by have := h1.1; unfold maxLen; omega)
    rw [h] at this
    exact this)
  have RN := Lib.hid (fun (w2 : World) (b : Below w.heap.size w w2) => rnew_any A c es w2 ((hr.below b).mono b.size) (fun j hj => evok_of (hok j hj) ((light_ok hl).2 j hj).1 ((light_ok hl).2 j hj).2) hn)
  have AL := Lib.hid (fun (w3 : World) (b : Below w.heap.size w w3) A1 c1 (xs : List En) (h : xs.map ev = es.map ev) (hr1 : RdE w3 w3.heap.size A1 xs) => show Calls Tryd.prog 9 #[.slice A1 xs.length c1, .slice A es.length c] w3 fun e w' => e = .returned (.bool true) ∧ Below w3.heap.size w3 w' from by
    have h1 := light_en hl h
    have := rall_yes c1 c hr1 ((hr.below b).mono b.size) h.symm (by omega) h1.2.2
    rw [h1.1] at this ⊢
    exact this)
  have INV := Lib.hid (show Inv (first (es.map ev)) from inv_first hz)
  unfold maxLen at hno
  have HZ := Lib.hid hz
  clear hr hn hok hro hoo hg hl hz
  go_enter Tryd.func3, Tryd.ntmps3
  go_wp2_with fail
  refine HL.out.mono ?_
  rintro e w' ⟨rfl, rfl⟩
  go_wp2_with fail
  refine (LEN.out _ (Below.refl _ _)).mono ?_
  rintro e w1 ⟨A1, c1, xs, rfl, row, hxl, le, b1, hev⟩
  have E1 := Lib.hid (EVS.out xs hev)
  have HR1 := Lib.hid (rdE_lent row le)
  have S1 := Lib.hid (SE.start row le E1.out.2.1)
  have B1 := Lib.hid b1
  have N1 := Lib.hid (NW.out w1 b1 A1 c1 xs hev HR1.out)
  have AL1 := Lib.hid (fun w3 (b : Below w.heap.size w w3) (b' : Below w1.heap.size w1 w3) => AL.out w3 b A1 c1 xs hev ((HR1.out.below b').mono b'.size))
  have HXL := Lib.hid hxl
  rw [hxl] at N1 AL1
  clear row le b1 hev EVS LEN HL NW AL HR1 hxl E1
  go_wp2_with fail
  refine N1.out.mono ?_
  rintro e w2 ⟨b2, h | h⟩
  rotate_left
  · exact absurd HZ.out h.1
  obtain ⟨_, rfl, v, hd⟩ := h
  have B2 := Lib.hid (B1.out.trans (b2.mono B1.out.size))
  have R2 := Lib.hid (RN.out w2 B2.out)
  have D2 := Lib.hid hd
  have C2 := Lib.hid b2
  clear hd b2 N1 RN
  go_wp2_with fail
  refine R2.out.mono ?_
  rintro e w3 ⟨b3, h | h⟩
  rotate_left
  · exact absurd HZ.out h.1
  obtain ⟨_, rfl, vL, vV, hgd⟩ := h
  have P3 := Lib.hid (PD.start HG.out INV.out B1.out C2.out D2.out b3 hgd)
  have S3 := Lib.hid ((S1.out.next C2.out).next b3)
  have A3 := Lib.hid (AL1.out w3 P3.out.b (C2.out.trans (b3.mono C2.out.size)))
  have SL := Lib.hid (show (first (es.map ev)).l = es.map ev from rfl)
  clear hgd b3 R2 AL1 S1 D2 C2 INV HZ
  generalize first (es.map ev) = s at *
  go_wp2_with fail
  refine A3.out.mono ?_
  rintro e w4 ⟨rfl, b4⟩
  have P4 := Lib.hid (P3.out.next b4)
  have S4 := Lib.hid (S3.out.next b4)
  clear b4 A3 P3 S3 B1 B2
  generalize w1.heap.size = p at *
  generalize w2.heap.size = q at *
  go_wp2_with fail
  go_loopw [12] (fun iv wr => ∃ k : Nat, k ≤ es.length ∧ iv = .int .i64 (k : Int) ∧ Hid (PD w wr (fun g => w.heap.size ≤ g ∧ g < p) p v q vL vV s s) ∧ Hid (SE w.heap.size p wr (.slice A1 es.length c1) k xs)) (fun iv _ => es.length - (intOf iv).toNat)
  case atStart => exact ⟨0, by omega, rfl, P4, S4⟩
  case round =>
    obtain ⟨k, hk, rfl, hP, hS⟩ := hrel
    clear P4 S4
    by_cases hlt : k < es.length
    · have hk' : k < xs.length := by rw [HXL.out]; exact hlt
      obtain ⟨g, c', hv, hc⟩ := SP.cells enZ enl_len hS.out hk'
      have hv1 : A1 = some ⟨g, 0, none⟩ := by injection hv
      subst hv1
      have hm := getD_mem (z := enZ) hk'
      have SPO := Lib.hid (spoil_any _ _ _ wr (hS.out.at enZ hk') hP.out.b.size (Nat.le_trans (hS.out.few _ hm) (by omega)))
      have TP := Lib.hid (hS.out.top _ hm)
      have NX := Lib.hid (fun w5 gr => hS.out.spoilt (W' := w5) enZ et_ne hk' gr)
      have i0 : (0 : Int) ≤ (k : Int) := by omega
      have i1 : (k : Int) < (es.length : Int) := by omega
      have HLT := Lib.hid hlt
      have u10 : wr.cell? ⟨g, k * 11 + 10, none⟩ = some (.slice (xs.getD k enZ).A (xs.getD k enZ).d.length (xs.getD k enZ).c) := hc 10 (by omega)
      clear hc hm hk' hv hS hlt
      generalize xs.getD k enZ = x at *
      go_wp2_with fail
      refine SPO.out.mono ?_
      rintro e w5 ⟨rfl, b5, g5⟩
      have P5 := Lib.hid (hP.out.touch TP.out g5)
      have S5 := Lib.hid (NX.out w5 g5)
      clear b5 g5 NX TP SPO u10
      go_wp2_with fail
      go_roundw
      case rel => exact ⟨k + 1, by have := HLT.out; omega, by go_num, P5, S5⟩
      case measure => have := HLT.out; simp [intOf]; omega
    · obtain rfl : k = es.length := by omega
      have P5 := Lib.hid (hP.out.unlock (K' := fun _ => False) fun g k => k.elim)
      clear hP hS
      go_wp2_with fail
      go_loopw [6, 13] (fun dv iv wr => ∃ (k p' : Nat) (v' : Value) (s' : Ds), k ≤ os.length ∧ k ≤ 40 ∧ dv = ptr p' ∧ iv = .int .i64 (k : Int) ∧ Hid (s'.l.length = es.length) ∧ Hid (PD w wr (fun _ => False) p' v' q vL vV s' s')) (fun dv iv _ => os.length - (intOf iv).toNat)
      case atStart => exact ⟨0, p, v, s, by omega, by omega, rfl, rfl, Lib.hid (by rw [SL.out, List.length_map]), P5⟩
      case round =>
        obtain ⟨k, p', v', s', hk, hk40, rfl, rfl, hL, hP⟩ := hrel
        clear P5 SL
        by_cases hlt : k < os.length ∧ k < 40
        · obtain ⟨h1, h2⟩ := hlt
          obtain ⟨g, off, hA, hgB, q0, q1, q2, q3, hrd⟩ := (HO.out _ hP.out.b).at h1 rfl
          subst hA
          have OK := HOK.out k h1
          have i0 : (0 : Int) ≤ (k : Int) := by omega
          have i1 : (k : Int) < (os.length : Int) := by omega
          have d40 : decide ((k : Int) < 40) = true := decide_eq_true (by omega)
          have d40' : decide (k < 40) = true := decide_eq_true (by omega)
          have RDW := Lib.hid ((HO.out w (Below.refl _ _)).data k h1)
          have LT := Lib.hid (And.intro h1 h2)
          clear h1 h2 hgB hrd
          have OD := OK.d
          unfold maxLen at OD
          clear OK
          generalize os.getD k Ov.zero = O at *
          obtain ⟨ok, ix, sub, Ab, bs, cb⟩ := O
          simp only at q0 q1 q2 q3 OD RDW
          by_cases hbig : 1000 < bs.length
          · have d1 : decide (1000 < (bs.length : Int)) = true := decide_eq_true (by omega)
            have d2 : decide (1000 < bs.length) = true := decide_eq_true hbig
            have b1 := one_b wr (.cells #[.int .i64 ok, .int .i64 ix, .int .i64 sub, .slice Ab bs.length cb] 40)
            have L1 := Lib.hid (hP.out.next b1)
            clear b1 hP
            go_wp2_with fail
            go_roundw
            case rel => exact ⟨k + 1, p', v', s', by have := LT.out; omega, by have := LT.out; omega, rfl, by go_num, hL, L1⟩
            case measure => have := LT.out; simp [intOf]; omega
          · have d1 : decide (1000 < (bs.length : Int)) = false := decide_eq_false (by omega)
            have d2 : decide (1000 < bs.length) = false := decide_eq_false hbig
            have hsm : bs.length ≤ 1000 := by omega
            have BX0 := Lib.hid (hP.out.box (.cells #[.int .i64 ok, .int .i64 ix, .int .i64 sub, .slice Ab bs.length cb] 40))
            obtain ⟨x0, x1, x2, x3⟩ := BX0.out.cells
            have LE := Lib.hid (lent_any Ab bs.length cb bs (wr.alloc (.cells #[.int .i64 ok, .int .i64 ix, .int .i64 sub, .slice Ab bs.length cb] 40)) (BX0.out.arg RDW.out) rfl (by omega))
            have BN := Lib.hid (one_b wr (.cells #[.int .i64 ok, .int .i64 ix, .int .i64 sub, .slice Ab bs.length cb] 40))
            go_wp2_with fail
            refine LE.out.mono ?_
            rintro e w2 ⟨gl, cap, rfl, le, b2⟩
            have B2 := Lib.hid (BN.out.trans (b2.mono BN.out.size))
            have P2 := Lib.hid (hP.out.lock B2.out)
            have X2 := Lib.hid ((b2.block wr.heap.size (by simp)).trans (heap_alloc_new wr (.cells #[.int .i64 ok, .int .i64 ix, .int .i64 sub, .slice Ab bs.length cb] 40)))
            have LE2 := Lib.hid le
            have HB2 := Lib.hid ((rdB_own (le.1.take (by simp) (k := bs.length) (by simp)) rfl).mono (G' := fun g => False ∨ (wr.heap.size ≤ g ∧ g < w2.heap.size)) fun g hg => .inr ⟨by have := hg.1; simp at this; omega, hg.2⟩)
            rw [List.take_left' rfl] at HB2
            have DO := Lib.hid (does_any P2.out ok ix sub (co := cb) (cb := cap) RDW.out HB2.out hsm)
            obtain ⟨y0, y1, y2, y3⟩ := box4' X2.out
            clear le b2 x0 x1 x2 x3 BX0 LE BN q0 q1 q2 q3
            go_wp2_with fail
            refine DO.out.mono ?_
            rintro e w5 ⟨p5, v5, s5, rfl, k5, hl5⟩
            have P5 := Lib.hid k5.d
            have G2 := Lib.hid (show False ∨ (wr.heap.size ≤ gl ∧ gl < w2.heap.size) from .inr ⟨by have := LE2.out.2.2.2.1; simp at this; omega, LE2.out.2.2.2.2⟩)
            have LE5 := Lib.hid (show LentAt w5 wr.heap.size 5 gl cap bs from ⟨Own.lower (LE2.out.1.kept_block (k5.k gl G2.out)) (by simp), LE2.out.2.1, LE2.out.2.2.1, by have := LE2.out.2.2.2.1; simp at this; omega, (k5.d.kl gl G2.out).2⟩)
            obtain ⟨z0, z1, z2, z3⟩ := box4' ((k5.k wr.heap.size (.inr ⟨Nat.le_refl _, lt_heap X2.out⟩)).trans X2.out)
            have hL5 := Lib.hid (hl5.trans hL.out)
            have KE := Lib.hid (kept_yes Ab bs.length cb wr.heap.size w.heap.size gl cap bs w5 LE5.out (RDW.out.below P5.out.b) rfl (by omega))
            have OW5 := LE5.out.1.take (k := bs.length) (by simp) (by simp)
            rw [List.take_left' rfl] at OW5
            have SPO := Lib.hid (spoil_any (.slice (some ⟨gl, 0, none⟩) bs.length cap) _ _ w5 OW5 (Nat.le_trans LE5.out.2.2.2.1 (Nat.le_of_lt LE5.out.2.2.2.2)) (by omega))
            clear k5 hl5 y0 y1 y2 y3 DO HB2 LE2 OW5 P2
            go_wp2_with fail
            refine KE.out.mono ?_
            rintro e w6 ⟨rfl, rfl⟩
            clear z0 z1 z2 z3
            go_wp2_with fail
            refine SPO.out.mono ?_
            rintro e w7 ⟨rfl, _, g7⟩
            have P7 := Lib.hid (P5.out.touch (fun x hx => by cases hx; exact G2.out) g7)
            have V7 := Lib.hid (values_any P7.out.d)
            clear g7 SPO KE LE5 P5 X2
            go_wp2_with fail
            refine V7.out.mono ?_
            rintro e w8 ⟨A8, c8, vs, rfl, row8, lv8, b8, t8⟩
            have HVL := Lib.hid (show vs.length = es.length by
              have := congrArg List.length t8
              rw [List.length_map, tris_len P7.out.i.len, hL5.out] at this
              exact this)
            have P8 := Lib.hid (P7.out.lock b8)
            have VR8 := Lib.hid (VR.of row8 lv8)
            have RV8 := Lib.hid (rvalues_any P8.out.r)
            have LN8 := Lib.hid (fun W (P : PD w W (fun g => (False ∨ (wr.heap.size ≤ g ∧ g < w2.heap.size)) ∨ (w7.heap.size ≤ g ∧ g < w8.heap.size)) p5 v5 q vL vV s5 s5) => len_any P.d)
            have C8 := Lib.hid (fun W (P : PD w W (fun g => (False ∨ (wr.heap.size ≤ g ∧ g < w2.heap.size)) ∨ (w7.heap.size ≤ g ∧ g < w8.heap.size)) p5 v5 q vL vV s5 s5) => P.r.c0')
            have S8 := Lib.hid (SV.start row8 lv8 (few_tris P8.out.d P7.out.i.len t8))
            have SM8 := Lib.hid (fun W (b : Below w8.heap.size w8 W) A2 c2 (us : List Vv) (h : us.map Vv.tri = tris s5.l s5.v) b2 (r2 : VR W b2 W.heap.size A2 us) => rsame_yes c8 c2 (VR8.out.below (Nat.le_refl _) b) r2 b.size (Nat.le_refl _) (by have := HVL.out; have := P8.out.i.few; have := hL5.out; omega) (h.trans t8.symm))
            rw [hL5.out] at C8 LN8
            rw [HVL.out] at SM8 ⊢
            obtain ⟨A9, c9, y9⟩ := C8.out w8 P8.out
            have Y9 := Lib.hid (fun W (b : Below w8.heap.size w8 W) => show W.cell? ⟨q, 0, none⟩ = some (.slice A9 es.length c9) from (b.cell (p := ⟨q, 0, none⟩) P8.out.r.lt').trans y9)
            clear V7 b8 row8 lv8 t8 VR8 y9
            go_wp2_with fail
            refine Txt.wp_region_textV 15 2 3 120 (fun W => Below w8.heap.size w8 W) (VV w8 s5) (by kernel_rfl) (by kernel_rfl) (by kernel_rfl) (by kernel_rfl) (by kernel_rfl) (fun _ _ _ _ _ h => h) (below_drew w8) ?_
            iterate 2 (
              apply Txt.stepV rfl (by decide) (by decide)
              · intro ou W hS K hK
                have HS := Lib.hid hS
                clear hS
                go_simp
                exact hK.out _ HS.out
              · exact ⟨_, rfl⟩)
            apply Txt.specV rfl rfl rfl
            · intro W hS K hK
              have HS := Lib.hid hS
              have RW := Lib.hid (rvalues_any (P8.out.next hS).r)
              clear hS
              go_simp
              go_wp2_with (go_at_call 16; refine RW.out.mono ?_; rintro e w9 ⟨A2, c2, us, rfl, row2, lv2, b2, t2⟩)
              exact hK.out _ _ ⟨HS.out.trans (b2.mono HS.out.size), fun u hu => by cases hu; exact ⟨A2, c2, us, rfl, t2, _, VR.of row2 lv2⟩⟩
            · rfl
            apply Txt.lookV (.bool true) rfl rfl (by decide)
            · intro u W hS K hK
              obtain ⟨A2, c2, us, rfl, g2, b2, r2⟩ := hS.2 u rfl
              have HS := Lib.hid hS
              have AL := Lib.hid (SM8.out _ hS.1 A2 c2 us g2 b2 r2)
              clear hS
              go_simp
              go_wp2_with (go_at_call 15; refine AL.out.mono ?_; rintro e w9 ⟨rfl, b9⟩)
              exact hK.out _ ⟨HS.out.1.trans (b9.mono HS.out.1.size), fun u hu => by cases hu; exact ⟨A2, c2, us, rfl, g2, b2, (r2.below (Nat.le_refl _) b9).mono b9.size⟩⟩
            · rfl
            iterate 11 (
              apply Txt.stepV rfl (by decide) (by decide)
              · intro ou W hS K hK
                have HS := Lib.hid hS
                have LW := Lib.hid (LN8.out W (P8.out.next hS.1))
                have y9 := Y9.out W hS.1
                clear hS
                go_simp
                first
                  | exact hK.out _ HS.out
                  | (go_wp2_with (go_at_call 17; refine LW.out.mono ?_; rintro e w4 ⟨rfl, rfl⟩)
                     exact hK.out _ HS.out)
              · first | exact ⟨_, rfl⟩ | exact ⟨undef, rfl⟩)
            refine Txt.lastV fun u w9 hS9 => ?_
            have P9 := Lib.hid ((P8.out.next hS9).unlock (K' := fun g => w7.heap.size ≤ g ∧ g < w8.heap.size) fun g k => .inr k)
            have S9 := Lib.hid (S8.out.next hS9)
            clear S8 SM8 C8 LN8 RV8 hS9 Y9 P8 P7
            go_wp2_with fail
            go_loopw [19] (fun iv wz => ∃ j : Nat, j ≤ es.length ∧ iv = .int .i64 (j : Int) ∧ Hid (PD w wz (fun g => w7.heap.size ≤ g ∧ g < w8.heap.size) p5 v5 q vL vV s5 s5) ∧ Hid (SV w7.heap.size w8.heap.size wz (.slice A8 es.length c8) j vs)) (fun iv _ => es.length - (intOf iv).toNat)
            case atStart => exact ⟨0, by omega, rfl, P9, by have := S9.out; rw [HVL.out] at this; exact Lib.hid this⟩
            case round =>
              obtain ⟨j, hj, rfl, hPj, hSj⟩ := hrel
              clear P9 S9
              by_cases hlj : j < es.length
              · have hj' : j < vs.length := by rw [HVL.out]; exact hlj
                obtain ⟨gj, cj, hv, hc⟩ := SP.cells Vv.zero vv_len hSj.out hj'
                have hv1 : A8 = some ⟨gj, 0, none⟩ := by injection hv
                subst hv1
                have hm := getD_mem (z := Vv.zero) hj'
                have b7 : w7.heap.size ≤ wr.heap.size := by have := (hSj.out.row.lt gj rfl); omega
                have SPO := Lib.hid (spoil_any _ _ _ wr (hSj.out.at Vv.zero hj') b7 (Nat.le_trans (hSj.out.few _ hm) (by omega)))
                have TP := Lib.hid (hSj.out.top _ hm)
                have NX := Lib.hid (fun w5 gr => hSj.out.spoilt (W' := w5) Vv.zero vt_ne hj' gr)
                have j0 : (0 : Int) ≤ (j : Int) := by omega
                have j1 : (j : Int) < (es.length : Int) := by omega
                have HLT := Lib.hid hlj
                have u2 : wr.cell? ⟨gj, j * 3 + 2, none⟩ = some (.slice (vs.getD j Vv.zero).A (vs.getD j Vv.zero).d.length (vs.getD j Vv.zero).c) := hc 2 (by omega)
                clear hc hm hj' hv hSj hlj b7
                generalize vs.getD j Vv.zero = x at *
                go_wp2_with fail
                refine SPO.out.mono ?_
                rintro e wy ⟨rfl, by_, gy⟩
                have PY := Lib.hid (hPj.out.touch (fun x hx => TP.out x hx) gy)
                have SY := Lib.hid (NX.out wy gy)
                clear by_ gy NX TP SPO u2
                go_wp2_with fail
                go_roundw
                case rel => exact ⟨j + 1, by have := HLT.out; omega, by go_num, PY, SY⟩
                case measure => have := HLT.out; simp [intOf]; omega
              · have PF := Lib.hid (hPj.out.unlock (K' := fun _ => False) fun g k => k.elim)
                clear hPj hSj
                go_wp2_with fail
                go_roundw
                case rel => exact ⟨k + 1, p5, v5, s5, by have := LT.out; omega, by have := LT.out; omega, rfl, by go_num, hL5, PF⟩
                case measure => have := LT.out; simp [intOf]; omega
        · have P6 := Lib.hid hP.out.b
          clear hP
          by_cases h40 : k = 40
          · subst h40
            have K6 := Lib.hid (KN.out _ P6.out)
            clear KN
            go_wp2_with fail
            all_goals
              refine K6.out.mono ?_
              rintro e w7 ⟨rfl, b7⟩
              have B7 := Lib.hid (P6.out.trans (b7.mono P6.out.size))
              clear b7
              go_wp2_with fail
              go_ret
              exact ⟨rfl, B7.out⟩
          · obtain rfl : k = os.length := by omega
            have K6 := Lib.hid (KN.out _ P6.out)
            clear KN
            go_wp2_with fail
            refine K6.out.mono ?_
            rintro e w7 ⟨rfl, b7⟩
            have B7 := Lib.hid (P6.out.trans (b7.mono P6.out.size))
            clear b7
            go_wp2_with fail
            go_ret
            exact ⟨rfl, B7.out⟩

set_option maxHeartbeats 16000000 in
theorem plays_bad (A : Option Addr) (c : Nat) (es : List En) (Ao : Option Addr) (co : Nat) (os : List Ov) (w : World) (hr : RdE w w.heap.size A es) (hn : es.length ≤ maxLen) (hok : ∀ j, j < es.length → (es.getD j enZ).Ok w)
    (hro : RdO w w.heap.size Ao os) (hno : os.length ≤ maxLen) (hoo : ∀ j, j < os.length → (os.getD j Ov.zero).Ok w) (hg : TG w) (hl : lightB es = true) (hz : (newA (es.map ev)).1 ≠ 0) :
    Calls Tryd.prog 3 #[.slice A es.length c, .slice Ao os.length co] w fun e w' => e = .returned (.bool true) ∧ Below w.heap.size w w' := by
  have HL := Lib.hid (light_law (c := c) hr hn hok)
  rw [hl] at HL
  have l200 := (light_ok hl).1
  have LEN := Lib.hid (fun X (b : Below w.heap.size w X) => rlentl_any A c es X ((hr.below b).mono b.size) l200 fun j hj => ((light_ok hl).2 j hj).1)
  have KN := Lib.hid (fun X (b : Below w.heap.size w X) => known_any X (hg.below b (Nat.le_refl _)))
  have HO := Lib.hid (fun X (b : Below w.heap.size w X) => hro.below b)
  have HOK := Lib.hid hoo
  have HG := Lib.hid hg
  have EVS := Lib.hid (fun (xs : List En) (h : xs.map ev = es.map ev) => light_en hl h)
  have NW := Lib.hid (fun (w1 : World) (b : Below w.heap.size w w1) A1 c1 (xs : List En) (h : xs.map ev = es.map ev) (hr1 : RdE w1 w1.heap.size A1 xs) => show Calls Tryd.prog 7 #[.slice A1 xs.length c1] w1 (NewEnds w1 (es.map ev)) from by
    have h1 := light_en hl h
    have e1 : ∀ j, j < xs.length → EvOk (ev (xs.getD j enZ)) := fun j hj => by
      have h2 : at_ (xs.map ev) j = at_ (es.map ev) j := by rw [h]
      rw [at_map, at_map] at h2
      rw [h2]
      exact evok_of (hok j (by omega)) ((light_ok hl).2 j (by omega)).1 ((light_ok hl).2 j (by omega)).2
    have := new_any A1 c1 xs w1 hr1 e1 (hg.below b (Nat.le_refl _)) (by have := h1.1; unfold maxLen; omega)
    rw [h] at this
    exact this)
  have RN := Lib.hid (fun (w2 : World) (b : Below w.heap.size w w2) => rnew_any A c es w2 ((hr.below b).mono b.size) (fun j hj => evok_of (hok j hj) ((light_ok hl).2 j hj).1 ((light_ok hl).2 j hj).2) hn)
  have AL := Lib.hid (fun (w3 : World) (b : Below w.heap.size w w3) A1 c1 (xs : List En) (h : xs.map ev = es.map ev) (hr1 : RdE w3 w3.heap.size A1 xs) => show Calls Tryd.prog 9 #[.slice A1 xs.length c1, .slice A es.length c] w3 fun e w' => e = .returned (.bool true) ∧ Below w3.heap.size w3 w' from by
    have h1 := light_en hl h
    have := rall_yes c1 c hr1 ((hr.below b).mono b.size) h.symm (by omega) h1.2.2
    rw [h1.1] at this ⊢
    exact this)
  have HZ := Lib.hid hz
  clear hr hn hok hro hoo hg hl hz hno HO HOK
  generalize os.length = m at *
  go_enter Tryd.func3, Tryd.ntmps3
  go_wp2_with fail
  refine HL.out.mono ?_
  rintro e w' ⟨rfl, rfl⟩
  go_wp2_with fail
  refine (LEN.out _ (Below.refl _ _)).mono ?_
  rintro e w1 ⟨A1, c1, xs, rfl, row, hxl, le, b1, hev⟩
  have E1 := Lib.hid (EVS.out xs hev)
  have HR1 := Lib.hid (rdE_lent row le)
  have S1 := Lib.hid (SE.start row le E1.out.2.1)
  have B1 := Lib.hid b1
  have N1 := Lib.hid (NW.out w1 b1 A1 c1 xs hev HR1.out)
  have AL1 := Lib.hid (fun w3 (b : Below w.heap.size w w3) (b' : Below w1.heap.size w1 w3) => AL.out w3 b A1 c1 xs hev ((HR1.out.below b').mono b'.size))
  have HXL := Lib.hid hxl
  rw [hxl] at N1 AL1
  clear row le b1 hev EVS LEN HL NW AL HR1 hxl E1
  go_wp2_with fail
  refine N1.out.mono ?_
  rintro e w2 ⟨b2, h | h⟩
  · exact absurd h.1 HZ.out
  obtain ⟨hz, rfl⟩ := h
  have hd : ((newA (es.map ev)).1 == 0) = false := by simpa using hz
  have hd' : decide ((newA (es.map ev)).1 = 0) = false := by simpa using hz
  have B2 := Lib.hid (B1.out.trans (b2.mono B1.out.size))
  have R2 := Lib.hid (RN.out w2 B2.out)
  have C2 := Lib.hid b2
  clear b2 N1 RN hz
  go_wp2_with fail
  refine R2.out.mono ?_
  rintro e w3 ⟨b3, h | h⟩
  · exact absurd h.1 HZ.out
  obtain ⟨hz, u, rfl⟩ := h
  have B3 := Lib.hid (B2.out.trans (b3.mono B2.out.size))
  have S3 := Lib.hid ((S1.out.next C2.out).next b3)
  have A3 := Lib.hid (AL1.out w3 B3.out (C2.out.trans (b3.mono C2.out.size)))
  clear b3 R2 AL1 S1 C2 HZ B1 B2 hz
  generalize (newA (es.map ev)).1 = E at *
  generalize (newA (es.map ev)).2 = F at *
  go_wp2_with fail
  refine A3.out.mono ?_
  rintro e w4 ⟨rfl, b4⟩
  have B4 := Lib.hid (B3.out.trans (b4.mono B3.out.size))
  have S4 := Lib.hid (S3.out.next b4)
  clear b4 A3 S3 B3
  generalize w1.heap.size = p at *
  go_wp2_with fail
  go_loopw [12] (fun iv wr => ∃ k : Nat, k ≤ es.length ∧ iv = .int .i64 (k : Int) ∧ Hid (Below w.heap.size w wr) ∧ Hid (SE w.heap.size p wr (.slice A1 es.length c1) k xs)) (fun iv _ => es.length - (intOf iv).toNat)
  case atStart => exact ⟨0, by omega, rfl, B4, S4⟩
  case round =>
    obtain ⟨k, hk, rfl, hP, hS⟩ := hrel
    clear B4 S4
    by_cases hlt : k < es.length
    · have hk' : k < xs.length := by rw [HXL.out]; exact hlt
      obtain ⟨g, c', hv, hc⟩ := SP.cells enZ enl_len hS.out hk'
      have hv1 : A1 = some ⟨g, 0, none⟩ := by injection hv
      subst hv1
      have hm := getD_mem (z := enZ) hk'
      have SPO := Lib.hid (spoil_any _ _ _ wr (hS.out.at enZ hk') hP.out.size (Nat.le_trans (hS.out.few _ hm) (by omega)))
      have NX := Lib.hid (fun w5 gr => hS.out.spoilt (W' := w5) enZ et_ne hk' gr)
      have i0 : (0 : Int) ≤ (k : Int) := by omega
      have i1 : (k : Int) < (es.length : Int) := by omega
      have HLT := Lib.hid hlt
      have u10 : wr.cell? ⟨g, k * 11 + 10, none⟩ = some (.slice (xs.getD k enZ).A (xs.getD k enZ).d.length (xs.getD k enZ).c) := hc 10 (by omega)
      clear hc hm hk' hv hS hlt
      generalize xs.getD k enZ = x at *
      go_wp2_with fail
      refine SPO.out.mono ?_
      rintro e w5 ⟨rfl, b5, g5⟩
      have B5 := Lib.hid (hP.out.trans b5)
      have S5 := Lib.hid (NX.out w5 g5)
      clear b5 g5 NX SPO u10
      go_wp2_with fail
      go_roundw
      case rel => exact ⟨k + 1, by have := HLT.out; omega, by go_num, B5, S5⟩
      case measure => have := HLT.out; simp [intOf]; omega
    · obtain rfl : k = es.length := by omega
      have B5 := hP
      clear hP hS
      go_wp2_with fail
      go_loopw [6, 13] (fun dv iv wr => dv = .pointer none ∧ iv = .int .i64 0 ∧ Hid (Below w.heap.size w wr)) (fun dv iv _ => 0)
      case atStart => exact ⟨rfl, rfl, B5⟩
      case round =>
        obtain ⟨rfl, rfl, hB⟩ := hrel
        have K6 := Lib.hid (KN.out _ hB.out)
        clear KN
        have hm : (decide (0 < (m : Int)) = false ∧ decide (0 < m) = false) ∨ (decide (0 < (m : Int)) = true ∧ decide (0 < m) = true) := by
          by_cases h : 0 < m
          · right; exact ⟨decide_eq_true (by omega), decide_eq_true h⟩
          · left; exact ⟨decide_eq_false (by omega), decide_eq_false h⟩
        rcases hm with ⟨m1, m2⟩ | ⟨m1, m2⟩
        all_goals
          go_wp2_with fail
          refine K6.out.mono ?_
          rintro e w7 ⟨rfl, b7⟩
          have B7 := Lib.hid (hB.out.trans (b7.mono hB.out.size))
          clear b7
          go_wp2_with fail
          go_ret
          exact ⟨rfl, B7.out⟩

set_option maxHeartbeats 4000000 in
theorem plays_law (A : Option Addr) (c : Nat) (es : List En) (Ao : Option Addr) (co : Nat) (os : List Ov) (w : World) (hr : RdE w w.heap.size A es) (hn : es.length ≤ maxLen) (hok : ∀ j, j < es.length → (es.getD j enZ).Ok w)
    (hro : RdO w w.heap.size Ao os) (hno : os.length ≤ maxLen) (hoo : ∀ j, j < os.length → (os.getD j Ov.zero).Ok w) (hg : TG w) :
    Calls Tryd.prog 3 #[.slice A es.length c, .slice Ao os.length co] w fun e w' => e = .returned (.bool true) ∧ Below w.heap.size w w' := by
  cases hl : lightB es with
  | true =>
    by_cases hz : (newA (es.map ev)).1 = 0
    · exact plays_good A c es Ao co os w hr hn hok hro hno hoo hg hl hz
    · exact plays_bad A c es Ao co os w hr hn hok hro hno hoo hg hl hz
  | false =>
    have HL := Lib.hid (light_law (c := c) hr hn hok)
    rw [hl] at HL
    have HK := Lib.hid (known_any w hg)
    clear hr hn hok hg hl hro hno hoo
    generalize es.length = n at *
    generalize os.length = m at *
    go_enter Tryd.func3, Tryd.ntmps3
    go_wp2_with fail
    refine HL.out.mono ?_
    rintro e w' ⟨rfl, rfl⟩
    go_wp2_with fail
    refine HK.out.mono ?_
    rintro e w' ⟨rfl, b⟩
    have B := Lib.hid b
    clear b
    go_wp2_with fail
    go_ret
    exact ⟨rfl, B.out⟩
end Dic
end Go.Proofs.YtpdnfdpoebhjoaaDoor
