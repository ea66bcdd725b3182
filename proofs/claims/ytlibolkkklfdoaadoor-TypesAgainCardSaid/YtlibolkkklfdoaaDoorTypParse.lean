/-
  Parse, and the document's Parse.
-/
import Derived.Test.YtlibolkkklfdoaaDoorTypUnq
import Derived.Test.YtlibolkkklfdoaaDoorTypRText
import Derived.Test.YtlibolkkklfdoaaDoorTypRNum
import Derived.Test.YtlibolkkklfdoaaDoorTypParNum
import Derived.Test.YtlibolkkklfdoaaDoorOctRefHex
namespace Go.Proofs.YtlibolkkklfdoaaDoor
open Go.RowKit Mem
set_option linter.unusedVariables false

def bodyB (t : Int) (l : List UInt8) : Option (List UInt8) := if t = 9 then unqA l else unhB l
def finA (t : Int) (o : Option (List UInt8)) : List UInt8 × Int := match o with | none => ([], 4) | some b => if chkA t 256 b = 0 then (b, 0) else ([], chkA t 256 b)
theorem finA_ok {t : Int} {b : List UInt8} (h : chkA t 256 b = 0) : finA t (some b) = (b, 0) := if_pos h
theorem finA_bad {t x : Int} {b : List UInt8} (h : chkA t 256 b = x) (hx : ¬ x = 0) : finA t (some b) = ([], x) := by subst h; exact if_neg hx
def prsA (t : Int) (l : List UInt8) : List UInt8 × Int :=
  if Typ.known t = false then ([], 15) else if Typ.isNum t = true then parA t l
  else finA t (bodyB t l)
theorem unqB_le {l : List UInt8} : ∀ {bh : Bool} {b : List UInt8}, unqB bh l = some b → b.length ≤ l.length := by
  induction l with
  | nil => intro bh b h; unfold unqB at h; split at h <;> cases h; simp
  | cons c r ih =>
    intro bh b h
    unfold unqB at h
    split at h
    · have := ih h; simp; omega
    · split at h
      · cases hr : unqB false r with
        | none => rw [hr] at h; cases h
        | some b' =>
          rw [hr] at h
          have := ih hr
          cases h
          simp
          omega
      · cases h
theorem bodyB_le {t : Int} {l b : List UInt8} (h : bodyB t l = some b) : b.length ≤ l.length := by
  unfold bodyB at h
  split at h
  · rcases unq_shape l with ⟨B, hl, h1, _⟩ | ⟨h1, _⟩
    · rw [h1] at h
      have := unqB_le h
      rw [hl]
      simp
      omega
    · rw [h1] at h; cases h
  · rcases unh_cases l with ⟨r, hl, h1, _⟩ | ⟨h1, _⟩
    · rw [h1] at h
      have := Oct.unhex_length _ _ h
      rw [hl]
      simp
      omega
    · rw [h1] at h; cases h
theorem ext_one {l r : List UInt8} (h : l = 35 :: r) : ((⟨l.toArray⟩ : ByteArray).extract 1 l.length) = ⟨r.toArray⟩ := by
  subst h
  apply ByteArray.ext
  simp [ByteArray.data_extract]
theorem chk_ne {x : Int} (h : x ≠ 0) : (x != 0) = true := by simpa using h

set_option maxRecDepth 100000 in
set_option maxHeartbeats 2000000 in
theorem parse_any (t : Int) (l : List UInt8) (w : World) (hle : l.length ≤ 1000000) (hg : TG w) :
    Calls Tryd.prog 34 #[.int .i64 t, .string ⟨l.toArray⟩] w (Ans 5 w (prsA t l)) := by
  have H1 := Lib.hid (about_x t w hg)
  have H2 := Lib.hid (fun W => kknown_x t W)
  have H3 := Lib.hid (fun W => knum_x t W)
  have HG := Lib.hid hg
  clear hg
  cases hk : Typ.known t with
  | false =>
    have HE : Hid (prsA t l = ([], 15)) := Lib.hid (by unfold prsA; rw [if_pos hk])
    rw [hk] at H2
    rw [HE.out]
    clear hk
    go_enter Tryd.func34, Tryd.ntmps34
    go_wp2_with fail
    refine H1.out.mono ?_
    rintro e w1 ⟨rfl, b1⟩
    have S := KS.new t HG.out b1
    have b1 := Lib.hid b1
    obtain ⟨q0, q1, q2, q3, q4⟩ := S.cells
    have S := Lib.hid S
    go_wp2_with fail
    refine (S.out.call (H2.out _)).mono ?_
    clear S q0 q1 q2 q3 q4
    rintro e w2 ⟨rfl, S⟩
    have S := Lib.hid S
    go_wp2_with fail
    go_ret2
    exact ans_nil S.out.b_
  | true =>
    rw [hk] at H2
    cases hn : Typ.isNum t with
    | true =>
      rw [hn] at H3
      have HE : Hid (prsA t l = parA t l) := Lib.hid (by unfold prsA; rw [if_neg (by rw [hk]; decide), if_pos hn])
      have HP := Lib.hid (fun W (hG : TG W) => parseNumber_any t l W hle hG)
      rw [HE.out]
      clear hk hn
      go_enter Tryd.func34, Tryd.ntmps34
      go_wp2_with fail
      refine H1.out.mono ?_
      rintro e w1 ⟨rfl, b1⟩
      have S := KS.new t HG.out b1
      have b1 := Lib.hid b1
      obtain ⟨q0, q1, q2, q3, q4⟩ := S.cells
      have S := Lib.hid S
      go_wp2_with fail
      refine (S.out.call (H2.out _)).mono ?_
      clear S q0 q1 q2 q3 q4
      rintro e w2 ⟨rfl, S⟩
      obtain ⟨q0, q1, q2, q3, q4⟩ := S.cells
      have S := Lib.hid S
      go_wp2_with fail
      refine (S.out.call (H3.out _)).mono ?_
      clear S q0 q1 q2 q3 q4
      rintro e w3 ⟨rfl, S⟩
      have S := Lib.hid S
      go_wp2_with fail
      refine (HP.out _ S.out.g).mono ?_
      rintro e w4 h4
      obtain ⟨vv, rfl, ho, hb4⟩ := ans_up S.out.b_ h4
      go_wp2_with fail
      go_ret2
      exact ⟨vv, rfl, ho, hb4⟩
    | false =>
      rw [hn] at H3
      have HE : Hid (prsA t l = finA t (bodyB t l)) := Lib.hid (by unfold prsA; rw [if_neg (by rw [hk]; decide), if_neg (by rw [hn]; decide)])
      have HC := Lib.hid (fun A n c bs W (hr : Rd W W.heap.size A bs) (hn : n = bs.length) (hle : n ≤ 1099511627776) (hG : TG W) => check_any A n c bs t 256 (by omega) (by omega) W hr hn hle hG)
      rw [HE.out]
      clear hk hn HE
      have HU := Lib.hid (fun W => unquoted_any l W hle)
      have HX := Lib.hid (fun W => unhexed_any l W hle)
      have hcase : ((t == 9) = true ∧ bodyB t l = unqA l) ∨ ((t == 9) = false ∧ bodyB t l = unhB l) := by
        unfold bodyB
        by_cases h : t = 9
        · left; exact ⟨by simpa using h, by rw [if_pos h]⟩
        · right; exact ⟨by simpa using h, by rw [if_neg h]⟩
      rcases hcase with ⟨h9, hb⟩ | ⟨h9, hb⟩
      all_goals
        first
          | rw [← hb] at HU
          | rw [← hb] at HX
        have HBL := Lib.hid (fun b h => bodyB_le (t := t) (l := l) (b := b) h)
        clear hb
        generalize bodyB t l = O at *
        go_enter Tryd.func34, Tryd.ntmps34
        go_wp2_with fail
        refine H1.out.mono ?_
        rintro e w1 ⟨rfl, b1⟩
        have S := KS.new t HG.out b1
        have b1 := Lib.hid b1
        obtain ⟨q0, q1, q2, q3, q4⟩ := S.cells
        have S := Lib.hid S
        go_wp2_with fail
        refine (S.out.call (H2.out _)).mono ?_
        clear S q0 q1 q2 q3 q4
        rintro e w2 ⟨rfl, S⟩
        obtain ⟨q0, q1, q2, q3, q4⟩ := S.cells
        have S := Lib.hid S
        go_wp2_with fail
        refine (S.out.call (H3.out _)).mono ?_
        clear S q0 q1 q2 q3 q4
        rintro e w3 ⟨rfl, S⟩
        have S := Lib.hid S
        go_wp2_with fail
        first
          | refine (HU.out _).mono ?_
          | refine (HX.out _).mono ?_
        rintro e w4 ⟨m1, m2, m3⟩
        have HZ := Lib.hid S.out.b_.size
        have S := Lib.hid (S.out.next m3)
        have m3 := Lib.hid m3
        cases O with
        | none =>
          obtain ⟨v, rfl⟩ := m2 rfl
          clear m1 m2
          go_wp2_with fail
          go_ret2
          exact ans_nil S.out.b_
        | some bs =>
          obtain ⟨v, rfl, ho⟩ := m1 bs rfl
          clear m1 m2
          have hbl := HBL.out bs rfl
          obtain ⟨A, c, rfl, hr⟩ := ho.form
          have hC := HC.out A bs.length c bs w4 hr rfl (by omega) S.out.g
          have HO := Lib.hid ho
          clear ho hr
          obtain ⟨x, hxe⟩ : ∃ x, chkA t 256 bs = x := ⟨_, rfl⟩
          rw [hxe] at hC
          have HXE := Lib.hid hxe
          clear hxe
          have HCC := Lib.hid hC
          clear hC hbl
          go_wp2_with fail
          refine HCC.out.mono ?_
          rintro e w5 ⟨rfl, b5⟩
          have hB5 := Lib.hid (S.out.b_.trans (b5.mono S.out.b_.size))
          have HO5 := Lib.hid ((HO.out.below b5 (Nat.le_refl _)).lower HZ.out)
          by_cases hx : x = 0
          · subst hx
            go_wp2_with fail
            go_ret2
            (rw [finA_ok HXE.out]; exact ⟨_, rfl, HO5.out, hB5.out⟩)
          · have hx' := chk_ne hx
            have HX0 := Lib.hid hx
            go_wp2_with fail
            go_ret2
            (rw [finA_bad HXE.out HX0.out]; exact ans_nil hB5.out)

set_option maxRecDepth 100000 in
set_option maxHeartbeats 2000000 in
theorem rparse_any (t : Int) (l : List UInt8) (w : World) (hle : l.length ≤ 1000000) :
    Calls Tryd.prog 35 #[.int .i64 t, .string ⟨l.toArray⟩] w (Ans 5 w (prsA t l)) := by
  have H1 := Lib.hid (fun W => rknown_any t W)
  have H2 := Lib.hid (fun W => rbits_any t W)
  cases hk : Typ.known t with
  | false =>
    have HE : Hid (prsA t l = ([], 15)) := Lib.hid (by unfold prsA; rw [if_pos hk])
    rw [hk] at H1
    rw [HE.out]
    clear hk
    go_enter Tryd.func35, Tryd.ntmps35
    go_wp2_with fail
    refine (H1.out _).mono ?_
    rintro e w1 ⟨rfl, rfl⟩
    go_wp2_with fail
    go_ret2
    exact ans_nil (Below.refl _ _)
  | true =>
    rw [hk] at H1
    cases hn : Typ.isNum t with
    | true =>
      have hb : decide (0 < Typ.bits t) = true := by simpa [Typ.isNum] using hn
      have HE : Hid (prsA t l = parA t l) := Lib.hid (by unfold prsA; rw [if_neg (by rw [hk]; decide), if_pos hn])
      have HN := Lib.hid (fun W => rnumber_any l W hle)
      rw [HE.out]
      clear hk hn
      generalize Typ.bits t = bt at *
      cases hd : Dec.decB l with
      | false =>
        have HF : Hid (parA t l = ([], 4)) := Lib.hid (by unfold parA; rw [if_pos hd])
        rw [numA_form hd] at HN
        rw [HF.out]
        clear hd
        go_enter Tryd.func35, Tryd.ntmps35
        go_wp2_with fail
        refine (H1.out _).mono ?_
        rintro e w1 ⟨rfl, rfl⟩
        go_wp2_with fail
        refine (H2.out _).mono ?_
        rintro e w1 ⟨rfl, rfl⟩
        go_wp2_with fail
        refine (HN.out _).mono ?_
        rintro e w1 ⟨rfl, rfl⟩
        go_wp2_with fail
        go_ret2
        exact ans_nil (Below.refl _ _)
      | true =>
        cases hv : Dec.numB l with
        | none =>
          have HF : Hid (parA t l = ([], 9)) := Lib.hid (by unfold parA; rw [if_neg (by rw [hd]; decide), hv])
          have ha : numA l = (0, 2) := by unfold numA; rw [if_neg (by rw [hd]; decide), hv]
          rw [ha] at HN
          rw [HF.out]
          clear hd hv ha
          go_enter Tryd.func35, Tryd.ntmps35
          go_wp2_with fail
          refine (H1.out _).mono ?_
          rintro e w1 ⟨rfl, rfl⟩
          go_wp2_with fail
          refine (H2.out _).mono ?_
          rintro e w1 ⟨rfl, rfl⟩
          go_wp2_with fail
          refine (HN.out _).mono ?_
          rintro e w1 ⟨rfl, rfl⟩
          go_wp2_with fail
          go_ret2
          exact ans_nil (Below.refl _ _)
        | some v =>
          have HF : Hid (parA t l = encA t v) := Lib.hid (by unfold parA; rw [if_neg (by rw [hd]; decide), hv])
          have ha : numA l = (v, 0) := by unfold numA; rw [if_neg (by rw [hd]; decide), hv]
          obtain ⟨v0, v1⟩ := Dec.numB_bd hv
          have HX := Lib.hid (fun W => rencode_any t v v0 v1 W)
          rw [ha] at HN
          rw [HF.out]
          clear hd hv ha
          go_enter Tryd.func35, Tryd.ntmps35
          go_wp2_with fail
          refine (H1.out _).mono ?_
          rintro e w1 ⟨rfl, rfl⟩
          go_wp2_with fail
          refine (H2.out _).mono ?_
          rintro e w1 ⟨rfl, rfl⟩
          go_wp2_with fail
          refine (HN.out _).mono ?_
          rintro e w1 ⟨rfl, rfl⟩
          go_wp2_with fail
          refine (HX.out _).mono ?_
          rintro e w4 ⟨vv, rfl, ho, hb4⟩
          go_wp2_with fail
          go_ret2
          exact ⟨vv, rfl, ho, hb4⟩
    | false =>
      have hb : decide (0 < Typ.bits t) = false := by simpa [Typ.isNum] using hn
      have HE : Hid (prsA t l = finA t (bodyB t l)) := Lib.hid (by unfold prsA; rw [if_neg (by rw [hk]; decide), if_neg (by rw [hn]; decide)])
      have HC := Lib.hid (fun A n c B bs W (hr : Rd W B A bs) (hn : n = bs.length) (hle : n ≤ 1099511627776) => rcheck_any A n c B bs t 256 (by omega) (by omega) W hr hn hle)
      rw [HE.out]
      clear hk hn HE
      generalize Typ.bits t = bt at *
      have HU := Lib.hid (fun W => rtext_any l W hle)
      have HBL := Lib.hid (fun b h => bodyB_le (t := t) (l := l) (b := b) h)
      by_cases h : t = 9
      · have hbo : bodyB t l = unqA l := by unfold bodyB; rw [if_pos h]
        have h9 : (t == 9) = true := by simpa using h
        rw [← hbo] at HU
        clear hbo h
        generalize bodyB t l = O at *
        go_enter Tryd.func35, Tryd.ntmps35
        go_wp2_with fail
        refine (H1.out _).mono ?_
        rintro e w1 ⟨rfl, rfl⟩
        go_wp2_with fail
        refine (H2.out _).mono ?_
        rintro e w1 ⟨rfl, rfl⟩
        go_wp2_with fail
        refine (HU.out _).mono ?_
        rintro e w4 ⟨m1, m2, m3⟩
        have m3 := Lib.hid m3
        cases O with
        | none =>
          obtain ⟨v, rfl⟩ := m2 rfl
          clear m1 m2
          go_wp2_with fail
          go_ret2
          exact ans_nil m3.out
        | some bs =>
          obtain ⟨v, rfl, ho⟩ := m1 bs rfl
          clear m1 m2
          have hbl := HBL.out bs rfl
          obtain ⟨A, c, rfl, hr⟩ := ho.form
          have hC := HC.out A bs.length c w4.heap.size bs w4 hr rfl (by omega)
          have HO := Lib.hid ho
          clear ho hr
          obtain ⟨x, hxe⟩ : ∃ x, chkA t 256 bs = x := ⟨_, rfl⟩
          rw [hxe] at hC
          have HXE := Lib.hid hxe
          clear hxe
          have HCC := Lib.hid hC
          clear hC hbl
          go_wp2_with fail
          refine HCC.out.mono ?_
          rintro e w5 ⟨rfl, rfl⟩
          by_cases hx : x = 0
          · subst hx
            go_wp2_with fail
            go_ret2
            (rw [finA_ok HXE.out]; exact ⟨_, rfl, HO.out, m3.out⟩)
          · have hx' := chk_ne hx
            have HX0 := Lib.hid hx
            go_wp2_with fail
            go_ret2
            (rw [finA_bad HXE.out HX0.out]; exact ans_nil m3.out)
      · have hbo : bodyB t l = unhB l := by unfold bodyB; rw [if_neg h]
        have h9 : (t == 9) = false := by simpa using h
        clear h HU
        rw [hbo]
        rcases unh_cases l with ⟨r, hl, h1, _⟩ | ⟨h1, _, _, h3⟩
        · have HR := Lib.hid (fun W => runhex_any r W (by rw [hl] at hle; simp at hle; omega))
          rw [h1]
          have hp0 : 0 < (⟨l.toArray⟩ : ByteArray).size := by rw [tstr_size, hl]; simp
          have hpl : 0 < l.length := by rw [hl]; simp
          have e0 : ((((⟨l.toArray⟩ : ByteArray)[0]'hp0).toNat : Nat) : Int) = 35 := by rw [str_at, hl]; rfl
          have HL := Lib.hid hl
          clear hbo h1 hl HBL
          go_enter Tryd.func35, Tryd.ntmps35
          go_wp2_with fail
          refine (H1.out _).mono ?_
          rintro e w1 ⟨rfl, rfl⟩
          go_wp2_with fail
          refine (H2.out _).mono ?_
          rintro e w1 ⟨rfl, rfl⟩
          go_wp2_with fail
          rw [ext_one HL.out]
          refine (HR.out _).mono ?_
          rintro e w2 ⟨u1, u2, u3⟩
          cases hu : Oct.unhex r with
          | none =>
            have := u2 hu
            subst this
            have HU' := Lib.hid hu
            clear u1 u2 hu
            go_wp2_with fail
            go_ret2
            rw [HU'.out]
            exact ans_nil u3
          | some bs =>
            obtain ⟨v, rfl, ho⟩ := u1 bs hu
            have hbl := Oct.unhex_length _ _ hu
            have hrl : r.length ≤ 1000000 := by have := HL.out; rw [this] at hle; simp at hle; omega
            have HU' := Lib.hid hu
            clear u1 u2 hu
            unfold pairOk
            have m3 := Lib.hid u3
            obtain ⟨A, c, rfl, hr⟩ := ho.form
            have hC := HC.out A bs.length c w2.heap.size bs w2 hr rfl (by omega)
            have HO := Lib.hid ho
            clear ho hr u3
            obtain ⟨x, hxe⟩ : ∃ x, chkA t 256 bs = x := ⟨_, rfl⟩
            rw [hxe] at hC
            have HXE := Lib.hid hxe
            clear hxe
            have HCC := Lib.hid hC
            clear hC hbl
            go_wp2_with fail
            refine HCC.out.mono ?_
            rintro e w5 ⟨rfl, rfl⟩
            by_cases hx : x = 0
            · subst hx
              go_wp2_with fail
              go_ret2
              (rw [HU'.out, finA_ok HXE.out]; exact ⟨_, rfl, HO.out, m3.out⟩)
            · have hx' := chk_ne hx
              have HX0 := Lib.hid hx
              go_wp2_with fail
              go_ret2
              (rw [HU'.out, finA_bad HXE.out HX0.out]; exact ans_nil m3.out)
        · rw [h1]
          clear hbo h1 HBL
          by_cases hnil : l = []
          · subst hnil
            go_enter Tryd.func35, Tryd.ntmps35
            go_wp2_with fail
            refine (H1.out _).mono ?_
            rintro e w1 ⟨rfl, rfl⟩
            go_wp2_with fail
            refine (H2.out _).mono ?_
            rintro e w1 ⟨rfl, rfl⟩
            go_wp2_with fail
            go_ret2
            exact ans_nil (Below.refl _ _)
          · have hpl : 0 < l.length := List.length_pos_iff.2 hnil
            have hp0 : 0 < (⟨l.toArray⟩ : ByteArray).size := by rw [tstr_size]; exact hpl
            have e0 := str_at l 0 hp0
            have hne : (byt l 0 != 35) = true := by
              cases l with
              | nil => exact absurd rfl hnil
              | cons c r =>
                have : c ≠ 35 := fun e => h3 r (by rw [e])
                simp [byt]
                intro e
                exact this (UInt8.toNat_inj.1 (Int.ofNat_inj.1 e))
            clear hnil h3
            go_enter Tryd.func35, Tryd.ntmps35
            go_wp2_with fail
            refine (H1.out _).mono ?_
            rintro e w1 ⟨rfl, rfl⟩
            go_wp2_with fail
            refine (H2.out _).mono ?_
            rintro e w1 ⟨rfl, rfl⟩
            go_wp2_with fail
            go_ret2
            exact ans_nil (Below.refl _ _)
end Go.Proofs.YtlibolkkklfdoaaDoor
