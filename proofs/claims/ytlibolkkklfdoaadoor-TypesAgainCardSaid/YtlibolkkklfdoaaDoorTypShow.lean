/-
  Show, and the document's Show.
-/
import Derived.Test.YtlibolkkklfdoaaDoorTypParse
import Derived.Test.YtlibolkkklfdoaaDoorTypKnown
import Derived.Test.YtlibolkkklfdoaaDoorTypRNumB
import Derived.Test.YtlibolkkklfdoaaDoorTypRNumC
import Derived.Test.YtlibolkkklfdoaaDoorOctHex
import Derived.Lib.QuietBelow
namespace Go.Proofs.YtlibolkkklfdoaaDoor
open Go.RowKit Mem
set_option linter.unusedVariables false

theorem below_grew (w : World) (k : Nat) (os : Array Obj) : Below w.heap.size w (Sort.grow (w.drewN k) os) :=
  ⟨rfl, rfl, rfl, by simp [Sort.grow], fun i hi => by
    show ((w.drewN k).heap ++ os)[i]? = w.heap[i]?
    rw [show (w.drewN k).heap = w.heap from rfl, Array.getElem?_append_left hi]⟩
theorem fmt_any (m : Int) (d0 : -9223372036854775808 ≤ m) (d1 : m ≤ 9223372036854775807) {w W : World} (S : TS w W) :
    Calls Tryd.prog 51 #[.int .i64 m, .int .i64 10] W fun e w' => e = .returned (.string ⟨(Lib.itoa m).toArray⟩) ∧ TS w w' :=
  (Tryd.strconv_FormatInt_10 m d0 d1 W S.g.pow).mono (by rintro e w' ⟨rfl, k, os, rfl⟩; exact ⟨rfl, S.next (below_grew _ _ _)⟩)
theorem rNumber_any (n : Int) (h0 : -9223372036854775808 ≤ n) (h1 : n ≤ 9223372036854775807) (w : World) :
    Calls Tryd.prog 54 #[.int .i64 n] w fun e w' => e = .returned (.string ⟨(Lib.itoa n).toArray⟩) ∧ Below w.heap.size w w' := by
  by_cases hz : n = 0
  · subst hz; exact rNumber_zero w
  · by_cases hn : n < 0
    · exact rNumber_neg n hz hn h0 h1 w
    · exact rNumber_pos n hz hn h0 h1 w

/-- The text of bytes that Check lets pass. -/
def wrA (t : Int) (bs : List UInt8) : List UInt8 := if Typ.isNum t = true then Lib.itoa (decA t bs).1 else if t = 9 then qAll bs else 35 :: Oct.hex bs
def shA (t : Int) (bs : List UInt8) : List UInt8 × Int := if chkA t 256 bs = 0 then (wrA t bs, 0) else ([], chkA t 256 bs)
theorem chk_facts {t : Int} {bs : List UInt8} (h : chkA t 256 bs = 0) : Typ.known t = true ∧ (Typ.isNum t = true → (decA t bs).2 = 0) ∧ (Typ.isNum t = false → bs.length ≤ 256 ∧ (t = 9 → plainB bs = true)) := by
  unfold chkA at h
  cases hk : Typ.known t with
  | false => rw [hk, if_pos rfl] at h; cases h
  | true =>
    rw [hk, if_neg (by decide)] at h
    refine ⟨rfl, fun hn => ?_, fun hn => ?_⟩
    · rw [if_pos hn] at h; exact h
    · rw [hn, if_neg (by decide)] at h
      by_cases hl : (256 : Int) < bs.length ∨ 256 < bs.length
      · rw [if_pos hl] at h; cases h
      · rw [if_neg hl] at h
        refine ⟨by omega, fun h9 => ?_⟩
        cases hp : plainB bs with
        | true => rfl
        | false => rw [if_pos ⟨h9, hp⟩] at h; cases h
theorem dec_in (t : Int) (bs : List UInt8) : -9223372036854775808 ≤ (decA t bs).1 ∧ (decA t bs).1 ≤ 9223372036854775807 := by
  unfold decA
  by_cases hn : Typ.isNum t = false
  · rw [if_pos hn]; simp
  · have hn' : Typ.isNum t = true := by cases h : Typ.isNum t <;> simp_all
    obtain ⟨s1, s2, s3⟩ := size_facts t hn'
    rw [if_neg hn]
    by_cases a1 : (bs.length : Int) < Typ.size t
    · rw [if_pos a1]; simp
    · rw [if_neg a1]
      by_cases a2 : Typ.size t < bs.length
      · rw [if_pos a2]; simp
      · rw [if_neg a2]
        cases hs : Typ.signed t with
        | true =>
          rw [if_pos rfl]
          have hb := Oct.sgn_bd (nm t bs) (8 * Typ.size t)
          have hp := Oct.pow_64 (b := 8 * Typ.size t) (by omega)
          simp only
          omega
        | false =>
          rw [if_neg (by decide)]
          obtain ⟨p0, p1, p2⟩ := dec_bd t bs hn' hs
          by_cases a3 : t = 1 ∧ 1 < nm t bs
          · rw [if_pos a3]; simp
          · rw [if_neg a3]; simp only; omega

set_option maxRecDepth 100000 in
set_option maxHeartbeats 4000000 in
theorem show_any (t : Int) (A : Option Addr) (n c : Nat) (bs : List UInt8) (h0 : -9223372036854775808 ≤ t) (h1 : t ≤ 9223372036854775807) (w : World) (hr : Rd w w.heap.size A bs) (hn : n = bs.length) (hle : n ≤ 1099511627776) (hg : TG w) :
    Calls Tryd.prog 32 #[.int .i64 t, .slice A n c] w fun e w' => e = .returned (.tuple #[.string ⟨(shA t bs).1.toArray⟩, .int .i64 (shA t bs).2]) ∧ Below w.heap.size w w' := by
  have S0 := Lib.hid (TS.start hg)
  have H1 := Lib.hid (fun W (S : TS w W) => S.call (check_any A n c bs t 256 (by omega) (by omega) W ((hr.below S.b).mono S.b.size) hn hle S.g))
  by_cases hc : chkA t 256 bs = 0
  · obtain ⟨f1, f2, f3⟩ := chk_facts hc
    have e1 : shA t bs = (wrA t bs, 0) := if_pos hc
    rw [e1]
    rw [hc] at H1
    have H2 := Lib.hid (fun W (S : TS w W) => S.call (about_x t W S.g))
    have H3 := Lib.hid (fun W (S : TS w W) => S.call (knum_x t W))
    cases hnum : Typ.isNum t with
    | true =>
      have ew : wrA t bs = Lib.itoa (decA t bs).1 := if_pos hnum
      rw [ew]
      rw [hnum] at H3
      have H4 := Lib.hid (fun W (S : TS w W) => S.call (decode_any A n c bs t W ((hr.below S.b).mono S.b.size) hn hle S.g))
      rw [f2 hnum] at H4
      obtain ⟨d0, d1⟩ := dec_in t bs
      obtain ⟨m, hm⟩ : ∃ m, (decA t bs).1 = m := ⟨_, rfl⟩
      rw [hm] at H4 d0 d1 ⊢
      have H5 := Lib.hid (fun W (S : TS w W) => fmt_any m d0 d1 S)
      clear hr hg hc hn e1 ew hnum f1 f2 f3 hm
      go_enter Tryd.func32, Tryd.ntmps32
      go_wp2_with fail
      refine (H1.out _ S0.out).mono ?_
      clear S0
      rintro e w1 ⟨rfl, S⟩
      have S := Lib.hid S
      go_wp2_with fail
      refine (H2.out _ S.out).mono ?_
      clear S
      rintro e w2 ⟨rfl, S⟩
      have S := Lib.hid S
      go_wp2_with fail
      refine (H3.out _ S.out).mono ?_
      clear S
      rintro e w3 ⟨rfl, S⟩
      have S := Lib.hid S
      go_wp2_with fail
      refine (H4.out _ S.out).mono ?_
      clear S
      rintro e w4 ⟨rfl, S⟩
      have S := Lib.hid S
      go_wp2_with fail
      refine (H5.out _ S.out).mono ?_
      clear S
      rintro e w5 ⟨rfl, S⟩
      have S := Lib.hid S
      go_wp2_with fail
      go_ret2
      exact ⟨rfl, S.out.b⟩
    | false =>
      obtain ⟨g1, g2⟩ := f3 hnum
      rw [hnum] at H3
      by_cases h9 : t = 9
      · have ew : wrA t bs = qAll bs := by unfold wrA; rw [hnum, if_neg (by decide), if_pos h9]
        rw [ew]
        have H4 := Lib.hid (fun W (S : TS w W) => S.call (quoted_any A n c bs W ((hr.below S.b).mono S.b.size) hn (by omega)))
        subst h9
        clear hr hg hc hn e1 ew hnum f1 f2 f3 g1 g2
        go_enter Tryd.func32, Tryd.ntmps32
        go_wp2_with fail
        refine (H1.out _ S0.out).mono ?_
        clear S0
        rintro e w1 ⟨rfl, S⟩
        have S := Lib.hid S
        go_wp2_with fail
        refine (H2.out _ S.out).mono ?_
        clear S
        rintro e w2 ⟨rfl, S⟩
        have S := Lib.hid S
        go_wp2_with fail
        refine (H3.out _ S.out).mono ?_
        clear S
        rintro e w3 ⟨rfl, S⟩
        have S := Lib.hid S
        go_wp2_with fail
        refine (H4.out _ S.out).mono ?_
        clear S
        rintro e w4 ⟨rfl, S⟩
        have S := Lib.hid S
        go_wp2_with fail
        go_ret2
        exact ⟨rfl, S.out.b⟩
      · have ew : wrA t bs = 35 :: Oct.hex bs := by unfold wrA; rw [hnum, if_neg (by decide), if_neg h9]
        rw [ew]
        have h9' : (t == 9) = false := by simpa using h9
        have H4 := Lib.hid (fun W (S : TS w W) => S.call (hex_any A n c bs W ((hr.below S.b).mono S.b.size) hn hle))
        have hhl := Oct.hex_length bs
        have a1 : ∀ W, (Op.stringOp .add ⟨#[35]⟩ ⟨(Oct.hex bs).toArray⟩).run Tryd.prog W = .ok (.string ⟨(35 :: Oct.hex bs).toArray⟩) W := fun W => trun_app W [35] (Oct.hex bs) (by simp; omega)
        clear hr hg hc hn e1 ew hnum f1 f2 f3 g1 g2 hhl
        generalize Oct.hex bs = hx at *
        generalize 35 :: hx = hx2 at *
        go_enter Tryd.func32, Tryd.ntmps32
        go_wp2_with fail
        refine (H1.out _ S0.out).mono ?_
        clear S0
        rintro e w1 ⟨rfl, S⟩
        have S := Lib.hid S
        go_wp2_with fail
        refine (H2.out _ S.out).mono ?_
        clear S
        rintro e w2 ⟨rfl, S⟩
        have S := Lib.hid S
        go_wp2_with fail
        refine (H3.out _ S.out).mono ?_
        clear S
        rintro e w3 ⟨rfl, S⟩
        have S := Lib.hid S
        go_wp2_with fail
        refine (H4.out _ S.out).mono ?_
        clear S
        rintro e w4 ⟨rfl, S⟩
        have S := Lib.hid S
        go_wp2_with fail
        go_ret2
        exact ⟨rfl, S.out.b⟩
  · have e1 : shA t bs = ([], chkA t 256 bs) := if_neg hc
    rw [e1]
    have hb : (chkA t 256 bs != 0) = true := by simpa using hc
    generalize chkA t 256 bs = r at *
    clear hr hg hn e1 hc
    go_enter Tryd.func32, Tryd.ntmps32
    go_wp2_with fail
    refine (H1.out _ S0.out).mono ?_
    clear S0
    rintro e w1 ⟨rfl, S⟩
    have S := Lib.hid S
    go_wp2_with fail
    go_ret2
    exact ⟨rfl, S.out.b⟩

theorem rd_part1 {w : World} {B g off : Nat} {bs : List UInt8} (h : Rd w B (some ⟨g, off, none⟩) bs) {k : Nat} (hk : k < bs.length) : Rd w B (some ⟨g, off + k, none⟩) [bs[k]] := by
  rcases h with rfl | ⟨g', o', e, hg, hc⟩
  · simp at hk
  · cases e
    refine .inr ⟨g, off + k, rfl, hg, fun j hj => ?_⟩
    obtain rfl : j = 0 := by simpa using hj
    rw [Nat.add_zero, hc k hk]
    simp [byt, hk]
set_option maxRecDepth 100000 in
set_option maxHeartbeats 4000000 in
theorem rshow_any (t : Int) (A : Option Addr) (n c : Nat) (bs : List UInt8) (h0 : -9223372036854775808 ≤ t) (h1 : t ≤ 9223372036854775807) (w : World) (hr : Rd w w.heap.size A bs) (hn : n = bs.length) (hle : n ≤ 1099511627776) (hcap : n ≤ c) (hcm : c ≤ maxLen) :
    Calls Tryd.prog 33 #[.int .i64 t, .slice A n c] w fun e w' => e = .returned (.tuple #[.string ⟨(shA t bs).1.toArray⟩, .int .i64 (shA t bs).2]) ∧ Below w.heap.size w w' := by
  have H1 := Lib.hid (rcheck_any A n c w.heap.size bs t 256 (by omega) (by omega) w hr hn hle)
  by_cases hc : chkA t 256 bs = 0
  · obtain ⟨f1, f2, f3⟩ := chk_facts hc
    have e1 : shA t bs = (wrA t bs, 0) := if_pos hc
    rw [e1]
    rw [hc] at H1
    have H2 := Lib.hid (rbits_any t w)
    cases hnum : Typ.isNum t with
    | true =>
      have ew : wrA t bs = Lib.itoa (decA t bs).1 := if_pos hnum
      rw [ew]
      have hbit : 0 < Typ.bits t := by simpa [Typ.isNum] using hnum
      have H4 := Lib.hid (rdecode_any A n c w.heap.size bs t w hr hn hle)
      rw [f2 hnum] at H4
      obtain ⟨d0, d1⟩ := dec_in t bs
      obtain ⟨m, hm⟩ : ∃ m, (decA t bs).1 = m := ⟨_, rfl⟩
      rw [hm] at H4 d0 d1 ⊢
      have H5 := Lib.hid (rNumber_any m d0 d1 w)
      clear hr hc hn e1 ew hnum f1 f2 f3 hm
      generalize Typ.bits t = bt at *
      go_enter Tryd.func33, Tryd.ntmps33
      go_wp2_with fail
      refine H1.out.mono ?_
      rintro e w1 ⟨rfl, rfl⟩
      go_wp2_with fail
      refine H2.out.mono ?_
      rintro e w1 ⟨rfl, rfl⟩
      go_wp2_with fail
      refine H4.out.mono ?_
      rintro e w1 ⟨rfl, rfl⟩
      go_wp2_with fail
      refine H5.out.mono ?_
      rintro e w1 ⟨rfl, b⟩
      have B := Lib.hid b
      clear b
      go_wp2_with fail
      go_ret2
      exact ⟨rfl, B.out⟩
    | false =>
      obtain ⟨g1, g2⟩ := f3 hnum
      have hbit : Typ.bits t ≤ 0 := by simp [Typ.isNum] at hnum; omega
      by_cases h9 : t = 9
      · have ew : wrA t bs = qAll bs := by unfold wrA; rw [hnum, if_neg (by decide), if_pos h9]
        rw [ew]
        have HR := Lib.hid hr
        subst h9
        subst hn
        have hlen : (bs.length : Int) ≤ 256 := by omega
        clear hr hc e1 ew hnum f1 f2 f3 g1 g2
        generalize Typ.bits 9 = bt at *
        go_enter Tryd.func33, Tryd.ntmps33
        go_wp2_with fail
        refine H1.out.mono ?_
        rintro e w1 ⟨rfl, rfl⟩
        go_wp2_with fail
        refine H2.out.mono ?_
        rintro e w1 ⟨rfl, rfl⟩
        go_wp2_with fail
        go_loopw [9, 10] (fun v i wr => ∃ k : Nat, k ≤ bs.length ∧ i = .int .i64 (k : Int) ∧ v = .string ⟨(qBody (bs.take k)).toArray⟩ ∧ Below w.heap.size w wr) (fun _ i _ => bs.length - (intOf i).toNat)
        case atStart => exact ⟨0, by omega, rfl, rfl, Below.refl _ _⟩
        case round =>
          obtain ⟨k, hk, rfl, rfl, hb⟩ := hrel
          have hql : (qBody (bs.take k)).length ≤ 2 * k := Nat.le_trans (qBody_le _) (by simp; omega)
          by_cases hlt : k < bs.length
          · obtain ⟨g, off, rfl, hgB, hcx⟩ := (HR.out.below hb).at_ hlt
            have hrd := rd_part1 (HR.out.below hb) hlt
            have HT := Lib.hid (qBody_take hlt)
            have HX := byt_at hlt
            obtain ⟨ch, hch⟩ : ∃ ch, bs[k] = ch := ⟨_, rfl⟩
            rw [hch] at HT HX hrd
            have hs := fun c' => run_str hrd 1 c' rfl 31 5 9 Tryd.underlying31 Tryd.underlying5 Tryd.underlying9
            clear hch hrd
            have HXH := Lib.hid HX
            clear HX
            generalize hqb : qBody (bs.take k) = qb at *
            have a1 : ∀ W, (Op.stringOp .add ⟨qb.toArray⟩ ⟨#[92]⟩).run Tryd.prog W = .ok (.string ⟨(qb ++ [92]).toArray⟩) W := fun W => trun_app W qb [92] (by simp; omega)
            have a2 : ∀ W, (Op.stringOp .add ⟨(qb ++ [92]).toArray⟩ ⟨[ch].toArray⟩).run Tryd.prog W = .ok (.string ⟨(qb ++ [92] ++ [ch]).toArray⟩) W := fun W => trun_app W (qb ++ [92]) [ch] (by simp; omega)
            have a3 : ∀ W, (Op.stringOp .add ⟨qb.toArray⟩ ⟨[ch].toArray⟩).run Tryd.prog W = .ok (.string ⟨(qb ++ [ch]).toArray⟩) W := fun W => trun_app W qb [ch] (by simp; omega)
            unfold maxLen at hcm
            have HB := Lib.hid hb
            clear hb hqb
            have hk0 : (0 : Int) ≤ (k : Int) := by omega
            have hk1 : (k : Int) < (bs.length : Int) := by omega
            have hk2 : (k : Int) + 1 ≤ (c : Int) := by omega
            generalize byt bs k = x at *
            by_cases x1 : x = 34
            · have HS : Hid (qStep ch = [92, ch]) := Lib.hid (by unfold qStep; rw [← HXH.out, x1]; rfl)
              subst x1
              clear a3
              go_wp2_with fail
              go_roundw
              case rel => exact ⟨k + 1, by omega, by go_num, (by rw [HT.out, HS.out]), HB.out⟩
              case measure => simp [intOf]; omega
            · have x1' : (x == 34) = false := by simpa using x1
              clear x1
              by_cases x2 : x = 92
              · have HS : Hid (qStep ch = [92, ch]) := Lib.hid (by unfold qStep; rw [← HXH.out, x2]; rfl)
                subst x2
                clear a3
                go_wp2_with fail
                go_roundw
                case rel => exact ⟨k + 1, by omega, by go_num, (by rw [HT.out, HS.out]), HB.out⟩
                case measure => simp [intOf]; omega
              · have x2' : (x == 92) = false := by simpa using x2
                have HS : Hid (qStep ch = [ch]) := Lib.hid (by unfold qStep escB; rw [← HXH.out, x1', x2']; rfl)
                clear x2 a1 a2
                go_wp2_with fail
                go_roundw
                case rel => exact ⟨k + 1, by omega, by go_num, (by rw [HT.out, HS.out]), HB.out⟩
                case measure => simp [intOf]; omega
          · obtain rfl : k = bs.length := by omega
            rw [List.take_length] at *
            have HB := Lib.hid hb
            clear hb
            have a4 : ∀ W, (Op.stringOp .add ⟨#[34]⟩ ⟨(qBody bs).toArray⟩).run Tryd.prog W = .ok (.string ⟨([34] ++ qBody bs).toArray⟩) W := fun W => trun_app W [34] (qBody bs) (by simp; omega)
            have a5 : ∀ W, (Op.stringOp .add ⟨([34] ++ qBody bs).toArray⟩ ⟨#[34]⟩).run Tryd.prog W = .ok (.string ⟨([34] ++ qBody bs ++ [34]).toArray⟩) W := fun W => trun_app W ([34] ++ qBody bs) [34] (by simp; omega)
            have HQ : Hid ([34] ++ qBody bs ++ [34] = qAll bs) := Lib.hid rfl
            generalize [34] ++ qBody bs ++ [34] = r2 at *
            generalize [34] ++ qBody bs = r1 at *
            go_wp2_with fail
            go_ret2
            exact ⟨by rw [← HQ.out]; rfl, HB.out⟩
      · have ew : wrA t bs = 35 :: Oct.hex bs := by unfold wrA; rw [hnum, if_neg (by decide), if_neg h9]
        rw [ew]
        have h9' : (t != 9) = true := by simpa using h9
        have H4 := Lib.hid (rhex_any A n c bs w hr hn hle)
        have hhl := Oct.hex_length bs
        have a1 : ∀ W, (Op.stringOp .add ⟨#[35]⟩ ⟨(Oct.hex bs).toArray⟩).run Tryd.prog W = .ok (.string ⟨(35 :: Oct.hex bs).toArray⟩) W := fun W => trun_app W [35] (Oct.hex bs) (by simp; omega)
        clear hr hc hn e1 ew hnum f1 f2 f3 g1 g2 hhl
        generalize Oct.hex bs = hx at *
        generalize 35 :: hx = hx2 at *
        generalize Typ.bits t = bt at *
        go_enter Tryd.func33, Tryd.ntmps33
        go_wp2_with fail
        refine H1.out.mono ?_
        rintro e w1 ⟨rfl, rfl⟩
        go_wp2_with fail
        refine H2.out.mono ?_
        rintro e w1 ⟨rfl, rfl⟩
        go_wp2_with fail
        refine H4.out.mono ?_
        rintro e w1 ⟨rfl, b⟩
        have B := Lib.hid b
        clear b
        go_wp2_with fail
        go_ret2
        exact ⟨rfl, B.out⟩
  · have e1 : shA t bs = ([], chkA t 256 bs) := if_neg hc
    rw [e1]
    have hb : (chkA t 256 bs != 0) = true := by simpa using hc
    generalize chkA t 256 bs = r at *
    clear hr hn e1 hc
    go_enter Tryd.func33, Tryd.ntmps33
    go_wp2_with fail
    refine H1.out.mono ?_
    rintro e w1 ⟨rfl, rfl⟩
    go_wp2_with fail
    go_ret2
    exact ⟨rfl, Below.refl _ _⟩
end Go.Proofs.YtlibolkkklfdoaaDoor
