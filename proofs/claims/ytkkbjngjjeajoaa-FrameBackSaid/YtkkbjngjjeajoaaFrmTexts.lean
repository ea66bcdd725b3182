/-
  Text of package frame, and the document's.
-/
import Derived.Test.YtkkbjngjjeajoaaFrmLift
import Derived.Test.YtkkbjngjjeajoaaFrmLinM
import Derived.Test.YtkkbjngjjeajoaaFrmRShow
import Derived.Test.YtkkbjngjjeajoaaBuild
namespace Go.Proofs.Ytkkbjngjjeajoaa
namespace Frm
open Go.RowKit Mem
set_option linter.unusedVariables false
set_option linter.unusedSimpArgs false
set_option maxRecDepth 100000

def textV (l : List Fr) : Value := .tuple #[.string ⟨(textA l).1.toArray⟩, .int .i64 (textA l).2]
theorem textV_bad {l : List Fr} {x : Int} (h : bad l = x) (hx : x ≠ 0) : textV l = .tuple #[.string ⟨#[]⟩, .int .i64 x] := by
  subst h
  unfold textV textA
  rw [if_neg hx]
theorem textV_ok {l : List Fr} (h : bad l = 0) : textV l = .tuple #[.string ⟨(joined l).toArray⟩, .int .i64 0] := by
  unfold textV textA
  rw [if_pos h]
/-- The frames ahead of the k-th have no error; the text so far. -/
def Upto (fs : List Fv) (k : Nat) (t : List UInt8) : Prop := bad ((fs.map Fv.fr).take k) = 0 ∧ joined ((fs.map Fv.fr).take k) = t
theorem Upto.zero (fs : List Fv) : Upto fs 0 [] := ⟨rfl, rfl⟩
theorem fr_get {fs : List Fv} {k : Nat} (hk : k < fs.length) : (fs.map Fv.fr)[k]'(by simpa using hk) = (fs.getD k Fv.zero).fr := by simp [List.getD_eq_getElem?_getD, hk]
theorem Upto.le {fs : List Fv} {k : Nat} {t : List UInt8} (h : Upto fs k t) (hk : k ≤ fs.length) : t.length ≤ 22 * k := by
  have := joined_le _ h.1
  rw [h.2, List.length_take, List.length_map] at this
  omega
theorem Upto.more {fs : List Fv} {k : Nat} {t : List UInt8} (h : Upto fs k t) (hk : k < fs.length) {f : Fv} (hf : fs.getD k Fv.zero = f) (he : err f.id f.r f.d.length = 0) : Upto fs (k + 1) (t ++ text f.id f.r f.d ++ [10]) := by
  have hk2 : k < (fs.map Fv.fr).length := by simpa using hk
  have hg := fr_get hk
  rw [hf] at hg
  exact ⟨(bad_take hk2 h.1 hg).1 he, by rw [joined_take hk2 hg, h.2]; rfl⟩
theorem Upto.bad {fs : List Fv} {k : Nat} {t : List UInt8} (h : Upto fs k t) (hk : k < fs.length) {f : Fv} (hf : fs.getD k Fv.zero = f) (he : err f.id f.r f.d.length ≠ 0) : Frm.bad (fs.map Fv.fr) = err f.id f.r f.d.length := by
  have hk2 : k < (fs.map Fv.fr).length := by simpa using hk
  have hg := fr_get hk
  rw [hf] at hg
  exact (bad_take hk2 h.1 hg).2 he
theorem Upto.done {fs : List Fv} {t : List UInt8} (h : Upto fs fs.length t) : textV (fs.map Fv.fr) = .tuple #[.string ⟨t.toArray⟩, .int .i64 0] := by
  obtain ⟨h1, h2⟩ := h
  rw [List.take_of_length_le (by simp)] at h1 h2
  rw [textV_ok h1, h2]
theorem text_le' {id : Int} {r : Bool} {d : List UInt8} (h : err id r d.length = 0) : (text id r d).length ≤ 21 := text_le (f := ⟨id, r, d⟩) h

set_option maxHeartbeats 1000000 in
theorem text_any (A : Option Addr) (c : Nat) (fs : List Fv) (w : World) (hr : RdF w w.heap.size A fs) (hm : fs.length ≤ 1000000) (ho : ∀ j, j < fs.length → (fs.getD j Fv.zero).Ok) (hd : ∀ j, j < fs.length → (fs.getD j Fv.zero).d.length ≤ 1000) :
    Calls Try.prog 34 #[.slice A fs.length c] w fun e w' => e = .returned (textV (fs.map Fv.fr)) ∧ Below w.heap.size w w' := by
  have F0 := Lib.hid (Lib.fresh_isBuilder 98 5 w)
  have HO := Lib.hid ho
  have HD := Lib.hid hd
  clear ho hd
  go_enter Try.func34, Try.ntmps34
  go_wp2_with fail
  go_loopw [11] (fun iv wr => ∃ (k : Nat) (t : List UInt8), k ≤ fs.length ∧ iv = .int .i64 (k : Int) ∧ Hid (Upto fs k t) ∧ Lib.IsBuilder 98 5 w.heap.size w.heap.size (Lib.byteCells t) wr ∧ Below w.heap.size w wr) (fun iv _ => fs.length - (intOf iv).toNat)
  case atStart => exact ⟨0, [], by omega, rfl, Lib.hid (Upto.zero fs), F0.out, one_below _ _⟩
  case round =>
    obtain ⟨k, t, hk, rfl, hu, hB, hb⟩ := hrel
    have HB := Lib.hid hb
    have HI := Lib.hid hB
    have hle := hu.out.le hk
    clear F0 hB
    by_cases hlt : k < fs.length
    · have UM := Lib.hid (fun f hf he => hu.out.more (f := f) hlt hf he)
      have UB := Lib.hid (fun f hf he => hu.out.bad (f := f) hlt hf he)
      have OK := Lib.hid (HO.out k hlt)
      have OD := Lib.hid (HD.out k hlt)
      obtain ⟨g, off, rfl, hg, q0, q1, q2, hrd⟩ := (hr.below hb).three hlt rfl
      have i1 : (0 : Int) ≤ (k : Int) := by omega
      have i2 : (k : Int) < (fs.length : Int) := by omega
      generalize fs.getD k Fv.zero = F at *
      have UM' := Lib.hid (UM.out F rfl)
      have UB' := Lib.hid (UB.out F rfl)
      have SH := Lib.hid (fun (W : World) (b : Below wr.heap.size wr W) => show_any F.id F.r F.A F.c F.d W (((hrd.mono hb.size).below b).mono b.size) OK.out.k0 OK.out.k1 (by have := OD.out; omega))
      clear UM UB hrd hb hr
      go_wp2_with fail
      refine (SH.out _ (one_below _ _)).mono ?_
      rintro e w1 ⟨rfl, b1⟩
      have K1 := Lib.hid ((one_below wr (.cells #[.int .i64 F.id, .bool F.r, .slice F.A F.d.length F.c] 50)).trans (b1.mono (one_below _ _).size))
      have B1 := Lib.hid (HB.out.trans (K1.out.mono HB.out.size))
      have I1 := Lib.hid (Bld.kept HI.out K1.out)
      clear b1 q0 q1 q2 SH HI
      by_cases he : err F.id F.r F.d.length = 0
      · rw [showV_yes he]
        have tl := text_le' he
        have U2 := Lib.hid (UM'.out he)
        have W1 := Lib.hid (Bld.write_any w.heap.size w.heap.size t (text F.id F.r F.d) w1 I1.out (by omega) B1.out.size)
        clear he
        go_wp2_with fail
        refine W1.out.mono ?_
        rintro e w2 ⟨rfl, h2, b2⟩
        have B2 := Lib.hid (B1.out.trans b2)
        have W2 := Lib.hid (Bld.write_any w.heap.size w.heap.size (t ++ text F.id F.r F.d) [10] w2 h2 (by simp; omega) B2.out.size)
        clear W1 h2 b2
        go_wp2_with fail
        refine W2.out.mono ?_
        rintro e w3 ⟨rfl, h3, b3⟩
        have B3 := Lib.hid (B2.out.trans b3)
        have I3 := Lib.hid h3
        clear W2 h3 b3
        go_wp2_with fail
        go_roundw
        case rel => exact ⟨k + 1, _, by omega, by go_num, U2, I3.out, B3.out⟩
        case measure => simp [intOf]; omega
      · rw [showV_no rfl he]
        have Y := Lib.hid (textV_bad (UB'.out he) he)
        have he' : (err F.id F.r F.d.length != 0) = true := by simp [he]
        generalize err F.id F.r F.d.length = E at *
        clear he
        go_wp2_with fail
        go_ret2
        exact ⟨Y.out ▸ rfl, B1.out⟩
    · obtain rfl : k = fs.length := by omega
      have D := Lib.hid hu.out.done
      have ST := Lib.hid (Try.Builder_String_any w.heap.size w.heap.size t wr HI.out hb.size)
      clear HI
      go_wp2_with fail
      refine ST.out.mono ?_
      rintro e w1 ⟨rfl, b1⟩
      have B1 := Lib.hid (HB.out.trans b1)
      clear b1
      go_wp2_with fail
      go_ret2
      exact ⟨D.out ▸ rfl, B1.out⟩

set_option maxHeartbeats 1000000 in
theorem rtext_any (A : Option Addr) (c : Nat) (fs : List Fv) (w : World) (hr : RdF w w.heap.size A fs) (hm : fs.length ≤ 1000000) (ho : ∀ j, j < fs.length → (fs.getD j Fv.zero).Ok) (hd : ∀ j, j < fs.length → (fs.getD j Fv.zero).d.length ≤ 1000) :
    Calls Try.prog 35 #[.slice A fs.length c] w fun e w' => e = .returned (textV (fs.map Fv.fr)) ∧ Below w.heap.size w w' := by
  have HO := Lib.hid ho
  have HD := Lib.hid hd
  clear ho hd
  go_enter Try.func35, Try.ntmps35
  go_wp2_with fail
  go_loopw [4, 5] (fun sv iv wr => ∃ (k : Nat) (t : List UInt8), k ≤ fs.length ∧ iv = .int .i64 (k : Int) ∧ sv = .string ⟨t.toArray⟩ ∧ Hid (Upto fs k t) ∧ Below w.heap.size w wr) (fun _ iv _ => fs.length - (intOf iv).toNat)
  case atStart => exact ⟨0, [], by omega, rfl, rfl, Lib.hid (Upto.zero fs), Below.refl _ _⟩
  case round =>
    obtain ⟨k, t, hk, rfl, rfl, hu, hb⟩ := hrel
    have HB := Lib.hid hb
    have hle := hu.out.le hk
    by_cases hlt : k < fs.length
    · have UM := Lib.hid (fun f hf he => hu.out.more (f := f) hlt hf he)
      have UB := Lib.hid (fun f hf he => hu.out.bad (f := f) hlt hf he)
      have OK := Lib.hid (HO.out k hlt)
      have OD := Lib.hid (HD.out k hlt)
      obtain ⟨g, off, rfl, hg, q0, q1, q2, hrd⟩ := (hr.below hb).three hlt rfl
      have i1 : (0 : Int) ≤ (k : Int) := by omega
      have i2 : (k : Int) < (fs.length : Int) := by omega
      generalize fs.getD k Fv.zero = F at *
      have UM' := Lib.hid (UM.out F rfl)
      have UB' := Lib.hid (UB.out F rfl)
      have SH := Lib.hid (rshow_any F.id F.r F.A F.c F.d wr (hrd.mono hb.size) OK.out.k0 OK.out.k1 (by have := OD.out; omega))
      clear UM UB hrd hb hr
      go_wp2_with fail
      refine SH.out.mono ?_
      rintro e w1 ⟨rfl, b1⟩
      have B1 := Lib.hid (HB.out.trans (b1.mono HB.out.size))
      clear b1 q0 q1 q2 SH
      by_cases he : err F.id F.r F.d.length = 0
      · rw [showV_yes he]
        have tl := text_le' he
        have U2 := Lib.hid (UM'.out he)
        have s1 := fun W => run_string_add_sum (P := Try.prog) W ⟨t.toArray⟩ ⟨(text F.id F.r F.d).toArray⟩ (by simp [ByteArray.size]; omega)
        have s2 := fun W => run_string_add_sum (P := Try.prog) W (⟨t.toArray⟩ ++ ⟨(text F.id F.r F.d).toArray⟩) ⟨#[10]⟩ (by rw [ByteArray.size_append]; simp [ByteArray.size]; omega)
        have EQ := Lib.hid (show (⟨t.toArray⟩ ++ ⟨(text F.id F.r F.d).toArray⟩ ++ ⟨#[10]⟩ : ByteArray) = ⟨(t ++ text F.id F.r F.d ++ [10]).toArray⟩ by simp [ByteArray.ext_iff])
        clear he
        go_wp2_with fail
        go_roundw
        case rel => exact ⟨k + 1, _, by omega, by go_num, by rw [← EQ.out], U2, B1.out⟩
        case measure => simp [intOf]; omega
      · rw [showV_no rfl he]
        have Y := Lib.hid (textV_bad (UB'.out he) he)
        have he' : (err F.id F.r F.d.length != 0) = true := by simp [he]
        generalize err F.id F.r F.d.length = E at *
        clear he
        go_wp2_with fail
        go_ret2
        exact ⟨Y.out ▸ rfl, B1.out⟩
    · obtain rfl : k = fs.length := by omega
      have D := Lib.hid hu.out.done
      go_wp2_with fail
      go_ret2
      exact ⟨D.out ▸ rfl, HB.out⟩
end Frm
end Go.Proofs.Ytkkbjngjjeajoaa
