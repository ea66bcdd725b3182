/-
  parseNumber.
-/
import Derived.Test.YtlibolkkklfdoaaDoorTypDecimal
import Derived.Test.YtlibolkkklfdoaaDoorTypEnc
import Derived.Lib.AtoiErrMem
namespace Go.Proofs.YtlibolkkklfdoaaDoor
open Go.RowKit Mem
set_option linter.unusedVariables false

def parA (t : Int) (l : List UInt8) : List UInt8 × Int :=
  if Dec.decB l = false then ([], 4) else match Dec.numB l with | none => ([], 9) | some n => encA t n

set_option maxRecDepth 100000 in
set_option maxHeartbeats 1000000 in
theorem parseNumber_any (t : Int) (l : List UInt8) (w : World) (hle : l.length ≤ 1000000) (hg : TG w) :
    Calls Tryd.prog 56 #[.int .i64 t, .string ⟨l.toArray⟩] w (Ans 5 w (parA t l)) := by
  have HI := Lib.hid (fun W => isdec_any l W hle)
  have HG := Lib.hid hg
  clear hg
  cases hd : Dec.decB l with
  | false =>
    rw [hd] at HI
    have HE : Hid (parA t l = ([], 4)) := Lib.hid (by unfold parA; rw [if_pos hd])
    rw [HE.out]
    clear hd HE
    go_enter Tryd.func56, Tryd.ntmps56
    go_wp2_with fail
    refine (HI.out _).mono ?_
    rintro e w1 ⟨rfl, rfl⟩
    go_wp2_with fail
    go_ret2
    exact ans_nil (Below.refl _ _)
  | true =>
    rw [hd] at HI
    have hp := Dec.parse_form hd
    have HE : Hid (parA t l = match Dec.numB l with | none => ([], 9) | some n => encA t n) := Lib.hid (by unfold parA; rw [if_neg (by rw [hd]; decide)])
    clear hd
    cases hn : Dec.numB l with
    | none =>
      rw [hn] at hp HE
      obtain ⟨p, hv⟩ := HG.out.rng
      have HP := Lib.hid (Tryd.strconv_ParseInt_10_at64_range_var ⟨l.toArray⟩ (by rw [tstr_size]; omega) hp _ p w hv)
      rw [HE.out]
      clear hp hn hv HE
      go_enter Tryd.func56, Tryd.ntmps56
      go_wp2_with fail
      refine (HI.out _).mono ?_
      rintro e w1 ⟨rfl, rfl⟩
      go_wp2_with fail
      refine HP.out.mono ?_
      rintro e w1 ⟨N, rfl, hN, hc, hb⟩
      go_wp2_with fail
      go_ret2
      exact ans_nil hb
    | some v =>
      rw [hn] at hp HE
      obtain ⟨v0, v1⟩ := Dec.numB_bd hn
      have HP := Lib.hid (Tryd.strconv_ParseInt_10_at64_ok ⟨l.toArray⟩ (by rw [tstr_size]; omega) v hp w)
      have HX := Lib.hid (fun W (hG : TG W) => encode_any t v v0 v1 W hG)
      rw [HE.out]
      clear hp hn HE
      go_enter Tryd.func56, Tryd.ntmps56
      go_wp2_with fail
      refine (HI.out _).mono ?_
      rintro e w1 ⟨rfl, rfl⟩
      go_wp2_with fail
      refine HP.out.mono ?_
      rintro e w2 ⟨rfl, hw⟩
      have hb : Below w.heap.size w w2 := by
        rcases hw with rfl | ⟨t', rfl⟩
        · exact Below.refl _ _
        · exact Lib.bytesWorld_below _ _ _
      have HB := Lib.hid hb
      clear hw hb
      go_wp2_with fail
      refine (HX.out _ (HG.out.below HB.out (Nat.le_refl _))).mono ?_
      rintro e w3 h3
      have h3 := ans_up HB.out h3
      obtain ⟨vv, rfl, ho, hb3⟩ := h3
      go_wp2_with fail
      go_ret2
      exact ⟨vv, rfl, ho, hb3⟩

end Go.Proofs.YtlibolkkklfdoaaDoor
