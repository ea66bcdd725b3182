/-
  What a code says: Text, and the document's Text.
-/
import Derived.Test.YtielbmhaidjioaaDoorFltHex
import Derived.Test.YtielbmhaidjioaaDoorFltRows
import Derived.Test.YtielbmhaidjioaaDoorFltRef2
import Derived.Test.YtielbmhaidjioaaDoorShelf
namespace Go.Proofs.YtielbmhaidjioaaDoor
open Go.RowKit Mem
set_option linter.unusedVariables false

theorem str_app (a b : List UInt8) : (⟨a.toArray⟩ : ByteArray) ++ ⟨b.toArray⟩ = ⟨(a ++ b).toArray⟩ := by
  apply ByteArray.ext
  simp
theorem str_size (a : List UInt8) : (⟨a.toArray⟩ : ByteArray).size = a.length := by simp [ByteArray.size]
theorem run_app (W : World) (a b : List UInt8) (h : a.length + b.length ≤ 1000000) : (Op.stringOp .add ⟨a.toArray⟩ ⟨b.toArray⟩).run Tryd.prog W = .ok (.string ⟨(a ++ b).toArray⟩) W := by
  rw [← str_app]
  exact run_string_add_sum W _ _ (by rw [str_size, str_size]; omega)
theorem repeat_48 (n : Nat) : Lib.repeatL [48] n = List.replicate n 48 := by
  induction n with
  | zero => rfl
  | succ n ih => rw [List.replicate_succ, ← ih]; rfl
theorem text_of {c k : Nat} (hk : k ≤ 7) (h : c < 16 ^ (k + 1)) : List.replicate (7 - k) 48 ++ Flt.hexn (k + 1) c = Flt.hexn 8 c := by
  have := Flt.hexn_zeros c (k + 1) (Nat.div_eq_of_lt h) (7 - k)
  rw [← this]
  congr 1
  omega

set_option maxHeartbeats 1000000 in
theorem text_any (c : Int) (h0 : 0 ≤ c) (h1 : c ≤ 4294967295) (a : Nat → Addr) (w : World) (hg : Glob w a) :
    Calls Tryd.prog 11 #[.int .u32 c] w fun e w' => e = .returned (.string ⟨(Flt.text c).toArray⟩) ∧ Below w.heap.size w w' := by
  obtain ⟨n, rfl⟩ := Int.eq_ofNat_of_zero_le h0
  have hF := fmt_any n (by omega) a w hg
  have HT : Hid (Flt.hexn 8 (n : Int).toNat ++ [32] ++ Flt.saying (n : Int) = Flt.text (n : Int)) := Lib.hid rfl
  rw [Int.toNat_natCast] at HT
  have hS := fun W => saying_any (n : Int) W
  have hle := Flt.says_bd (Flt.idx (n : Int))
  have hle' : (Flt.saying (n : Int)).length ≤ 30 := hle
  generalize Flt.saying (n : Int) = S at *
  have HS := Lib.hid hS
  clear hS hle
  go_enter Tryd.func11, Tryd.ntmps11
  go_wp2_with fail
  refine hF.mono ?_
  rintro e w1 ⟨k, hk, hz, rfl, b1⟩
  have hl := Flt.hexn_len (k + 1) n
  have HX := Lib.hid (text_of hk hz)
  generalize Flt.hexn (k + 1) n = L at *
  have HL := Lib.hid hl
  clear hl hF
  go_wp2_with fail
  have e8 : wrap64 (8 - (L.length : Int)) = ((7 - k : Nat) : Int) := by rw [HL.out]; unfold wrap64; omega
  rw [e8]
  have hR := Tryd.strings_Repeat ⟨#[48]⟩ (7 - k) w1 (by omega) (by simp [ByteArray.size]; omega)
  rw [show Lib.repeatL (⟨#[48]⟩ : ByteArray).data.toList (7 - k) = List.replicate (7 - k) 48 from repeat_48 _] at hR
  have hzl : (List.replicate (7 - k) (48 : UInt8)).length ≤ 7 := by simp
  generalize List.replicate (7 - k) (48 : UInt8) = Z at *
  refine hR.mono ?_
  rintro e w2 ⟨rfl, b2⟩
  have hll : L.length ≤ 8 := by have := HL.out; omega
  have a1 := fun W => run_app W Z L (by omega)
  have a2 : ∀ W, (Op.stringOp .add ⟨(Z ++ L).toArray⟩ ⟨#[32]⟩).run Tryd.prog W = .ok (.string ⟨(Z ++ L ++ [32]).toArray⟩) W := fun W => run_app W (Z ++ L) [32] (by simp; omega)
  have a3 := fun W => run_app W (Z ++ L ++ [32]) S (by simp; omega)
  have HB := Lib.hid (b1.trans (b2.mono b1.size))
  have HE : Hid (Z ++ L ++ [32] ++ S = Flt.text (n : Int)) := Lib.hid (by rw [HX.out]; exact HT.out)
  clear b1 b2 hR e8 hzl hll
  obtain ⟨Y1, hY1⟩ : ∃ Y, Z ++ L = Y := ⟨_, rfl⟩
  rw [hY1] at a1 a2 a3 HE
  obtain ⟨Y2, hY2⟩ : ∃ Y, Y1 ++ [32] = Y := ⟨_, rfl⟩
  rw [hY2] at a2 a3 HE
  obtain ⟨Y3, hY3⟩ : ∃ Y, Y2 ++ S = Y := ⟨_, rfl⟩
  rw [hY3] at a3 HE
  clear hY1 hY2 hY3
  go_wp2_with (go_at_call 31; refine (HS.out _).mono ?_; rintro e w3 ⟨rfl, b3⟩)
  go_ret
  exact ⟨by rw [← HE.out]; rfl, HB.out.trans (b3.mono HB.out.size)⟩
end Go.Proofs.YtielbmhaidjioaaDoor
