/-
  What a code says, and the document's row of a code.
-/
import Derived.Test.YtielbmhaidjioaaDoorFltTab
import Derived.Deep.DeepCutAuto
namespace Go.Proofs.YtielbmhaidjioaaDoor
open Go.RowKit Mem
set_option linter.unusedVariables false

/-- The table that saying goes through. -/
def sayV : Value := .agg #[
  .int .u32 84082688, .string ⟨#[116, 111, 103, 103, 108, 101, 32, 98, 105, 116, 32, 110, 111, 116, 32, 97, 108, 116, 101, 114, 110, 97, 116, 101, 100]⟩,
  .int .u32 84148224, .string ⟨#[112, 114, 111, 116, 111, 99, 111, 108, 32, 116, 105, 109, 101, 100, 32, 111, 117, 116]⟩,
  .int .u32 84148225, .string ⟨#[117, 110, 107, 110, 111, 119, 110, 32, 99, 111, 109, 109, 97, 110, 100]⟩,
  .int .u32 84148226, .string ⟨#[105, 110, 118, 97, 108, 105, 100, 32, 98, 108, 111, 99, 107, 32, 115, 105, 122, 101]⟩,
  .int .u32 84148227, .string ⟨#[105, 110, 118, 97, 108, 105, 100, 32, 115, 101, 113, 117, 101, 110, 99, 101, 32, 110, 117, 109, 98, 101, 114]⟩,
  .int .u32 84148228, .string ⟨#[115, 117, 109, 32, 101, 114, 114, 111, 114]⟩,
  .int .u32 84148229, .string ⟨#[111, 117, 116, 32, 111, 102, 32, 109, 101, 109, 111, 114, 121]⟩,
  .int .u32 100728832, .string ⟨#[117, 110, 115, 117, 112, 112, 111, 114, 116, 101, 100, 32, 97, 99, 99, 101, 115, 115]⟩,
  .int .u32 100728833, .string ⟨#[119, 114, 105, 116, 101, 32, 111, 110, 108, 121]⟩,
  .int .u32 100728834, .string ⟨#[114, 101, 97, 100, 32, 111, 110, 108, 121]⟩,
  .int .u32 100794368, .string ⟨#[110, 111, 32, 115, 117, 99, 104, 32, 111, 98, 106, 101, 99, 116]⟩,
  .int .u32 100925505, .string ⟨#[99, 97, 110, 32, 110, 111, 116, 32, 98, 101, 32, 109, 97, 112, 112, 101, 100]⟩,
  .int .u32 100925506, .string ⟨#[109, 97, 112, 112, 105, 110, 103, 32, 116, 111, 111, 32, 108, 111, 110, 103]⟩,
  .int .u32 100925507, .string ⟨#[112, 97, 114, 97, 109, 101, 116, 101, 114, 32, 105, 110, 99, 111, 109, 112, 97, 116, 105, 98, 108, 101]⟩,
  .int .u32 100925511, .string ⟨#[105, 110, 116, 101, 114, 110, 97, 108, 32, 105, 110, 99, 111, 109, 112, 97, 116, 105, 98, 105, 108, 105, 116, 121]⟩,
  .int .u32 101056512, .string ⟨#[104, 97, 114, 100, 119, 97, 114, 101, 32, 101, 114, 114, 111, 114]⟩,
  .int .u32 101122064, .string ⟨#[108, 101, 110, 103, 116, 104, 32, 100, 111, 101, 115, 32, 110, 111, 116, 32, 109, 97, 116, 99, 104]⟩,
  .int .u32 101122066, .string ⟨#[116, 111, 111, 32, 108, 111, 110, 103]⟩,
  .int .u32 101122067, .string ⟨#[116, 111, 111, 32, 115, 104, 111, 114, 116]⟩,
  .int .u32 101253137, .string ⟨#[110, 111, 32, 115, 117, 99, 104, 32, 115, 117, 98, 45, 105, 110, 100, 101, 120]⟩,
  .int .u32 101253168, .string ⟨#[118, 97, 108, 117, 101, 32, 111, 117, 116, 32, 111, 102, 32, 114, 97, 110, 103, 101]⟩,
  .int .u32 101253169, .string ⟨#[118, 97, 108, 117, 101, 32, 116, 111, 111, 32, 104, 105, 103, 104]⟩,
  .int .u32 101253170, .string ⟨#[118, 97, 108, 117, 101, 32, 116, 111, 111, 32, 108, 111, 119]⟩,
  .int .u32 134217728, .string ⟨#[103, 101, 110, 101, 114, 97, 108, 32, 101, 114, 114, 111, 114]⟩,
  .int .u32 134217760, .string ⟨#[99, 97, 110, 32, 110, 111, 116, 32, 98, 101, 32, 115, 116, 111, 114, 101, 100]⟩,
  .int .u32 134217761, .string ⟨#[108, 111, 99, 97, 108, 32, 99, 111, 110, 116, 114, 111, 108]⟩,
  .int .u32 134217762, .string ⟨#[100, 101, 118, 105, 99, 101, 32, 115, 116, 97, 116, 101]⟩,
  .int .u32 134217764, .string ⟨#[110, 111, 32, 100, 97, 116, 97]⟩]
theorem sayRun (k : Nat) (hk : k < 28) (w : World) : (Instr.index 75 sayV (.int .i64 (k : Int))).run Tryd.prog w = .ok (.agg #[.int .u32 (Flt.codes.getD k 0), .string ⟨(Flt.says.getD k []).toArray⟩]) w :=
  match k, hk with
  | 0, _ => by kernel_rfl
  | 1, _ => by kernel_rfl
  | 2, _ => by kernel_rfl
  | 3, _ => by kernel_rfl
  | 4, _ => by kernel_rfl
  | 5, _ => by kernel_rfl
  | 6, _ => by kernel_rfl
  | 7, _ => by kernel_rfl
  | 8, _ => by kernel_rfl
  | 9, _ => by kernel_rfl
  | 10, _ => by kernel_rfl
  | 11, _ => by kernel_rfl
  | 12, _ => by kernel_rfl
  | 13, _ => by kernel_rfl
  | 14, _ => by kernel_rfl
  | 15, _ => by kernel_rfl
  | 16, _ => by kernel_rfl
  | 17, _ => by kernel_rfl
  | 18, _ => by kernel_rfl
  | 19, _ => by kernel_rfl
  | 20, _ => by kernel_rfl
  | 21, _ => by kernel_rfl
  | 22, _ => by kernel_rfl
  | 23, _ => by kernel_rfl
  | 24, _ => by kernel_rfl
  | 25, _ => by kernel_rfl
  | 26, _ => by kernel_rfl
  | 27, _ => by kernel_rfl
  | n + 28, h => absurd h (by omega)
theorem says_at {c : Int} {k : Nat} (hk : k < 28) (h : Flt.codes.getD k 0 = c) : Flt.says.getD k [] = Flt.saying c := by
  unfold Flt.saying
  rw [Flt.idx_at hk h, List.getD_eq_getElem?_getD, List.getD_eq_getElem?_getD, List.getElem?_eq_getElem (show k < Flt.says.length from hk)]
  rfl
theorem saying_no {c : Int} (h : ∀ k, k < 28 → Flt.codes.getD k 0 ≠ c) : Flt.saying c = [117, 110, 107, 110, 111, 119, 110] := by
  unfold Flt.saying
  rw [Flt.idx_no h]
  rfl

set_option maxRecDepth 100000 in
set_option maxHeartbeats 1000000 in
theorem saying_any (c : Int) (w : World) :
    Calls Tryd.prog 31 #[.int .u32 c] w fun e w' => e = .returned (.string ⟨(Flt.saying c).toArray⟩) ∧ Below w.heap.size w w' := by
  go_enter Tryd.func31, Tryd.ntmps31
  go_upto_region 1 with fail
  go_cut [33, 34] from 5 to 33 (fun v i wx => v = sayV ∧ i = .int .i64 0 ∧ w = wx)
  case first =>
    go_wp2_with fail
    go_meet
    exact ⟨rfl, rfl, rfl⟩
  obtain ⟨rfl, rfl, rfl⟩ := hcut
  go_wp2_with fail
  go_loopw [34] (fun i wr => ∃ k : Nat, k ≤ 28 ∧ i = .int .i64 k ∧ (∀ j, j < k → Flt.codes.getD j 0 ≠ c) ∧ Below w.heap.size w wr) (fun i _ => 28 - (intOf i).toNat)
  case atStart => exact ⟨0, by omega, rfl, fun j hj => by omega, Below.refl _ _⟩
  case round =>
    obtain ⟨k, hk, rfl, hno, hb⟩ := hrel
    have HN := Lib.hid hno
    clear hno
    by_cases hlt : k < 28
    · have hrun := fun W => sayRun k hlt W
      have hB := fun o => Lib.hid (hb.alloc (hb.size) o)
      by_cases he : Flt.codes.getD k 0 = c
      · have he' : (Flt.codes.getD k 0 == c) = true := by rw [he]; simp
        have HS := Lib.hid (says_at hlt he)
        clear he
        generalize Flt.codes.getD k 0 = x at *
        go_wp2_with fail
        go_ret
        exact ⟨by rw [← HS.out]; rfl, (hB _).out⟩
      · have he' : (Flt.codes.getD k 0 == c) = false := by simpa using he
        have HE := Lib.hid he
        clear he
        generalize hx : Flt.codes.getD k 0 = x at *
        have HX := Lib.hid hx
        clear hx
        go_wp2_with fail
        go_roundw
        case rel =>
          refine ⟨k + 1, by omega, by go_num, fun j hj => ?_, (hB _).out⟩
          by_cases hjk : j = k
          · subst hjk; rw [HX.out]; exact HE.out
          · exact HN.out j (by omega)
        case measure => simp [intOf]; omega
    · obtain rfl : k = 28 := by omega
      have HS := Lib.hid (saying_no (c := c) HN.out)
      go_wp2_with fail
      go_ret
      exact ⟨by rw [HS.out]; rfl, hb⟩
end Go.Proofs.YtielbmhaidjioaaDoor
