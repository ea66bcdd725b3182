/-
  The document's Text of a code.
-/
import Derived.Test.YtielbmhaidjioaaDoorFltText
namespace Go.Proofs.YtielbmhaidjioaaDoor
open Go.RowKit Mem
set_option linter.unusedVariables false

theorem hexCut (k : Nat) (hk : k < 16) (W : World) : (Instr.slice 9 (.string ⟨#[48, 49, 50, 51, 52, 53, 54, 55, 56, 57, 97, 98, 99, 100, 101, 102]⟩) (some (.int .u32 (k : Int))) (some (.int .u32 ((k : Int) + 1))) none).run Tryd.prog W = .ok (.string ⟨#[Flt.hexDig.getD k 0]⟩) W :=
  match k, hk with
  | 0, _ => by kernel_rfl
  | 1, _ => by kernel_rfl
  | 2, _ => by kernel_rfl
  | 3, _ => by kernel_rfl
  | 4, _ => by kernel_rfl
  | 5, _ => by kernel_rfl
  | 6, _ => by kernel_rfl
  | 7, _ => by kernel_rfl
  | 8, _ => by kernel_rfl
  | 9, _ => by kernel_rfl
  | 10, _ => by kernel_rfl
  | 11, _ => by kernel_rfl
  | 12, _ => by kernel_rfl
  | 13, _ => by kernel_rfl
  | 14, _ => by kernel_rfl
  | 15, _ => by kernel_rfl
  | n + 16, h => absurd h (by omega)
theorem dg_at (u : Nat) : Flt.hexDig.getD (u % 16) 0 = Flt.dg u := rfl
theorem hexn_next {c k u : Nat} (hu : c / 16 ^ k = u) : [Flt.dg u] ++ Flt.hexn k c = Flt.hexn (k + 1) c := by rw [← hu]; rfl
theorem unknown_text {n : Nat} (h : Flt.known (n : Int) = false) : Flt.hexn 8 n ++ [32, 117, 110, 107, 110, 111, 119, 110] = Flt.text (n : Int) := by
  have h28 : Flt.idx (n : Int) = 28 := by
    have h1 := Flt.idx_le (n : Int)
    unfold Flt.known at h
    have : ¬ Flt.idx (n : Int) < 28 := by simpa using h
    omega
  unfold Flt.text Flt.saying
  rw [h28]
  simp [Flt.says]
theorem known_text {n : Nat} (h : Flt.known (n : Int) = true) : Flt.hexn 8 n ++ [32] ++ Flt.rowText (n : Int) = Flt.text (n : Int) := by
  have h1 : Flt.idx (n : Int) < 28 := by simpa [Flt.known] using h
  have e : Flt.rowText (n : Int) = Flt.saying (n : Int) := (rowText_at h1 (Flt.idx_code h1)).symm.trans (says_at h1 (Flt.idx_code h1))
  rw [e]
  rfl
theorem rowText_bd (c : Int) : (Flt.rowText c).length ≤ 30 := by
  unfold Flt.rowText
  by_cases h : Flt.idx c < 28
  · have key : ∀ k, k < 28 → (Flt.says.getD k []).length ≤ 30 := by decide +kernel
    exact key _ h
  · rw [List.getD_eq_getElem?_getD, List.getElem?_eq_none (by rw [Flt.says_len]; omega)]
    simp

set_option maxHeartbeats 1000000 in
theorem rtext_any (c : Int) (h0 : 0 ≤ c) (h1 : c ≤ 4294967295) (w : World) :
    Calls Tryd.prog 12 #[.int .u32 c] w fun e w' => e = .returned (.string ⟨(Flt.text c).toArray⟩) ∧ Below w.heap.size w w' := by
  obtain ⟨n, rfl⟩ := Int.eq_ofNat_of_zero_le h0
  have HK := Lib.hid (fun W => rknown_any (n : Int) W)
  go_enter Tryd.func12, Tryd.ntmps12
  go_wp2_with fail
  go_loop [3, 4, 5] (fun s u i => ∃ k : Nat, k ≤ 8 ∧ i = .int .i64 k ∧ s = .string ⟨(Flt.hexn k n).toArray⟩ ∧ u = .int .u32 ((n / 16 ^ k : Nat) : Int)) (fun _ _ i => 8 - (intOf i).toNat)
  case atStart => exact ⟨0, by omega, rfl, rfl, by simp⟩
  case round =>
    obtain ⟨k, hk, rfl, rfl, rfl⟩ := hrel
    by_cases hlt : k < 8
    · obtain ⟨u, hu⟩ : ∃ u, n / 16 ^ k = u := ⟨_, rfl⟩
      have hub : u ≤ 4294967295 := by rw [← hu]; exact Nat.le_trans (Nat.div_le_self _ _) (by omega)
      have HN := Lib.hid (hexn_next hu)
      have HD := Lib.hid (div_next hu)
      have HL := Flt.hexn_len k n
      rw [hu]
      clear hu
      generalize Flt.hexn k n = L at *
      have hm : u % 16 < 16 := Nat.mod_lt _ (by decide)
      have hcc : (((u % 16 : Nat)) : Int) = (u : Int) % 16 := by omega
      have f1 : ∀ W, (Instr.slice 9 (.string ⟨#[48, 49, 50, 51, 52, 53, 54, 55, 56, 57, 97, 98, 99, 100, 101, 102]⟩) (some (.int .u32 ((u : Int) % 16))) (some (.int .u32 ((u : Int) % 16 + 1))) none).run Tryd.prog W = .ok (.string ⟨#[Flt.dg u]⟩) W := fun W => by
        have := hexCut (u % 16) hm W
        rw [hcc, dg_at] at this
        exact this
      have f2 := fun W => run_app W [Flt.dg u] L (by simp; omega)
      clear hcc hm
      have HL' := Lib.hid HL
      clear HL
      go_wp2_with fail
      refine ⟨⟨k + 1, by omega, by go_num, ?_, ?_⟩, by simp [intOf]; omega⟩
      · rw [← HN.out]; rfl
      · rw [HD.out]; rfl
    · obtain rfl : k = 8 := by omega
      have hl8 := Flt.hexn_len 8 n
      cases hkn : Flt.known (n : Int) with
      | false =>
        have HT := Lib.hid (unknown_text hkn)
        have hK' := fun W => (HK.out W)
        rw [hkn] at hK'
        have HK' := Lib.hid hK'
        generalize Flt.hexn 8 n = L at *
        have a1 : ∀ W, (Op.stringOp .add ⟨L.toArray⟩ ⟨#[32, 117, 110, 107, 110, 111, 119, 110]⟩).run Tryd.prog W = .ok (.string ⟨(L ++ [32, 117, 110, 107, 110, 111, 119, 110]).toArray⟩) W := fun W => run_app W L [32, 117, 110, 107, 110, 111, 119, 110] (by simp; omega)
        obtain ⟨Y, hY⟩ : ∃ Y, L ++ [32, 117, 110, 107, 110, 111, 119, 110] = Y := ⟨_, rfl⟩
        rw [hY] at a1 HT
        clear hY hl8 hK' hkn
        go_wp2_with fail
        refine (HK'.out _).mono ?_
        rintro e w1 ⟨rfl, b1⟩
        go_wp2_with fail
        go_ret
        exact ⟨by rw [← HT.out]; rfl, b1⟩
      | true =>
        have HT := Lib.hid (known_text hkn)
        have hK' := fun W => (HK.out W)
        rw [hkn] at hK'
        have HK' := Lib.hid hK'
        have hR := rowText_bd (n : Int)
        obtain ⟨r, hr⟩ : ∃ r, rowC (n : Int) = r := ⟨_, rfl⟩
        obtain ⟨y, hy⟩ : ∃ y, Flt.fam (n : Int) = y := ⟨_, rfl⟩
        obtain ⟨z, hz⟩ : ∃ z, Flt.rowText (n : Int) = z := ⟨_, rfl⟩
        rw [hz] at HT hR
        have HR := Lib.hid hr
        have HY := Lib.hid hy
        have HZ := Lib.hid hz
        generalize Flt.hexn 8 n = L at *
        have a1 : ∀ W, (Op.stringOp .add ⟨L.toArray⟩ ⟨#[32]⟩).run Tryd.prog W = .ok (.string ⟨(L ++ [32]).toArray⟩) W := fun W => run_app W L [32] (by simp; omega)
        have a2 := fun W => run_app W (L ++ [32]) z (by simp; omega)
        obtain ⟨Y, hY⟩ : ∃ Y, L ++ [32] = Y := ⟨_, rfl⟩
        rw [hY] at a1 a2 HT
        obtain ⟨Y2, hY2⟩ : ∃ Y2, Y ++ z = Y2 := ⟨_, rfl⟩
        rw [hY2] at a2 HT
        have F2 := fld2
        clear hY hY2 hl8 hK' hkn hr hy hz hR
        go_wp2_with fail
        refine (HK'.out _).mono ?_
        rintro e w1 ⟨rfl, b1⟩
        go_wp2_with fail
        refine (find_at HR HY HZ _).mono ?_
        rintro e w2 ⟨rfl, b2⟩
        have HB := Lib.hid (b1.trans (b2.mono b1.size))
        clear b1 b2
        go_wp2_with fail
        go_ret
        exact ⟨by rw [← HT.out]; rfl, HB.out⟩
end Go.Proofs.YtielbmhaidjioaaDoor
