/-
  The document's text of faults wrapped in one another.
-/
import Derived.Test.YtielbmhaidjioaaDoorFltRText
import Derived.Test.YtielbmhaidjioaaDoorFltText
import Derived.Test.YtielbmhaidjioaaDoorFltGlob
import Derived.Test.YtielbmhaidjioaaDoorInts
import Derived.Lib.Join
namespace Go.Proofs.YtielbmhaidjioaaDoor
open Go.RowKit Mem
set_option linter.unusedVariables false

def chainL (zs : List Int) : List UInt8 := Lib.join (zs.map fun c => Flt.text (Flt.cnt c)) [58, 32]
theorem join_snoc (xs : List (List UInt8)) (y sep : List UInt8) (h : xs ≠ []) : Lib.join (xs ++ [y]) sep = Lib.join xs sep ++ sep ++ y := by
  cases xs with
  | nil => exact absurd rfl h
  | cons x r => rw [List.cons_append, Lib.join_cons, Lib.join_cons]; simp [Lib.joinTail]
theorem chainL_first {zs : List Int} (h : 0 < zs.length) : chainL (zs.take 1) = Flt.text (Flt.cnt (zs.getD 0 0)) := by
  cases zs with
  | nil => simp at h
  | cons x r => simp [chainL, Lib.join]
theorem chainL_next {zs : List Int} {k : Nat} (h0 : 0 < k) (hk : k < zs.length) : chainL (zs.take (k + 1)) = chainL (zs.take k) ++ [58, 32] ++ Flt.text (Flt.cnt (zs.getD k 0)) := by
  unfold chainL
  rw [List.take_succ_eq_append_getElem hk, List.map_append, List.map_cons, List.map_nil, join_snoc _ _ _ (by
    intro e
    have := congrArg List.length e
    simp only [List.length_map, List.length_take, List.length_nil] at this
    omega)]
  simp [hk]
theorem chainL_le (zs : List Int) : (chainL zs).length ≤ 41 * zs.length := by
  have key : ∀ n, n ≤ zs.length → (chainL (zs.take n)).length ≤ 41 * n := by
    intro n
    induction n with
    | zero => intro _; simp [chainL, Lib.join]
    | succ n ih =>
      intro hn
      by_cases h0 : n = 0
      · subst h0
        rw [chainL_first (by omega)]
        have := Flt.text_len (Flt.cnt (zs.getD 0 0))
        omega
      · rw [chainL_next (by omega) (by omega)]
        have := Flt.text_len (Flt.cnt (zs.getD n 0))
        have := ih (by omega)
        simp only [List.length_append, List.length_cons, List.length_nil]
        omega
  have := key zs.length (Nat.le_refl _)
  rwa [List.take_length] at this
theorem drewN_below (w : World) : Below w.heap.size w w.drew := ⟨rfl, rfl, rfl, Nat.le_refl _, fun _ _ => rfl⟩

set_option maxRecDepth 100000 in
set_option maxHeartbeats 2000000 in
theorem rchain_any (A : Option Addr) (c : Nat) (zs : List Int) (w : World) (hr : RdI .u32 w w.heap.size A zs) (hle : zs.length ≤ 60) :
    Calls Tryd.prog 22 #[.slice A zs.length c] w fun e w' => e = .returned (.string ⟨(chainL zs).toArray⟩) ∧ Below w.heap.size w w' := by
  obtain ⟨n, hn⟩ : ∃ n, zs.length = n := ⟨_, rfl⟩
  rw [hn] at hle ⊢
  have HN := Lib.hid hn
  have HR := Lib.hid hr
  clear hn hr
  go_enter Tryd.func22, Tryd.ntmps22
  go_wp2_with fail
  go_loopw [3, 4] (fun s i wr => ∃ k : Nat, k ≤ n ∧ i = .int .i64 (k : Int) ∧ s = .string ⟨(chainL (zs.take k)).toArray⟩ ∧ Below w.heap.size w wr) (fun _ i _ => (n - (intOf i).toNat))
  case atStart => exact ⟨0, by omega, rfl, rfl, Below.refl _ _⟩
  case round =>
    obtain ⟨k, hk, rfl, rfl, hB⟩ := hrel
    have HB := Lib.hid hB
    clear hB
    by_cases hlt : k < n
    · obtain ⟨g, off, rfl, hgl, _⟩ := HR.out.at_ (j := k) (by rw [HN.out]; omega)
      have hc : wr.cell? ⟨g, off + k, none⟩ = some (.int .u32 (zs.getD k 0)) := by
        obtain ⟨g', off', e, _, hc⟩ := (HR.out.below HB.out).at_ (j := k) (by rw [HN.out]; omega)
        cases e
        exact hc
      have h1 := Lib.hid (fun W => counts_any (zs.getD k 0) W)
      have hbd := Flt.cnt_bd (zs.getD k 0)
      have h2 := Lib.hid (fun W => rtext_any (Flt.cnt (zs.getD k 0)) (by omega) hbd.2 W)
      have hL := chainL_le (zs.take k)
      have hLk : (chainL (zs.take k)).length ≤ 41 * k := Nat.le_trans hL (by simp; omega)
      have hT := Flt.text_len (Flt.cnt (zs.getD k 0))
      clear hL hbd
      have HX1 : Hid (k = 0 → chainL (zs.take (k + 1)) = chainL (zs.take k) ++ Flt.text (Flt.cnt (zs.getD k 0))) := Lib.hid fun h => by
        subst h
        rw [chainL_first (by rw [HN.out]; omega)]; rfl
      have HX2 : Hid (0 < k → chainL (zs.take (k + 1)) = chainL (zs.take k) ++ [58, 32] ++ Flt.text (Flt.cnt (zs.getD k 0))) := Lib.hid fun h => chainL_next h (by rw [HN.out]; omega)
      obtain ⟨L', hL'⟩ : ∃ L', chainL (zs.take (k + 1)) = L' := ⟨_, rfl⟩
      rw [hL'] at HX1 HX2
      have HE := Lib.hid hL'
      clear hL'
      generalize Flt.text (Flt.cnt (zs.getD k 0)) = T at *
      generalize Flt.cnt (zs.getD k 0) = CK at *
      generalize zs.getD k 0 = zk at *
      generalize chainL (zs.take k) = L at *
      have a0 := fun W => run_app W L T (by omega)
      have a1 : ∀ W, (Op.stringOp .add ⟨L.toArray⟩ ⟨#[58, 32]⟩).run Tryd.prog W = .ok (.string ⟨(L ++ [58, 32]).toArray⟩) W := fun W => run_app W L [58, 32] (by simp; omega)
      obtain ⟨M, hM⟩ : ∃ M, L ++ [58, 32] = M := ⟨_, rfl⟩
      have hMl : M.length ≤ 41 * k + 2 := by rw [← hM]; simp; omega
      rw [hM] at a1 HX2
      clear hM
      have a2 := fun W => run_app W M T (by omega)
      generalize hLT : L ++ T = LT at *
      clear hLT
      generalize hMT : M ++ T = MT at *
      clear hMT hMl hT hLk
      by_cases hk0 : k = 0
      · have e := HX1.out hk0
        subst e hk0
        rw [Nat.add_zero] at hc
        clear HX1 HX2
        go_wp2_with fail
        refine (h1.out _).mono ?_
        rintro e w1 ⟨rfl, b1⟩
        have b1 := Lib.hid b1
        go_wp2_with fail
        refine (h2.out _).mono ?_
        rintro e w2 ⟨rfl, b2⟩
        have b2 := Lib.hid b2
        go_wp2_with fail
        go_roundw
        case rel => exact ⟨1, by omega, by go_num, by rw [HE.out], (HB.out.trans (b1.out.mono HB.out.size)).trans (b2.out.mono (Nat.le_trans HB.out.size b1.out.size))⟩
        case measure => simp [intOf]; omega
      · have hk1 : (0 : Int) < (k : Int) := by omega
        have e := HX2.out (by omega)
        subst e
        clear HX1 HX2
        go_wp2_with fail
        refine (h1.out _).mono ?_
        rintro e w1 ⟨rfl, b1⟩
        have b1 := Lib.hid b1
        go_wp2_with fail
        refine (h2.out _).mono ?_
        rintro e w2 ⟨rfl, b2⟩
        have b2 := Lib.hid b2
        go_wp2_with fail
        go_roundw
        case rel => exact ⟨k + 1, by omega, by go_num, by rw [HE.out], (HB.out.trans (b1.out.mono HB.out.size)).trans (b2.out.mono (Nat.le_trans HB.out.size b1.out.size))⟩
        case measure => simp [intOf]; omega
    · have HK : Hid (zs.take k = zs) := Lib.hid (List.take_of_length_le (by rw [HN.out]; omega))
      go_wp2_with fail
      go_ret
      refine ⟨?_, HB.out⟩
      rw [HK.out]; rfl
end Go.Proofs.YtielbmhaidjioaaDoor
