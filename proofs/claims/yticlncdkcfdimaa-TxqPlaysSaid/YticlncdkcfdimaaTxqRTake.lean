/-
  The document's without, Take, List.
-/
import Derived.Test.YticlncdkcfdimaaTxqRPut
namespace Go.Proofs.Yticlncdkcfdimaa
namespace Txq
open Go.RowKit Mem Frm
set_option linter.unusedVariables false
set_option linter.unusedSimpArgs false
set_option maxRecDepth 100000

set_option maxHeartbeats 2000000 in
theorem rwithout_any (g c : Nat) (fs : List Fv) (k : Nat) (hk : k < fs.length) (w : World) (hr : RdF w w.heap.size (some ⟨g, 0, none⟩) fs) (hn : fs.length ≤ 64) (hc : fs.length ≤ c) (hcm : c ≤ maxLen) :
    Calls Try.prog 39 #[.slice (some ⟨g, 0, none⟩) fs.length c, .int .i64 (k : Int)] w (RowEnds w (fs.take k ++ fs.drop (k + 1))) := by
  obtain ⟨i0, hi, hz0, hz1, hz2⟩ := info_parts info_frm'
  have i1 : (0 : Int) ≤ (k : Int) := by omega
  have i2 : (k : Int) ≤ (c : Int) := by omega
  have i3 : (k : Int) + 1 ≤ (fs.length : Int) := by omega
  have i4 : (0 : Int) ≤ (k : Int) + 1 := by omega
  have HT := Lib.hid (show (flatF (fs.take k)).length = k * 3 by rw [flatF_len, List.length_take, Nat.min_eq_left (by omega)])
  have HD := Lib.hid (show (flatF (fs.drop (k + 1))).length = (fs.length - (k + 1)) * 3 by rw [flatF_len, List.length_drop])
  have HO := Lib.hid (flat_one (fs.take k))
  have HO2 := Lib.hid (flat_one (fs.drop (k + 1)))
  have CW := Lib.hid (fun W (b : Below w.heap.size w W) => cells_later hr b)
  have LL : (fs.take k ++ fs.drop (k + 1)).length = k + (fs.length - (k + 1)) := by simp; omega
  have ed : c = k + 1 → flatF (fs.drop (k + 1)) = [] := fun h => by
    rw [List.drop_eq_nil_of_le (by omega)]
    rfl
  unfold RowEnds
  rw [flat_app, LL]
  clear LL hr
  have HM := Lib.hid hcm
  unfold maxLen at hcm
  have HK : k + 1 < c ∨ c = k + 1 := by omega
  rcases HK with HK | HK
  · have i5 : (k : Int) + 1 < (c : Int) := by omega
    clear ed
    go_enter Try.func39, Try.ntmps39
    go_wp2_with (first
      | (at_builtin; refine wpList_appX _ rfl (.tmp 6) (.tmp 9) 44 rfl w.heap.size 34 i0 (.agg #[.int .i64 0, .bool false, .slice none 0 0]) 3 40 Try.underlying44 hi hz0 hz1 hz2 rfl (by decide) (.slice none 0 0) 0 [] rfl (World.ownsRow_nil _ _ _ _) (some ⟨g, 0, none⟩) k c (flatF (fs.take k)) rfl HT.out (.inr ⟨_, rfl, cells_take0 (CW.out _ (Below.refl _ _)) k⟩) HO.out (by unfold maxLen; omega) (by omega) (Nat.le_refl _) ?_; intro v1 w1 o1 g1 t1; have B1 := Lib.hid ((Below.refl w.heap.size w).grown g1 (Nat.le_refl _) (by simp [Value.ownBlock])); rw [Nat.zero_add, List.nil_append] at o1; have O1 := Lib.hid o1; obtain ⟨A1, c1, rfl⟩ := row_form o1 rfl; clear o1 g1 t1)
      | (at_builtin; refine wpList_appX _ rfl (.tmp 11) (.tmp 15) 44 rfl w.heap.size 34 i0 (.agg #[.int .i64 0, .bool false, .slice none 0 0]) 3 40 Try.underlying44 hi hz0 hz1 hz2 rfl (by decide) _ k _ rfl O1.out (some ⟨g, (k + 1) * 3, none⟩) (fs.length - (k + 1)) _ (flatF (fs.drop (k + 1))) rfl HD.out (.inr ⟨_, rfl, cells_drop0 (CW.out _ B1.out) (by omega)⟩) HO2.out (by unfold maxLen; omega) (by omega) B1.out.size ?_; intro v2 w2 o2 g2 t2))
    go_ret
    exact ⟨v2, rfl, o2, B1.out.grown g2 B1.out.size (fun q hq => (O1.out.lt q hq).1)⟩
  · have hl : fs.length = k + 1 := by omega
    have ed := ed HK
    subst HK
    go_enter Try.func39, Try.ntmps39
    go_wp2_with (first
      | (at_builtin; refine wpList_appX _ rfl (.tmp 6) (.tmp 9) 44 rfl w.heap.size 34 i0 (.agg #[.int .i64 0, .bool false, .slice none 0 0]) 3 40 Try.underlying44 hi hz0 hz1 hz2 rfl (by decide) (.slice none 0 0) 0 [] rfl (World.ownsRow_nil _ _ _ _) (some ⟨g, 0, none⟩) k _ (flatF (fs.take k)) rfl HT.out (.inr ⟨_, rfl, cells_take0 (CW.out _ (Below.refl _ _)) k⟩) HO.out (by unfold maxLen; omega) (by omega) (Nat.le_refl _) ?_; intro v1 w1 o1 g1 t1; have B1 := Lib.hid ((Below.refl w.heap.size w).grown g1 (Nat.le_refl _) (by simp [Value.ownBlock])); rw [Nat.zero_add, List.nil_append] at o1; have O1 := Lib.hid o1; obtain ⟨A1, c1, rfl⟩ := row_form o1 rfl; clear o1 g1 t1)
      | (at_builtin; refine wpList_appX _ rfl (.tmp 11) (.tmp 15) 44 rfl w.heap.size 34 i0 (.agg #[.int .i64 0, .bool false, .slice none 0 0]) 3 40 Try.underlying44 hi hz0 hz1 hz2 rfl (by decide) _ k _ rfl O1.out (some ⟨g, 0, none⟩) 0 0 [] rfl rfl (.inr ⟨_, rfl, fun j u hu => by cases hu⟩) (fun u hu => by cases hu) (by unfold maxLen; omega) (by omega) B1.out.size ?_; intro v2 w2 o2 g2 t2))
    go_ret
    exact ⟨v2, rfl, by simpa [ed] using o2, B1.out.grown g2 B1.out.size (fun q hq => (O1.out.lt q hq).1)⟩
end Txq
end Go.Proofs.Yticlncdkcfdimaa
