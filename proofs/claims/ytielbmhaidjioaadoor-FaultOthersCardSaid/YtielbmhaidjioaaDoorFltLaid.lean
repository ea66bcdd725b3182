/-
  What the statements' condition (the package variables are as the program's text lays them) gives the walks: Glob.
-/
import Derived.Test.YtielbmhaidjioaaDoorRows
import Derived.Test.YtielbmhaidjioaaDoorFltGlob
import Derived.ChangeVars
import Derived.LaidLaws
import Derived.LaidHandle
import Derived.RowKitTokens
import Derived.Lib.LaidTab
import Derived.Stop.LaidErr
namespace Go.Proofs.YtielbmhaidjioaaDoor
open Go.RowKit Mem
set_option linter.unusedVariables false

theorem starE : "*" ++ "errors.errorString" = "*errors.errorString" := by decide
theorem rowE (u : TypeId) (h : Tryd.prog.typeName? 3 u = some "*errors.errorString") : u = 129 :=
  typeName_ptr_named (nm := "errors.errorString") (by rw [starE]; kernel_rfl) (by kernel_rfl) (by decide) u (by rw [starE]; exact h)
theorem cellsE : Tryd.prog.cellsOf 147 = 1 := by kernel_rfl
theorem cellsS : Tryd.prog.cellsOf 9 = 1 := by kernel_rfl
theorem gl1 : Tryd.prog.globalNamed "wheelhouse/fault.errProtocol" = some 0 := by kernel_rfl
theorem gl2 : Tryd.prog.globalNamed "wheelhouse/fault.errAccess" = some 1 := by kernel_rfl
theorem gl3 : Tryd.prog.globalNamed "wheelhouse/fault.errSize" = some 2 := by kernel_rfl
theorem gl4 : Tryd.prog.globalNamed "wheelhouse/fault.errValue" = some 3 := by kernel_rfl
theorem gl5 : Tryd.prog.globalNamed "wheelhouse/fault.errDevice" = some 4 := by kernel_rfl
theorem glT : Tryd.prog.globalNamed "errors.errorType" = some 5 := by kernel_rfl
theorem glB : Tryd.prog.globalNamed "math/bits.deBruijn64tab" = some 9 := by kernel_rfl
theorem ty1 : (Tryd.prog.globals[0]?).map (·.type) = some 24 := by kernel_rfl
theorem ty2 : (Tryd.prog.globals[1]?).map (·.type) = some 24 := by kernel_rfl
theorem ty3 : (Tryd.prog.globals[2]?).map (·.type) = some 24 := by kernel_rfl
theorem ty4 : (Tryd.prog.globals[3]?).map (·.type) = some 24 := by kernel_rfl
theorem ty5 : (Tryd.prog.globals[4]?).map (·.type) = some 24 := by kernel_rfl
theorem rtT : (Tryd.prog.cutTypes.find? (·.1 == "internal/reflectlite.rtype")).map (·.2) = some 104 := by kernel_rfl
theorem oneE : ((List.range Tryd.prog.types.size).filter fun t => Tryd.prog.rowNamed t [101, 114, 114, 111, 114]) = [24] := by kernel_rfl

def laidL : List (String × DataW Unit) := [("math/bits.deBruijn32tab", Rows.laid_math_bits_deBruijn32tab), ("math/bits.deBruijn64tab", Rows.laid_math_bits_deBruijn64tab), ("internal/strconv.uint64pow10", Rows.laid_internal_strconv_uint64pow10), ("errors.errorType", Rows.laid_errors_errorType), ("wheelhouse/fault.errProtocol", Rows.laid_wheelhouse_fault_errProtocol), ("wheelhouse/fault.errAccess", Rows.laid_wheelhouse_fault_errAccess), ("wheelhouse/fault.errSize", Rows.laid_wheelhouse_fault_errSize), ("wheelhouse/fault.errValue", Rows.laid_wheelhouse_fault_errValue), ("wheelhouse/fault.errDevice", Rows.laid_wheelhouse_fault_errDevice)]
def laid5 : List (String × DataW Unit) := [("wheelhouse/fault.errProtocol", Rows.laid_wheelhouse_fault_errProtocol), ("wheelhouse/fault.errAccess", Rows.laid_wheelhouse_fault_errAccess), ("wheelhouse/fault.errSize", Rows.laid_wheelhouse_fault_errSize), ("wheelhouse/fault.errValue", Rows.laid_wheelhouse_fault_errValue), ("wheelhouse/fault.errDevice", Rows.laid_wheelhouse_fault_errDevice)]
def laid7 : List (String × DataW Unit) := ("math/bits.deBruijn64tab", Rows.laid_math_bits_deBruijn64tab) :: ("internal/strconv.uint64pow10", Rows.laid_internal_strconv_uint64pow10) :: laid5
theorem parts_of_laid {W : World} (h : laidMetH Tryd.prog laidL W) : laidMet Tryd.prog laid7 W ∧ handlesMet Tryd.prog [("errors.errorType", Rows.laid_errors_errorType)] W := by
  have h' : laidMet Tryd.prog (("math/bits.deBruijn32tab", Rows.laid_math_bits_deBruijn32tab) :: laid7) W ∧ handlesMet Tryd.prog [("errors.errorType", Rows.laid_errors_errorType)] W := h
  exact ⟨Go.laidMet.tail h'.1, h'.2⟩
theorem handle_of {W : World} (h : handlesMet Tryd.prog [("errors.errorType", Rows.laid_errors_errorType)] W) : W.cell? ⟨5, 0, none⟩ = some (.iface 104 (.agg #[.pointer (some ⟨10, 24, none⟩)])) := by
  obtain ⟨name, u, ty, e1, e2, e3, e4, e5⟩ := h _ (List.mem_singleton.2 rfl)
  have en : name = [101, 114, 114, 111, 114] := (Option.some.inj e1).symm
  subst en
  obtain rfl := Option.some.inj (rtT.symm.trans e2)
  have hm : ty ∈ (List.range Tryd.prog.types.size).filter fun t => Tryd.prog.rowNamed t [101, 114, 114, 111, 114] := List.mem_filter.2 ⟨List.mem_range.2 e3, e4⟩
  rw [oneE] at hm
  obtain rfl := List.mem_singleton.1 hm
  have hh : typeHandle Tryd.prog 24 = .pointer (some ⟨10, 24, none⟩) := by kernel_rfl
  rw [hh] at e5
  simpa using World.var?_cell glT e5 0
def pick5 (x1 x2 x3 x4 x5 : Addr) : Nat → Addr
  | 1 => x1 | 2 => x2 | 3 => x3 | 4 => x4 | _ => x5
theorem tyB : (Tryd.prog.globals[9]?).map (·.type) = some 128 := by kernel_rfl
theorem four_of {W : World} (h : laidMet Tryd.prog laid7 W) : W.cell? ⟨9, 15, none⟩ = some (.int .u8 4) := by
  have hT := Lib.tabIs_of_head (P := Tryd.prog) (W := W) (k := .u8) (zs := [0, 1, 56, 2, 57, 49, 28, 3, 61, 58, 42, 50, 38, 29, 17, 4, 62, 47, 59, 36, 45, 43, 51, 22, 53, 39, 33, 30, 24, 18, 12, 5, 63, 55, 48, 27, 60, 41, 37, 16, 46, 35, 44, 21, 52, 32, 23, 11, 54, 26, 40, 15, 34, 20, 31, 10, 25, 14, 19, 9, 13, 8, 7, 6]) glB tyB Tryd.underlying128 Tryd.underlying5 (by kernel_rfl) (by kernel_rfl) h
  exact hT.cell glB 15 (by decide)
set_option maxRecDepth 100000 in
theorem glob_of_laid {W : World} (h : laidMetH Tryd.prog laidL W) : ∃ a, Glob W a := by
  obtain ⟨h7, hh⟩ := parts_of_laid h
  have hty := handle_of hh
  have hfour := four_of h7
  have h5 : laidMet Tryd.prog laid5 W := laidMet.tail (Go.laidMet.tail h7)
  obtain ⟨ps, ⟨g1, t1, cs1, f1, p1, q1, hg1, ht1, hv1, hd1, ⟨g2, t2, cs2, f2, p2, q2, hg2, ht2, hv2, hd2, ⟨g3, t3, cs3, f3, p3, q3, hg3, ht3, hv3, hd3, ⟨g4, t4, cs4, f4, p4, q4, hg4, ht4, hv4, hd4, ⟨g5, t5, cs5, f5, p5, q5, hg5, ht5, hv5, hd5, hq5, e5⟩, e4⟩, e3⟩, e2⟩, e1⟩, hnd, hrows⟩ := h5
  obtain rfl := Option.some.inj (gl1.symm.trans hg1)
  obtain rfl := Option.some.inj (gl2.symm.trans hg2)
  obtain rfl := Option.some.inj (gl3.symm.trans hg3)
  obtain rfl := Option.some.inj (gl4.symm.trans hg4)
  obtain rfl := Option.some.inj (gl5.symm.trans hg5)
  obtain rfl := Option.some.inj (ty1.symm.trans ht1)
  obtain rfl := Option.some.inj (ty2.symm.trans ht2)
  obtain rfl := Option.some.inj (ty3.symm.trans ht3)
  obtain rfl := Option.some.inj (ty4.symm.trans ht4)
  obtain rfl := Option.some.inj (ty5.symm.trans ht5)
  have hq : q5 = [] := hq5
  subst hq e5 e4 e3 e2 e1
  obtain ⟨l1⟩ := cs1
  obtain ⟨l2⟩ := cs2
  obtain ⟨l3⟩ := cs3
  obtain ⟨l4⟩ := cs4
  obtain ⟨l5⟩ := cs5
  have ok1 : ∀ u v, l1 = [.iface u v] → Value.okWide Tryd.prog W .any 0 u v := fun u v e => by
    subst e
    exact (hrows 0 0 (by simp [MemPlace.row])).2 u v (by simpa using World.var?_cell hg1 hv1 0)
  have ok2 : ∀ u v, l2 = [.iface u v] → Value.okWide Tryd.prog W .any 0 u v := fun u v e => by
    subst e
    exact (hrows 1 0 (by simp [MemPlace.row])).2 u v (by simpa using World.var?_cell hg2 hv2 0)
  have ok3 : ∀ u v, l3 = [.iface u v] → Value.okWide Tryd.prog W .any 0 u v := fun u v e => by
    subst e
    exact (hrows 2 0 (by simp [MemPlace.row])).2 u v (by simpa using World.var?_cell hg3 hv3 0)
  have ok4 : ∀ u v, l4 = [.iface u v] → Value.okWide Tryd.prog W .any 0 u v := fun u v e => by
    subst e
    exact (hrows 3 0 (by simp [MemPlace.row])).2 u v (by simpa using World.var?_cell hg4 hv4 0)
  have ok5 : ∀ u v, l5 = [.iface u v] → Value.okWide Tryd.prog W .any 0 u v := fun u v e => by
    subst e
    exact (hrows 4 0 (by simp [MemPlace.row])).2 u v (by simpa using World.var?_cell hg5 hv5 0)
  obtain ⟨a1, s1, rfl, hc1, hs1, hz1, rfl⟩ := errorString_of_trod Tryd.underlying24 rowE Tryd.underlying129 Tryd.underlying147 rfl rfl Tryd.underlying9 cellsE cellsS hd1 ok1
  obtain ⟨a2, s2, rfl, hc2, hs2, hz2, rfl⟩ := errorString_of_trod Tryd.underlying24 rowE Tryd.underlying129 Tryd.underlying147 rfl rfl Tryd.underlying9 cellsE cellsS hd2 ok2
  obtain ⟨a3, s3, rfl, hc3, hs3, hz3, rfl⟩ := errorString_of_trod Tryd.underlying24 rowE Tryd.underlying129 Tryd.underlying147 rfl rfl Tryd.underlying9 cellsE cellsS hd3 ok3
  obtain ⟨a4, s4, rfl, hc4, hs4, hz4, rfl⟩ := errorString_of_trod Tryd.underlying24 rowE Tryd.underlying129 Tryd.underlying147 rfl rfl Tryd.underlying9 cellsE cellsS hd4 ok4
  obtain ⟨a5, s5, rfl, hc5, hs5, hz5, rfl⟩ := errorString_of_trod Tryd.underlying24 rowE Tryd.underlying129 Tryd.underlying147 rfl rfl Tryd.underlying9 cellsE cellsS hd5 ok5
  have b1 := (hrows a1.block a1.off (by simp [MemPlace.row])).1
  have b2 := (hrows a2.block a2.off (by simp [MemPlace.row])).1
  have b3 := (hrows a3.block a3.off (by simp [MemPlace.row])).1
  have b4 := (hrows a4.block a4.off (by simp [MemPlace.row])).1
  have b5 := (hrows a5.block a5.off (by simp [MemPlace.row])).1
  have n12 : a1 ≠ a2 := by rintro rfl; simp [MemPlace.row] at hnd
  have n13 : a1 ≠ a3 := by rintro rfl; simp [MemPlace.row] at hnd
  have n14 : a1 ≠ a4 := by rintro rfl; simp [MemPlace.row] at hnd
  have n15 : a1 ≠ a5 := by rintro rfl; simp [MemPlace.row] at hnd
  have n23 : a2 ≠ a3 := by rintro rfl; simp [MemPlace.row] at hnd
  have n24 : a2 ≠ a4 := by rintro rfl; simp [MemPlace.row] at hnd
  have n25 : a2 ≠ a5 := by rintro rfl; simp [MemPlace.row] at hnd
  have n34 : a3 ≠ a4 := by rintro rfl; simp [MemPlace.row] at hnd
  have n35 : a3 ≠ a5 := by rintro rfl; simp [MemPlace.row] at hnd
  have n45 : a4 ≠ a5 := by rintro rfl; simp [MemPlace.row] at hnd
  refine ⟨pick5 a1 a2 a3 a4 a5, ?_, ?_, ?_, ?_, ?_, hty, hfour, ?_, ?_⟩
  · exact (show W.cell? ⟨0, 0, none⟩ = some (.iface 129 (.pointer (some a1))) by simpa using World.var?_cell hg1 hv1 0)
  · exact (show W.cell? ⟨1, 0, none⟩ = some (.iface 129 (.pointer (some a2))) by simpa using World.var?_cell hg2 hv2 0)
  · exact (show W.cell? ⟨2, 0, none⟩ = some (.iface 129 (.pointer (some a3))) by simpa using World.var?_cell hg3 hv3 0)
  · exact (show W.cell? ⟨3, 0, none⟩ = some (.iface 129 (.pointer (some a4))) by simpa using World.var?_cell hg4 hv4 0)
  · exact (show W.cell? ⟨4, 0, none⟩ = some (.iface 129 (.pointer (some a5))) by simpa using World.var?_cell hg5 hv5 0)
  · intro j k h1 h2 h3
    rcases (by omega : (j = 1 ∧ k = 2) ∨ (j = 1 ∧ k = 3) ∨ (j = 1 ∧ k = 4) ∨ (j = 1 ∧ k = 5) ∨ (j = 2 ∧ k = 3) ∨ (j = 2 ∧ k = 4) ∨ (j = 2 ∧ k = 5) ∨ (j = 3 ∧ k = 4) ∨ (j = 3 ∧ k = 5) ∨ (j = 4 ∧ k = 5)) with ⟨rfl, rfl⟩ | ⟨rfl, rfl⟩ | ⟨rfl, rfl⟩ | ⟨rfl, rfl⟩ | ⟨rfl, rfl⟩ | ⟨rfl, rfl⟩ | ⟨rfl, rfl⟩ | ⟨rfl, rfl⟩ | ⟨rfl, rfl⟩ | ⟨rfl, rfl⟩
    · exact n12
    · exact n13
    · exact n14
    · exact n15
    · exact n23
    · exact n24
    · exact n25
    · exact n34
    · exact n35
    · exact n45
  · intro k h1 h2
    rcases (by omega : k = 1 ∨ k = 2 ∨ k = 3 ∨ k = 4 ∨ k = 5) with rfl | rfl | rfl | rfl | rfl
    · exact b1
    · exact b2
    · exact b3
    · exact b4
    · exact b5
end Go.Proofs.YtielbmhaidjioaaDoor
