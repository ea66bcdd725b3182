/-
  FaultSays: its walk.
-/
import Derived.Test.YtielbmhaidjioaaDoorFltWrap
import Derived.Test.YtielbmhaidjioaaDoorFltChain
import Derived.Test.YtielbmhaidjioaaDoorFltSay2
import Derived.Test.YtielbmhaidjioaaDoorFltLawCodes
namespace Go.Proofs.YtielbmhaidjioaaDoor
open Go.RowKit Mem
set_option linter.unusedVariables false

theorem say_top (zs : List Int) (p : Addr) (hn : 0 < zs.length) (hle : zs.length ≤ 60) (a : Nat → Addr) (w : World) (hg : Glob w a) :
    Calls Tryd.prog 19 #[topV (zs.map Flt.cnt) (errV p)] w fun e w' => e = .returned (.string ⟨(chainL zs).toArray⟩) ∧ Below w.heap.size w w' := by
  have hm : chainL zs = Lib.join ((zs.map Flt.cnt).map Flt.text) [58, 32] := by unfold chainL; rw [List.map_map]; rfl
  rw [hm]
  have hc0 : ∀ x ∈ zs.map Flt.cnt, 0 < x ∧ x ≤ 4294967295 := fun x hx => by
    obtain ⟨y, _, rfl⟩ := List.mem_map.1 hx
    exact Flt.cnt_bd y
  have hlen : (zs.map Flt.cnt).length = zs.length := by simp
  generalize zs.map Flt.cnt = cs at *
  cases cs with
  | nil => simp at hlen; omega
  | cons c r =>
    have h1 := hc0 c (by simp)
    exact say_core c r 129 (.pointer (some p)) endP _ (.inl ⟨rfl, ⟨_, rfl⟩, rfl⟩) (by simp; omega) (by simp at hlen; omega) (fun x hx => by have := hc0 x hx; omega) a w hg

set_option maxRecDepth 100000 in
set_option maxHeartbeats 2000000 in
theorem says_law (A : Option Addr) (c : Nat) (zs : List Int) (w : World) (hr : RdI .u32 w w.heap.size A zs) (hl : zs.length ≤ maxLen) (hz : ∀ z ∈ zs, (Lit.int .u32 z).wf = true) (a : Nat → Addr) (hg : Glob w a) :
    Calls Tryd.prog 5 #[.slice A zs.length c] w fun e w' => e = .returned (.bool true) ∧ Below w.heap.size w w' := by
  have S0 := Lib.hid (⟨Below.refl _ w, hg, fun p hp => by simp at hp⟩ : St w a [] w)
  have K7 := Lib.hid (fun L W (S : Hid (St w a L W)) => S.out.call (fixed_any a W S.out.g))
  have hlen : (zs.length : Int) ≤ 9223372036854775807 := by unfold maxLen at hl; omega
  have K1 := Lib.hid (fun W (S : St w a [] W) (h : zs.length ≤ 50) => S.call (wrapped_any A c zs a W ((hr.below S.b).mono S.b.size) h S.g))
  have K2 := Lib.hid (fun W (S : St w a [] W) (h : 0 < zs.length) (h' : zs.length ≤ 60) => S.call (say_top zs (a (Flt.fam (Flt.cnt (zs.getLastD 0)))) h h' a W S.g))
  have K3 := Lib.hid (fun W (S : St w a [] W) (h : zs.length ≤ 60) => S.call (rchain_any A c zs W ((hr.below S.b).mono S.b.size) h))
  generalize topV (zs.map Flt.cnt) (errV (a (Flt.fam (Flt.cnt (zs.getLastD 0))))) = TV at *
  generalize (⟨(chainL zs).toArray⟩ : ByteArray) = SV at *
  clear hr hz hl hg
  generalize zs.length = n at *
  by_cases h0 : n = 0
  · subst h0
    go_enter Tryd.func5, Tryd.ntmps5
    go_wp2_with fail
    refine (K7.out _ _ S0).mono ?_
    rintro e w1 ⟨rfl, S⟩
    have S := Lib.hid S
    go_wp2_with fail
    go_ret
    exact ⟨rfl, S.out.b⟩
  · have d0 : ((n : Int) == 0) = false := by simp; omega
    by_cases h50 : 50 < n
    · have d1 : decide ((50 : Int) < (n : Int)) = true := by simp; omega
      go_enter Tryd.func5, Tryd.ntmps5
      go_wp2_with fail
      refine (K7.out _ _ S0).mono ?_
      rintro e w1 ⟨rfl, S⟩
      have S := Lib.hid S
      go_wp2_with fail
      go_ret
      exact ⟨rfl, S.out.b⟩
    · have d1 : decide ((50 : Int) < (n : Int)) = false := by simp; omega
      go_enter Tryd.func5, Tryd.ntmps5
      go_wp2_with fail
      refine (K1.out _ S0.out (by omega)).mono ?_
      rintro e w1 ⟨rfl, S⟩
      have S := Lib.hid S
      clear S0 K1
      go_wp2_with fail
      refine (K2.out _ S.out (by omega) (by omega)).mono ?_
      clear S K2
      rintro e w2 ⟨rfl, S⟩
      have S := Lib.hid S
      go_wp2_with fail
      refine (K3.out _ S.out (by omega)).mono ?_
      clear S K3
      rintro e w3 ⟨rfl, S⟩
      have S := Lib.hid S
      go_wp2_with fail
      refine (K7.out _ _ S).mono ?_
      clear S
      rintro e w4 ⟨rfl, S⟩
      have S := Lib.hid S
      go_wp2_with fail
      go_ret
      exact ⟨rfl, S.out.b⟩
end Go.Proofs.YtielbmhaidjioaaDoor
