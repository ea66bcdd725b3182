/-
  FaultCodes: its walk.
-/
import Derived.Test.YtielbmhaidjioaaDoorFltLawNone
import Derived.Test.YtielbmhaidjioaaDoorFltRText
import Derived.Test.YtielbmhaidjioaaDoorFltHas
import Derived.Test.YtielbmhaidjioaaDoorFltRef2
namespace Go.Proofs.YtielbmhaidjioaaDoor
open Go.RowKit Mem
set_option linter.unusedVariables false

theorem below_same {f : Nat} {args : Array Value} {W : World} {v : Value} (h : Calls Tryd.prog f args W fun e w' => e = .returned v ∧ W = w') : Calls Tryd.prog f args W fun e w' => e = .returned v ∧ Below W.heap.size W w' :=
  h.mono (by rintro e w' ⟨rfl, rfl⟩; exact ⟨rfl, Below.refl _ _⟩)
theorem join_one (l : List UInt8) : Lib.join [l] [58, 32] = l := by simp [Lib.join]

set_option maxRecDepth 100000 in
set_option maxHeartbeats 8000000 in
theorem codes_law (c : Int) (h0 : 0 ≤ c) (h1 : c ≤ 4294967295) (a : Nat → Addr) (w : World) (hg : Glob w a) :
    Calls Tryd.prog 3 #[.int .u32 c] w fun e w' => e = .returned (.bool true) ∧ Below w.heap.size w w' := by
  have S0 : St w a [] w := ⟨Below.refl _ w, hg, fun p hp => by simp at hp⟩
  have hkn := Flt.cnt_known c
  obtain ⟨hb0, hb1⟩ := Flt.cnt_bd c
  have hcc := Flt.cnt_cnt c
  have hf0 : Flt.fam (Flt.cnt c) ≠ 0 := fun e => by rw [(Flt.fam_known _).1 e] at hkn; cases hkn
  have hf5 := Flt.fam_le (Flt.cnt c)
  have hz : (Flt.cnt c == 0) = false := by simp; omega
  have K1 := Lib.hid (fun L W (S : Hid (St w a L W)) => S.out.call (new_any c a W S.out.g))
  have K2 := Lib.hid (fun L W (S : Hid (St w a L W)) => S.out.call (below_same (known_any c a W S.out.g)))
  have K3 := Lib.hid (fun L W (S : Hid (St w a L W)) => S.out.call (rknown_any c W))
  have K4 := Lib.hid (fun L W (S : Hid (St w a L W)) => S.out.call (text_any c h0 h1 a W S.out.g))
  have K5 := Lib.hid (fun L W (S : Hid (St w a L W)) => S.out.call (rtext_any c h0 h1 W))
  have K6 := Lib.hid (fun L W (S : Hid (St w a L W)) => S.out.call (counts_any c W))
  have K7 := Lib.hid (fun L W (S : Hid (St w a L W)) => S.out.call (fam_top (Flt.cnt c) [] a (Flt.fam (Flt.cnt c)) W S.out.g hz (by omega) hf5))
  have K8 := Lib.hid (fun L W (S : Hid (St w a L W)) => S.out.call (rfamily_any c W))
  have K9 := Lib.hid (fun L W (S : Hid (St w a L W)) => S.out.call (depth_any (Flt.cnt c) [] 129 (.pointer (some (a (Flt.fam (Flt.cnt c))))) endP hz (by simp) a W S.out.g))
  have K10 := Lib.hid (fun L W (S : Hid (St w a L W)) => S.out.call (has_any (Flt.cnt c) [] 129 (.pointer (some (a (Flt.fam (Flt.cnt c))))) endP hz (Flt.cnt c) a W S.out.g))
  have K11 := Lib.hid (fun L W (S : Hid (St w a L W)) => S.out.call (say_core (Flt.cnt c) [] 129 (.pointer (some (a (Flt.fam (Flt.cnt c))))) endP _ (.inl ⟨rfl, ⟨_, rfl⟩, rfl⟩) hz (by simp) (fun x hx => by simp at hx; subst hx; omega) a W S.out.g))
  have K12 := Lib.hid (fun L W (S : Hid (St w a L W)) => S.out.call (rtext_any (Flt.cnt c) (by omega) hb1 W))
  have K13 := Lib.hid (fun L W (S : Hid (St w a L W)) => S.out.call (fixed_any a W S.out.g))
  simp only [List.map_cons, List.map_nil, topV, chainV, List.length_nil, Nat.zero_add, Int.natCast_one, join_one, List.mem_singleton, decide_true] at K7 K9 K10 K11
  generalize (⟨(Flt.text (Flt.cnt c)).toArray⟩ : ByteArray) = T2 at *
  generalize (⟨(Flt.text c).toArray⟩ : ByteArray) = T1 at *
  unfold errV at K1 K7
  generalize (Value.pointer (some (a (Flt.fam (Flt.cnt c))))) = EV at *
  generalize Flt.fam (Flt.cnt c) = FM at *
  generalize Flt.cnt c = CN at *
  generalize Flt.known c = KN at *
  clear hkn hb0 hb1 hcc hf0 hf5 hz hg
  have S0 := Lib.hid S0
  go_enter Tryd.func3, Tryd.ntmps3
  go_wp2_with fail
  refine (K1.out _ _ S0).mono ?_
  clear S0 K1
  rintro e w1 ⟨rfl, S⟩
  have S := Lib.hid S
  go_wp2_with fail
  have S3 := (S.out.push (.int .u32 CN) (.iface 129 EV) 26).drew
  have S := Lib.hid S3
  clear S3
  generalize w1.heap.size = b1 at *
  refine Txt.wp_region_textN 49 (fun W => St w a [(b1, .int .u32 CN, .iface 129 EV)] W) (by kernel_rfl) (by kernel_rfl) (by kernel_rfl) (by kernel_rfl) (fun _ _ _ _ _ h => h) S.out ?_
  clear S
  repeat (
    apply Txt.step rfl
    · intro W hS K hK
      obtain ⟨q0, q1, ql⟩ := St.one hS
      go_simp
      try (go_wp2_with (first
        | (go_at_call 9; refine (K2.out _ _ (Lib.hid hS)).mono ?_; rintro e w' ⟨rfl, S⟩; have S := Lib.hid S)
        | (go_at_call 10; refine (K3.out _ _ (Lib.hid hS)).mono ?_; rintro e w' ⟨rfl, S⟩; have S := Lib.hid S)
        | (go_at_call 11; refine (K4.out _ _ (Lib.hid hS)).mono ?_; rintro e w' ⟨rfl, S⟩; have S := Lib.hid S)
        | (go_at_call_of 12 (Value.int .u32 c); refine (K5.out _ _ (Lib.hid hS)).mono ?_; rintro e w' ⟨rfl, S⟩; have S := Lib.hid S)
        | (go_at_call_of 12 (Value.int .u32 CN); refine (K12.out _ _ (Lib.hid hS)).mono ?_; rintro e w' ⟨rfl, S⟩; have S := Lib.hid S)
        | (go_at_call 13; refine (hS.call (code_b _ _ _)).mono ?_; rintro e w' ⟨rfl, S⟩; have S := Lib.hid S)
        | (go_at_call 14; refine (K6.out _ _ (Lib.hid hS)).mono ?_; rintro e w' ⟨rfl, S⟩; have S := Lib.hid S)
        | (go_at_call 15; refine (K7.out _ _ (Lib.hid hS)).mono ?_; rintro e w' ⟨rfl, S⟩; have S := Lib.hid S)
        | (go_at_call 16; refine (K8.out _ _ (Lib.hid hS)).mono ?_; rintro e w' ⟨rfl, S⟩; have S := Lib.hid S)
        | (go_at_call 17; refine (K9.out _ _ (Lib.hid hS)).mono ?_; rintro e w' ⟨rfl, S⟩; have S := Lib.hid S)
        | (go_at_call 18; refine (K10.out _ _ (Lib.hid hS)).mono ?_; rintro e w' ⟨rfl, S⟩; have S := Lib.hid S)
        | (go_at_call 19; refine (K11.out _ _ (Lib.hid hS)).mono ?_; rintro e w' ⟨rfl, S⟩; have S := Lib.hid S)
        | (go_at_call 20; refine (K13.out _ _ (Lib.hid hS)).mono ?_; rintro e w' ⟨rfl, S⟩; have S := Lib.hid S)))
      first | exact hK.out _ hS | exact hK.out _ S.out
    · first | exact ⟨_, rfl⟩ | exact ⟨undef, rfl⟩)
  refine Txt.last fun W hS => ?_
  have S := Lib.hid hS
  clear hS
  go_wp2_with fail
  go_ret
  exact ⟨rfl, S.out.b⟩
end Go.Proofs.YtielbmhaidjioaaDoor
