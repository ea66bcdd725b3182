/-
  FaultNone.
-/
import Derived.Test.YtielbmhaidjioaaDoorFltKnown
import Derived.Test.YtielbmhaidjioaaDoorFltSays
import Derived.Test.YtielbmhaidjioaaDoorFltSay2
import Derived.Test.YtielbmhaidjioaaDoorText
import Derived.Deep.RegionHeld
import Derived.Deep.RegionWith
namespace Go.Proofs.YtielbmhaidjioaaDoor
open Go.RowKit Mem
set_option linter.unusedVariables false

theorem St.push {w W : World} {a : Nat → Addr} {L : List (Nat × Value × Value)} (S : St w a L W) (x y : Value) (T : TypeId) : St w a ((W.heap.size, x, y) :: L) (W.alloc (.cells #[x, y] T)) := by
  refine ⟨S.b.alloc S.b.size _, S.g.below ((Below.refl W.heap.size W).alloc (Nat.le_refl _) _) (Nat.le_refl _), fun p hp => ?_⟩
  rcases List.mem_cons.1 hp with rfl | hp
  · simp [go_sem]
  · exact ⟨below_cell ((Below.refl W.heap.size W).alloc (Nat.le_refl _) _) (Nat.le_refl _) (S.c p hp).1, below_cell ((Below.refl W.heap.size W).alloc (Nat.le_refl _) _) (Nat.le_refl _) (S.c p hp).2⟩
theorem St.one {w W : World} {a : Nat → Addr} {L : List (Nat × Value × Value)} {b1 : Nat} {x1 y1 : Value} (S : St w a ((b1, x1, y1) :: L) W) :
    W.cell? ⟨b1, 0, none⟩ = some x1 ∧ W.cell? ⟨b1, 1, none⟩ = some y1 ∧ b1 < W.heap.size :=
  ⟨(S.c (b1, x1, y1) (by simp)).1, (S.c (b1, x1, y1) (by simp)).2, cell_lt (S.c (b1, x1, y1) (by simp)).1⟩
theorem St.rest {w W : World} {a : Nat → Addr} {L : List (Nat × Value × Value)} {p : Nat × Value × Value} (S : St w a (p :: L) W) : St w a L W := ⟨S.b, S.g, fun q hq => S.c q (by simp [hq])⟩

theorem St.drew {w W : World} {a : Nat → Addr} {L : List (Nat × Value × Value)} (S : St w a L W) : St w a L W.drew := ⟨⟨S.b.os, S.b.tape, S.b.output, S.b.size, S.b.block⟩, S.g.drew, S.c⟩
theorem St.six {w W : World} {a : Nat → Addr} {b1 b2 b3 : Nat} {x1 y1 x2 y2 x3 y3 : Value} (S : St w a [(b1, x1, y1), (b2, x2, y2), (b3, x3, y3)] W) :
    W.cell? ⟨b1, 0, none⟩ = some x1 ∧ W.cell? ⟨b1, 1, none⟩ = some y1 ∧ W.cell? ⟨b2, 0, none⟩ = some x2 ∧ W.cell? ⟨b2, 1, none⟩ = some y2 ∧ W.cell? ⟨b3, 0, none⟩ = some x3 ∧ W.cell? ⟨b3, 1, none⟩ = some y3 :=
  ⟨S.one.1, S.one.2.1, S.rest.one.1, S.rest.one.2.1, S.rest.rest.one.1, S.rest.rest.one.2.1⟩

set_option maxRecDepth 100000 in
set_option maxHeartbeats 8000000 in
theorem none_law (c : Int) (t : ByteArray) (h0 : 0 ≤ c) (h1 : c ≤ 4294967295) (ht : t.size ≤ maxLen) (a : Nat → Addr) (w : World) (hg : Glob w a) :
    Calls Tryd.prog 7 #[.int .u32 c, .string t] w fun e w' => e = .returned (.bool true) ∧ Below w.heap.size w w' := by
  have S0 : St w a [] w := ⟨Below.refl _ w, hg, fun p hp => by simp at hp⟩
  have hkn := Flt.cnt_known c
  have hbd := Flt.cnt_bd c
  have hcc := Flt.cnt_cnt c
  have hf0 : Flt.fam (Flt.cnt c) ≠ 0 := fun e => by rw [(Flt.fam_known _).1 e] at hkn; cases hkn
  have hf5 := Flt.fam_le (Flt.cnt c)
  have K1 := Lib.hid (fun L W (S : Hid (St w a L W)) => S.out.call (under_none c .nilIface a W S.out.g))
  have K2 := Lib.hid (fun L W (S : Hid (St w a L W)) => S.out.call (new_any c a W S.out.g))
  have hz : (Flt.cnt c == 0) = false := by simp; omega
  have K3 := Lib.hid (fun L W (S : Hid (St w a L W)) => S.out.call (fam_top (Flt.cnt c) [] a (Flt.fam (Flt.cnt c)) W S.out.g hz (by omega) hf5))
  have K4 := Lib.hid (fun L W (S : Hid (St w a L W)) => S.out.call (depth_any (Flt.cnt c) [] 129 (.pointer (some (a (Flt.fam (Flt.cnt c))))) endP hz (by simp) a W S.out.g))
  have K5 := Lib.hid (fun L W (S : Hid (St w a L W)) => S.out.call (say_core (Flt.cnt c) [] 129 (.pointer (some (a (Flt.fam (Flt.cnt c))))) endP _ (.inl ⟨rfl, ⟨_, rfl⟩, rfl⟩) hz (by simp) (fun x hx => by simp at hx; subst hx; omega) a W S.out.g))
  have K6 := Lib.hid (fun L W (S : Hid (St w a L W)) => S.out.call (says_err (Flt.cnt c) [] (a (Flt.fam (Flt.cnt c))) t W))
  have K8 := Lib.hid (fun L W (S : Hid (St w a L W)) => S.out.call (say_none a W S.out.g))
  have K7 := Lib.hid (fun L W (S : Hid (St w a L W)) => S.out.call (fixed_any a W S.out.g))
  simp only [List.map_cons, List.map_nil, topV, chainV, List.length_nil, Nat.zero_add, Int.natCast_one] at K3 K4 K5 K6
  generalize (Lib.join [Flt.text (Flt.cnt c)] [58, 32]) = J at *
  unfold errV at K1 K2 K3 K6
  generalize (Value.pointer (some (a (Flt.fam (Flt.cnt c))))) = EV at *
  generalize Flt.fam (Flt.cnt c) = FM at *
  generalize Flt.cnt c = CN at *
  clear hkn hbd hcc hf0 hf5 hz hg
  have S0 := Lib.hid S0
  have hlen : (t.size : Int) ≤ 9223372036854775807 := by unfold maxLen at ht; omega
  go_enter Tryd.func7, Tryd.ntmps7
  by_cases hl : (t.size : Int) > 1000
  · go_wp2_with fail
    refine (K7.out _ _ S0).mono ?_
    rintro e w1 ⟨rfl, S⟩
    have S := Lib.hid S
    go_wp2_with fail
    go_ret
    exact ⟨rfl, S.out.b⟩
  · go_wp2_with fail
    refine (K1.out _ _ (Lib.hid (S0.out.push _ _ _))).mono ?_
    clear S0 K1
    rintro e w1 ⟨rfl, S⟩
    obtain ⟨c0, c1, lc⟩ := S.one
    have S := Lib.hid S
    go_wp2_with fail
    refine (K2.out _ _ (Lib.hid (S.out.push _ _ _))).mono ?_
    clear S c0 c1 lc
    rintro e w2 ⟨rfl, S⟩
    obtain ⟨d0, d1, ld⟩ := S.one
    obtain ⟨c0, c1, lc⟩ := S.rest.one
    have S := Lib.hid S
    go_wp2_with fail
    have S3 := (S.out.push (.int .u32 CN) (.iface 129 EV) 26).drew
    have q := S3.six
    have S := Lib.hid S3
    clear S3 c0 c1 lc d0 d1 ld
    generalize w1.heap.size = b1 at *
    generalize w2.heap.size = b2 at *
    refine Txt.wp_region_textN 66 (fun W => St w a [(b2, .int .u32 CN, .iface 129 EV), (b1, .int .u32 CN, .iface 129 EV), (w.heap.size, .int .u32 0, .nilIface)] W) (by kernel_rfl) (by kernel_rfl) (by kernel_rfl) (by kernel_rfl) (fun _ _ _ _ _ h => h) S.out ?_
    clear q S
    repeat (
      apply Txt.step rfl
      · intro W hS K hK
        have q := St.six hS
        go_simp
        try (go_wp2_with (first
          | (go_at_call 13; refine (hS.call (code_b _ _ _)).mono ?_; rintro e w' ⟨rfl, S⟩; have S := Lib.hid S)
          | (go_at_call_of 15 (Value.agg #[Value.int .u32 0, Value.nilIface]); refine (hS.call (fam_zero _ _)).mono ?_; rintro e w' ⟨rfl, S⟩; have S := Lib.hid S)
          | (go_at_call_of 15 (Value.agg #[Value.int .u32 CN, Value.iface 129 EV]); refine (K3.out _ _ (Lib.hid hS)).mono ?_; rintro e w' ⟨rfl, S⟩; have S := Lib.hid S)
          | (go_at_call_of 17 (Value.agg #[Value.int .u32 0, Value.nilIface]); refine (hS.call (depth_none _)).mono ?_; rintro e w' ⟨rfl, S⟩; have S := Lib.hid S)
          | (go_at_call_of 17 (Value.agg #[Value.int .u32 CN, Value.iface 129 EV]); refine (K4.out _ _ (Lib.hid hS)).mono ?_; rintro e w' ⟨rfl, S⟩; have S := Lib.hid S)
          | (go_at_call 18; refine (hS.call (has_none _ _)).mono ?_; rintro e w' ⟨rfl, S⟩; have S := Lib.hid S)
          | (go_at_call_of 19 (Value.agg #[Value.int .u32 0, Value.nilIface]); refine (K8.out _ _ (Lib.hid hS)).mono ?_; rintro e w' ⟨rfl, S⟩; have S := Lib.hid S)
          | (go_at_call_of 19 (Value.agg #[Value.int .u32 CN, Value.iface 129 EV]); refine (K5.out _ _ (Lib.hid hS)).mono ?_; rintro e w' ⟨rfl, S⟩; have S := Lib.hid S)
          | (go_at_call_of 25 (Value.agg #[Value.int .u32 0, Value.nilIface]); refine (hS.call (says_none _ _)).mono ?_; rintro e w' ⟨rfl, S⟩; have S := Lib.hid S)
          | (go_at_call_of 25 (Value.agg #[Value.int .u32 CN, Value.iface 129 EV]); refine (K6.out _ _ (Lib.hid hS)).mono ?_; rintro e w' ⟨rfl, S⟩; have S := Lib.hid S)
          | (go_at_call 20; refine (K7.out _ _ (Lib.hid hS)).mono ?_; rintro e w' ⟨rfl, S⟩; have S := Lib.hid S)))
        first | exact hK.out _ hS | exact hK.out _ S.out
      · first | exact ⟨_, rfl⟩ | exact ⟨undef, rfl⟩)
    refine Txt.last fun W hS => ?_
    have S := Lib.hid hS
    clear hS
    go_wp2_with fail
    go_ret
    exact ⟨rfl, S.out.b⟩
end Go.Proofs.YtielbmhaidjioaaDoor
