/-
  The laws' fixed calls.
-/
import Derived.Test.YtielbmhaidjioaaDoorFltUnder
import Derived.Test.YtielbmhaidjioaaDoorFltNone
import Derived.Test.YtielbmhaidjioaaDoorFltFam
namespace Go.Proofs.YtielbmhaidjioaaDoor
open Go.RowKit Mem
set_option linter.unusedVariables false

/-- The faults that a caller holds at places of his own. -/
structure St (w : World) (a : Nat → Addr) (L : List (Nat × Value × Value)) (W : World) : Prop where
  b : Below w.heap.size w W
  g : Glob W a
  c : ∀ p ∈ L, W.cell? ⟨p.1, 0, none⟩ = some p.2.1 ∧ W.cell? ⟨p.1, 1, none⟩ = some p.2.2
theorem St.next {w W W' : World} {a : Nat → Addr} {L : List (Nat × Value × Value)} (h : St w a L W) (hb : Below W.heap.size W W') : St w a L W' :=
  ⟨h.b.trans (hb.mono h.b.size), h.g.below hb (Nat.le_refl _), fun p hp => ⟨below_cell hb (Nat.le_refl _) (h.c p hp).1, below_cell hb (Nat.le_refl _) (h.c p hp).2⟩⟩
theorem St.call {w W : World} {a : Nat → Addr} {L : List (Nat × Value × Value)} {f : Nat} {args : Array Value} {v : Value} (S : St w a L W)
    (h : Calls Tryd.prog f args W fun e w' => e = .returned v ∧ Below W.heap.size W w') : Calls Tryd.prog f args W fun e w' => e = .returned v ∧ St w a L w' :=
  h.mono (by rintro e w' ⟨rfl, b⟩; exact ⟨rfl, S.next b⟩)
theorem code_b (c : Int) (x : Value) (W : World) : Calls Tryd.prog 13 #[.agg #[.int .u32 c, x]] W fun e w' => e = .returned (.int .u32 c) ∧ Below W.heap.size W w' :=
  (code_any c x W).mono (by rintro e w' ⟨rfl, rfl⟩; exact ⟨rfl, (Below.refl _ W).alloc (Nat.le_refl _) _⟩)
theorem St.two {w W : World} {a : Nat → Addr} {b1 b2 : Nat} {x1 y1 x2 y2 : Value} (S : St w a [(b1, x1, y1), (b2, x2, y2)] W) :
    (W.cell? ⟨b1, 0, none⟩ = some x1 ∧ W.cell? ⟨b1, 1, none⟩ = some y1) ∧ W.cell? ⟨b2, 0, none⟩ = some x2 ∧ W.cell? ⟨b2, 1, none⟩ = some y2 :=
  ⟨S.c (b1, x1, y1) (by simp), S.c (b2, x2, y2) (by simp)⟩
theorem fixed_cnt : Flt.cnt 101253169 = 101253169 ∧ Flt.fam 101253169 = 4 ∧ Flt.cnt 134217728 = 134217728 ∧ (Flt.text 100728834).toArray = #[48, 54, 48, 49, 48, 48, 48, 50, 32, 114, 101, 97, 100, 32, 111, 110, 108, 121] := by decide +kernel

set_option maxHeartbeats 4000000 in
theorem fixed_any (a : Nat → Addr) (w : World) (hg : Glob w a) :
    Calls Tryd.prog 20 #[] w fun e w' => e = .returned (.bool true) ∧ Below w.heap.size w w' := by
  obtain ⟨e1, e2, e3, e4⟩ := fixed_cnt
  have k1 := new_any 101253169 a w hg
  rw [e1, e2] at k1
  have S0 := Lib.hid (⟨Below.refl _ w, hg, fun p hp => by simp at hp⟩ : St w a [] w)
  have k2 := fun W (S : St w a [] W) => S.call (under_any 134217728 101253169 (errV (a 4)) rfl a W S.g)
  rw [e3] at k2
  have K3 : ∀ L W, Hid (St w a L W) → Calls Tryd.prog 15 #[.agg #[.int .u32 134217728, .iface 26 (.agg #[.int .u32 101253169, errV (a 4)])]] W fun e w' => e = .returned (.int .i64 4) ∧ St w a L w' :=
    fun L W S => S.out.call (fam_top 134217728 [101253169] a 4 W S.out.g rfl (by omega) (by omega))
  have K4 : ∀ L W, Hid (St w a L W) → Calls Tryd.prog 17 #[.agg #[.int .u32 134217728, .iface 26 (.agg #[.int .u32 101253169, errV (a 4)])]] W fun e w' => e = .returned (.int .i64 2) ∧ St w a L w' :=
    fun L W S => S.out.call (depth_any 134217728 [101253169] 129 _ endP rfl (by simp) a W S.out.g)
  have K5 : ∀ L W, Hid (St w a L W) → Calls Tryd.prog 18 #[.agg #[.int .u32 134217728, .iface 26 (.agg #[.int .u32 101253169, errV (a 4)])], .int .u32 101253169] W fun e w' => e = .returned (.bool true) ∧ St w a L w' :=
    fun L W S => S.out.call (has_any 134217728 [101253169] 129 _ endP rfl 101253169 a W S.out.g)
  have K6 : ∀ L W, Hid (St w a L W) → Calls Tryd.prog 11 #[.int .u32 100728834] W fun e w' => e = .returned (.string ⟨#[48, 54, 48, 49, 48, 48, 48, 50, 32, 114, 101, 97, 100, 32, 111, 110, 108, 121]⟩) ∧ St w a L w' :=
    fun L W S => S.out.call (by rw [← e4]; exact text_any 100728834 (by omega) (by omega) a W S.out.g)
  have K7 : ∀ L W, Hid (St w a L W) → Calls Tryd.prog 17 #[.agg #[.int .u32 0, .nilIface]] W fun e w' => e = .returned (.int .i64 0) ∧ St w a L w' :=
    fun L W S => S.out.call (depth_none W)
  have K1 := Lib.hid (S0.out.call k1)
  have K2 := Lib.hid k2
  generalize (Value.agg #[.int .u32 101253169, errV (a 4)]) = FX at K1 K2 K3 K4 K5
  have K3 := Lib.hid K3
  have K4 := Lib.hid K4
  have K5 := Lib.hid K5
  have K6 := Lib.hid K6
  have K7 := Lib.hid K7
  clear k1 k2 S0 e1 e2 e3 e4 hg
  go_enter Tryd.func20, Tryd.ntmps20
  go_wp2_with fail
  refine K1.out.mono ?_
  rintro e w1 ⟨rfl, S⟩
  have S := Lib.hid S
  go_wp2_with fail
  refine (K2.out _ S.out).mono ?_
  rintro e w2 ⟨rfl, S2⟩
  have S2 := Lib.hid S2
  clear S K1 K2
  go_wp2_with fail
  have S3 : St w a [(w2.heap.size, .int .u32 134217728, .iface 26 FX), (w2.heap.size + 1, .int .u32 0, .nilIface)] ((w2.alloc (.cells #[.int .u32 134217728, .iface 26 FX] 26)).alloc (.cells #[.int .u32 0, .nilIface] 26)) := by
    have b2 := ((Below.refl w2.heap.size w2).alloc (Nat.le_refl _) (.cells #[.int .u32 134217728, .iface 26 FX] 26)).alloc (by simp) (.cells #[.int .u32 0, .nilIface] 26)
    refine ⟨S2.out.b.trans (b2.mono S2.out.b.size), S2.out.g.below b2 (Nat.le_refl _), fun p hp => ?_⟩
    rcases (by simpa using hp : p = _ ∨ p = _) with rfl | rfl
    · simp [go_sem]
    · simp [go_sem]
  refine (S3.call (code_b _ _ _)).mono ?_
  clear S3 S2
  rintro e w3 ⟨rfl, S⟩
  obtain ⟨⟨c0, c1⟩, d0, d1⟩ := S.two
  have S := Lib.hid S
  go_wp2_with fail
  refine (K3.out _ _ S).mono ?_
  clear S c0 c1 d0 d1 K3
  rintro e w4 ⟨rfl, S⟩
  obtain ⟨⟨c0, c1⟩, d0, d1⟩ := S.two
  have S := Lib.hid S
  go_wp2_with fail
  refine (K4.out _ _ S).mono ?_
  clear S c0 c1 d0 d1 K4
  rintro e w5 ⟨rfl, S⟩
  obtain ⟨⟨c0, c1⟩, d0, d1⟩ := S.two
  have S := Lib.hid S
  go_wp2_with fail
  refine (K5.out _ _ S).mono ?_
  clear S c0 c1 d0 d1 K5
  rintro e w6 ⟨rfl, S⟩
  obtain ⟨⟨c0, c1⟩, d0, d1⟩ := S.two
  have S := Lib.hid S
  go_wp2_with fail
  refine (K6.out _ _ S).mono ?_
  clear S c0 c1 d0 d1 K6
  rintro e w7 ⟨rfl, S⟩
  obtain ⟨⟨c0, c1⟩, d0, d1⟩ := S.two
  have S := Lib.hid S
  go_wp2_with fail
  refine (S.out.call (code_b _ _ _)).mono ?_
  clear S c0 c1 d0 d1
  rintro e w8 ⟨rfl, S⟩
  obtain ⟨⟨c0, c1⟩, d0, d1⟩ := S.two
  have S := Lib.hid S
  go_wp2_with fail
  refine (K7.out _ _ S).mono ?_
  clear S c0 c1 d0 d1 K7
  rintro e w9 ⟨rfl, S⟩
  obtain ⟨⟨c0, c1⟩, d0, d1⟩ := S.two
  have S := Lib.hid S
  go_wp2_with fail
  go_ret
  exact ⟨rfl, S.out.b⟩
end Go.Proofs.YtielbmhaidjioaaDoor
