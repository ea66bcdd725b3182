/-
  The small functions of types.
-/
import Derived.Test.YtpdnfdpoebhjoaaDoorTypKind
import Derived.Test.YtpdnfdpoebhjoaaDoorText

namespace Go.Proofs.YtpdnfdpoebhjoaaDoor
open Go.RowKit Mem
set_option linter.unusedVariables false

theorem about_x (t : Int) (w : World) (hg : TG w) :
    Calls Tryd.prog 69 #[.int .i64 t] w fun e w' => e = .returned (.agg #[.string ⟨(Typ.name t).toArray⟩, .int .i64 (Typ.size t), .int .i64 (Typ.bits t), .int .i64 (Typ.low t), .int .i64 (Typ.high t)]) ∧ Below w.heap.size w w' := about_any t w hg

theorem kknown_x (t : Int) (w : World) :
    Calls Tryd.prog 70 #[.agg #[.string ⟨(Typ.name t).toArray⟩, .int .i64 (Typ.size t), .int .i64 (Typ.bits t), .int .i64 (Typ.low t), .int .i64 (Typ.high t)]] w fun e w' => e = .returned (.bool (Typ.known t)) ∧ Below w.heap.size w w' := kknown_any t w

theorem knum_x (t : Int) (w : World) :
    Calls Tryd.prog 81 #[.agg #[.string ⟨(Typ.name t).toArray⟩, .int .i64 (Typ.size t), .int .i64 (Typ.bits t), .int .i64 (Typ.low t), .int .i64 (Typ.high t)]] w fun e w' => e = .returned (.bool (Typ.isNum t)) ∧ Below w.heap.size w w' := kisNumber_any t w

theorem ksign_x (t : Int) (w : World) :
    Calls Tryd.prog 88 #[.agg #[.string ⟨(Typ.name t).toArray⟩, .int .i64 (Typ.size t), .int .i64 (Typ.bits t), .int .i64 (Typ.low t), .int .i64 (Typ.high t)]] w fun e w' => e = .returned (.bool (Typ.signed t)) ∧ Below w.heap.size w w' := ksigned_any t w

theorem kholds_x (t n : Int) (w : World) :
    Calls Tryd.prog 91 #[.agg #[.string ⟨(Typ.name t).toArray⟩, .int .i64 (Typ.size t), .int .i64 (Typ.bits t), .int .i64 (Typ.low t), .int .i64 (Typ.high t)], .int .i64 n] w fun e w' => e = .returned (.bool (inLim t n)) ∧ Below w.heap.size w w' := kholds_any t n w

theorem kfld0 (a b c d e : Value) (w : World) : (Instr.field 93 (.agg #[a, b, c, d, e]) 0).run Tryd.prog w = .ok a w := by kernel_rfl

theorem kfld1 (a b c d e : Value) (w : World) : (Instr.field 93 (.agg #[a, b, c, d, e]) 1).run Tryd.prog w = .ok b w := by kernel_rfl

theorem kfld2 (a b c d e : Value) (w : World) : (Instr.field 93 (.agg #[a, b, c, d, e]) 2).run Tryd.prog w = .ok c w := by kernel_rfl

theorem tknown_any (t : Int) (w : World) (hg : TG w) :
    Calls Tryd.prog 48 #[.int .i64 t] w fun e w' => e = .returned (.bool (Typ.known t)) ∧ Below w.heap.size w w' := by
  have H1 := Lib.hid (about_x t w hg)
  have H2 := Lib.hid (fun W => kknown_x t W)
  clear hg
  go_enter Tryd.func48, Tryd.ntmps48
  go_wp2_with fail
  refine H1.out.mono ?_
  rintro e w1 ⟨rfl, b1⟩
  have b1 := Lib.hid b1
  go_wp2_with fail
  refine (H2.out _).mono ?_
  rintro e w2 ⟨rfl, b2⟩
  have b2 := Lib.hid b2
  go_wp2_with fail
  go_ret
  exact ⟨rfl, b1.out.trans (b2.out.mono b1.out.size)⟩

/-- The variable k: what is known of a type, at a place of the call's own. -/
structure KS (w : World) (t : Int) (b : Nat) (W : World) : Prop where
  b_ : Below w.heap.size w W
  g : TG W
  c0 : W.cell? ⟨b, 0, none⟩ = some (.string ⟨(Typ.name t).toArray⟩)
  c1 : W.cell? ⟨b, 1, none⟩ = some (.int .i64 (Typ.size t))
  c2 : W.cell? ⟨b, 2, none⟩ = some (.int .i64 (Typ.bits t))
  c3 : W.cell? ⟨b, 3, none⟩ = some (.int .i64 (Typ.low t))
  c4 : W.cell? ⟨b, 4, none⟩ = some (.int .i64 (Typ.high t))

theorem KS.next {w W W' : World} {t : Int} {b : Nat} (h : KS w t b W) (hb : Below W.heap.size W W') : KS w t b W' :=
  ⟨h.b_.trans (hb.mono h.b_.size), h.g.below hb (Nat.le_refl _), below_cell hb (Nat.le_refl _) h.c0, below_cell hb (Nat.le_refl _) h.c1, below_cell hb (Nat.le_refl _) h.c2, below_cell hb (Nat.le_refl _) h.c3, below_cell hb (Nat.le_refl _) h.c4⟩

theorem KS.new {w w1 : World} (t : Int) (hg : TG w) (hb : Below w.heap.size w w1) : KS w t w1.heap.size (w1.alloc (.cells #[.string ⟨(Typ.name t).toArray⟩, .int .i64 (Typ.size t), .int .i64 (Typ.bits t), .int .i64 (Typ.low t), .int .i64 (Typ.high t)] 93)) := by
  have h2 : Below w.heap.size w (w1.alloc (.cells #[.string ⟨(Typ.name t).toArray⟩, .int .i64 (Typ.size t), .int .i64 (Typ.bits t), .int .i64 (Typ.low t), .int .i64 (Typ.high t)] 93)) := hb.alloc hb.size _
  exact ⟨h2, hg.below h2 (Nat.le_refl _), by simp [go_sem], by simp [go_sem], by simp [go_sem], by simp [go_sem], by simp [go_sem]⟩

theorem KS.drew {w W : World} {t : Int} {b : Nat} (h : KS w t b W) : KS w t b W.drew := h.next (below_drew W)

theorem KS.call {w W : World} {t : Int} {b : Nat} {f : Nat} {args : Array Value} {v : Value} (S : KS w t b W)
    (h : Calls Tryd.prog f args W fun e w' => e = .returned v ∧ Below W.heap.size W w') : Calls Tryd.prog f args W fun e w' => e = .returned v ∧ KS w t b w' :=
  h.mono (by rintro e w' ⟨rfl, b⟩; exact ⟨rfl, S.next b⟩)

theorem KS.cells {w W : World} {t : Int} {b : Nat} (h : KS w t b W) : W.cell? ⟨b, 0, none⟩ = some (.string ⟨(Typ.name t).toArray⟩) ∧ W.cell? ⟨b, 1, none⟩ = some (.int .i64 (Typ.size t)) ∧ W.cell? ⟨b, 2, none⟩ = some (.int .i64 (Typ.bits t)) ∧
    W.cell? ⟨b, 3, none⟩ = some (.int .i64 (Typ.low t)) ∧ W.cell? ⟨b, 4, none⟩ = some (.int .i64 (Typ.high t)) := ⟨h.c0, h.c1, h.c2, h.c3, h.c4⟩

set_option maxRecDepth 100000 in
set_option maxHeartbeats 800000 in
theorem tlimits_any (t : Int) (w : World) (hg : TG w) :
    Calls Tryd.prog 71 #[.int .i64 t] w fun e w' => e = .returned (.tuple #[.int .i64 (Typ.low t), .int .i64 (Typ.high t), .bool (Typ.isNum t)]) ∧ Below w.heap.size w w' := by
  have H1 := Lib.hid (about_x t w hg)
  have H2 := Lib.hid (fun W => knum_x t W)
  have HG := Lib.hid hg
  clear hg
  go_enter Tryd.func71, Tryd.ntmps71
  go_wp2_with fail
  refine H1.out.mono ?_
  rintro e w1 ⟨rfl, b1⟩
  have b1 := Lib.hid b1
  go_wp2_with fail
  have S := Lib.hid (KS.new t HG.out b1.out).drew
  generalize w1.heap.size = b at *
  refine Txt.wp_region_textN 9 (fun W => KS w t b W) (by kernel_rfl) (by kernel_rfl) (by kernel_rfl) (by kernel_rfl) (fun _ _ _ _ _ h => h) S.out ?_
  clear S
  iterate 9 (
    apply Txt.step rfl
    · intro W hS K hK
      obtain ⟨q0, q1, q2, q3, q4⟩ := KS.cells hS
      go_simp
      try (go_wp2_with (go_at_call 81; refine (hS.call (H2.out _)).mono ?_; rintro e w' ⟨rfl, S⟩; have S := Lib.hid S))
      first | exact hK.out _ hS | exact hK.out _ S.out
    · first | exact ⟨_, rfl⟩ | exact ⟨undef, rfl⟩)
  refine Txt.last fun W hS => ?_
  have S := Lib.hid hS
  clear hS
  go_wp2_with fail
  go_ret3
  exact ⟨rfl, S.out.b_⟩

end Go.Proofs.YtpdnfdpoebhjoaaDoor
