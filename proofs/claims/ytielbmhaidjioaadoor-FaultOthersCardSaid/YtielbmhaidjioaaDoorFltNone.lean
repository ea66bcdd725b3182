/-
  No fault has no link, no code, and says nothing.
-/
import Derived.Test.YtielbmhaidjioaaDoorFltSay2
namespace Go.Proofs.YtielbmhaidjioaaDoor
open Go.RowKit Go.Shelf Mem Rng
set_option linter.unusedVariables false
attribute [local go_sem] Oper.semAt_some

set_option maxRecDepth 100000 in
set_option maxHeartbeats 2000000 in
theorem depth_none (w : World) :
    Calls Tryd.prog 17 #[.agg #[.int .u32 0, .nilIface]] w fun e w' => e = .returned (.int .i64 0) ∧ Below w.heap.size w w' := by
  have hS := fun W => links_none (0 - 1) w.heap.size .nilIface (fun _ => #[.agg #[.int .u32 0, .nilIface]]) W
  refine (callsIn_wide (n := 0)).1 (callsIn_of_wp_marks Tryd.func17 rfl trivial ?_ rfl)
  simp only [Tryd.ntmps17, List.size_toArray, List.length_cons, List.length_nil, Nat.reduceAdd, Nat.reduceSub, Array.replicate_succ, Array.replicate_zero, List.push_toArray, List.append_toArray, List.nil_append, List.cons_append]
  gi_wp2_with fail
  have hB0 : ∀ o1 o2, Below w.heap.size w ((w.alloc o1).alloc o2) := fun o1 o2 => ((Below.refl _ w).alloc (Nat.le_refl _) _).alloc (by simp) _
  have hbox := Boxed.new (w.alloc (.cells #[.int .u32 0, .nilIface] 26)) 3 (.int .i64 0)
  rw [World.size_alloc] at hbox
  refine Rng.range (gf := 34) (fa := #[.agg #[.int .u32 0, .nilIface]]) rfl (enters_of Tryd.func34 (by kernel_rfl) rfl) (hS _) (by simp; omega) (fun _ => rfl)
    (fun k W => Boxed W (w.heap.size + 1) 3 (.int .i64 0) ∧ Below w.heap.size w W) (fun _ _ => False)
    (Abide.and (Abide.box _ (.inr (by decide))) (Abide.below (Nat.le_refl _) (by simp; omega))) (Abide.pure _ _) ⟨hbox, hB0 _ _⟩
    (fun k a' _ => a' = { tmps := #[.agg #[.int .u32 0, .nilIface], .pointer (some ⟨w.heap.size, 0, none⟩), .int .i64 0, .pointer (some ⟨w.heap.size + 1, 0, none⟩), .agg #[.int .u32 0, .nilIface], .func (.func 34) #[.agg #[.int .u32 0, .nilIface]] #[], .agg #[.int .u32 0, .nilIface], undef, undef, undef], defers := [] }) (fun _ _ => ownFrom_pure _ _) ?assign ?body ?done ?stop
  case assign =>
    intro l k W K hI hK
    gi_wp2
    exact hK _ _ (KeepsFrom.refl _ _) (Kept.refl _) hI (by simp)
  case body =>
    rintro l k _ W ⟨hb, hB⟩ rfl hk
    omega
  case done =>
    rintro D W hD ⟨hb, hB⟩ hK
    have h0 := hb.cell
    have HB := Lib.hid (hB.trans (belowK_b (w := w) (Nat.le_refl _) W D _ (.deferred none) (by simp at hD; omega) hK rfl rfl))
    clear hb hB hS hbox
    gi_wp2
    refine ⟨by simp, .inl ⟨_, _, rfl, run_takeDeferred hK, ?_⟩⟩
    exact ⟨_, results_tmp rfl _ _ _, rfl, HB.out⟩
  case stop =>
    rintro D k W hD hk h _
    exact h.elim

set_option maxRecDepth 100000 in
set_option maxHeartbeats 2000000 in
theorem has_none (d : Int) (w : World) :
    Calls Tryd.prog 18 #[.agg #[.int .u32 0, .nilIface], .int .u32 d] w fun e w' => e = .returned (.bool false) ∧ Below w.heap.size w w' := by
  have hS := fun W => links_none (0 - 1) w.heap.size .nilIface (fun _ => #[.agg #[.int .u32 0, .nilIface]]) W
  refine (callsIn_wide (n := 0)).1 (callsIn_of_wp_marks Tryd.func18 rfl trivial ?_ rfl)
  simp only [Tryd.ntmps18, List.size_toArray, List.length_cons, List.length_nil, Nat.reduceAdd, Nat.reduceSub, Array.replicate_succ, Array.replicate_zero, List.push_toArray, List.append_toArray, List.nil_append, List.cons_append]
  gi_wp2_with fail
  have hB0 : ∀ o1 o2 o3, Below w.heap.size w (((w.alloc o1).alloc o2).alloc o3) := fun o1 o2 o3 => (((Below.refl _ w).alloc (Nat.le_refl _) _).alloc (by simp) _).alloc (by simp; omega) _
  have hb2 : Boxed (((w.alloc (.cells #[.int .u32 0, .nilIface] 26)).alloc (.cells #[.int .u32 d] 22)).alloc (.cells #[.bool false] 4)) (w.heap.size + 1 + 1) 4 (.bool false) := by
    have := Boxed.new ((w.alloc (.cells #[.int .u32 0, .nilIface] 26)).alloc (.cells #[.int .u32 d] 22)) 4 (.bool false)
    simpa using this
  refine Rng.range (gf := 34) (fa := #[.agg #[.int .u32 0, .nilIface]]) rfl (enters_of Tryd.func34 (by kernel_rfl) rfl) (hS _) (by simp; omega) (fun _ => rfl)
    (fun k W => Boxed W (w.heap.size + 1 + 1) 4 (.bool false) ∧ Below w.heap.size w W) (fun _ _ => False)
    (Abide.and (Abide.box _ (.inr (by decide))) (Abide.below (Nat.le_refl _) (by simp; omega))) (Abide.pure _ _) ⟨hb2, hB0 _ _ _⟩
    (fun k a' W => True) (fun _ _ => ownFrom_pure _ _) ?assign ?body ?done ?stop
  case assign =>
    rintro l k W K ⟨k2, hB⟩ hK
    have q2 := Lib.hid (fun o => k2.alloc o)
    have q3 := Lib.hid (fun o => hB.alloc hB.size o)
    have q4 := Lib.hid (Kept.alloc (T := 26) hB.size)
    clear k2 hB hb2
    gi_wp2
    exact hK _ _ ((KeepsOthers.alloc _ _).from _) (q4.out _) ⟨q2.out _, q3.out _⟩ trivial
  case body =>
    rintro l k _ W _ _ hk
    omega
  case done =>
    rintro D W hD ⟨k2, hB⟩ hK
    have m2 := k2.cell
    have m3 := k2.frozen
    have hK' := (KeepsOthers.setCell W ⟨w.heap.size + 1 + 1, 0, none⟩ (.bool false)).same D _ hK rfl
    have hc5 := cell_kept (World.cell?_setCell_same' W ⟨w.heap.size + 1 + 1, 0, none⟩ (.bool false) (by rw [m2]; rfl)) (grownBy_putObj' _ D (.deferred none)) (fun r e => by cases e; exact ⟨_, hK', rfl⟩)
    have HB := Lib.hid ((hB.setCell (p := ⟨w.heap.size + 1 + 1, 0, none⟩) (by simp; omega) (.bool false)).trans (belowK_b (w := w) (Nat.le_refl _) _ D _ (.deferred none) (by simp at hD; omega) hK' rfl rfl))
    clear hB k2 hS hb2
    gi_wp2
    refine ⟨by simp, .inl ⟨_, _, rfl, run_takeDeferred hK', ?_⟩⟩
    refine ⟨.bool false, ?_, rfl, HB.out⟩
    simp [results, Tryd.f18, go_sem, hc5]
  case stop =>
    rintro D k W hD hk h _
    exact h.elim

set_option maxRecDepth 100000 in
set_option maxHeartbeats 2000000 in
theorem say_none (a : Nat → Addr) (w : World) (hg : Glob w a) :
    Calls Tryd.prog 19 #[.agg #[.int .u32 0, .nilIface]] w fun e w' => e = .returned (.string ⟨#[]⟩) ∧ Below w.heap.size w w' := by
  have hS := fun W => links_none (0 - 1) w.heap.size .nilIface (fun _ => #[.agg #[.int .u32 0, .nilIface]]) W
  refine (callsIn_wide (n := 0)).1 (callsIn_of_wp_marks Tryd.func19 rfl trivial ?_ rfl)
  simp only [Tryd.ntmps19, List.size_toArray, List.length_cons, List.length_nil, Nat.reduceAdd, Nat.reduceSub, Array.replicate_succ, Array.replicate_zero, List.push_toArray, List.append_toArray, List.nil_append, List.cons_append]
  gi_wp2_with fail
  have hB0 : ∀ o1 o2, Below w.heap.size w ((w.alloc o1).alloc o2) := fun o1 o2 => ((Below.refl _ w).alloc (Nat.le_refl _) _).alloc (by simp) _
  have hbox := Boxed.new (w.alloc (.cells #[.int .u32 0, .nilIface] 26)) 55 (.slice none 0 0)
  rw [World.size_alloc] at hbox
  refine Rng.range (gf := 34) (fa := #[.agg #[.int .u32 0, .nilIface]]) rfl (enters_of Tryd.func34 (by kernel_rfl) rfl) (hS _) (by simp; omega) (fun _ => rfl)
    (fun k W => Boxed W (w.heap.size + 1) 55 (.slice none 0 0) ∧ Below w.heap.size w W ∧ HasFlt W w.heap.size (.int .u32 0) .nilIface) (fun _ _ => False)
    (Abide.and (Abide.box _ (.inr (by decide))) (Abide.and (Abide.below (Nat.le_refl _) (by simp; omega)) (abide_flt (by simp; omega)))) (Abide.pure _ _) ⟨hbox, hB0 _ _, (HasFlt.new w (.int .u32 0) .nilIface).alloc _⟩
    (fun k a' W => True) (fun _ _ => ownFrom_pure _ _) ?assign ?body ?done ?stop
  case assign =>
    rintro l k W K ⟨k2, hB, hX0⟩ hK
    have q1 := Lib.hid (fun o => hX0.alloc o)
    have q2 := Lib.hid (fun o => k2.alloc o)
    have q3 := Lib.hid (fun o => hB.alloc hB.size o)
    have q4 := Lib.hid (Kept.alloc (T := 26) hB.size)
    clear k2 hB hbox hX0
    gi_wp2
    exact hK _ _ ((KeepsOthers.alloc _ _).from _) (q4.out _) ⟨q2.out _, q3.out _, q1.out _⟩ trivial
  case body =>
    rintro l k _ W _ _ hk
    omega
  case done =>
    rintro D W hD ⟨k1, hB, hX0⟩ hK
    have f0 := hX0.cell0
    have f1 := hX0.cell1
    have flt := hX0.lt
    have dlt := k1.lt
    have hA0 : Below W.heap.size W (W.alloc (.cells #[.string ⟨#[]⟩] 56)) := (Below.refl _ W).alloc (Nat.le_refl _) _
    have G1 := (hg.below hB (Nat.le_refl _)).below hA0 (Nat.le_refl _)
    have K1 := box_kept k1 hA0
    have B1 := hB.trans (hA0.mono hB.size)
    have D1 := (KeepsOthers.of_below hA0).same D _ hK rfl
    have hDl : w.heap.size ≤ D := by simp at hD; omega
    have E := Lib.hid (And.intro G1 (And.intro K1 (And.intro B1 D1)))
    clear hK hB k1 hX0 hS hbox hA0 hD G1 K1 B1 D1
    gi_wp2_with fail
    obtain ⟨G1, K1, B1, D1⟩ := E.out
    clear E
    generalize W.alloc (.cells #[.string ⟨#[]⟩] 56) = W1 at *
    refine ⟨trivial, rfl, ?_⟩
    refine (callsIn_wide.2 (asS_none 0 W.heap.size a W1 G1)).mono ?_
    rintro e w2 ⟨rfl, b2⟩
    have md := (box_kept K1 b2).cell
    have HBB := Lib.hid (B1.trans (b2.mono B1.size))
    have HD2 := Lib.hid ((KeepsOthers.of_below b2).same D _ D1 rfl)
    clear b2 G1 K1 B1 D1
    gi_wp2_with fail
    refine ⟨trivial, rfl, ?_⟩
    refine (callsIn_wide.2 (Tryd.strings_Join_none none 0 ⟨#[58, 32]⟩ w2)).mono ?_
    rintro e w3 ⟨rfl, rfl⟩
    have hK3 := HD2.out
    have HB3 := Lib.hid (HBB.out.trans (belowK_b (w := w) (Nat.le_refl _) w3 D _ (.deferred none) hDl hK3 rfl rfl))
    gi_wp2_with fail
    refine ⟨by simp, .inl ⟨_, _, rfl, run_takeDeferred hK3, ?_⟩⟩
    exact ⟨_, results_tmp rfl _ _ _, rfl, HB3.out⟩
  case stop =>
    rintro D k W hD hk h _
    exact h.elim
end Go.Proofs.YtielbmhaidjioaaDoor
