/-
  How many links a fault has, and whether one has a code: Depth, Has.
-/
import Derived.Test.YtielbmhaidjioaaDoorFltLinks
namespace Go.Proofs.YtielbmhaidjioaaDoor
open Go.RowKit Go.Shelf Mem Rng
set_option linter.unusedVariables false
attribute [local go_sem] Oper.semAt_some

set_option maxRecDepth 100000 in
set_option maxHeartbeats 2000000 in
theorem depth_any (c : Int) (r : List Int) (U : TypeId) (bv : Value) (hE : EndT U) (hc : (c == 0) = false) (hr : r.length ≤ 1000) (a : Nat → Addr) (w : World) (hg : Glob w a) :
    Calls Tryd.prog 17 #[.agg #[.int .u32 c, chainV r (.iface U bv)]] w fun e w' => e = .returned (.int .i64 ((r.length + 1 : Nat) : Int)) ∧ Below w.heap.size w w' := by
  have hS := fun W h => links_seq (0 - 1) w.heap.size c r U bv hE hc a w W hg rfl h
  generalize hX : chainV r (.iface U bv) = X at *
  have HX := Lib.hid hX
  clear hX
  refine (callsIn_wide (n := 0)).1 (callsIn_of_wp_marks Tryd.func17 rfl trivial ?_ rfl)
  simp only [Tryd.ntmps17, List.size_toArray, List.length_cons, List.length_nil, Nat.reduceAdd, Nat.reduceSub, Array.replicate_succ, Array.replicate_zero, List.push_toArray, List.append_toArray, List.nil_append, List.cons_append]
  gi_wp2_with fail
  have hB0 : ∀ o1 o2, Below w.heap.size w ((w.alloc o1).alloc o2) := fun o1 o2 => ((Below.refl _ w).alloc (Nat.le_refl _) _).alloc (by simp) _
  have hbox := Boxed.new (w.alloc (.cells #[.int .u32 c, X] 26)) 3 (.int .i64 0)
  rw [World.size_alloc] at hbox
  refine Rng.range (gf := 34) (fa := #[.agg #[.int .u32 c, X]]) rfl (enters_of Tryd.func34 (by kernel_rfl) rfl) (hS _ (hB0 _ _)) (by simp; omega) (fun _ => rfl)
    (fun k W => Boxed W (w.heap.size + 1) 3 (.int .i64 (k : Nat)) ∧ Below w.heap.size w W) (fun _ _ => False)
    (Abide.and (Abide.box _ (.inr (by decide))) (Abide.below (Nat.le_refl _) (by simp; omega))) (Abide.pure _ _) ⟨hbox, hB0 _ _⟩
    (fun k a' _ => a' = { tmps := #[.agg #[.int .u32 c, X], .pointer (some ⟨w.heap.size, 0, none⟩), .int .i64 0, .pointer (some ⟨w.heap.size + 1, 0, none⟩), .agg #[.int .u32 c, X], .func (.func 34) #[.agg #[.int .u32 c, X]] #[], .agg #[.int .u32 ((c :: r).getD k 0), chainV ((c :: r).drop (k + 1)) (.iface U bv)], undef, undef, undef], defers := [] }) (fun _ _ => ownFrom_pure _ _) ?assign ?body ?done ?stop
  case assign =>
    intro l k W K hI hK
    gi_wp2
    exact hK _ _ (KeepsFrom.refl _ _) (Kept.refl _) hI (by simp)
  case body =>
    rintro l k _ W ⟨hb, hB⟩ rfl hk
    have h0 := hb.cell
    have hf := hb.frozen
    have HK := Lib.hid (Kept.of_grown (T := 26) hB.size (grownBy_setCell' W (w.heap.size + 1) (.int .i64 ((k + 1 : Nat) : Int))) (fun r e => by cases e; exact ⟨by omega, fun cs e => by rw [show W.heap[w.heap.size + 1]? = _ from hb] at e; cases e⟩))
    have HB := Lib.hid (hB.setCell (p := ⟨w.heap.size + 1, 0, none⟩) (by simp) (.int .i64 ((k + 1 : Nat) : Int)))
    have HS := Lib.hid (hb.set (.int .i64 ((k + 1 : Nat) : Int)))
    clear hb hB
    gi_wp2
    exact ⟨(KeepsOthers.setCell _ _ _).from _, by simpa using HK.out, by simpa using HS.out, by simpa using HB.out⟩
  case done =>
    rintro D W hD ⟨hb, hB⟩ hK
    have h0 := hb.cell
    have HB := Lib.hid (hB.trans (belowK_b (w := w) (Nat.le_refl _) W D _ (.deferred none) (by simp at hD; omega) hK rfl rfl))
    clear hb hB hS hbox
    gi_wp2
    refine ⟨by simp, .inl ⟨_, _, rfl, run_takeDeferred hK, ?_⟩⟩
    exact ⟨_, results_tmp rfl _ _ _, rfl, HB.out⟩
  case stop =>
    rintro D k W hD hk h _
    exact h.elim
end Go.Proofs.YtielbmhaidjioaaDoor
