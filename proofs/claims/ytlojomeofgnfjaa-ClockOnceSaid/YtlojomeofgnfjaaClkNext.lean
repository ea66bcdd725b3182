/-
  Next: the least number of ticks.
-/
import Derived.Test.YtlojomeofgnfjaaClkRun
import Derived.BigRegionIn
namespace Go.Proofs.Ytlojomeofgnfjaa
namespace Clk
open Go.RowKit Go.Shelf Mem
set_option linter.unusedVariables false
set_option linter.unusedSimpArgs false
set_option maxRecDepth 100000
attribute [local go_sem] Oper.semAt_some

/-- The least of the first k timers that run; 0: none. -/
def nx (L : Nat → Int) : Nat → Int
  | 0 => 0
  | k + 1 => if 0 < L k ∧ (nx L k = 0 ∨ L k < nx L k) then L k else nx L k
theorem nx_bd {L : Nat → Int} (h : ∀ k, k < 16 → bnd (L k)) : ∀ k, k ≤ 16 → bnd (nx L k)
  | 0, _ => ⟨by simp [nx], by simp [nx]⟩
  | k + 1, hk => by
    unfold nx
    split
    · exact h k (by omega)
    · exact nx_bd h k (by omega)
theorem nx_congr {L M : Nat → Int} : ∀ k, (∀ j, j < k → L j = M j) → nx L k = nx M k
  | 0, _ => rfl
  | k + 1, h => by simp only [nx]; rw [h k (by omega), nx_congr k (fun j hj => h j (by omega))]

theorem Abide.boxed {B b : Nat} {t : TypeId} (v : Nat → Value) : Abide B (fun k W => Boxed W b t (v k)) := by
  have := Abide.cells (B := B) (b := b) (p := fun k o => o = .cells #[v k] t (0, 0)) (fun s o h => by rw [h]; rfl)
  intro k W W' row hs hg hr
  obtain ⟨o, h1, h2⟩ := this k W W' row ⟨_, hs, rfl⟩ hg hr
  rw [h2] at h1
  exact h1
theorem Abide.clock {B p : Nat} (s : Nat → Ck) : Abide B (fun k W => IsC W p (s k)) :=
  Abide.cells (p := fun k o => IsCs (s k) o) (fun k o h => by obtain ⟨cs, rfl, _⟩ := h; rfl)

/-- What Next ends with. -/
def NextEnds (w : World) (s : Ck) (e : Ending) (w' : World) : Prop := e = .returned (.tuple #[.int .i64 (nx s.l 16), .bool (decide (0 < nx s.l 16))]) ∧ Below w.heap.size w w'

set_option maxHeartbeats 2000000 in
theorem next_any (w : World) (p : Nat) (s : Ck) (h : IsC w p s) (ok : s.Ok) :
    Calls Try.prog 28 #[at_ p] w (NextEnds w s) := by
  have hlt := h.lt
  unfold NextEnds
  refine (callsIn_wide (n := 0)).1 (callsIn_of_wp_marks Try.func28 rfl trivial ?_ rfl)
  simp only [Try.ntmps28, List.size_toArray, List.length_cons, List.length_nil, Nat.reduceAdd, Nat.reduceSub, Array.replicate_succ, Array.replicate_zero, List.push_toArray, List.append_toArray, List.nil_append, List.cons_append]
  gi_wp2_with fail
  refine ⟨trivial, rfl, ?_⟩
  refine (callsIn_wide.2 (running_any _ _)).mono ?_
  rintro e w' ⟨rfl, rfl⟩
  gi_wp2_with fail
  have hB0 : ∀ o1 o2, Below w.heap.size w ((w.alloc o1).alloc o2) := fun o1 o2 => ((Below.refl _ w).alloc (Nat.le_refl _) _).alloc (by simp) _
  have hb1 := (Boxed.new w 3 (.int .i64 0)).alloc (.cells #[at_ p] BT)
  have hb2 := Boxed.new (w.alloc (.cells #[.int .i64 0] 3)) BT (at_ p)
  rw [World.size_alloc] at hb2
  refine range (gf := 46) (lb := #[.pointer (some ⟨w.heap.size + 1, 0, none⟩)]) rfl (enters_of Try.func46 (by kernel_rfl) rfl) (run_seq _ (w.heap.size + 1) p s.l _) (fun _ => rfl)
    (fun k W => Boxed W w.heap.size 3 (.int .i64 (nx s.l k)) ∧ Boxed W (w.heap.size + 1) BT (at_ p) ∧ IsC W p s ∧ Below w.heap.size w W)
    ((Abide.boxed _).and ((Abide.boxed _).and ((Abide.clock (fun _ => s)).and (Abide.below (Nat.le_refl _) (by simp; omega)))))
    (fun k W h => ⟨h.2.1, s, h.2.2.1, fun _ _ _ => rfl⟩)
    (fun k W h _ ho => ⟨by have e : nx s.l (k + 1) = nx s.l k := by { have : ¬ 0 < s.l k := by { simpa using ho }; simp [nx, this] }
                           rw [e]; exact h.1, h.2⟩)
    ⟨hb1, hb2, (h.alloc _).alloc _, hB0 _ _⟩
    (fun k => { tmps := #[at_ p, undef, .int .i64 0, .bool false, .pointer (some ⟨w.heap.size, 0, none⟩), undef, .pointer (some ⟨p, k * 2, none⟩), at_ p, .func (.func 46) #[] #[.pointer (some ⟨w.heap.size + 1, 0, none⟩)], .int .i64 (k : Int), .pointer (some ⟨p, k * 2, none⟩), undef, undef, undef, undef, undef, undef, undef, undef, undef, undef, undef, undef, undef, undef, undef, undef, undef], defers := [] }) ?assign ?body ?done
  case assign =>
    intro l k W K hI hK
    gi_wp2
    exact hK
  case body =>
    rintro l k W ⟨hb, hx, hc, hB⟩ hk hon
    have q0 := hb.cell
    have hf := hb.frozen
    have q1 := hc.cl hk
    have hL : 0 < s.l k := by simpa using hon
    have d1 := ok.l k hk
    have d2 := nx_bd ok.l k (by omega)
    obtain ⟨d1a, d1b⟩ := d1
    obtain ⟨d2a, d2b⟩ := d2
    by_cases h1 : 0 < s.l k ∧ (nx s.l k = 0 ∨ s.l k < nx s.l k)
    · have e : nx s.l (k + 1) = s.l k := by simp only [nx]; rw [if_pos h1]
      have HS := Lib.hid (hb.set (.int .i64 (s.l k)))
      have HB := Lib.hid (hB.setCell (p := ⟨w.heap.size, 0, none⟩) (Nat.le_refl _) (.int .i64 (s.l k)))
      have HX := Lib.hid (hx.kept (grownBy_setCell' W w.heap.size (.int .i64 (s.l k))) (by simp))
      have HC := Lib.hid (hc.grown (grownBy_setCell' W w.heap.size (.int .i64 (s.l k))) (by simp; omega))
      have HE := Lib.hid e
      have h1' := h1.2
      clear h1 hb hx hc hB hon e
      rcases h1' with h0 | h0
      · rw [h0] at q0 d2a d2b
        clear h0
        gi_wp2_with fail
        gi_region
        all_goals gi_wp2
        all_goals first | exact ⟨(KeepsOthers.setCell _ _ _).from _, by rw [HE.out]; exact HS.out, HX.out, HC.out, HB.out⟩ | exact ⟨((KeepsOthers.setCell _ _ _).trans (KeepsOthers.drew _)).from _, by rw [HE.out]; exact HS.out, HX.out, HC.out, HB.out.drew⟩
      · by_cases h00 : nx s.l k = 0
        · omega
        · generalize nx s.l k = m at *
          gi_wp2_with fail
          gi_region
          all_goals gi_wp2
          all_goals first | exact ⟨(KeepsOthers.setCell _ _ _).from _, by rw [HE.out]; exact HS.out, HX.out, HC.out, HB.out⟩ | exact ⟨((KeepsOthers.setCell _ _ _).trans (KeepsOthers.drew _)).from _, by rw [HE.out]; exact HS.out, HX.out, HC.out, HB.out.drew⟩
    · have e : nx s.l (k + 1) = nx s.l k := by simp only [nx]; rw [if_neg h1]
      have h2 : nx s.l k ≠ 0 := fun h => h1 ⟨hL, .inl h⟩
      have h3 : ¬ s.l k < nx s.l k := fun h => h1 ⟨hL, .inr h⟩
      have R := Lib.hid (show Boxed W w.heap.size 3 (.int .i64 (nx s.l (k + 1))) ∧ Boxed W (w.heap.size + 1) BT (at_ p) ∧ IsC W p s ∧ Below w.heap.size w W from ⟨by rw [e]; exact hb, hx, hc, hB⟩)
      clear h1 hb hx hc hB hon e
      generalize nx s.l k = m at *
      gi_wp2_with fail
      gi_region
      all_goals gi_wp2
      all_goals first | exact ⟨KeepsFrom.refl _ _, R.out⟩ | exact ⟨(KeepsOthers.drew _).from _, R.out.1, R.out.2.1, R.out.2.2.1, R.out.2.2.2.drew⟩ | (exfalso; rename_i hz; simp at hz; omega)
  case done =>
    rintro D W hD ⟨hb, hx, hc, hB⟩ hK
    have q0 := hb.cell
    have HB := Lib.hid (hB.trans (belowK_b (w := w) (Nat.le_refl _) W D _ (.deferred none) (by simp at hD; omega) hK rfl rfl))
    have HB2 := Lib.hid (hB.drew.trans (belowK_b (w := w) (Nat.le_refl _) W.drew D _ (.deferred none) (by simp at hD; omega) hK rfl rfl))
    have d2 := nx_bd ok.l 16 (by omega)
    obtain ⟨d2a, d2b⟩ := d2
    clear hb hx hc hB hb1 hb2 hB0
    gi_wp2_with fail
    gi_region
    all_goals gi_wp2
    all_goals refine ⟨by simp, .inl ⟨_, _, rfl, run_takeDeferred hK, ?_⟩⟩
    all_goals first | exact ⟨_, results_tmp2 rfl _ _ _, rfl, HB.out⟩ | exact ⟨_, results_tmp2 rfl _ _ _, rfl, HB2.out⟩
end Clk
end Go.Proofs.Ytlojomeofgnfjaa
