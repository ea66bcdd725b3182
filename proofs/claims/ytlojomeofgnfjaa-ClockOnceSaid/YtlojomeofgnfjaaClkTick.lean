/-
  Tick: each timer that runs has one tick less; told are the names of those that run out. Next and Tick of a clock that is not there.
-/
import Derived.Test.YtlojomeofgnfjaaClkNext
import Derived.Maps.AppendAt
namespace Go.Proofs.Ytlojomeofgnfjaa
namespace Clk
open Go.RowKit Go.Shelf Mem
set_option linter.unusedVariables false
set_option linter.unusedSimpArgs false
set_option maxRecDepth 100000
attribute [local go_sem] Oper.semAt_some

/-- What a timer has left behind a tick. -/
def tl (s : Ck) (j : Nat) : Int := if 0 < s.l j then (if s.l j = 1 then s.a j else s.l j - 1) else s.l j
/-- The first k timers have ticked. -/
def tk (s : Ck) (k : Nat) : Ck := ⟨fun j => if j < k then tl s j else s.l j, s.a⟩
def Ck.tick (s : Ck) : Ck := tk s 16
/-- Which of the first k timers run out. -/
def outs (L : Nat → Int) : Nat → List Int
  | 0 => []
  | k + 1 => if L k = 1 then outs L k ++ [(k : Int)] else outs L k
theorem outs_length (L : Nat → Int) : ∀ k, (outs L k).length ≤ k
  | 0 => by simp [outs]
  | k + 1 => by
    have := outs_length L k
    unfold outs
    split <;> simp <;> omega
theorem outs_congr {L M : Nat → Int} : ∀ k, (∀ j, j < k → L j = M j) → outs L k = outs M k
  | 0, _ => rfl
  | k + 1, h => by simp only [outs]; rw [h k (by omega), outs_congr k (fun j hj => h j (by omega))]
theorem mem_outs {L : Nat → Int} {x : Int} : ∀ k, x ∈ outs L k ↔ ∃ j : Nat, j < k ∧ x = (j : Int) ∧ L j = 1
  | 0 => by simp [outs]
  | k + 1 => by
    have ih := mem_outs (L := L) (x := x) k
    unfold outs
    split
    · rename_i h
      rw [List.mem_append, ih]
      constructor
      · rintro (⟨j, a, b, c⟩ | e)
        · exact ⟨j, by omega, b, c⟩
        · exact ⟨k, by omega, by simpa using e, h⟩
      · rintro ⟨j, a, b, c⟩
        by_cases e : j = k
        · subst e; exact .inr (by simp [b])
        · exact .inl ⟨j, by omega, b, c⟩
    · rename_i h
      rw [ih]
      constructor
      · rintro ⟨j, a, b, c⟩
        exact ⟨j, by omega, b, c⟩
      · rintro ⟨j, a, b, c⟩
        by_cases e : j = k
        · subst e; exact absurd c h
        · exact ⟨j, by omega, b, c⟩
theorem tk_zero (s : Ck) : tk s 0 = s := by simp [tk]
theorem tk_skip {s : Ck} {k : Nat} (h : ¬ 0 < s.l k) : tk s (k + 1) = tk s k := by
  unfold tk
  congr 1
  funext j
  by_cases e : j = k
  · subst e; simp [tl, h]
  · by_cases e2 : j < k
    · simp [e2, show j < k + 1 by omega]
    · simp [e2, show ¬ j < k + 1 by omega]
theorem tk_less {s : Ck} {k : Nat} (h : 0 < s.l k) (h1 : s.l k ≠ 1) : (⟨upd (tk s k).l k (s.l k - 1), (tk s k).a⟩ : Ck) = tk s (k + 1) := by
  unfold tk
  congr 1
  funext j
  by_cases e : j = k
  · subst e; simp [tl, h, h1, upd]
  · by_cases e2 : j < k
    · simp [e, e2, upd, show j < k + 1 by omega]
    · simp [e, e2, upd, show ¬ j < k + 1 by omega]
theorem tk_out {s : Ck} {k : Nat} (h1 : s.l k = 1) (x : Int) : (⟨upd (upd (tk s k).l k x) k (s.a k), (tk s k).a⟩ : Ck) = tk s (k + 1) := by
  unfold tk
  congr 1
  funext j
  by_cases e : j = k
  · subst e; simp [tl, h1, upd]
  · by_cases e2 : j < k
    · simp [e, e2, upd, show j < k + 1 by omega]
    · simp [e, e2, upd, show ¬ j < k + 1 by omega]
theorem tl_bd {s : Ck} (h : s.Ok) {j : Nat} (hj : j < 16) : bnd (tl s j) := by
  have h1 := h.l j hj
  have h2 := h.a j hj
  unfold bnd at *
  unfold tl
  split
  · split <;> omega
  · omega
theorem Ck.tick_ok {s : Ck} (h : s.Ok) : s.tick.Ok :=
  ⟨fun j hj => by simp only [Ck.tick, tk, hj, if_true]; exact tl_bd h hj, h.a⟩

theorem Abide.grown {B p : Nat} {w : World} (hB : w.heap.size ≤ B) : Abide B (fun _ W => w.grownBy W (some p)) := by
  intro k W W' row hs hg hr
  exact ⟨hg.os.trans hs.os, hg.tape.trans hs.tape, hg.output.trans hs.output, Nat.le_trans hs.size hg.size, fun r hr1 hr2 => (hg.block r (Nat.lt_of_lt_of_le hr1 hs.size) (fun e => by have := (hr r e.symm).1; omega)).trans (hs.block r hr1 hr2)⟩

theorem infoI : (Try.prog.info? 3).map (fun i => (i.zero, i.size, i.bytes)) = some (some (.int .i64 0), 1, 8) := by kernel_rfl
/-- What Tick ends with. -/
def TickEnds (w : World) (p : Nat) (s : Ck) (e : Ending) (w' : World) : Prop :=
  ∃ v, e = .returned v ∧ OwnI .i64 w' w.heap.size 3 v (outs s.l 16) ∧ IsC w' p s.tick ∧ w.grownBy w' (some p)

/-- Between two rounds of Tick. -/
structure TI (w : World) (p : Nat) (s : Ck) (k : Nat) (W : World) : Prop where
  x : Boxed W (w.heap.size + 1) BT (at_ p)
  c : IsC W p (tk s k)
  g : w.grownBy W (some p)

set_option maxHeartbeats 2000000 in
theorem tick_any (w : World) (p : Nat) (s : Ck) (h : IsC w p s) (ok : s.Ok) :
    Calls Try.prog 25 #[at_ p] w (TickEnds w p s) := by
  have hlt := h.lt
  obtain ⟨i0, hi, hz0, hz1, hz2⟩ := info_parts infoI
  unfold TickEnds
  refine (callsIn_wide (n := 0)).1 (callsIn_of_wp_marks Try.func25 rfl trivial ?_ rfl)
  simp only [Try.ntmps25, List.size_toArray, List.length_cons, List.length_nil, Nat.reduceAdd, Nat.reduceSub, Array.replicate_succ, Array.replicate_zero, List.push_toArray, List.append_toArray, List.nil_append, List.cons_append]
  gi_wp2_with fail
  refine ⟨trivial, rfl, ?_⟩
  refine (callsIn_wide.2 (running_any _ _)).mono ?_
  rintro e w' ⟨rfl, rfl⟩
  gi_wp2_with fail
  have hb1 := (Boxed.new w 51 (.slice none 0 0)).alloc (.cells #[at_ p] BT)
  have hb2 := Boxed.new (w.alloc (.cells #[.slice none 0 0] 51)) BT (at_ p)
  rw [World.size_alloc] at hb2
  have hg0 : w.grownBy ((w.alloc (.cells #[.slice none 0 0] 51)).alloc (.cells #[at_ p] BT)) (some p) := grown_trans (World.grownBy_alloc w _ _) (by
    have := World.grownBy_alloc (w.alloc (.cells #[.slice none 0 0] 51)) (.cells #[at_ p] BT) (some p)
    exact this)
  refine range (gf := 46) (lb := #[.pointer (some ⟨w.heap.size + 1, 0, none⟩)]) rfl (enters_of Try.func46 (by kernel_rfl) rfl) (run_seq _ (w.heap.size + 1) p s.l _) (fun _ => rfl)
    (fun k W => (∃ v, Boxed W w.heap.size 51 v ∧ W.ownsRow w.heap.size 3 1 v (outs s.l k).length (intsV .i64 (outs s.l k)) ∧ True) ∧ TI w p s k W)
    (Abide.and (I := fun k W => ∃ v, Boxed W w.heap.size 51 v ∧ W.ownsRow w.heap.size 3 1 v (outs s.l k).length (intsV .i64 (outs s.l k)) ∧ True)
      (fun k W W' row hs hg hr => holdsRow_own w.heap.size w.heap.size 51 3 1 (fun k => (outs s.l k).length) (fun k => intsV .i64 (outs s.l k)) (fun _ _ => True) k W W' row hs hg (fun r e => (hr r e).2))
      (fun k W W' row hs hg hr => ⟨Abide.boxed (fun _ => at_ p) k W W' row hs.x hg hr, Abide.clock (tk s) k W W' row hs.c hg hr, Abide.grown (B := ((w.alloc (.cells #[.slice none 0 0] 51)).alloc (.cells #[at_ p] BT)).heap.size) (by simp; omega) k W W' row hs.g hg hr⟩))
    (fun k W h => ⟨h.2.x, _, h.2.c, fun j hj _ => by simp [tk, show ¬ j < k by omega]⟩)
    (fun k W h _ ho => by
      have hn : ¬ 0 < s.l k := by simpa using ho
      have e : outs s.l (k + 1) = outs s.l k := by simp only [outs]; rw [if_neg (by omega)]
      exact ⟨by rw [e]; exact h.1, h.2.x, by rw [tk_skip hn]; exact h.2.c, h.2.g⟩)
    ⟨⟨_, hb1, World.ownsRow_nil _ _ _ _, trivial⟩, hb2, by rw [tk_zero]; exact (h.alloc _).alloc _, hg0⟩
    (fun k => { tmps := #[at_ p, undef, .slice none 0 0, .pointer (some ⟨w.heap.size, 0, none⟩), .int .i64 (k : Int), .pointer (some ⟨p, k * 2, none⟩), at_ p, .func (.func 46) #[] #[.pointer (some ⟨w.heap.size + 1, 0, none⟩)], .int .i64 (k : Int), .pointer (some ⟨p, k * 2, none⟩), undef, undef, undef, undef, undef, undef, undef, undef, undef, undef, undef, undef, undef, undef, undef, undef, undef, undef, undef, undef, undef, undef, undef, undef], defers := [] }) ?assign ?body ?done
  case assign =>
    intro l k W K hI hK
    gi_wp2
    exact hK
  case body =>
    rintro l k W ⟨⟨v, hv, hrow, _⟩, hT⟩ hk hon
    have hL : 0 < s.l k := by simpa using hon
    have el : (tk s k).l k = s.l k := by simp [tk]
    have q1 := hT.c.cl hk
    have q2 := hT.c.ca hk
    rw [el] at q1
    have qf := hT.c.free (k * 2)
    have d1 := ok.l k hk
    obtain ⟨d1a, d1b⟩ := d1
    by_cases h1 : s.l k = 1
    · have e : outs s.l (k + 1) = outs s.l k ++ [(k : Int)] := by simp only [outs]; rw [if_pos h1]
      have ea : (tk s k).a k = s.a k := rfl
      rw [ea] at q2
      have hol : (outs s.l k).length ≤ 16 := Nat.le_trans (outs_length _ _) (by omega)
      obtain ⟨W2, hW2⟩ : ∃ W2, (W.setCell ⟨p, k * 2, none⟩ (.int .i64 0)).setCell ⟨p, k * 2, none⟩ (.int .i64 (s.a k)) = W2 := ⟨_, rfl⟩
      have G : W.grownBy W2 (some p) := hW2 ▸ grown_sets W p (k * 2) (k * 2) (.int .i64 0) (.int .i64 (s.a k))
      have K2 : KeepsOthers W W2 := hW2 ▸ (KeepsOthers.setCell _ _ _).trans (KeepsOthers.setCell _ _ _)
      have T2 : TI w p s (k + 1) W2 := ⟨hT.x.kept G (by simp; omega), by rw [← tk_out h1 0, ← hW2]; exact (hT.c.setl hk 0).setl hk (s.a k), grown_trans hT.g G⟩
      have hv2 : Boxed W2 w.heap.size 51 v := hv.kept G (by simp; omega)
      have hrow2 : W2.ownsRow w.heap.size 3 1 v (outs s.l k).length (intsV .i64 (outs s.l k)) := hW2 ▸ ownsRow_setCell_below (ownsRow_setCell_below hrow hlt _) hlt _
      have hsz : w.heap.size ≤ W2.heap.size := T2.g.size
      have hc0 : ((W.setCell ⟨p, k * 2, none⟩ (.int .i64 0)).setCell ⟨p, k * 2, none⟩ (.int .i64 (s.a k))).cell? ⟨w.heap.size, 0, none⟩ = some v := by rw [hW2]; exact hv2.cell
      have hrw : ((W.setCell ⟨p, k * 2, none⟩ (.int .i64 0)).setCell ⟨p, k * 2, none⟩ (.int .i64 (s.a k))).ownsRow w.heap.size 3 1 v (outs s.l k).length (intsV .i64 (outs s.l k)) := by rw [hW2]; exact hrow2
      have esz : W2.heap.size = W.heap.size := by rw [← hW2]; simp [World.setCell]
      have hnew : ∀ j u, ([.int .i64 (k : Int)] : List Value)[j]? = some u → (((W.setCell ⟨p, k * 2, none⟩ (.int .i64 0)).setCell ⟨p, k * 2, none⟩ (.int .i64 (s.a k))).alloc (.cells #[.int .i64 (k : Int)] 3)).cell? ((⟨W.heap.size, 0, none⟩ : Addr).add j) = some u := by
        rw [hW2, ← esz]; exact cell_one_new _ _ _
      have hbs : w.heap.size ≤ (((W.setCell ⟨p, k * 2, none⟩ (.int .i64 0)).setCell ⟨p, k * 2, none⟩ (.int .i64 (s.a k))).alloc (.cells #[.int .i64 (k : Int)] 3)).heap.size := by rw [hW2]; simp; omega
      have HW := Lib.hid hW2
      have HE := Lib.hid e
      have HT := Lib.hid T2
      have HK := Lib.hid K2
      have NR := Lib.hid (T2.x.not_row (by decide) hrow2)
      have HA := Lib.hid (fun (v' : Value) (w1 : World) (c' : W2.heap.size ≤ w1.heap.size) (hown' : w1.ownsRow w.heap.size 3 1 v' ((outs s.l k).length + 1) (intsV .i64 (outs s.l k) ++ [.int .i64 (k : Int)])) (hgrow : (W2.alloc (.cells #[.int .i64 (k : Int)] 3)).grownBy w1 v.ownBlock) => hv2.appended (n₀ := w.heap.size) (by decide) hrow2 hsz (Nat.le_refl _) hown' hgrow)
      clear hv hrow hT e el ea G hon hW2 T2 K2 hv2 hrow2
      rw [h1] at q1
      gi_wp2_with (gi_at_builtin; refine wpListIn_append_own _ rfl _ _ 51 rfl w.heap.size 3 i0 (.int .i64 0) 1 8 Try.underlying51 hi hz0 hz1 hz2 rfl (by decide) _ _ _ rfl (hrw.alloc _) ⟨W.heap.size, 0, none⟩ 1 1 [.int .i64 (k : Int)] rfl rfl hnew (by simp [Value.oneCell']) (by simp [maxLen]; omega) (by omega) hbs ?_; rw [HW.out]; intro v' w1 hown' hgrow _; obtain ⟨g', cap', rfl⟩ := ownsRow_succ hown'; obtain ⟨hv1, hv2, hr2, hk2, hb2⟩ := HA.out _ w1 (by have := hgrow.size; simp at this; omega) hown' hgrow; have hc1 := hv1.cell; have hf1 := hv1.frozen)
      refine ⟨(HK.out.trans hk2).from _, ⟨_, hv2, by rw [HE.out]; simpa [intsV] using hr2, trivial⟩, ?_⟩
      have T := HT.out
      refine ⟨((T.x.alloc _).kept hgrow NR.out).kept (grownBy_setCell' w1 w.heap.size _) (by simp), T.c.below hb2 hlt, ⟨hb2.os.trans T.g.os, hb2.tape.trans T.g.tape, hb2.output.trans T.g.output, Nat.le_trans T.g.size hb2.size, fun r hr1 hr2 => (hb2.block r hr1).trans (T.g.block r hr1 hr2)⟩⟩
    · have e : outs s.l (k + 1) = outs s.l k := by simp only [outs]; rw [if_neg h1]
      have G := grown_set W p (k * 2) (.int .i64 (s.l k - 1))
      have HT := Lib.hid (show TI w p s (k + 1) (W.setCell ⟨p, k * 2, none⟩ (.int .i64 (s.l k - 1))) from ⟨hT.x.kept G (by simp; omega), by rw [← tk_less hL h1]; exact hT.c.setl hk _, grown_trans hT.g G⟩)
      have HV := Lib.hid (show ∃ v, Boxed (W.setCell ⟨p, k * 2, none⟩ (.int .i64 (s.l k - 1))) w.heap.size 51 v ∧ (W.setCell ⟨p, k * 2, none⟩ (.int .i64 (s.l k - 1))).ownsRow w.heap.size 3 1 v (outs s.l (k + 1)).length (intsV .i64 (outs s.l (k + 1))) ∧ True from
        ⟨v, hv.kept G (by simp; omega), by rw [e]; exact ownsRow_setCell_below hrow hlt _, trivial⟩)
      have h2 : ¬ s.l k - 1 = 0 := by omega
      clear hv hrow hT e el G hon q2
      generalize s.l k = m at *
      gi_wp2_with fail
      all_goals exact ⟨(KeepsOthers.setCell _ _ _).from _, HV.out, HT.out⟩
  case done =>
    rintro D W hD ⟨⟨v, hv, hrow, _⟩, hT⟩ hK
    have q0 := hv.cell
    have HR := Lib.hid (show OwnI .i64 (W.putObj D (.deferred none)) w.heap.size 3 v (outs s.l 16) from ownsRow_putObj hrow _ hK rfl)
    have HC := Lib.hid (show IsC (W.putObj D (.deferred none)) p s.tick from hT.c.grown (grownBy_putObj' W D (.deferred none)) (by simp at hD ⊢; omega))
    have HG := Lib.hid (show w.grownBy (W.putObj D (.deferred none)) (some p) from Abide.grown (B := w.heap.size) (Nat.le_refl _) 0 W _ (some D) hT.g (grownBy_putObj' W D (.deferred none)) (fun r e => by cases e; exact ⟨by simp at hD; omega, _, hK, rfl⟩))
    clear hv hrow hT hb1 hb2 hg0
    gi_wp2_with fail
    refine ⟨by simp, .inl ⟨_, _, rfl, run_takeDeferred hK, ?_⟩⟩
    exact ⟨_, results_tmp rfl _ _ _, v, rfl, HR.out, HC.out, HG.out⟩

set_option maxHeartbeats 2000000 in
theorem tick_nil (w : World) :
    Calls Try.prog 25 #[.pointer none] w fun e w' => e = .returned (.slice none 0 0) ∧ Below w.heap.size w w' := by
  refine (callsIn_wide (n := 0)).1 (callsIn_of_wp_marks Try.func25 rfl trivial ?_ rfl)
  simp only [Try.ntmps25, List.size_toArray, List.length_cons, List.length_nil, Nat.reduceAdd, Nat.reduceSub, Array.replicate_succ, Array.replicate_zero, List.push_toArray, List.append_toArray, List.nil_append, List.cons_append]
  gi_wp2_with fail
  refine ⟨trivial, rfl, ?_⟩
  refine (callsIn_wide.2 (running_any _ _)).mono ?_
  rintro e w' ⟨rfl, rfl⟩
  gi_wp2_with fail
  have hb1 := (Boxed.new w 51 (.slice none 0 0)).alloc (.cells #[.pointer none] BT)
  have hb2 := Boxed.new (w.alloc (.cells #[.slice none 0 0] 51)) BT (.pointer none)
  rw [World.size_alloc] at hb2
  refine range (gf := 46) (lb := #[.pointer (some ⟨w.heap.size + 1, 0, none⟩)]) rfl (enters_of Try.func46 (by kernel_rfl) rfl) (run_seq_nil _ (w.heap.size + 1) (fun _ => true) (fun k => #[.nilIface, .nilIface]) _) (fun _ => rfl)
    (fun k W => Boxed W w.heap.size 51 (.slice none 0 0) ∧ Boxed W (w.heap.size + 1) BT (.pointer none) ∧ Below w.heap.size w W)
    ((Abide.boxed _).and ((Abide.boxed _).and (Abide.below (Nat.le_refl _) (by simp; omega))))
    (fun k W h => h.2.1) (fun k W h hk _ => by omega) ⟨hb1, hb2, ((Below.refl _ w).alloc (Nat.le_refl _) _).alloc (by simp) _⟩
    (fun k => { tmps := #[.pointer none, undef, .slice none 0 0, .pointer (some ⟨w.heap.size, 0, none⟩), .nilIface, .nilIface, .pointer none, .func (.func 46) #[] #[.pointer (some ⟨w.heap.size + 1, 0, none⟩)], .nilIface, .nilIface, undef, undef, undef, undef, undef, undef, undef, undef, undef, undef, undef, undef, undef, undef, undef, undef, undef, undef, undef, undef, undef, undef, undef, undef], defers := [] }) ?assign ?body ?done
  case assign =>
    intro l k W K hI hK
    gi_wp2
    exact hK
  case body =>
    rintro l k W _ hk
    omega
  case done =>
    rintro D W hD ⟨hv, hx, hB⟩ hK
    have q0 := hv.cell
    have HB := Lib.hid (hB.trans (belowK_b (w := w) (Nat.le_refl _) W D _ (.deferred none) (by simp at hD; omega) hK rfl rfl))
    clear hv hx hB hb1 hb2
    gi_wp2_with fail
    refine ⟨by simp, .inl ⟨_, _, rfl, run_takeDeferred hK, ?_⟩⟩
    exact ⟨_, results_tmp rfl _ _ _, rfl, HB.out⟩

set_option maxHeartbeats 2000000 in
theorem next_nil (w : World) :
    Calls Try.prog 28 #[.pointer none] w fun e w' => e = .returned (.tuple #[.int .i64 0, .bool false]) ∧ Below w.heap.size w w' := by
  refine (callsIn_wide (n := 0)).1 (callsIn_of_wp_marks Try.func28 rfl trivial ?_ rfl)
  simp only [Try.ntmps28, List.size_toArray, List.length_cons, List.length_nil, Nat.reduceAdd, Nat.reduceSub, Array.replicate_succ, Array.replicate_zero, List.push_toArray, List.append_toArray, List.nil_append, List.cons_append]
  gi_wp2_with fail
  refine ⟨trivial, rfl, ?_⟩
  refine (callsIn_wide.2 (running_any _ _)).mono ?_
  rintro e w' ⟨rfl, rfl⟩
  gi_wp2_with fail
  have hb1 := (Boxed.new w 3 (.int .i64 0)).alloc (.cells #[.pointer none] BT)
  have hb2 := Boxed.new (w.alloc (.cells #[.int .i64 0] 3)) BT (.pointer none)
  rw [World.size_alloc] at hb2
  refine range (gf := 46) (lb := #[.pointer (some ⟨w.heap.size + 1, 0, none⟩)]) rfl (enters_of Try.func46 (by kernel_rfl) rfl) (run_seq_nil _ (w.heap.size + 1) (fun _ => true) (fun k => #[.nilIface, .nilIface]) _) (fun _ => rfl)
    (fun k W => Boxed W w.heap.size 3 (.int .i64 0) ∧ Boxed W (w.heap.size + 1) BT (.pointer none) ∧ Below w.heap.size w W)
    ((Abide.boxed _).and ((Abide.boxed _).and (Abide.below (Nat.le_refl _) (by simp; omega))))
    (fun k W h => h.2.1) (fun k W h hk _ => by omega) ⟨hb1, hb2, ((Below.refl _ w).alloc (Nat.le_refl _) _).alloc (by simp) _⟩
    (fun k => { tmps := #[.pointer none, undef, .int .i64 0, .bool false, .pointer (some ⟨w.heap.size, 0, none⟩), undef, .nilIface, .pointer none, .func (.func 46) #[] #[.pointer (some ⟨w.heap.size + 1, 0, none⟩)], .nilIface, .nilIface, undef, undef, undef, undef, undef, undef, undef, undef, undef, undef, undef, undef, undef, undef, undef, undef, undef], defers := [] }) ?assign ?body ?done
  case assign =>
    intro l k W K hI hK
    gi_wp2
    exact hK
  case body =>
    rintro l k W _ hk
    omega
  case done =>
    rintro D W hD ⟨hv, hx, hB⟩ hK
    have q0 := hv.cell
    have HB := Lib.hid (hB.trans (belowK_b (w := w) (Nat.le_refl _) W D _ (.deferred none) (by simp at hD; omega) hK rfl rfl))
    have HB2 := Lib.hid (hB.drew.trans (belowK_b (w := w) (Nat.le_refl _) W.drew D _ (.deferred none) (by simp at hD; omega) hK rfl rfl))
    clear hv hx hB hb1 hb2
    gi_wp2_with fail
    gi_region
    all_goals gi_wp2
    all_goals refine ⟨by simp, .inl ⟨_, _, rfl, run_takeDeferred hK, ?_⟩⟩
    all_goals first | exact ⟨_, results_tmp2 rfl _ _ _, rfl, HB.out⟩ | exact ⟨_, results_tmp2 rfl _ _ _, rfl, HB2.out⟩
end Clk
end Go.Proofs.Ytlojomeofgnfjaa
