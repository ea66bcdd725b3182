/-
  Whether a fault has a link of a code: Has. What none has: no link.
-/
import Derived.Test.YtielbmhaidjioaaDoorFltDepth
namespace Go.Proofs.YtielbmhaidjioaaDoor
open Go.RowKit Go.Shelf Mem Rng
set_option linter.unusedVariables false
attribute [local go_sem] Oper.semAt_some

theorem HasFlt.own {W W' : World} {B b : Nat} {c x : Value} {row : Option Nat} (h : HasFlt W b c x) (hg : W.grownBy W' row) (hr : ∀ r, row = some r → B ≤ r ∧ ∃ o : Obj, W.heap[r]? = some o ∧ o.isCells = false) : HasFlt W' b c x := by
  unfold HasFlt at h ⊢
  rw [hg.block b (Array.getElem?_eq_some_iff.1 h).1 ?_]
  · exact h
  · rintro e
    obtain ⟨_, o, ho, hc⟩ := hr b e.symm
    rw [h] at ho
    cases ho
    cases hc
theorem mem_at {l : List Int} {d : Int} {k : Nat} (hk : k < l.length) (h : l.getD k 0 = d) : decide (d ∈ l) = true := by
  rw [List.getD_eq_getElem?_getD, List.getElem?_eq_getElem hk] at h
  rw [← h]
  exact decide_eq_true (List.getElem_mem hk)
theorem mem_no {l : List Int} {d : Int} (h : ∀ j, j < l.length → l.getD j 0 ≠ d) : decide (d ∈ l) = false := by
  rw [decide_eq_false_iff_not]
  intro hm
  obtain ⟨j, hj, e⟩ := List.mem_iff_getElem.1 hm
  exact h j hj (by rw [List.getD_eq_getElem?_getD, List.getElem?_eq_getElem hj]; exact e)

set_option maxRecDepth 100000 in
set_option maxHeartbeats 2000000 in
theorem has_any (c : Int) (r : List Int) (U : TypeId) (bv : Value) (hE : EndT U) (hc : (c == 0) = false) (d : Int) (a : Nat → Addr) (w : World) (hg : Glob w a) :
    Calls Tryd.prog 18 #[.agg #[.int .u32 c, chainV r (.iface U bv)], .int .u32 d] w fun e w' => e = .returned (.bool (decide (d ∈ c :: r))) ∧ Below w.heap.size w w' := by
  have hS := fun W h => links_seq (0 - 1) w.heap.size c r U bv hE hc a w W hg rfl h
  have hX1 : ∀ k, ∃ y, chainV ((c :: r).drop (k + 1)) (.iface U bv) = y := fun k => ⟨_, rfl⟩
  generalize hX : chainV r (.iface U bv) = X at *
  have HX := Lib.hid hX
  clear hX
  have hl : (c :: r).length = r.length + 1 := rfl
  generalize c :: r = cs at *
  have HL := Lib.hid hl
  clear hl
  refine (callsIn_wide (n := 0)).1 (callsIn_of_wp_marks Tryd.func18 rfl trivial ?_ rfl)
  simp only [Tryd.ntmps18, List.size_toArray, List.length_cons, List.length_nil, Nat.reduceAdd, Nat.reduceSub, Array.replicate_succ, Array.replicate_zero, List.push_toArray, List.append_toArray, List.nil_append, List.cons_append]
  gi_wp2_with fail
  have hB0 : ∀ o1 o2 o3, Below w.heap.size w (((w.alloc o1).alloc o2).alloc o3) := fun o1 o2 o3 => (((Below.refl _ w).alloc (Nat.le_refl _) _).alloc (by simp) _).alloc (by simp; omega) _
  have hb1 : Boxed (((w.alloc (.cells #[.int .u32 c, X] 26)).alloc (.cells #[.int .u32 d] 22)).alloc (.cells #[.bool false] 4)) (w.heap.size + 1) 22 (.int .u32 d) := by
    have := (Boxed.new (w.alloc (.cells #[.int .u32 c, X] 26)) 22 (.int .u32 d)).alloc (.cells #[.bool false] 4)
    rwa [World.size_alloc] at this
  have hb2 : Boxed (((w.alloc (.cells #[.int .u32 c, X] 26)).alloc (.cells #[.int .u32 d] 22)).alloc (.cells #[.bool false] 4)) (w.heap.size + 1 + 1) 4 (.bool false) := by
    have := Boxed.new ((w.alloc (.cells #[.int .u32 c, X] 26)).alloc (.cells #[.int .u32 d] 22)) 4 (.bool false)
    simpa using this
  refine Rng.range (gf := 34) (fa := #[.agg #[.int .u32 c, X]]) rfl (enters_of Tryd.func34 (by kernel_rfl) rfl) (hS _ (hB0 _ _ _)) (by simp; omega) (fun _ => rfl)
    (fun k W => (∀ j, j < k → cs.getD j 0 ≠ d) ∧ Boxed W (w.heap.size + 1) 22 (.int .u32 d) ∧ Boxed W (w.heap.size + 1 + 1) 4 (.bool false) ∧ Below w.heap.size w W)
    (fun k W => cs.getD k 0 = d ∧ Boxed W (w.heap.size + 1 + 1) 4 (.bool true) ∧ Below w.heap.size w W)
    (Abide.and (Abide.pure _ _) (Abide.and (Abide.box _ (.inr (by decide))) (Abide.and (Abide.box _ (.inr (by decide))) (Abide.below (Nat.le_refl _) (by simp; omega)))))
    (Abide.and (Abide.pure _ _) (Abide.and (Abide.box _ (.inr (by decide))) (Abide.below (Nat.le_refl _) (by simp; omega))))
    ⟨fun j hj => by omega, hb1, hb2, hB0 _ _ _⟩
    (fun k a' W => ∃ B, HasFlt W B (.int .u32 (cs.getD k 0)) (chainV (cs.drop (k + 1)) (.iface U bv)) ∧ a' = { tmps := #[.agg #[.int .u32 c, X], .int .u32 d, .pointer (some ⟨w.heap.size, 0, none⟩), .pointer (some ⟨w.heap.size + 1, 0, none⟩), .pointer (some ⟨w.heap.size + 1 + 1, 0, none⟩), .pointer (some ⟨B, 0, none⟩), .agg #[.int .u32 c, X], .func (.func 34) #[.agg #[.int .u32 c, X]] #[], .agg #[.int .u32 (cs.getD k 0), chainV (cs.drop (k + 1)) (.iface U bv)], undef, undef, undef, undef], defers := [] })
    (fun k a' => fun s W W' row hs hg' hr => by obtain ⟨B, hB, e⟩ := hs; exact ⟨B, hB.own hg' hr, e⟩) ?assign ?body ?done ?stop
  case assign =>
    rintro l k W K ⟨hn, k1, k2, hB⟩ hK
    have q1 := Lib.hid (fun o => k1.alloc o)
    have q2 := Lib.hid (fun o => k2.alloc o)
    have q3 := Lib.hid (fun o => hB.alloc hB.size o)
    have q4 := Lib.hid (Kept.alloc (T := 26) hB.size)
    clear k1 k2 hB hb1 hb2
    obtain ⟨V, v, hV⟩ := chain_if (cs.drop (k + 1)) U bv
    obtain ⟨y, hy⟩ : ∃ y, cs.getD k 0 = y := ⟨_, rfl⟩
    simp only [hV, hy] at hK ⊢
    clear hV hy
    gi_wp2
    exact hK _ _ ((KeepsOthers.alloc _ _).from _) (q4.out _) ⟨hn, q1.out _, q2.out _, q3.out _⟩ ⟨_, HasFlt.new W _ _, rfl⟩
  case body =>
    rintro l k _ W ⟨hn, k1, k2, hB⟩ ⟨B, hF, rfl⟩ hk
    have m0 := hF.cell0
    have m1 := k1.cell
    have m2 := k2.cell
    have m3 := k2.frozen
    obtain ⟨V, v, hV⟩ := chain_if (cs.drop (k + 1)) U bv
    by_cases he : cs.getD k 0 = d
    · have he' : (cs.getD k 0 == d) = true := by rw [he]; simp
      have HE := Lib.hid he
      have q2 := Lib.hid (k2.set (.bool true))
      have q3 := Lib.hid (hB.setCell (p := ⟨w.heap.size + 1 + 1, 0, none⟩) (by simp; omega) (.bool true))
      obtain ⟨y, hy⟩ : ∃ y, cs.getD k 0 = y := ⟨_, rfl⟩
      simp only [hV, hy] at m0 he' ⊢
      clear hy
      clear he hV hB k1 k2 hF
      gi_wp2
      exact ⟨(KeepsOthers.setCell _ _ _).from _, HE.out, q2.out, q3.out⟩
    · have he' : (cs.getD k 0 == d) = false := by simpa using he
      have HE := Lib.hid he
      have hn' : ∀ j, j < k + 1 → cs.getD j 0 ≠ d := fun j hj => by
        by_cases h : j = k
        · subst h; exact he
        · exact hn j (by omega)
      have q := Lib.hid (And.intro hn' (And.intro k1 (And.intro k2 hB)))
      obtain ⟨y, hy⟩ : ∃ y, cs.getD k 0 = y := ⟨_, rfl⟩
      simp only [hV, hy] at m0 he' ⊢
      clear hy
      clear he hV hB k1 k2 hF hn hn'
      gi_wp2
      exact ⟨KeepsFrom.refl _ _, Kept.refl _, q.out⟩
  case done =>
    rintro D W hD ⟨hn, k1, k2, hB⟩ hK
    have hno := mem_no (l := cs) (d := d) (fun j hj => hn j (by have := HL.out; omega))
    have m2 := k2.cell
    have m3 := k2.frozen
    have hK' := (KeepsOthers.setCell W ⟨w.heap.size + 1 + 1, 0, none⟩ (.bool false)).same D _ hK rfl
    have hc5 := cell_kept (World.cell?_setCell_same' W ⟨w.heap.size + 1 + 1, 0, none⟩ (.bool false) (by rw [m2]; rfl)) (grownBy_putObj' _ D (.deferred none)) (fun r e => by cases e; exact ⟨_, hK', rfl⟩)
    have HB := Lib.hid ((hB.setCell (p := ⟨w.heap.size + 1 + 1, 0, none⟩) (by simp; omega) (.bool false)).trans (belowK_b (w := w) (Nat.le_refl _) _ D _ (.deferred none) (by simp at hD; omega) hK' rfl rfl))
    have HN := Lib.hid hno
    clear hB k1 k2 hS hb1 hb2 hn hno
    gi_wp2
    refine ⟨by simp, .inl ⟨_, _, rfl, run_takeDeferred hK', ?_⟩⟩
    refine ⟨.bool false, ?_, by rw [HN.out], HB.out⟩
    simp [results, Tryd.f18, go_sem, hc5]
  case stop =>
    rintro D k W hD hk ⟨he, k2, hB⟩ hK
    have hyes := mem_at (l := cs) (d := d) (k := k) (by have := HL.out; omega) he
    have hc5 := cell_kept k2.cell (grownBy_putObj' _ D (.deferred none)) (fun r e => by cases e; exact ⟨_, hK, rfl⟩)
    have HB := Lib.hid (hB.trans (belowK_b (w := w) (Nat.le_refl _) W D _ (.deferred none) (by simp at hD; omega) hK rfl rfl))
    have HN := Lib.hid hyes
    clear hB k2 hS hb1 hb2 he hyes
    gi_wp2
    refine ⟨by simp, .inl ⟨_, _, rfl, run_takeDeferred hK, ?_⟩⟩
    refine ⟨.bool true, ?_, by rw [HN.out], HB.out⟩
    simp [results, Tryd.f18, go_sem, hc5]
end Go.Proofs.YtielbmhaidjioaaDoor
