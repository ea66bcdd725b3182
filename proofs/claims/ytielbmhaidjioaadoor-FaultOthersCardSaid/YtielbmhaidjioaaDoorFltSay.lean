/-
  What a fault says: its links' texts, one behind the other, and the text that it ends in.
-/
import Derived.Test.YtielbmhaidjioaaDoorFltHas
import Derived.Test.YtielbmhaidjioaaDoorFltText
import Derived.RangeFuncBox
import Derived.Maps.AppendAt
namespace Go.Proofs.YtielbmhaidjioaaDoor
open Go.RowKit Go.Shelf Mem Rng
set_option linter.unusedVariables false
attribute [local go_sem] Oper.semAt_some

abbrev strV (t : List UInt8) : Value := .string ⟨t.toArray⟩
def txts (cs : List Int) (k : Nat) : List Value := (cs.take k).map fun c => strV (Flt.text c)
theorem txts_len (cs : List Int) (k : Nat) (h : k ≤ cs.length) : (txts cs k).length = k := by simp [txts, Nat.min_eq_left h]
theorem txts_succ (cs : List Int) (k : Nat) (h : k < cs.length) : txts cs (k + 1) = txts cs k ++ [strV (Flt.text (cs.getD k 0))] := by
  have e : cs.getD k 0 = cs[k] := by simp [h]
  unfold txts
  rw [List.take_succ_eq_append_getElem h, List.map_append, e]
  rfl
theorem Abide.row {β : Type} {T : TypeId} {B n₀ d : Nat} {t e : TypeId} {size : Nat} (k : β → Nat) (f : β → List Value) (ht : t ≠ T) (he : e ≠ T) : Abide T B (fun s W => ∃ v, Boxed W d t v ∧ W.ownsRow n₀ e size v (k s) (f s)) := by
  rintro s W W' row ⟨v, hv, hr⟩ hg hrow
  refine ⟨v, hv.kept hg (fun e' => ?_), hr.kept hg ?_⟩
  · rcases (hrow d e'.symm).2 with ⟨o, ho, hc⟩ | ⟨cs, hcs⟩
    · rw [show W.heap[d]? = _ from hv] at ho; cases ho; cases hc
    · rw [show W.heap[d]? = _ from hv] at hcs; cases hcs; exact ht rfl
  · rcases hr.2 with ⟨rfl, _⟩ | ⟨g, cap, cur, rfl, _, hgb, _⟩
    · exact .inl rfl
    · refine .inr fun e' => ?_
      rcases (hrow g (by simpa [Value.ownBlock] using e'.symm)).2 with ⟨o, ho, hc⟩ | ⟨cs, hcs⟩
      · rw [hgb] at ho; cases ho; cases hc
      · rw [hgb] at hcs; cases hcs; exact he rfl
theorem Kept.of_below {T : TypeId} {n₀ : Nat} {W W' : World} (hn : n₀ ≤ W.heap.size) (h : Below W.heap.size W W') : Kept T n₀ W W' :=
  Kept.of_grown (row := none) hn ⟨h.os, h.tape, h.output, h.size, fun k hk _ => h.block k hk⟩ (fun r e => by cases e)
theorem KeepsOthers.of_below {W W' : World} (h : Below W.heap.size W W') : KeepsOthers W W' :=
  ⟨h.size, fun k o hk _ => (h.block k (Array.getElem?_eq_some_iff.1 hk).1).trans hk⟩
theorem row_kept {W W' : World} {base : Nat} {e : TypeId} {size : Nat} {v : Value} {k : Nat} {xs : List Value} (h : W.ownsRow base e size v k xs) (hb : Below W.heap.size W W') : W'.ownsRow base e size v k xs :=
  h.kept (row := none) ⟨hb.os, hb.tape, hb.output, hb.size, fun k hk _ => hb.block k hk⟩ (by
    cases hv : v.ownBlock with
    | none => exact .inl rfl
    | some g => exact .inr (by simp))
theorem box_kept {W W' : World} {d : Nat} {t : TypeId} {v : Value} (h : Boxed W d t v) (hb : Below W.heap.size W W') : Boxed W' d t v := (hb.block d h.lt).trans h
theorem kept_row {T : TypeId} {n₀ d : Nat} {t e : TypeId} {size k : Nat} {w2 w3 : World} {v v' : Value} {xs : List Value} {tmp : Obj} (hn : n₀ ≤ w2.heap.size) (hd : n₀ ≤ d) (ht : t ≠ T) (he : e ≠ T)
    (hrow : w2.ownsRow n₀ e size v k xs) (hgrow : (w2.alloc tmp).grownBy w3 v.ownBlock) (hv1 : Boxed w3 d t v) : Kept T n₀ w2 (w3.setCell ⟨d, 0, none⟩ v') := by
  have h1 : Kept T n₀ w2 (w2.alloc tmp) := Kept.alloc hn tmp
  have h2 : Kept T n₀ (w2.alloc tmp) w3 := Kept.of_grown (by simp; omega) hgrow (fun r e' => by
    rcases (hrow.alloc tmp).2 with ⟨rfl, _⟩ | ⟨g, cap, cur, rfl, hb, hgb, _⟩
    · simp [Value.ownBlock] at e'
    · obtain rfl : g = r := by simpa [Value.ownBlock] using e'
      exact ⟨hb, fun cs e2 => by rw [hgb] at e2; cases e2; exact he rfl⟩)
  have h3 : Kept T n₀ w3 (w3.setCell ⟨d, 0, none⟩ v') := Kept.of_grown (by have := hgrow.size; simp at this; omega) (grownBy_setCell' w3 d v') (fun r e' => by
    cases e'
    exact ⟨hd, fun cs e2 => by rw [show w3.heap[d]? = _ from hv1] at e2; cases e2; exact ht rfl⟩)
  exact (h1.trans h2).trans h3
theorem info_str : (Tryd.prog.info? 9).map (fun i => (i.zero, i.size, i.bytes)) = some (some (.string ByteArray.empty), 1, 16) := by kernel_rfl
/-- append, as one step of a region that draws its order. -/
theorem step_append_in {F : Fence} {n : Nat} {P : Program} {ops : Array Oper} {o : Oper} {a : Act} {w : World} {K : Act → World → Prop} {Q : Exit → Act → World → Prop} {E : Prop}
    (hg : o.guard = none) (s x : Operand) (t : TypeId) (hop : o.op = Op.call { callee := Callee.builtin Builtin.append, args := #[s, x], argTypes := #[t, t] })
    (v sx : Value) (hs : a.eval s = v) (hx : a.eval x = sx) (v' : Value) (w' : World) (hrun : (Builtin.append_ #[t, t] o.type #[v, sx]).run P w = .ok v' w') (hK : K (a.put o.dst v') w') :
    if Region.wanted o (yielded ops a.tmps) = true then Oper.wpIn F n P o a w K Q else E := by
  have hw : Region.wanted o (yielded ops a.tmps) = true := by simp [Region.wanted, hg]
  rw [if_pos hw]
  unfold Oper.wpIn
  refine ⟨by simp [Oper.about, hop, resolve, Target.leads, Sem.run_pure], ?_⟩
  rw [Oper.semAt_plain F _ _ (by rw [hop]; intro c hc'; cases hc')]
  simp [execOp, hop, resolve, invoke, builtin, hs, hx, hrun, Result.andThen]
  exact hK
/-- What one round's append does: the run of the operation; what it is stored over; what the round then leaves. -/
theorem say_step {w W w2 : World} {d k : Nat} {v : Value} {xs xs' : List Value} {t : List UInt8}
    (hB : Below w.heap.size w W) (h1 : Boxed W d 55 v) (h2 : W.ownsRow w.heap.size 9 1 v k xs) (b2 : Below W.drew.heap.size W.drew w2) (hd : w.heap.size ≤ d) (hk : k ≤ 100000) (hx : xs' = xs ++ [strV t]) :
    ∃ v' w3, (Builtin.append_ #[55, 55] 55 #[v, .slice (some ⟨w2.heap.size, 0, none⟩) 1 1]).run Tryd.prog (w2.alloc (.cells #[strV t] 9)) = .ok v' w3 ∧
      (∃ g cap, v' = .slice (some ⟨g, 0, none⟩) (k + 1) cap) ∧
      Hid (KeepsOthers W (w3.setCell ⟨d, 0, none⟩ v') ∧ Kept 26 w.heap.size W (w3.setCell ⟨d, 0, none⟩ v') ∧ (Boxed (w3.setCell ⟨d, 0, none⟩ v') d 55 v' ∧ (w3.setCell ⟨d, 0, none⟩ v').ownsRow w.heap.size 9 1 v' (k + 1) xs') ∧ Below w.heap.size w (w3.setCell ⟨d, 0, none⟩ v')) ∧
      w3.cell? ⟨d, 0, none⟩ = some v ∧ w3.frozen? ⟨d, 0, none⟩ = false ∧ w2.cell? ⟨d, 0, none⟩ = some v ∧ d < w2.heap.size := by
  obtain ⟨i0, hi, hz0, hz1, hz2⟩ := info_parts info_str
  have b2' : Below W.heap.size W w2 := ⟨b2.os, b2.tape, b2.output, b2.size, b2.block⟩
  have k1 := box_kept h1 b2'
  have k2 := row_kept h2 b2'
  have hz : w.heap.size ≤ w2.heap.size := Nat.le_trans hB.size b2'.size
  obtain ⟨v', w3, hrun, hown, hgrow, _, _⟩ := run_append_own_at (P := Tryd.prog) (w2.alloc (.cells #[strV t] 9)) w.heap.size 55 55 9 i0 (.string ByteArray.empty) 1 16 Tryd.underlying55 hi hz0 hz1 hz2 rfl (by omega) v k xs (k2.alloc _)
    ⟨w2.heap.size, 0, none⟩ 1 1 [strV t] rfl (fun j u hu => by
      rcases j with _ | j
      · simp at hu; subst hu; simp [Addr.add]
      · simp at hu) (fun u hu => by simp at hu; subst hu; rfl) (by simp only [maxLen]; omega) (by omega) (by simp; omega)
  obtain ⟨q1, q2, q3, q4, q5⟩ := k1.appended (by decide) k2 hz hd hown hgrow
  refine ⟨v', w3, hrun, ownsRow_succ hown, Lib.hid ⟨?_, ?_, ⟨q2, by rw [hx]; exact q3⟩, ?_⟩, q1.cell, q1.frozen, k1.cell, k1.lt⟩
  · exact KeepsOthers.trans (KeepsOthers.of_below b2') q4
  · exact (Kept.of_below hB.size b2').trans (kept_row hz hd (by decide) (by decide) k2 hgrow q1)
  · exact (hB.trans (b2'.mono hB.size)).trans q5
theorem list_append_in {F : Fence} {n : Nat} {P : Program} {ops : Array Oper} {rest : List Oper} {o : Oper} {a : Act} {w : World} {Q : Exit → Act → World → Prop}
    (hg : o.guard = none) (s x : Operand) (t : TypeId) (hop : o.op = Op.call { callee := Callee.builtin Builtin.append, args := #[s, x], argTypes := #[t, t] })
    (v sx : Value) (hs : a.eval s = v) (hx : a.eval x = sx) (v' : Value) (w' : World) (hrun : (Builtin.append_ #[t, t] o.type #[v, sx]).run P w = .ok v' w') (hK : wpListIn F n P ops Q rest (a.put o.dst v') w') :
    wpListIn F n P ops Q (o :: rest) a w := by
  refine wpListIn_plain hg fun K hK' => ?_
  unfold Oper.wpIn
  refine ⟨by simp [Oper.about, hop, resolve, Target.leads, Sem.run_pure], ?_⟩
  rw [Oper.semAt_plain F _ _ (by rw [hop]; intro c hc'; cases hc')]
  simp [execOp, hop, resolve, invoke, builtin, hs, hx, hrun, Result.andThen]
  exact hK' _ _ hK
theorem asS_err (cs : List Int) (p : Addr) (g : Nat) (c0 : Value) (a : Nat → Addr) (w : World) (hg : Glob w a) (h0 : w.cell? ⟨g, 0, none⟩ = some c0) (hf : w.frozen? ⟨g, 0, none⟩ = false) :
    Calls Tryd.prog 35 #[chainV cs (errV p), .iface 58 (.pointer (some ⟨g, 0, none⟩))] w fun e w' => e = .returned (.bool false) ∧ Below w.heap.size w w' := by
  have hin := fun W b (hb : Below w.heap.size w W) hc => asin_err cs p g b c0 W (below_cell hb (Nat.le_refl _) h0) ((hb.frozen (p := ⟨g, 0, none⟩) (cell_lt h0)).trans hf) hc
  obtain ⟨V, v, hV⟩ : ∃ V v, chainV cs (errV p) = .iface V v := chain_if cs _ _
  rw [hV] at hin ⊢
  refine (as_S V v g a w hg false (fun W w' => Below W.heap.size W w') hin).mono ?_
  rintro e w' ⟨rfl, W, hb, h1⟩
  exact ⟨rfl, hb.trans (h1.mono hb.size)⟩
theorem asS_said (cs : List Int) (s : ByteArray) (g : Nat) (c0 : Value) (a : Nat → Addr) (w : World) (hg : Glob w a) (h0 : w.cell? ⟨g, 0, none⟩ = some c0) (hf : w.frozen? ⟨g, 0, none⟩ = false) :
    Calls Tryd.prog 35 #[chainV cs (saidI s), .iface 58 (.pointer (some ⟨g, 0, none⟩))] w fun e w' => e = .returned (.bool true) ∧ w'.cell? ⟨g, 0, none⟩ = some (.string s) ∧ w.grownBy w' (some g) := by
  have hin := fun W b (hb : Below w.heap.size w W) hc => asin_said cs s g b c0 W (below_cell hb (Nat.le_refl _) h0) ((hb.frozen (p := ⟨g, 0, none⟩) (cell_lt h0)).trans hf) hc
  obtain ⟨V, v, hV⟩ : ∃ V v, chainV cs (saidI s) = .iface V v := chain_if cs _ _
  rw [hV] at hin ⊢
  refine (as_S V v g a w hg true (fun W w' => GotS W w' g s) hin).mono ?_
  rintro e w' ⟨rfl, W, hb, h1, h2⟩
  exact ⟨rfl, h1, grown_trans ⟨hb.os, hb.tape, hb.output, hb.size, fun k hk _ => hb.block k hk⟩ h2⟩
theorem asS_none (c : Int) (g : Nat) (a : Nat → Addr) (w : World) (hg : Glob w a) :
    Calls Tryd.prog 35 #[.iface 26 (.agg #[.int .u32 c, .nilIface]), .iface 58 (.pointer (some ⟨g, 0, none⟩))] w fun e w' => e = .returned (.bool false) ∧ Below w.heap.size w w' := by
  refine (as_S _ _ g a w hg false (fun W w' => Below W.heap.size W w') (fun W b hb hc => asin_none c _ _ _ _ W)).mono ?_
  rintro e w' ⟨rfl, W, hb, h1⟩
  exact ⟨rfl, hb.trans (h1.mono hb.size)⟩
theorem lens_le (l : List (List UInt8)) (m : Nat) (h : ∀ x ∈ l, x.length ≤ m) : Lib.lens l ≤ m * l.length := by
  induction l with
  | nil => simp [Lib.lens]
  | cons x r ih =>
    have h1 := h x (by simp)
    have h2 := ih fun y hy => h y (by simp [hy])
    simp only [Lib.lens, List.map_cons, List.sum_cons, List.length_cons, Nat.mul_add] at *
    omega
theorem join_bd (l : List (List UInt8)) (h : ∀ x ∈ l, x.length ≤ 1000) (hl : l.length ≤ 2000) : (Lib.join l [58, 32]).length ≤ 100000000 := by
  cases l with
  | nil => simp [Lib.join_nil]
  | cons x r =>
    rw [Lib.join_length]
    have := lens_le (x :: r) 1000 h
    simp at *
    omega
/-- strings.Join of what a slice of the call's own holds. -/
theorem join_row (ls : List (List UInt8)) (v : Value) (base : Nat) (w : World) (hne : 0 < ls.length) (hrow : w.ownsRow base 9 1 v ls.length (ls.map strV)) (hb : ∀ x ∈ ls, x.length ≤ 1000) (hl : ls.length ≤ 2000) :
    Calls Tryd.prog 36 #[v, .string ⟨#[58, 32]⟩] w fun e w' => e = .returned (.string ⟨(Lib.join ls [58, 32]).toArray⟩) ∧ Below w.heap.size w w' := by
  obtain ⟨n, hn⟩ : ∃ n, ls.length = n + 1 := ⟨ls.length - 1, by omega⟩
  rw [hn] at hrow
  obtain ⟨g, cap, rfl⟩ := ownsRow_succ hrow
  have hcap : n + 1 ≤ cap := by
    rcases hrow.2 with ⟨h, _⟩ | ⟨g', cap', cur, h, _, _, h2, _⟩
    · cases h
    · cases h; exact h2
  have hlt : g < w.heap.size := (hrow.lt g rfl).2
  have e1 : (ls.map fun t => (⟨t.toArray⟩ : ByteArray)).map (·.data.toList) = ls := by
    rw [List.map_map]
    conv => rhs; rw [← List.map_id ls]
    congr 1
  have := Tryd.strings_Join g 0 cap (ls.map fun t => (⟨t.toArray⟩ : ByteArray)) ⟨#[58, 32]⟩ w (fun j x hx => by
    rw [Nat.zero_add, World.ownsRow.cellAt hrow j (by have := (List.getElem?_eq_some_iff.1 hx).1; simp at this; omega)]
    rw [List.getElem?_map] at hx ⊢
    cases hj : ls[j]? with
    | none => rw [hj] at hx; cases hx
    | some t => rw [hj] at hx; simp at hx; subst hx; rfl) hlt (by simp; omega) (by simp; omega) (by rw [e1]; exact Nat.le_trans (join_bd ls hb hl) (by omega))
  rw [e1] at this
  have e2 : (ls.map fun t => (⟨t.toArray⟩ : ByteArray)).length = n + 1 := by simp [hn]
  rw [e2] at this
  exact this
end Go.Proofs.YtielbmhaidjioaaDoor
