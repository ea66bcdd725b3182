/-
  A list of frames of a call's own.
-/
import Derived.Test.YtlojomeofgnfjaaFrmLift
import Derived.Maps.AppendAt
namespace Go.Proofs.Ytlojomeofgnfjaa
namespace Frm
open Go.RowKit Mem
set_option linter.unusedVariables false
set_option linter.unusedSimpArgs false
set_option maxRecDepth 100000
section
variable {P : Program} (w : World) {ops : Array Oper} {rest : List Oper} {o : Oper} {a : Act} {Q : Exit → Act → World → Prop}
/-- 'out = append(out, x, ..)' of structs, out the call's own. -/
theorem wpList_appS (hgd : o.guard = none) (s x : Operand) (t : TypeId)
    (ho : o.op = .call { callee := .builtin .append, args := #[s, x], argTypes := #[t, t] })
    (base : Nat) (e : TypeId) (i : TypeInfo) (z : Value) (size bytes : Nat) (ht : P.underlying t = some (.slice e)) (hi : P.info? e = some i) (hz : i.zero = some z) (hsize : i.size = size) (hby : i.bytes = bytes) (hzs : z.cells.size = size) (hsz : 0 < size)
    (v : Value) (n : Nat) (xs : List Value) (hs : a.eval s = v) (hown : w.ownsRow base e size v n xs) (ad : Addr) (m c : Nat) (news : List Value) (hx : a.eval x = .slice (some ad) m c)
    (hl : news.length = m * size) (hnews : ∀ j u, news[j]? = some u → w.cell? (ad.add j) = some u) (h1 : ∀ u ∈ news, u.oneCell' = true) (h63 : n + m ≤ maxLen) (hbytes : (n + m) * bytes ≤ 140737488355328) (hbase : base ≤ w.heap.size)
    (h : ∀ v' w', w'.ownsRow base e size v' (n + m) (xs ++ news) → w.grownBy w' v.ownBlock → wpList P ops Q rest (a.put o.dst v') w') : wpList P ops Q (o :: rest) a w := by
  refine wpList_plain hgd fun K hK => ?_
  obtain ⟨v', w', hrun, h2, h3, _, h5⟩ := run_append_own_at (P := P) w base t o.type e i z size bytes ht hi hz hsize hby hzs hsz v n xs hown ad m c news hl hnews h1 h63 hbytes hbase
  unfold Oper.wp execOp
  simp only [ho, resolve, invoke, builtin, Sem.run_bind, Sem.run_pure, Result.andThen_ok, List.map_toArray, List.map_cons, List.map_nil, hs, hx, hrun]
  exact hK _ _ (h v' w' h2 h3)
end
def FT : TypeId := 29
def ET : TypeId := 5
def flatF (fs : List Fv) : List Value := (fs.map fun f => f.vals.toList).flatten
/-- A list of frames of a call's own: the row from base on, the bytes wherever they are. -/
structure FL (W : World) (base : Nat) (v : Value) (fs : List Fv) : Prop where
  own : W.ownsRow base FT 3 v fs.length (flatF fs)
  data : ∀ i, i < fs.length → Own W 0 ET (.slice (fs.getD i Fv.zero).A (fs.getD i Fv.zero).d.length (fs.getD i Fv.zero).c) (fs.getD i Fv.zero).d
theorem flatF_len (fs : List Fv) : (flatF fs).length = fs.length * 3 := by
  induction fs with
  | nil => rfl
  | cons f r ih =>
    unfold flatF at *
    simp only [List.map_cons, List.flatten_cons, List.length_append, ih, List.length_cons]
    have : f.vals.toList.length = 3 := rfl
    omega
theorem flatF_get : ∀ (fs : List Fv) (j i : Nat), j < fs.length → i < 3 → (flatF fs)[j * 3 + i]? = (fs.getD j Fv.zero).vals[i]? := by
  intro fs
  induction fs with
  | nil => intro j i h; simp at h
  | cons f r ih =>
    intro j i hj hi
    have h3 : f.vals.toList.length = 3 := rfl
    unfold flatF at *
    cases j with
    | zero =>
      simp only [List.map_cons, List.flatten_cons, Nat.zero_mul, Nat.zero_add]
      rw [List.getElem?_append_left (by omega)]
      simp
    | succ j =>
      simp only [List.map_cons, List.flatten_cons]
      rw [List.getElem?_append_right (by omega), h3, show (j + 1) * 3 + i - 3 = j * 3 + i by omega, ih j i (by simpa using hj) hi]
      simp
theorem flatF_snoc (fs : List Fv) (f : Fv) : flatF (fs ++ [f]) = flatF fs ++ f.vals.toList := by simp [flatF]
theorem FL.nil (W : World) (base : Nat) : FL W base (.slice none 0 0) [] := ⟨World.ownsRow_nil _ _ _ _, fun i hi => by simp at hi⟩
theorem row_below {W W' : World} {base size n : Nat} {e : TypeId} {v : Value} {xs : List Value} (h : W.ownsRow base e size v n xs) (b : Below W.heap.size W W') : W'.ownsRow base e size v n xs := by
  refine ⟨h.1, ?_⟩
  rcases h.2 with h1 | ⟨g, cap, cur, hv, hb, hh, hr⟩
  · exact .inl h1
  · exact .inr ⟨g, cap, cur, hv, hb, (b.block g (Array.getElem?_eq_some_iff.1 hh).1).trans hh, hr⟩
theorem FL.below {W W' : World} {base : Nat} {v : Value} {fs : List Fv} (h : FL W base v fs) (b : Below W.heap.size W W') : FL W' base v fs :=
  ⟨row_below h.own b, fun i hi => (h.data i hi).below b (Nat.le_refl _)⟩
/-- Bytes are kept while a list of frames grows. -/
theorem own_grown {W W' : World} {base b : Nat} {v u : Value} {n : Nat} {xs : List Value} {d : List UInt8} (h : W.ownsRow base FT 3 v n xs) (o : Own W b ET u d) (g : W.grownBy W' v.ownBlock) : Own W' b ET u d := by
  refine ⟨o.1, ?_⟩
  rcases o.2 with h1 | ⟨g1, cap, cur, hu, hb, hh, hr⟩
  · exact .inl h1
  · refine .inr ⟨g1, cap, cur, hu, hb, (g.block g1 (Array.getElem?_eq_some_iff.1 hh).1 ?_).trans hh, hr⟩
    intro e
    rcases h.2 with ⟨rfl, _⟩ | ⟨g2, cap2, cur2, rfl, _, hh2, _⟩
    · cases e
    · simp only [Value.ownBlock, Option.some.injEq] at e
      subst e
      rw [hh2] at hh
      injection hh with hh
      injection hh with _ ht
      exact absurd ht (by decide)
theorem FL.snoc {W W' : World} {base : Nat} {v v' : Value} {fs : List Fv} {f : Fv} (h : FL W base v fs) (o : Own W 0 ET (.slice f.A f.d.length f.c) f.d) (hr : W'.ownsRow base FT 3 v' (fs.length + 1) (flatF fs ++ f.vals.toList)) (g : W.grownBy W' v.ownBlock) : FL W' base v' (fs ++ [f]) := by
  refine ⟨by rw [flatF_snoc, List.length_append]; exact hr, fun i hi => ?_⟩
  by_cases e : i < fs.length
  · have : (fs ++ [f]).getD i Fv.zero = fs.getD i Fv.zero := by simp [List.getD_eq_getElem?_getD, List.getElem?_append_left e]
    rw [this]
    exact own_grown h.own (h.data i e) g
  · obtain rfl : i = fs.length := by simp at hi; omega
    have : (fs ++ [f]).getD fs.length Fv.zero = f := by simp [List.getD_eq_getElem?_getD]
    rw [this]
    exact own_grown h.own o g
theorem FL.form {W : World} {base : Nat} {v : Value} {fs : List Fv} (h : FL W base v fs) : ∃ A c, v = .slice A fs.length c ∧ RdF W W.heap.size A fs := by
  have hd : ∀ j, j < fs.length → Rd W W.heap.size (fs.getD j Fv.zero).A (fs.getD j Fv.zero).d := fun j hj => by
    obtain ⟨A, c, hv, hr⟩ := (h.data j hj).form
    injection hv with e1 e2 e3
    rw [e1]
    exact hr
  rcases h.own.2 with ⟨rfl, hn⟩ | ⟨g, cap, cur, rfl, hb, hh, hnc, hcm, hcs, ht⟩
  · obtain rfl : fs = [] := List.eq_nil_of_length_eq_zero hn
    exact ⟨none, 0, rfl, .inl rfl, hd⟩
  · refine ⟨_, _, rfl, .inr ⟨g, 0, rfl, (Array.getElem?_eq_some_iff.1 hh).1, fun j hj i hi => ?_⟩, hd⟩
    have := World.ownsRow.cellAt h.own (j * 3 + i) (by omega)
    rw [flatF_get fs j i hj hi] at this
    rw [Nat.zero_add]
    exact this
theorem info_frm : (Try.prog.info? 29).map (fun i => (i.zero, i.size, i.bytes)) = some (some (.agg #[.int .i64 0, .bool false, .slice none 0 0]), 3, 40) := by kernel_rfl
end Frm
end Go.Proofs.Ytlojomeofgnfjaa
