/-
  Values of a dictionary: a list of places with their values, whose bytes are its own and apart.
-/
import Derived.Test.YtpdnfdpoebhjoaaDoorDicApi
import Derived.Test.YtpdnfdpoebhjoaaDoorAppX
namespace Go.Proofs.YtpdnfdpoebhjoaaDoor
namespace Dic
open Go.RowKit Mem Ent
set_option linter.unusedVariables false
set_option linter.unusedSimpArgs false
set_option maxRecDepth 100000

def VT : TypeId := 53
theorem info_val : (Tryd.prog.info? 53).map (fun i => (i.zero, i.size, i.bytes)) = some (some (.agg #[.int .i64 0, .int .i64 0, .slice none 0 0]), 3, 40) := by kernel_rfl
/-- A value of an entry, with its place, and where its bytes lie. -/
structure Vv where
  ix : Int
  sub : Int
  A : Option Addr
  d : List UInt8
  c : Nat
def Vv.zero : Vv := ⟨0, 0, none, [], 0⟩
def Vv.vals (x : Vv) : List Value := [.int .i64 x.ix, .int .i64 x.sub, .slice x.A x.d.length x.c]
theorem vv_len (x : Vv) : x.vals.length = 3 := rfl
theorem vv_one (x : Vv) : ∀ u ∈ x.vals, u.oneCell' = true := by
  intro u hu
  simp only [Vv.vals, List.mem_cons, List.not_mem_nil, or_false] at hu
  rcases hu with rfl | rfl | rfl <;> rfl
abbrev Vv.u (x : Vv) : Value := .slice x.A x.d.length x.c
def Vv.tri (x : Vv) : Int × Int × List UInt8 := (x.ix, x.sub, x.d)
def Rv.tri (r : Rv) : Int × Int × List UInt8 := (r.e.ix, r.e.sub, r.v)
def tris (l : List Ev) (v : List (List UInt8)) : List (Int × Int × List UInt8) := List.zipWith (fun e d => (e.ix, e.sub, d)) l v
theorem tris_rs (rs : List Rv) : tris (evs rs) (rs.map (·.v)) = rs.map Rv.tri := by
  unfold tris evs
  induction rs with
  | nil => rfl
  | cons r rs ih => simp [Rv.tri] at ih ⊢
/-- Values whose bytes are the call's own, each apart from the others. -/
structure LV (W : World) (B : Nat) (vs : List Vv) : Prop where
  own : ∀ x ∈ vs, Own W B YT x.u x.d
  apart : vs.Pairwise fun x y => ∀ b, x.u.ownBlock = some b → y.u.ownBlock ≠ some b
theorem own_lt {W : World} {B : Nat} {e : TypeId} {v : Value} {d : List UInt8} (h : Own W B e v d) {b : Nat} (hb : v.ownBlock = some b) : B ≤ b ∧ b < W.heap.size := World.ownsRow.lt h b hb
theorem LV.below {W W' : World} {B : Nat} {vs : List Vv} (h : LV W B vs) (b : Below W.heap.size W W') : LV W' B vs := ⟨fun f hf => (h.own f hf).below b (Nat.le_refl _), h.apart⟩
/-- Bytes are kept while a row of another type grows, or is written to. -/
theorem own_grown {W W' : World} {base b size : Nat} {t : TypeId} (ht : t ≠ YT) {v u : Value} {n : Nat} {xs : List Value} {d : List UInt8} (h : W.ownsRow base t size v n xs) (o : Own W b YT u d) (g : W.grownBy W' v.ownBlock) : Own W' b YT u d := by
  refine own_keep o fun q hq => g.block q (World.ownsRow.lt o q hq).2 fun e => ?_
  rcases h.2 with ⟨rfl, _⟩ | ⟨g1, cap, cur, rfl, _, hh, _⟩
  · cases e
  · simp only [Value.ownBlock, Option.some.injEq] at e
    subst e
    rcases o.2 with ⟨rfl, _⟩ | ⟨g2, cap2, cur2, rfl, _, hh2, _⟩
    · cases hq
    · simp only [Value.ownBlock, Option.some.injEq] at hq
      subst hq
      rw [hh2] at hh
      injection hh with hh
      injection hh with _ hq
      exact absurd hq.symm ht
theorem row_grown {W W' : World} {base b size : Nat} {t : TypeId} (ht : t ≠ YT) {v u : Value} {n : Nat} {xs : List Value} {d : List UInt8} (h : W.ownsRow base t size v n xs) (o : Own W b YT u d) (g : W.grownBy W' u.ownBlock) : W'.ownsRow base t size v n xs := by
  refine own_keep h fun q hq => g.block q (h.lt q hq).2 fun e => ?_
  rcases h.2 with ⟨rfl, _⟩ | ⟨g1, cap, cur, rfl, _, hh, _⟩
  · cases hq
  · simp only [Value.ownBlock, Option.some.injEq] at hq
    subst hq
    rcases o.2 with ⟨rfl, _⟩ | ⟨g2, cap2, cur2, rfl, _, hh2, _⟩
    · cases e
    · simp only [Value.ownBlock, Option.some.injEq] at e
      subst e
      rw [hh2] at hh
      injection hh with hh
      injection hh with _ hq
      exact absurd hq.symm ht
theorem vt_ne : VT ≠ YT := by decide
/-- While Values runs: k are there. -/
structure VS (W : World) (rs : List Rv) (vv : Value) (vs : List Vv) (wr : World) : Prop where
  own : wr.ownsRow W.heap.size VT 3 vv vs.length (flat Vv.vals vs)
  lv : LV wr W.heap.size vs
  b : Below W.heap.size W wr
  eq : vs.map Vv.tri = (rs.take vs.length).map Rv.tri
section
variable {W wr w5 w7 : World} {rs : List Rv} {vv v7 : Value} {vs : List Vv}
theorem VS.start (W : World) (rs : List Rv) : VS W rs (.slice none 0 0) [] W := ⟨World.ownsRow_nil _ _ _ _, ⟨fun x hx => by simp at hx, .nil⟩, Below.refl _ _, rfl⟩
theorem VS.next (h : VS W rs vv vs wr) (b : Below wr.heap.size wr w5) : VS W rs vv vs w5 := ⟨own_below h.own b, h.lv.below b, h.b.trans (b.mono h.b.size), h.eq⟩
theorem VS.more (h : VS W rs vv vs wr) (b : Below wr.heap.size wr w5) {x : Vv} (o : Own w5 wr.heap.size YT x.u x.d) {ob : Obj} (own : w7.ownsRow W.heap.size VT 3 v7 (vs.length + 1) (flat Vv.vals vs ++ x.vals)) (g7 : (w5.alloc ob).grownBy w7 vv.ownBlock)
    (hk : vs.length < rs.length) (hx : x.tri = (rs.getD vs.length Rv.zero).tri) : VS W rs v7 (vs ++ [x]) w7 := by
  have h5 := h.next b
  have b6 := (Below.refl w5.heap.size w5).alloc (Nat.le_refl _) ob
  have h6 := h5.next b6
  have o6 := o.alloc ob
  have B7 : Below W.heap.size W w7 := h6.b.grown g7 h6.b.size (fun q hq => (h6.own.lt q hq).1)
  refine ⟨by rw [flat_snoc, List.length_append]; exact own, ⟨fun y hy => ?_, List.pairwise_append.2 ⟨h.lv.apart, by simp, fun y hy z hz => ?_⟩⟩, B7, ?_⟩
  · rcases List.mem_append.1 hy with hy | hy
    · exact own_grown vt_ne h6.own (h6.lv.own y hy) g7
    · simp only [List.mem_singleton] at hy
      subst hy
      exact (own_grown vt_ne h6.own o6 g7).lower h.b.size
  · simp only [List.mem_singleton] at hz
    subst hz
    intro q e1 e2
    have l1 := own_lt (h.lv.own y hy) e1
    have l2 := own_lt o e2
    omega
  · rw [List.map_append, h.eq, List.length_append, List.length_singleton, List.take_succ_eq_append_getElem hk, List.map_append]
    congr 1
    simp only [List.map_cons, List.map_nil]
    rw [hx]
    simp [List.getD_eq_getElem?_getD, hk]
end
/-- What Values ends with. -/
def ValuesEnds (W : World) (l : List (Int × Int × List UInt8)) (e : Ending) (w' : World) : Prop :=
  ∃ A c vs, e = .returned (.slice A vs.length c) ∧ w'.ownsRow W.heap.size VT 3 (.slice A vs.length c) vs.length (flat Vv.vals vs) ∧ LV w' W.heap.size vs ∧ Below W.heap.size W w' ∧ vs.map Vv.tri = l
section
variable {W : World} {p : Nat} {v : Value} {N : Nat → Prop} {s : Ds}
set_option maxHeartbeats 4000000 in
theorem values_any (h : HasD W p v N s) : Calls Tryd.prog 14 #[ptr p] W (ValuesEnds W (tris s.l s.v)) := by
  obtain ⟨rs, h, e1, e2⟩ := h
  rw [← e1, ← e2, tris_rs]
  obtain ⟨i0, hi, hz0, hz1, hz2⟩ := info_parts info_val
  have few := h.few
  have HN := none_any h
  have c0 := h.c0
  obtain ⟨A, c, rfl, _⟩ := h.form
  have AT := Lib.hid (fun k (hk : k < rs.length) => h.at hk rfl)
  have RD := Lib.hid (fun k (hk : k < rs.length) => (h.rd (getD_mem (z := Rv.zero) hk)).2)
  have OK := Lib.hid (fun k (hk : k < rs.length) => (h.ok _ (getD_mem (z := Rv.zero) hk)).2)
  have S := Lib.hid (VS.start W rs)
  clear h e1 e2
  go_enter Tryd.func14, Tryd.ntmps14
  go_wp2_with fail
  refine HN.mono ?_
  rintro e w' ⟨rfl, rfl⟩
  go_wp2_with fail
  go_loopw [3, 13] (fun vv iv wr => ∃ (vs : List Vv), vs.length ≤ rs.length ∧ iv = .int .i64 (vs.length : Int) ∧ Hid (VS W rs vv vs wr)) (fun _ iv _ => rs.length - (intOf iv).toNat)
  case atStart => exact ⟨[], by simp, rfl, S⟩
  case round =>
    obtain ⟨vs, hk, rfl, hS⟩ := hrel
    clear S HN
    by_cases hlt : vs.length < rs.length
    · obtain ⟨g, c', e1, hg, z1, z2, QQ, z3⟩ := AT.out vs.length hlt
      injection e1 with e1 e2 e3
      subst e1
      clear e2 e3 z1 z2 z3
      have hrd := RD.out _ hlt
      have hok := OK.out _ hlt
      have MORE := Lib.hid (fun w5 w7 v7 ob b x o own g7 hx => hS.out.more (w5 := w5) (w7 := w7) (v7 := v7) (ob := ob) b (x := x) o own g7 hlt hx)
      obtain ⟨k, hkk⟩ : ∃ k, vs.length = k := ⟨_, rfl⟩
      have j1 : (0 : Int) ≤ (k : Int) := by omega
      have j2 : (k : Int) < (rs.length : Int) := by omega
      have k96 : k ≤ 96 := by omega
      have ROW := QQ.below hg hS.out.b
      obtain ⟨q0, q1, q2, q3, q4, q5, q6, q7, q8, q9, q10, q11⟩ := ROW
      have OWN := hS.out.own
      rw [hkk] at OWN q0 q1 q2 q3 q4 q5 q6 q7 q8 q9 q10 q11 hrd hok MORE ⊢
      have OWN := Lib.hid OWN
      obtain ⟨A1, c1, rfl⟩ := row_form OWN.out
      have BW := Lib.hid hS.out.b
      have KK := Lib.hid hkk
      have MEAS := Lib.hid hk
      clear QQ AT RD OK hS hkk hk
      generalize rs.getD k Rv.zero = r at *
      have b1 := one_b wr (.cells #[.int .i64 r.e.ix, .int .i64 r.e.sub, .string ⟨r.e.nm.toArray⟩, .int .i64 r.e.ty, .int .i64 r.e.ac, .bool r.e.mp, .bool r.e.st, .int .i64 r.e.mx, .int .i64 r.e.lo, .int .i64 r.e.hi, .slice r.A r.e.d.length r.cA, .slice r.V r.v.length r.cV] 66)
      have B1 := Lib.hid b1
      have BX := Lib.hid (heap_alloc_new wr (.cells #[.int .i64 r.e.ix, .int .i64 r.e.sub, .string ⟨r.e.nm.toArray⟩, .int .i64 r.e.ty, .int .i64 r.e.ac, .bool r.e.mp, .bool r.e.st, .int .i64 r.e.mx, .int .i64 r.e.lo, .int .i64 r.e.hi, .slice r.A r.e.d.length r.cA, .slice r.V r.v.length r.cV] 66))
      clear b1
      go_wp2_with fail
      clear q0 q1 q2 q3 q4 q5 q6 q7 q8 q9 q10 q11
      generalize wr.alloc (.cells #[.int .i64 r.e.ix, .int .i64 r.e.sub, .string ⟨r.e.nm.toArray⟩, .int .i64 r.e.ty, .int .i64 r.e.ac, .bool r.e.mp, .bool r.e.st, .int .i64 r.e.mx, .int .i64 r.e.lo, .int .i64 r.e.hi, .slice r.A r.e.d.length r.cA, .slice r.V r.v.length r.cV] 66) = w4 at *
      have C4 := Lib.hid (fun X (b : Below w4.heap.size w4 X) (j : Nat) (u : Value) (h : (Rv.vals r)[j]? = some u) => cell_of (W := X) (p := wr.heap.size) (j := j) (l := Rv.vals r) (v := u) ((b.block _ (Array.getElem?_eq_some_iff.1 BX.out).1).trans BX.out) h)
      have CL := Lib.hid (fun X (b : Below w4.heap.size w4 X) => Byt.clone_any r.V r.v.length r.cV r.v X ((hrd.below ((BW.out.trans (B1.out.mono BW.out.size)).trans (b.mono (Nat.le_trans BW.out.size B1.out.size)))).mono (Nat.le_trans (Nat.le_trans BW.out.size B1.out.size) b.size)) rfl (by omega))
      have y0 := C4.out w4 (Below.refl _ _) 0 _ rfl
      have y1 := C4.out w4 (Below.refl _ _) 1 _ rfl
      have y11 := C4.out w4 (Below.refl _ _) 11 _ rfl
      clear hrd
      go_region_law (first
        | (go_simp; go_at_call 23; refine (CL.out _ (below_drew w4)).mono ?_; rintro e w5 ⟨u, rfl, o5, b5⟩; obtain ⟨A5, c5, rfl, _⟩ := o5.form; have B5 := Lib.hid ((below_drew w4).trans (b5.mono (Nat.le_refl _))); have O5 := Lib.hid (show Own w5 wr.heap.size YT (.slice A5 r.v.length c5) r.v from o5.lower B1.out.size); have z0 := C4.out w5 B5.out 0 _ rfl; have z1 := C4.out w5 B5.out 1 _ rfl; have z11 := C4.out w5 B5.out 11 _ rfl; have W5 := Lib.hid ((own_below (own_below OWN.out B1.out) B5.out).alloc (.cells #[.int .i64 r.e.ix, .int .i64 r.e.sub, .slice A5 r.v.length c5] 53)); have N5 := Lib.hid (new_cells w5 (Vv.vals ⟨r.e.ix, r.e.sub, A5, r.v, c5⟩) 53); have X5 := Lib.hid (vv_one ⟨r.e.ix, r.e.sub, A5, r.v, c5⟩); clear b5 o5)
        | (refine step_appX _ rfl (.tmp 17) (.tmp 28) 45 rfl W.heap.size 53 i0 _ 3 40 Tryd.underlying45 hi hz0 hz1 hz2 rfl (by decide) _ k (flat Vv.vals vs) rfl W5.out (some ⟨w5.heap.size, 0, none⟩) 1 1 (Vv.vals ⟨r.e.ix, r.e.sub, A5, r.v, c5⟩) rfl rfl (.inr ⟨_, rfl, N5.out⟩) X5.out (by unfold maxLen; omega) (by omega) (by have h1 := BW.out.size; have h2 := B1.out.size; have h3 := B5.out.size; simp; omega) ?_; intro v7 w7 o7 g7 t7; have M7 := Lib.hid (MORE.out w5 w7 v7 _ (B1.out.trans (B5.out.mono B1.out.size)) ⟨r.e.ix, r.e.sub, A5, r.v, c5⟩ O5.out o7 g7 rfl); clear o7 g7 t7))
      all_goals
        clear y0 y1 y11 z0 z1 z11
        go_wp2_with fail
        go_roundw
        case rel => exact ⟨_, by have := MEAS.out; have := KK.out; simp; omega, by simp [KK.out], M7⟩
        case measure => simp [intOf]; omega
    · have hE : vs.length = rs.length := by omega
      have S := hS.out
      obtain ⟨A1, c1, rfl⟩ := row_form S.own
      have EQ := Lib.hid (show vs.map Vv.tri = rs.map Rv.tri by rw [S.eq, hE, List.take_length])
      have S := Lib.hid S
      clear AT RD OK hS
      go_wp2_with fail
      go_ret
      exact ⟨A1, c1, vs, rfl, S.out.own, S.out.lv, S.out.b, EQ.out⟩
end
end Dic
end Go.Proofs.YtpdnfdpoebhjoaaDoor
