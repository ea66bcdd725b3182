/-
  A row opened at a place; a row cloned.
-/
import Derived.Test.YtlojomeofgnfjaaTxqPlace
import Derived.Deep.RegionHeld3

namespace Go.Proofs.Ytlojomeofgnfjaa

namespace Txq
open Go.RowKit Mem Frm
set_option linter.unusedVariables false
set_option linter.unusedSimpArgs false
set_option maxRecDepth 100000

theorem flat_app (a b : List Fv) : flatF (a ++ b) = flatF a ++ flatF b := by simp [flatF]

theorem flat_one (fs : List Fv) : ∀ u ∈ flatF fs, u.oneCell' = true := by
  intro u hu
  unfold flatF at hu
  simp only [List.mem_flatten, List.mem_map] at hu
  obtain ⟨l, ⟨f, _, rfl⟩, hu⟩ := hu
  simp only [Fv.vals, List.mem_cons, List.not_mem_nil, or_false] at hu
  rcases hu with rfl | rfl | rfl <;> rfl

theorem flat_split (fs : List Fv) (k : Nat) : flatF fs = flatF (fs.take k) ++ flatF (fs.drop k) := by rw [← flat_app, List.take_append_drop]

/-- The cells of a row that reads as frames. -/
theorem cells_of {W : World} {B : Nat} {A : Option Addr} {fs : List Fv} (h : RdF W B A fs) : (fs = []) ∨ ∃ g off, A = some ⟨g, off, none⟩ ∧ g < B ∧ ∀ q u, (flatF fs)[q]? = some u → W.cell? ⟨g, off + q, none⟩ = some u := by
  rcases h.1 with h1 | ⟨g, off, e, hg, hc⟩
  · exact .inl h1
  · refine .inr ⟨g, off, e, hg, fun q u hu => ?_⟩
    have hq : q < fs.length * 3 := by
      have := (List.getElem?_eq_some_iff.1 hu).1
      rwa [flatF_len] at this
    have h1 := hc (q / 3) (by omega) (q % 3) (by omega)
    rw [← flatF_get fs (q / 3) (q % 3) (by omega) (by omega), show q / 3 * 3 + q % 3 = q by omega, show off + q / 3 * 3 + q % 3 = off + q by omega] at h1
    rw [h1, hu]

theorem cells_take {W : World} {g off : Nat} {fs : List Fv} (h : ∀ q u, (flatF fs)[q]? = some u → W.cell? ⟨g, off + q, none⟩ = some u) (k : Nat) : ∀ j u, (flatF (fs.take k))[j]? = some u → W.cell? ((⟨g, off, none⟩ : Addr).add j) = some u := by
  intro j u hu
  rw [Addr.add_lit]
  refine h j u ?_
  rw [flat_split fs k, List.getElem?_append_left (List.getElem?_eq_some_iff.1 hu).1]
  exact hu

theorem cells_drop {W : World} {g off : Nat} {fs : List Fv} (h : ∀ q u, (flatF fs)[q]? = some u → W.cell? ⟨g, off + q, none⟩ = some u) {k : Nat} (hk : k ≤ fs.length) : ∀ j u, (flatF (fs.drop k))[j]? = some u → W.cell? ((⟨g, off + k * 3, none⟩ : Addr).add j) = some u := by
  intro j u hu
  rw [Addr.add_lit, show off + k * 3 + j = off + (k * 3 + j) by omega]
  refine h (k * 3 + j) u ?_
  have hl : (flatF (fs.take k)).length = k * 3 := by rw [flatF_len, List.length_take, Nat.min_eq_left hk]
  rw [flat_split fs k, List.getElem?_append_right (by omega), hl, Nat.add_sub_cancel_left]
  exact hu

theorem cells_take0 {W : World} {g : Nat} {fs : List Fv} (h : ∀ q u, (flatF fs)[q]? = some u → W.cell? ⟨g, q, none⟩ = some u) (k : Nat) : ∀ j u, (flatF (fs.take k))[j]? = some u → W.cell? ((⟨g, 0, none⟩ : Addr).add j) = some u :=
  cells_take (fun q u hu => by rw [Nat.zero_add]; exact h q u hu) k

theorem cells_drop0 {W : World} {g : Nat} {fs : List Fv} (h : ∀ q u, (flatF fs)[q]? = some u → W.cell? ⟨g, q, none⟩ = some u) {k : Nat} (hk : k ≤ fs.length) : ∀ j u, (flatF (fs.drop k))[j]? = some u → W.cell? ((⟨g, k * 3, none⟩ : Addr).add j) = some u := by
  have := cells_drop (W := W) (off := 0) (fun q u hu => by rw [Nat.zero_add]; exact h q u hu) hk
  rwa [Nat.zero_add] at this

theorem cells_all0 {W : World} {g : Nat} {fs : List Fv} (h : ∀ q u, (flatF fs)[q]? = some u → W.cell? ⟨g, q, none⟩ = some u) : ∀ j u, (flatF fs)[j]? = some u → W.cell? ((⟨g, 0, none⟩ : Addr).add j) = some u := by
  intro j u hu
  rw [Addr.add_lit, Nat.zero_add]
  exact h j u hu

/-- The cells of a row at the beginning of a block, in any later world. -/
theorem cells_later {w : World} {B g : Nat} {fs : List Fv} (h : RdF w B (some ⟨g, 0, none⟩) fs) {W : World} (b : Below w.heap.size w W) : ∀ q u, (flatF fs)[q]? = some u → W.cell? ⟨g, q, none⟩ = some u := by
  intro q u hu
  rcases cells_of h with rfl | ⟨g', off', e, _, hcc⟩
  · simp [flatF] at hu
  · cases e
    have h1 := hcc q u hu
    rw [Nat.zero_add] at h1
    exact (b.cell (p := ⟨g, q, none⟩) (World.block_lt_of_cell? w _ h1)).trans h1

section
variable {P : Program} (w : World) {ops : Array Oper} {rest : List Oper} {o : Oper} {a : Act} {Q : Exit → Act → World → Prop}

/-- 'out = append(out, x..)', out the call's own, x of any kind: nil too. -/
theorem wp_appX {K : Act → World → Prop} (s x : Operand) (t : TypeId)
    (ho : o.op = .call { callee := .builtin .append, args := #[s, x], argTypes := #[t, t] })
    (base : Nat) (e : TypeId) (i : TypeInfo) (z : Value) (size bytes : Nat) (ht : P.underlying t = some (.slice e)) (hi : P.info? e = some i) (hz : i.zero = some z) (hsize : i.size = size) (hby : i.bytes = bytes) (hzs : z.cells.size = size) (hsz : 0 < size)
    (v : Value) (n : Nat) (xs : List Value) (hs : a.eval s = v) (hown : w.ownsRow base e size v n xs) (A : Option Addr) (m c : Nat) (news : List Value) (hx : a.eval x = .slice A m c)
    (hl : news.length = m * size) (hA : (A = none ∧ m = 0) ∨ ∃ ad, A = some ad ∧ ∀ j u, news[j]? = some u → w.cell? (ad.add j) = some u) (h1 : ∀ u ∈ news, u.oneCell' = true) (h63 : n + m ≤ maxLen) (hbytes : (n + m) * bytes ≤ 140737488355328) (hbase : base ≤ w.heap.size)
    (h : ∀ v' w', w'.ownsRow base e size v' (n + m) (xs ++ news) → w.grownBy w' v.ownBlock → (v'.ownBlock = v.ownBlock ∨ v'.ownBlock = some w.heap.size) → K (a.put o.dst v') w') : o.wp P a w K Q := by
  rcases hA with ⟨rfl, rfl⟩ | ⟨ad, rfl, hnews⟩
  · obtain rfl : news = [] := List.eq_nil_of_length_eq_zero (by simpa using hl)
    have hrun : (Builtin.append_ #[t, t] o.type #[v, .slice none 0 c]).run P w = .ok v w := by
      rcases hown.2 with ⟨rfl, hn⟩ | ⟨g, cap, cur, rfl, _, _, hnc, _⟩
      · simp [Builtin.append_, run_underlying ht, sizeOf, typeInfo, hi, Builtin.lenOf, Builtin.firstCells, loadCells, loadCellsFrom]
      · simp [Builtin.append_, run_underlying ht, sizeOf, typeInfo, hi, Builtin.lenOf, Builtin.firstCells, hnc, storeCells, loadCells, loadCellsFrom]
    unfold Oper.wp
    simp [execOp, ho, resolve, invoke, builtin, hs, hx, hrun, Result.andThen]
    exact h v w (by simpa using hown) (World.grownBy.refl _ _) (.inl rfl)
  · obtain ⟨v', w', hrun, h2, h3, _, h5⟩ := run_append_own_at (P := P) w base t o.type e i z size bytes ht hi hz hsize hby hzs hsz v n xs hown ad m c news hl hnews h1 h63 hbytes hbase
    unfold Oper.wp execOp
    simp only [ho, resolve, invoke, builtin, Sem.run_bind, Sem.run_pure, Result.andThen_ok, List.map_toArray, List.map_cons, List.map_nil, hs, hx, hrun]
    exact h v' w' h2 h3 h5

/-- The same in a list of operations. -/
theorem wpList_appX (hgd : o.guard = none) (s x : Operand) (t : TypeId)
    (ho : o.op = .call { callee := .builtin .append, args := #[s, x], argTypes := #[t, t] })
    (base : Nat) (e : TypeId) (i : TypeInfo) (z : Value) (size bytes : Nat) (ht : P.underlying t = some (.slice e)) (hi : P.info? e = some i) (hz : i.zero = some z) (hsize : i.size = size) (hby : i.bytes = bytes) (hzs : z.cells.size = size) (hsz : 0 < size)
    (v : Value) (n : Nat) (xs : List Value) (hs : a.eval s = v) (hown : w.ownsRow base e size v n xs) (A : Option Addr) (m c : Nat) (news : List Value) (hx : a.eval x = .slice A m c)
    (hl : news.length = m * size) (hA : (A = none ∧ m = 0) ∨ ∃ ad, A = some ad ∧ ∀ j u, news[j]? = some u → w.cell? (ad.add j) = some u) (h1 : ∀ u ∈ news, u.oneCell' = true) (h63 : n + m ≤ maxLen) (hbytes : (n + m) * bytes ≤ 140737488355328) (hbase : base ≤ w.heap.size)
    (h : ∀ v' w', w'.ownsRow base e size v' (n + m) (xs ++ news) → w.grownBy w' v.ownBlock → (v'.ownBlock = v.ownBlock ∨ v'.ownBlock = some w.heap.size) → wpList P ops Q rest (a.put o.dst v') w') : wpList P ops Q (o :: rest) a w :=
  wpList_plain hgd fun _ hK => wp_appX w s x t ho base e i z size bytes ht hi hz hsize hby hzs hsz v n xs hs hown A m c news hx hl hA h1 h63 hbytes hbase fun v' w' h2 h3 h4 => hK _ _ (h v' w' h2 h3 h4)

/-- The same at a step of a region that draws its order. -/
theorem step_appX {ops : Array Oper} {K : Act → World → Prop} {E : Prop} (hgd : o.guard = none) (s x : Operand) (t : TypeId)
    (ho : o.op = .call { callee := .builtin .append, args := #[s, x], argTypes := #[t, t] })
    (base : Nat) (e : TypeId) (i : TypeInfo) (z : Value) (size bytes : Nat) (ht : P.underlying t = some (.slice e)) (hi : P.info? e = some i) (hz : i.zero = some z) (hsize : i.size = size) (hby : i.bytes = bytes) (hzs : z.cells.size = size) (hsz : 0 < size)
    (v : Value) (n : Nat) (xs : List Value) (hs : a.eval s = v) (hown : w.ownsRow base e size v n xs) (A : Option Addr) (m c : Nat) (news : List Value) (hx : a.eval x = .slice A m c)
    (hl : news.length = m * size) (hA : (A = none ∧ m = 0) ∨ ∃ ad, A = some ad ∧ ∀ j u, news[j]? = some u → w.cell? (ad.add j) = some u) (h1 : ∀ u ∈ news, u.oneCell' = true) (h63 : n + m ≤ maxLen) (hbytes : (n + m) * bytes ≤ 140737488355328) (hbase : base ≤ w.heap.size)
    (h : ∀ v' w', w'.ownsRow base e size v' (n + m) (xs ++ news) → w.grownBy w' v.ownBlock → (v'.ownBlock = v.ownBlock ∨ v'.ownBlock = some w.heap.size) → K (a.put o.dst v') w') : if Region.wanted o (yielded ops a.tmps) = true then Oper.wp P o a w K Q else E := by
  have hw : Region.wanted o (yielded ops a.tmps) = true := by simp [Region.wanted, hgd]
  rw [if_pos hw]
  exact wp_appX w s x t ho base e i z size bytes ht hi hz hsize hby hzs hsz v n xs hs hown A m c news hx hl hA h1 h63 hbytes hbase h

/-- 'append(x[:k:k], ..)': always a new row. -/
theorem wp_appF {K : Act → World → Prop} (s x : Operand) (t : TypeId)
    (ho : o.op = .call { callee := .builtin .append, args := #[s, x], argTypes := #[t, t] })
    (base : Nat) (e : TypeId) (i : TypeInfo) (z : Value) (size bytes : Nat) (ht : P.underlying t = some (.slice e)) (hi : P.info? e = some i) (hz : i.zero = some z) (hsize : i.size = size) (hby : i.bytes = bytes) (hzs : z.cells.size = size) (hsz : 0 < size)
    (k : Nat) (A0 : Option Addr) (olds : List Value) (hs : a.eval s = .slice A0 k k) (hlo : olds.length = k * size) (hA0 : (A0 = none ∧ k = 0) ∨ ∃ b, A0 = some b ∧ ∀ j u, olds[j]? = some u → w.cell? (b.add j) = some u)
    (ad : Addr) (m c : Nat) (news : List Value) (hx : a.eval x = .slice (some ad) m c)
    (hl : news.length = m * size) (hnews : ∀ j u, news[j]? = some u → w.cell? (ad.add j) = some u) (h1 : ∀ u ∈ news, u.oneCell' = true) (hm : 0 < m) (h63 : k + m ≤ maxLen) (hbytes : (k + m) * bytes ≤ 140737488355328) (hbase : base ≤ w.heap.size)
    (h : ∀ v' w', w'.ownsRow base e size v' (k + m) (olds ++ news) → w.grownBy w' none → (v'.ownBlock = some w.heap.size) → K (a.put o.dst v') w') : o.wp P a w K Q := by
  subst hsize
  subst hby
  have hlen : (olds ++ news).length = (k + m) * i.size := by rw [List.length_append, hlo, hl, Nat.add_mul]
  have grown : (w.drew.alloc (.cells (olds.toArray ++ news.toArray ++ Builtin.zeroCells z.cells (grownCap w (k + m) k e - (k + m))) e)).ownsRow base e i.size
        (.slice (some ⟨w.heap.size, 0, none⟩) (k + m) (grownCap w (k + m) k e)) (k + m) (olds ++ news) ∧
      w.grownBy (w.drew.alloc (.cells (olds.toArray ++ news.toArray ++ Builtin.zeroCells z.cells (grownCap w (k + m) k e - (k + m))) e)) none := by
    have hge := grownCap_ge w (k + m) k e
    have hcm : grownCap w (k + m) k e ≤ maxLen := grownCap_le_maxLen w (k + m) k e h63
    refine ⟨⟨hlen, .inr ⟨w.heap.size, _, _, rfl, hbase, heap_alloc_new w.drew _, hge, hcm, ?_, ?_⟩⟩, ⟨rfl, rfl, rfl, by simp, fun q hq _ => heap_alloc_old w.drew _ hq⟩⟩
    · simp only [Array.size_append, List.size_toArray, size_zeroCells, hzs, hlo, hl, ← Nat.add_mul]
      congr 1
      omega
    · simp only [Array.toList_append, List.append_assoc]
      rw [← List.append_assoc, ← hlen]
      exact List.take_left
  have h63' : ((k + m : Nat) : Int) ≤ 9223372036854775807 := by simp only [maxLen] at h63; omega
  have hrun : (Builtin.append_ #[t, t] o.type #[.slice A0 k k, .slice (some ad) m c]).run P w = .ok (.slice (some ⟨w.heap.size, 0, none⟩) (k + m) (grownCap w (k + m) k e)) (w.drew.alloc (.cells (olds.toArray ++ news.toArray ++ Builtin.zeroCells z.cells (grownCap w (k + m) k e - (k + m))) e)) := by
    rcases hA0 with ⟨rfl, rfl⟩ | ⟨b, rfl, holds⟩
    · obtain rfl : olds = [] := List.eq_nil_of_length_eq_zero (by simpa using hlo)
      have := run_append_nil (P := P) w t o.type e i z ht hi hz ad m c news hl hnews hm (by omega) (by have hb := hbytes; simp only [Nat.zero_add] at hb; omega)
      simpa using this
    · exact run_append_grow (P := P) w t o.type e i z ht hi hz b k k olds hlo holds ad m c news hl hnews (by omega) h63' (growslice_fits (by omega) hbytes)
  unfold Oper.wp execOp
  simp only [ho, resolve, invoke, builtin, Sem.run_bind, Sem.run_pure, Result.andThen_ok, List.map_toArray, List.map_cons, List.map_nil, hs, hx, hrun]
  exact h _ _ grown.1 grown.2 rfl

/-- The same at a step of a region that draws its order. -/
theorem step_appF {ops : Array Oper} {K : Act → World → Prop} {E : Prop} (hgd : o.guard = none) (s x : Operand) (t : TypeId)
    (ho : o.op = .call { callee := .builtin .append, args := #[s, x], argTypes := #[t, t] })
    (base : Nat) (e : TypeId) (i : TypeInfo) (z : Value) (size bytes : Nat) (ht : P.underlying t = some (.slice e)) (hi : P.info? e = some i) (hz : i.zero = some z) (hsize : i.size = size) (hby : i.bytes = bytes) (hzs : z.cells.size = size) (hsz : 0 < size)
    (k : Nat) (A0 : Option Addr) (olds : List Value) (hs : a.eval s = .slice A0 k k) (hlo : olds.length = k * size) (hA0 : (A0 = none ∧ k = 0) ∨ ∃ b, A0 = some b ∧ ∀ j u, olds[j]? = some u → w.cell? (b.add j) = some u)
    (ad : Addr) (m c : Nat) (news : List Value) (hx : a.eval x = .slice (some ad) m c)
    (hl : news.length = m * size) (hnews : ∀ j u, news[j]? = some u → w.cell? (ad.add j) = some u) (h1 : ∀ u ∈ news, u.oneCell' = true) (hm : 0 < m) (h63 : k + m ≤ maxLen) (hbytes : (k + m) * bytes ≤ 140737488355328) (hbase : base ≤ w.heap.size)
    (h : ∀ v' w', w'.ownsRow base e size v' (k + m) (olds ++ news) → w.grownBy w' none → (v'.ownBlock = some w.heap.size) → K (a.put o.dst v') w') : if Region.wanted o (yielded ops a.tmps) = true then Oper.wp P o a w K Q else E := by
  have hw : Region.wanted o (yielded ops a.tmps) = true := by simp [Region.wanted, hgd]
  rw [if_pos hw]
  exact wp_appF w s x t ho base e i z size bytes ht hi hz hsize hby hzs hsz k A0 olds hs hlo hA0 ad m c news hx hl hnews h1 hm h63 hbytes hbase h

end

/-- A call that answers a row of its own. -/
def RowEnds (w : World) (fs : List Fv) (e : Ending) (w' : World) : Prop := ∃ v, e = .returned v ∧ w'.ownsRow w.heap.size 29 3 v fs.length (flatF fs) ∧ Below w.heap.size w w'

/-- A row of a call's own reads as its frames. -/
theorem rdG_of {G : Nat → Prop} {W : World} {base : Nat} {v : Value} {fs : List Fv} (h : W.ownsRow base 29 3 v fs.length (flatF fs)) (hd : ∀ j, j < fs.length → RdB G W (fs.getD j Fv.zero).A (fs.getD j Fv.zero).d) (hG : ∀ g, base ≤ g → g < W.heap.size → G g) :
    ∃ A c, v = .slice A fs.length c ∧ fs.length ≤ c ∧ c ≤ maxLen ∧ ((A = none ∧ c = 0) ∨ ∃ g, A = some ⟨g, 0, none⟩) ∧ RdG G W A fs := by
  rcases h.2 with ⟨rfl, hn⟩ | ⟨g, cap, cur, rfl, hb, hh, hnc, hcm, hcs, ht⟩
  · obtain rfl : fs = [] := List.eq_nil_of_length_eq_zero hn
    exact ⟨none, 0, rfl, Nat.le_refl _, by simp, .inl ⟨rfl, rfl⟩, RdG.nil⟩
  · refine ⟨_, _, rfl, hnc, hcm, .inr ⟨g, rfl⟩, .inr ⟨g, 0, rfl, hG g hb (Array.getElem?_eq_some_iff.1 hh).1, fun j hj i hi => ?_⟩, hd⟩
    have := World.ownsRow.cellAt h (j * 3 + i) (by omega)
    rw [flatF_get fs j i hj hi] at this
    rw [Nat.zero_add]
    exact this

theorem info_frm' : (Try.prog.info? 29).map (fun i => (i.zero, i.size, i.bytes)) = some (some (.agg #[.int .i64 0, .bool false, .slice none 0 0]), 3, 40) := by kernel_rfl

theorem new3_cells (W : World) (x y z : Value) (t : TypeId) : ∀ j u, [x, y, z][j]? = some u → (W.alloc (.cells #[x, y, z] t)).cell? ((⟨W.heap.size, 0, none⟩ : Addr).add j) = some u := by
  intro j u hu
  rw [Addr.add_lit, Nat.zero_add]
  exact cell_of (l := [x, y, z]) (heap_alloc_new W (.cells #[x, y, z] t)) hu

theorem take_snoc_drop (fs : List Fv) (k : Nat) (f : Fv) : flatF (fs.take k ++ f :: fs.drop k) = flatF (fs.take k) ++ f.vals.toList ++ flatF (fs.drop k) := by
  rw [flat_app, show f :: fs.drop k = [f] ++ fs.drop k from rfl, flat_app, List.append_assoc]
  simp [flatF]

set_option maxHeartbeats 2000000 in
theorem opened_any (A : Option Addr) (c : Nat) (fs : List Fv) (k : Nat) (hk : k ≤ fs.length) (f : Fv) (w : World) (hr : RdF w w.heap.size A fs) (hA : (A = none ∧ c = 0) ∨ ∃ g, A = some ⟨g, 0, none⟩) (hn : fs.length ≤ 64) (hc : fs.length ≤ c) (hcm : c ≤ maxLen) :
    Calls Try.prog 37 #[.slice A fs.length c, .int .i64 (k : Int), frm f.id f.r (.slice f.A f.d.length f.c)] w (RowEnds w (fs.take k ++ f :: fs.drop k)) := by
  obtain ⟨i0, hi, hz0, hz1, hz2⟩ := info_parts info_frm'
  have i1 : (0 : Int) ≤ (k : Int) := by omega
  have i2 : (k : Int) ≤ (c : Int) := by omega
  have i3 : (k : Int) ≤ (fs.length : Int) := by omega
  have lt : (flatF (fs.take k)).length = k * 3 := by rw [flatF_len, List.length_take, Nat.min_eq_left hk]
  have ld : (flatF (fs.drop k)).length = (fs.length - k) * 3 := by rw [flatF_len, List.length_drop]
  have HT := Lib.hid lt
  have HD := Lib.hid ld
  have HO := Lib.hid (flat_one (fs.take k))
  have HO2 := Lib.hid (flat_one (fs.drop k))
  have TS := Lib.hid (take_snoc_drop fs k f)
  have LL : (fs.take k ++ f :: fs.drop k).length = fs.length + 1 := by simp; omega
  have HLL := Lib.hid LL
  have CW := Lib.hid (fun g (e : A = some ⟨g, 0, none⟩) W (b : Below w.heap.size w W) => cells_later (g := g) (e ▸ hr) b)
  have BX := Lib.hid ((Below.refl w.heap.size w).alloc (Nat.le_refl _) (.cells #[.int .i64 f.id, .bool f.r, .slice f.A f.d.length f.c] 29))
  have X := fun o => ((One.start w (.int .i64 f.id) (.bool f.r) (.slice f.A f.d.length f.c)).alloc o).c
  clear lt ld LL hr X
  unfold RowEnds
  rw [TS.out, HLL.out]
  have B2 := Lib.hid (below_two w (.cells #[.int .i64 f.id, .bool f.r, .slice f.A f.d.length f.c] 29) (.cells #[.int .i64 f.id, .bool f.r, .slice f.A f.d.length f.c] 29)).drew
  have N2 := Lib.hid (show ∀ j u, [Value.int .i64 f.id, .bool f.r, .slice f.A f.d.length f.c][j]? = some u → (((w.alloc (.cells #[.int .i64 f.id, .bool f.r, .slice f.A f.d.length f.c] 29)).alloc (.cells #[.int .i64 f.id, .bool f.r, .slice f.A f.d.length f.c] 29)).drew).cell? ((⟨w.heap.size + 1, 0, none⟩ : Addr).add j) = some u from fun j u hu => by
    rw [Addr.add_lit, Nat.zero_add]
    exact cell_of (l := [Value.int .i64 f.id, .bool f.r, .slice f.A f.d.length f.c]) (heap_alloc2_new w _ _) hu)
  have O3 := Lib.hid (show ∀ u ∈ [Value.int .i64 f.id, .bool f.r, .slice f.A f.d.length f.c], u.oneCell' = true from fun u hu => by
    simp only [List.mem_cons, List.not_mem_nil, or_false] at hu
    rcases hu with rfl | rfl | rfl <;> rfl)
  have K1 := Lib.hid (show ∀ w', (((w.alloc (.cells #[.int .i64 f.id, .bool f.r, .slice f.A f.d.length f.c] 29)).alloc (.cells #[.int .i64 f.id, .bool f.r, .slice f.A f.d.length f.c] 29)).drew).grownBy w' none → w'.cell? ⟨w.heap.size, 0, none⟩ = some (.int .i64 f.id) ∧ w'.cell? ⟨w.heap.size, 1, none⟩ = some (.bool f.r) ∧ w'.cell? ⟨w.heap.size, 2, none⟩ = some (.slice f.A f.d.length f.c) from fun w' gr => by
    have hb := gr.block w.heap.size (by simp; omega) (by simp)
    have ha : (((w.alloc (.cells #[.int .i64 f.id, .bool f.r, .slice f.A f.d.length f.c] 29)).alloc (.cells #[.int .i64 f.id, .bool f.r, .slice f.A f.d.length f.c] 29)).drew).heap[w.heap.size]? = _ := heap_alloc2_old w _ _
    obtain ⟨q0, q1, q2, _⟩ := cell3 (hb.trans ha)
    exact ⟨q0, q1, q2⟩)
  rcases hA with ⟨rfl, rfl⟩ | ⟨g, rfl⟩
  · obtain rfl : fs = [] := List.eq_nil_of_length_eq_zero (by omega)
    obtain rfl : k = 0 := by simpa using hk
    clear CW
    go_enter Try.func37, Try.ntmps37
    go_wp2_with fail
    obtain ⟨x0, x1, x2⟩ := new3 w (.int .i64 f.id) (.bool f.r) (.slice f.A f.d.length f.c) 29
    go_region_held3 (fun w' => w'.cell? ⟨w.heap.size, 0, none⟩ = some (.int .i64 f.id) ∧ w'.cell? ⟨w.heap.size, 1, none⟩ = some (.bool f.r) ∧ w'.cell? ⟨w.heap.size, 2, none⟩ = some (.slice f.A f.d.length f.c))
      (first | go_keep | exact K1.out _ g1)
      (first | (refine step_appF _ rfl (.tmp 11) (.tmp 13) 22 rfl w.heap.size 29 i0 (.agg #[.int .i64 0, .bool false, .slice none 0 0]) 3 40 Try.underlying22 hi hz0 hz1 hz2 rfl (by decide) 0 none [] rfl rfl (.inl ⟨rfl, rfl⟩) ⟨w.heap.size + 1, 0, none⟩ 1 1 [.int .i64 f.id, .bool f.r, .slice f.A f.d.length f.c] rfl rfl N2.out O3.out (by decide) (by simp [maxLen]) (by omega) B2.out.size ?_; intro v1 w1 o1 g1 t1))
    have O1 := Lib.hid o1
    have B1 := Lib.hid (B2.out.grown g1 B2.out.size (by simp))
    obtain ⟨g', c1, rfl, _⟩ : ∃ g' c1, v1 = .slice (some ⟨g', 0, none⟩) 1 c1 ∧ True := by
      rcases o1.2 with ⟨_, hn⟩ | ⟨g, cap, cur, rfl, _⟩
      · omega
      · exact ⟨_, _, rfl, trivial⟩
    have hlt := o1.lt g' rfl
    clear g1 t1 x0 x1 x2
    go_wp2_with (at_builtin; refine wpList_appX _ rfl (.tmp 15) (.tmp 18) 22 rfl w.heap.size 29 i0 (.agg #[.int .i64 0, .bool false, .slice none 0 0]) 3 40 Try.underlying22 hi hz0 hz1 hz2 rfl (by decide) _ 1 _ rfl o1 none 0 0 [] rfl rfl (.inl ⟨rfl, rfl⟩) (fun u hu => by cases hu) (by simp [maxLen]) (by omega) B1.out.size ?_; intro v2 w2 o2 g2 t2)
    go_ret
    exact ⟨v2, rfl, by simpa [flatF, Fv.vals] using o2, B1.out.grown g2 B1.out.size (fun q hq => (o1.lt q hq).1)⟩
  · have HM := Lib.hid hcm
    unfold maxLen at hcm
    have HK : k < c ∨ (c = k ∧ fs.length = k) := by omega
    have CW := Lib.hid (CW.out g rfl)
    rcases HK with HK | ⟨HK, HL⟩
    · have i4 : (k : Int) < (c : Int) := by omega
      go_enter Try.func37, Try.ntmps37
      go_wp2_with fail
      obtain ⟨x0, x1, x2⟩ := new3 w (.int .i64 f.id) (.bool f.r) (.slice f.A f.d.length f.c) 29
      go_region_held3 (fun w' => w'.cell? ⟨w.heap.size, 0, none⟩ = some (.int .i64 f.id) ∧ w'.cell? ⟨w.heap.size, 1, none⟩ = some (.bool f.r) ∧ w'.cell? ⟨w.heap.size, 2, none⟩ = some (.slice f.A f.d.length f.c))
        (first | go_keep | exact K1.out _ g1)
        (first | (refine step_appF _ rfl (.tmp 11) (.tmp 13) 22 rfl w.heap.size 29 i0 (.agg #[.int .i64 0, .bool false, .slice none 0 0]) 3 40 Try.underlying22 hi hz0 hz1 hz2 rfl (by decide) k (some ⟨g, 0, none⟩) (flatF (fs.take k)) rfl HT.out (.inr ⟨_, rfl, cells_take0 (CW.out _ B2.out) k⟩) ⟨w.heap.size + 1, 0, none⟩ 1 1 [.int .i64 f.id, .bool f.r, .slice f.A f.d.length f.c] rfl rfl N2.out O3.out (by decide) (by unfold maxLen; omega) (by omega) B2.out.size ?_; intro v1 w1 o1 g1 t1))
      have O1 := Lib.hid o1
      have B1 := Lib.hid (B2.out.grown g1 B2.out.size (by simp))
      obtain ⟨g', c1, rfl, _⟩ : ∃ g' c1, v1 = .slice (some ⟨g', 0, none⟩) (k + 1) c1 ∧ True := by
        rcases o1.2 with ⟨_, hn⟩ | ⟨g, cap, cur, rfl, _⟩
        · omega
        · exact ⟨_, _, rfl, trivial⟩
      clear o1 g1 t1 x0 x1 x2 i1 i3
      have i1 : (0 : Int) ≤ (k : Int) := by omega
      have i3 : (k : Int) ≤ (fs.length : Int) := by omega
      go_wp2_with (at_builtin; refine wpList_appX _ rfl (.tmp 15) (.tmp 18) 22 rfl w.heap.size 29 i0 (.agg #[.int .i64 0, .bool false, .slice none 0 0]) 3 40 Try.underlying22 hi hz0 hz1 hz2 rfl (by decide) _ (k + 1) _ rfl O1.out (some ⟨g, k * 3, none⟩) (fs.length - k) _ (flatF (fs.drop k)) rfl HD.out (.inr ⟨_, rfl, cells_drop0 (CW.out _ B1.out) hk⟩) HO2.out (by unfold maxLen; omega) (by omega) B1.out.size ?_; intro v2 w2 o2 g2 t2)
      go_ret
      have e : k + 1 + (fs.length - k) = fs.length + 1 := by omega
      rw [e] at o2
      exact ⟨v2, rfl, o2, B1.out.grown g2 B1.out.size (fun q hq => (O1.out.lt q hq).1)⟩
    · subst HL
      subst HK
      have ed : flatF (fs.drop fs.length) = [] := by simp [flatF]
      go_enter Try.func37, Try.ntmps37
      go_wp2_with fail
      obtain ⟨x0, x1, x2⟩ := new3 w (.int .i64 f.id) (.bool f.r) (.slice f.A f.d.length f.c) 29
      go_region_held3 (fun w' => w'.cell? ⟨w.heap.size, 0, none⟩ = some (.int .i64 f.id) ∧ w'.cell? ⟨w.heap.size, 1, none⟩ = some (.bool f.r) ∧ w'.cell? ⟨w.heap.size, 2, none⟩ = some (.slice f.A f.d.length f.c))
        (first | go_keep | exact K1.out _ g1)
        (first | (refine step_appF _ rfl (.tmp 11) (.tmp 13) 22 rfl w.heap.size 29 i0 (.agg #[.int .i64 0, .bool false, .slice none 0 0]) 3 40 Try.underlying22 hi hz0 hz1 hz2 rfl (by decide) fs.length (some ⟨g, 0, none⟩) (flatF (fs.take fs.length)) rfl HT.out (.inr ⟨_, rfl, cells_take0 (CW.out _ B2.out) fs.length⟩) ⟨w.heap.size + 1, 0, none⟩ 1 1 [.int .i64 f.id, .bool f.r, .slice f.A f.d.length f.c] rfl rfl N2.out O3.out (by decide) (by unfold maxLen; omega) (by omega) B2.out.size ?_; intro v1 w1 o1 g1 t1))
      have O1 := Lib.hid o1
      have B1 := Lib.hid (B2.out.grown g1 B2.out.size (by simp))
      obtain ⟨g', c1, rfl, _⟩ : ∃ g' c1, v1 = .slice (some ⟨g', 0, none⟩) (fs.length + 1) c1 ∧ True := by
        rcases o1.2 with ⟨_, hn⟩ | ⟨g, cap, cur, rfl, _⟩
        · omega
        · exact ⟨_, _, rfl, trivial⟩
      clear o1 g1 t1 x0 x1 x2 i1 i3
      have i1 : (0 : Int) ≤ (fs.length : Int) := by omega
      have i3 : (fs.length : Int) ≤ (fs.length : Int) := by omega
      go_wp2_with (at_builtin; refine wpList_appX _ rfl (.tmp 15) (.tmp 18) 22 rfl w.heap.size 29 i0 (.agg #[.int .i64 0, .bool false, .slice none 0 0]) 3 40 Try.underlying22 hi hz0 hz1 hz2 rfl (by decide) _ (fs.length + 1) _ rfl O1.out (some ⟨g, 0, none⟩) 0 0 [] rfl rfl (.inr ⟨_, rfl, fun j u hu => by cases hu⟩) (fun u hu => by cases hu) (by unfold maxLen; omega) (by omega) B1.out.size ?_; intro v2 w2 o2 g2 t2)
      go_ret
      rw [ed]
      exact ⟨v2, rfl, o2, B1.out.grown g2 B1.out.size (fun q hq => (O1.out.lt q hq).1)⟩

end Txq

end Go.Proofs.Ytlojomeofgnfjaa
