/-
  Words for slices of bytes: what a slice reads as, what a call's own slice holds, and the walk's laws for make, copy, append and string(..) on them. No program is named here.
-/
import Derived.WalkKit
import Derived.Laws.CopyOwn
import Derived.Laws.AppendOwnNone
import Derived.Laws.BytesArg
import Derived.Maps.AppendAt
import Derived.Lib.Hide
import Derived.Deep.Draws
namespace Go.Proofs.YtpdnfdpoebhjoaaDoor
namespace Mem
open Go.RowKit

/-- A byte of a list, as the walk's number. -/
def byt (bs : List UInt8) (j : Nat) : Int := ((bs.getD j 0).toNat : Int)
/-- Bytes as cells. -/
def u8s (bs : List UInt8) : List Value := bs.map fun x => .int .u8 (x.toNat : Int)

theorem byt_bd (bs : List UInt8) (j : Nat) : 0 ≤ byt bs j ∧ byt bs j ≤ 255 := by
  unfold byt
  have := (bs.getD j 0).toNat_lt
  omega
theorem str_at (l : List UInt8) (j : Nat) (h : j < (⟨l.toArray⟩ : ByteArray).size) : ((((⟨l.toArray⟩ : ByteArray)[j]'h).toNat : Nat) : Int) = byt l j := by
  have hj : j < l.length := by simpa [ByteArray.size] using h
  simp [byt, hj, ByteArray.getElem_eq_getElem_data]
theorem alloc_le {B : Nat} {w : World} (h : B ≤ w.heap.size) (o : Obj) : B ≤ (w.alloc o).heap.size := by simp; omega
theorem u8s_length (bs : List UInt8) : (u8s bs).length = bs.length := by simp [u8s]
theorem u8s_append (a b : List UInt8) : u8s (a ++ b) = u8s a ++ u8s b := by simp [u8s]
theorem u8s_one (bs : List UInt8) : ∀ u ∈ u8s bs, u.oneCell' = true := by
  intro u hu
  obtain ⟨_, _, rfl⟩ := List.mem_map.1 hu
  rfl
theorem u8s_get {bs : List UInt8} {j : Nat} {u : Value} (h : (u8s bs)[j]? = some u) : j < bs.length ∧ u = .int .u8 (byt bs j) := by
  have hj : j < bs.length := by
    have := (List.getElem?_eq_some_iff.1 h).1
    simpa [u8s] using this
  refine ⟨hj, ?_⟩
  simp [u8s, hj] at h
  simp [byt, hj, ← h]
theorem u8s_at {bs : List UInt8} {j : Nat} (h : j < bs.length) : (u8s bs)[j]? = some (.int .u8 (byt bs j)) := by
  simp [u8s, byt, h]

/-- The slice at A reads as bs, and lies below block B. -/
def Rd (w : World) (B : Nat) (A : Option Addr) (bs : List UInt8) : Prop :=
  bs = [] ∨ ∃ g off, A = some ⟨g, off, none⟩ ∧ g < B ∧ ∀ j, j < bs.length → w.cell? ⟨g, off + j, none⟩ = some (.int .u8 (byt bs j))

section
variable {w w' : World} {B B' : Nat} {A : Option Addr} {bs : List UInt8}
theorem Rd.nil : Rd w B A [] := .inl rfl
theorem Rd.at_ (h : Rd w B A bs) {k : Nat} (hk : k < bs.length) : ∃ g off, A = some ⟨g, off, none⟩ ∧ g < B ∧ w.cell? ⟨g, off + k, none⟩ = some (.int .u8 (byt bs k)) := by
  rcases h with rfl | ⟨g, off, e, hg, hc⟩
  · simp at hk
  · exact ⟨g, off, e, hg, hc k hk⟩
theorem Rd.below (h : Rd w B A bs) (hb : Below B w w') : Rd w' B A bs := by
  rcases h with rfl | ⟨g, off, e, hg, hc⟩
  · exact .inl rfl
  · exact .inr ⟨g, off, e, hg, fun j hj => (hb.cell (p := ⟨g, off + j, none⟩) hg).trans (hc j hj)⟩
theorem Rd.drew (h : Rd w B A bs) : Rd w.drew B A bs := h
theorem Rd.drewN (h : Rd w B A bs) (k : Nat) : Rd (w.drewN k) B A bs := h
theorem Rd.mono (h : Rd w B A bs) (hB : B ≤ B') : Rd w B' A bs := by
  rcases h with rfl | ⟨g, off, e, hg, hc⟩
  · exact .inl rfl
  · exact .inr ⟨g, off, e, by omega, hc⟩
theorem Rd.take (h : Rd w B A bs) (k : Nat) : Rd w B A (bs.take k) := by
  rcases h with rfl | ⟨g, off, e, hg, hc⟩
  · exact .inl (by simp)
  · refine .inr ⟨g, off, e, hg, fun j hj => ?_⟩
    have hj' : j < bs.length ∧ j < k := by simp at hj; omega
    rw [hc j hj'.1]
    simp [byt, hj'.1, hj'.2]
theorem Rd.cells (h : Rd w B A bs) (hp : 0 < bs.length) : ∃ ad, A = some ad ∧ ∀ j u, (u8s bs)[j]? = some u → w.cell? (ad.add j) = some u := by
  rcases h with rfl | ⟨g, off, e, hg, hc⟩
  · simp at hp
  · refine ⟨_, e, fun j u hu => ?_⟩
    obtain ⟨hj, rfl⟩ := u8s_get hu
    rw [Addr.add_lit]
    exact hc j hj
end

/-- The call's own slice v holds just bs: nil and empty, or the beginning of a block from base on. -/
def Own (w : World) (base : Nat) (e : TypeId) (v : Value) (bs : List UInt8) : Prop := w.ownsRow base e 1 v bs.length (u8s bs)

section
variable {w w' : World} {base g n cap : Nat} {e : TypeId} {v : Value} {bs : List UInt8}
theorem Own.nil (w : World) (base : Nat) (e : TypeId) : Own w base e (.slice none 0 0) [] := World.ownsRow_nil w base e 1
theorem Own.form (h : Own w base e v bs) : ∃ A c, v = .slice A bs.length c ∧ Rd w w.heap.size A bs := by
  rcases h.2 with ⟨rfl, hn⟩ | ⟨g, cap, cur, rfl, hb, hg, hnc, hcm, hcs, ht⟩
  · have : bs = [] := List.eq_nil_of_length_eq_zero hn
    subst this
    exact ⟨none, 0, rfl, .inl rfl⟩
  · refine ⟨_, _, rfl, .inr ⟨g, 0, rfl, (Array.getElem?_eq_some_iff.1 hg).1, fun j hj => ?_⟩⟩
    have := World.ownsRow.cellAt h j (by omega)
    rw [u8s_at hj] at this
    simpa using this
theorem Own.form_n (h : Own w base e v bs) {n : Nat} (hn : bs.length = n) : ∃ A c, v = .slice A n c ∧ Rd w w.heap.size A bs := by
  subst hn
  exact h.form
theorem Own.below (h : Own w base e v bs) {B : Nat} (hb : Below B w w') (hB : w.heap.size ≤ B) : Own w' base e v bs := by
  refine ⟨h.1, ?_⟩
  rcases h.2 with hn | ⟨g, cap, cur, rfl, hbg, hgg, rest⟩
  · exact .inl hn
  · refine .inr ⟨g, cap, cur, rfl, hbg, ?_, rest⟩
    rw [hb.block g (by have := (Array.getElem?_eq_some_iff.1 hgg).1; omega)]
    exact hgg
theorem Own.alloc (h : Own w base e v bs) (o : Obj) : Own (w.alloc o) base e v bs := World.ownsRow.alloc h o
theorem Rd.new1 (w : World) (t : TypeId) {x : Int} {b : UInt8} (h : x = (b.toNat : Int)) : Rd (w.alloc (.cells #[.int .u8 x] t)) (w.heap.size + 1) (some ⟨w.heap.size, 0, none⟩) [b] := by
  refine .inr ⟨w.heap.size, 0, rfl, by omega, fun j hj => ?_⟩
  obtain rfl : j = 0 := by simpa using hj
  subst h
  simp [byt]
theorem Rd.new2 (w : World) (t : TypeId) {x y : Int} {b c : UInt8} (h : x = (b.toNat : Int)) (h' : y = (c.toNat : Int)) : Rd (w.alloc (.cells #[.int .u8 x, .int .u8 y] t)) (w.heap.size + 1) (some ⟨w.heap.size, 0, none⟩) [b, c] := by
  refine .inr ⟨w.heap.size, 0, rfl, by omega, fun j hj => ?_⟩
  subst h
  subst h'
  have : j = 0 ∨ j = 1 := by simp at hj; omega
  rcases this with rfl | rfl <;> simp [byt]
theorem Own.drew (h : Own w base e v bs) : Own w.drew base e v bs := h
theorem Own.some_ (h : Own w base e v bs) (hp : 0 < bs.length) : ∃ g cap, v = .slice (some ⟨g, 0, none⟩) bs.length cap ∧ base ≤ g ∧ g < w.heap.size ∧ bs.length ≤ cap ∧ cap ≤ maxLen := by
  rcases h.2 with ⟨rfl, hn⟩ | ⟨g, cap, cur, rfl, hb, hg, hnc, hcm, hcs, ht⟩
  · omega
  · exact ⟨g, cap, rfl, hb, (Array.getElem?_eq_some_iff.1 hg).1, hnc, hcm⟩
theorem Own.cell (h : Own w base e (.slice (some ⟨g, 0, none⟩) n cap) bs) (hn : n = bs.length) {j : Nat} (hj : j < bs.length) : w.cell? ⟨g, j, none⟩ = some (.int .u8 (byt bs j)) := by
  subst hn
  have := World.ownsRow.cellAt h j (by omega)
  rw [u8s_at hj] at this
  exact this
theorem Own.free (h : Own w base e (.slice (some ⟨g, 0, none⟩) n cap) bs) (hn : n = bs.length) (j : Nat) : w.frozen? ⟨g, j, none⟩ = false := by
  subst hn
  exact World.ownsRow.frozenAt h j
theorem Own.store (h : Own w base e (.slice (some ⟨g, 0, none⟩) n cap) bs) (hn : n = bs.length) (j : Nat) {x : Int} {b : UInt8} (hx : x = (b.toNat : Int)) :
    Own (w.setCell ⟨g, j, none⟩ (.int .u8 x)) base e (.slice (some ⟨g, 0, none⟩) n cap) (bs.set j b) := by
  subst hn
  subst hx
  have h1 := World.ownsRow.stored h j (.int .u8 (b.toNat : Int))
  have e1 : u8s (bs.set j b) = (u8s bs).set j (.int .u8 (b.toNat : Int)) := by simp [u8s, List.map_set]
  unfold Own
  rw [e1, List.length_set]
  exact h1.1
theorem Own.take (h : Own w base e (.slice (some ⟨g, 0, none⟩) n cap) bs) (hn : n = bs.length) {k : Nat} (hk : k ≤ bs.length) : Own w base e (.slice (some ⟨g, 0, none⟩) k cap) (bs.take k) := by
  subst hn
  rcases h.2 with ⟨hv, _⟩ | ⟨g', cap', cur, hv, hb, hg, hnc, hcm, hcs, ht⟩
  · cases hv
  · injection hv with e1 e2 e3
    injection e1 with e1
    injection e1 with e1
    subst e1
    subst e3
    have hl : (bs.take k).length = k := by simp [hk]
    refine ⟨by rw [u8s_length, hl]; omega, .inr ⟨g, cap, cur, by rw [hl], hb, hg, by rw [hl]; omega, hcm, hcs, ?_⟩⟩
    rw [hl, show u8s (bs.take k) = (u8s bs).take k by simp [u8s, List.map_take], ← ht, List.take_take]
    congr 1
    omega
theorem Own.kept_block (h : Own w base e (.slice (some ⟨g, 0, none⟩) n cap) bs) (hg : w'.heap[g]? = w.heap[g]?) : Own w' base e (.slice (some ⟨g, 0, none⟩) n cap) bs := by
  refine ⟨h.1, ?_⟩
  rcases h.2 with ⟨hv, _⟩ | ⟨g', cap', cur, hv, hb, hgg, rest⟩
  · cases hv
  · have : g = g' := by injection hv with e1; injection e1 with e1; injection e1
    subst this
    exact .inr ⟨g, cap', cur, hv, hb, hg.trans hgg, rest⟩
theorem Own.drewN (h : Own w base e v bs) (k : Nat) : Own (w.drewN k) base e v bs := h
theorem below_drewN {B : Nat} {a w : World} (h : Below B a w) (k : Nat) : Below B a (w.drewN k) := ⟨h.os, h.tape, h.output, h.size, h.block⟩
theorem Own.lower (h : Own w base e v bs) {b : Nat} (hb : b ≤ base) : Own w b e v bs := by
  refine ⟨h.1, ?_⟩
  rcases h.2 with hn | ⟨g, cap, cur, rfl, hbg, rest⟩
  · exact .inl hn
  · exact .inr ⟨g, cap, cur, rfl, by omega, rest⟩
end

section
variable {P : Program} (w : World) {ops : Array Oper} {rest : List Oper} {o : Oper} {a : Act} {Q : Exit → Act → World → Prop}

/-- 'make([]byte, n, m)', n and m variables. -/
theorem wpList_make_part (hg : o.guard = none) (l c : Operand) (t : TypeId) (hop : o.op = Op.makeSlice t l c)
    (base : Nat) (e : TypeId) (i : TypeInfo) (h1 : P.underlying t = some (.slice e)) (h2 : P.info? e = some i) (h3 : i.zero = some (.int .u8 0)) (h4 : i.size = 1) (h5 : i.bytes = 1)
    (kl kc : IntKind) (L C : Int) (n m : Nat) (hl : a.eval l = .int kl L) (hc : a.eval c = .int kc C) (hL : L = (n : Int)) (hC : C = (m : Int)) (hnm : n ≤ m) (b2 : m ≤ 281474976710656) (b4 : base ≤ w.heap.size)
    (hK : ∀ w', Own w' base e (.slice (some ⟨w.heap.size, 0, none⟩) n m) (List.replicate n 0) → w.grownBy w' none → w'.heap.size = w.heap.size + 1 → wpList P ops Q rest (a.put o.dst (.slice (some ⟨w.heap.size, 0, none⟩) n m)) w') :
    wpList P ops Q (o :: rest) a w := by
  refine wpList_plain hg fun K hK' => ?_
  subst hL
  subst hC
  have hrun := run_make (P := P) w t e i (.int .u8 0) h1 h2 h3 kl kc n m (by omega) (by omega) (by rw [h5]; omega) (by omega)
  simp only [Int.toNat_natCast] at hrun
  unfold Oper.wp
  simp [execOp, hop, hl, hc, hrun, Result.andThen]
  refine hK' _ _ (hK _ ?_ (World.grownBy_alloc w _ none) (by simp))
  refine ⟨by simp [u8s], .inr ⟨w.heap.size, m, _, by simp, b4, heap_alloc_new w _, by simpa using hnm, by simp only [maxLen]; omega, by simp [size_madeCells, h4], ?_⟩⟩
  have : (madeCells (Value.cells (.int .u8 0)) (m * i.size)).toList = List.replicate m (.int .u8 0) := by
    rw [h4, Nat.mul_one]; exact toList_madeCells_one _ _
  rw [this]
  simp [u8s, List.take_replicate]
  omega

/-- 'copy(out, src)', out the call's own, as long as src. -/
theorem wpList_copy_whole (hgd : o.guard = none) (d s : Operand) (t : TypeId)
    (ho : o.op = .call { callee := .builtin .copy, args := #[d, s], argTypes := #[t, t] }) (base : Nat) (e : TypeId) (hu : P.underlying t = some (.slice e)) (hsz : (P.info? e).map (·.size) = some 1)
    (v : Value) (old bs : List UInt8) (hd : a.eval d = v) (hown : Own w base e v old) (hlen : old.length = bs.length)
    (A : Option Addr) (n c : Nat) (hs : a.eval s = .slice A n c) (hn : n = bs.length) (B : Nat) (hr : Rd w B A bs)
    (h : ∀ w', Own w' base e v bs → w.grownBy w' v.ownBlock → w'.heap.size = w.heap.size → wpList P ops Q rest (a.put o.dst (goInt bs.length)) w') :
    wpList P ops Q (o :: rest) a w := by
  subst hn
  by_cases h0 : bs.length = 0
  · obtain rfl : bs = [] := List.eq_nil_of_length_eq_zero h0
    obtain rfl : old = [] := List.eq_nil_of_length_eq_zero (by simpa using hlen)
    obtain ⟨A', c', rfl, _⟩ := hown.form
    exact wpList_copy_nothing hgd d s t t ho e hu hsz A' A 0 c' 0 c hd hs (by simp) (h w hown (World.grownBy.refl _ _) rfl)
  · obtain ⟨ad, rfl, hc⟩ := hr.cells (by omega)
    rcases hown.2 with ⟨rfl, hn⟩ | ⟨g, cap, cur, rfl, hb, hg, hnc, hcm, hcs, ht⟩
    · omega
    · refine wpList_copy_own hgd d s t t ho e hu hsz g 0 old.length cap ad bs.length c hd hs cur e hg (u8s bs) (by rw [u8s_length, hlen]; simp) hc (by rw [u8s_length]; omega) (u8s_one bs) ?_
      rw [u8s_length]
      refine h _ ?_ ⟨rfl, rfl, rfl, by simp [World.setRow], fun k _ hk => setRow_other w g k _ (fun e => hk (by simp [Value.ownBlock, e]))⟩ (by simp [World.setRow])
      refine ⟨by rw [u8s_length]; omega, .inr ⟨g, cap, _, by rw [hlen], hb, setRow_heap w g cur _ e _ hg, by omega, hcm, ?_, ?_⟩⟩
      · simp [u8s_length]; omega
      · have e1 := u8s_length bs
        simp only [List.take_zero, List.nil_append, Nat.mul_one, ← e1]
        exact List.take_left

/-- 'out = append(out, x, ..)', out the call's own, whatever the source: nil, empty or not. -/
theorem wp_app {K : Act → World → Prop} (s x : Operand) (t : TypeId)
    (ho : o.op = .call { callee := .builtin .append, args := #[s, x], argTypes := #[t, t] })
    (base : Nat) (e : TypeId) (i : TypeInfo) (ht : P.underlying t = some (.slice e)) (hi : P.info? e = some i) (hz : i.zero = some (.int .u8 0)) (hsize : i.size = 1) (hby : i.bytes = 1)
    (v : Value) (bs : List UInt8) (hs : a.eval s = v) (hown : Own w base e v bs)
    (A : Option Addr) (m c : Nat) (new : List UInt8) (hx : a.eval x = .slice A m c) (hm : m = new.length) (B : Nat) (hr : Rd w B A new) (hb : bs.length + new.length ≤ 140737488355328) (hbase : base ≤ w.heap.size)
    (h : ∀ v' w', Own w' base e v' (bs ++ new) → w.grownBy w' v.ownBlock → (v'.ownBlock = v.ownBlock ∨ v'.ownBlock = some w.heap.size) → K (a.put o.dst v') w') : o.wp P a w K Q := by
  subst hm
  have hlen : (u8s (bs ++ new)) = u8s bs ++ u8s new := u8s_append _ _
  by_cases h0 : new.length = 0
  · obtain rfl : new = [] := List.eq_nil_of_length_eq_zero h0
    have hrun : (Builtin.append_ #[t, t] o.type #[v, .slice A 0 c]).run P w = .ok v w := by
      rcases hown.2 with ⟨rfl, hn⟩ | ⟨g, cap, cur, rfl, _, _, hnc, _⟩
      · cases A <;> simp [Builtin.append_, run_underlying ht, sizeOf, typeInfo, hi, Builtin.lenOf, Builtin.firstCells, loadCells, loadCellsFrom]
      · cases A <;> simp [Builtin.append_, run_underlying ht, sizeOf, typeInfo, hi, Builtin.lenOf, Builtin.firstCells, hnc, storeCells, loadCells, loadCellsFrom]
    unfold Oper.wp
    simp [execOp, ho, resolve, invoke, builtin, hs, hx, hrun, Result.andThen]
    exact h v w (by simpa using hown) (World.grownBy.refl _ _) (.inl rfl)
  · obtain ⟨ad, rfl, hc⟩ := hr.cells (by omega)
    obtain ⟨v', w', hrun, h2, h3, _, h5⟩ := run_append_own_at (P := P) w base t o.type e i (.int .u8 0) 1 1 ht hi hz hsize hby rfl (by omega) v bs.length (u8s bs) hown ad new.length c (u8s new) (by simp [u8s_length]) hc (u8s_one new) (by simp only [maxLen]; omega) (by omega) hbase
    unfold Oper.wp execOp
    simp only [ho, resolve, invoke, builtin, Sem.run_bind, Sem.run_pure, Result.andThen_ok, List.map_toArray, List.map_cons, List.map_nil, hs, hx, hrun]
    exact h v' w' (by unfold Own; rw [hlen, List.length_append]; exact h2) h3 h5

/-- The same in a list of operations. -/
theorem wpList_app (hgd : o.guard = none) (s x : Operand) (t : TypeId)
    (ho : o.op = .call { callee := .builtin .append, args := #[s, x], argTypes := #[t, t] })
    (base : Nat) (e : TypeId) (i : TypeInfo) (ht : P.underlying t = some (.slice e)) (hi : P.info? e = some i) (hz : i.zero = some (.int .u8 0)) (hsize : i.size = 1) (hby : i.bytes = 1)
    (v : Value) (bs : List UInt8) (hs : a.eval s = v) (hown : Own w base e v bs)
    (A : Option Addr) (m c : Nat) (new : List UInt8) (hx : a.eval x = .slice A m c) (hm : m = new.length) (B : Nat) (hr : Rd w B A new) (hb : bs.length + new.length ≤ 140737488355328) (hbase : base ≤ w.heap.size)
    (h : ∀ v' w', Own w' base e v' (bs ++ new) → w.grownBy w' v.ownBlock → (v'.ownBlock = v.ownBlock ∨ v'.ownBlock = some w.heap.size) → wpList P ops Q rest (a.put o.dst v') w') : wpList P ops Q (o :: rest) a w :=
  wpList_plain hgd fun _ hK => wp_app w s x t ho base e i ht hi hz hsize hby v bs hs hown A m c new hx hm B hr hb hbase fun v' w' h2 h3 h4 => hK _ _ (h v' w' h2 h3 h4)

/-- The same as one step of a region that draws its order. -/
theorem step_app {K : Act → World → Prop} {E : Prop} (hgd : o.guard = none) (s x : Operand) (t : TypeId)
    (ho : o.op = .call { callee := .builtin .append, args := #[s, x], argTypes := #[t, t] })
    (base : Nat) (e : TypeId) (i : TypeInfo) (ht : P.underlying t = some (.slice e)) (hi : P.info? e = some i) (hz : i.zero = some (.int .u8 0)) (hsize : i.size = 1) (hby : i.bytes = 1)
    (v : Value) (bs : List UInt8) (hs : a.eval s = v) (hown : Own w base e v bs)
    (A : Option Addr) (m c : Nat) (new : List UInt8) (hx : a.eval x = .slice A m c) (hm : m = new.length) (B : Nat) (hr : Rd w B A new) (hb : bs.length + new.length ≤ 140737488355328) (hbase : base ≤ w.heap.size)
    (h : ∀ v' w', Own w' base e v' (bs ++ new) → w.grownBy w' v.ownBlock → (v'.ownBlock = v.ownBlock ∨ v'.ownBlock = some w.heap.size) → K (a.put o.dst v') w') :
    if Region.wanted o (yielded ops a.tmps) = true then Oper.wp P o a w K Q else E := by
  have hw : Region.wanted o (yielded ops a.tmps) = true := by simp [Region.wanted, hgd]
  rw [if_pos hw]
  exact wp_app w s x t ho base e i ht hi hz hsize hby v bs hs hown A m c new hx hm B hr hb hbase h
end

/-- A new slice that is built of bytes. -/
theorem Rd.newL (w : World) (t : TypeId) (bs : List UInt8) {cs : Array Value} {fr : Nat × Nat} (h : cs = (u8s bs).toArray) : Rd (w.alloc (.cells cs t fr)) (w.alloc (.cells cs t fr)).heap.size (some ⟨w.heap.size, 0, none⟩) bs := by
  subst h
  refine .inr ⟨w.heap.size, 0, rfl, by simp, fun j hj => ?_⟩
  have h1 := u8s_at hj
  rw [Nat.zero_add]
  simp only [World.cell?, heap_alloc_new]
  simpa using h1

/-- 'string(b)'. -/
theorem run_str {P : Program} {w : World} {B : Nat} {A : Option Addr} {bs : List UInt8} (h : Rd w B A bs) (n c : Nat) (hn : n = bs.length) (src e dst : TypeId)
    (hs : P.underlying src = some (.slice e)) (he : P.underlying e = some (.int .u8)) (hd : P.underlying dst = some .string) :
    (convert src dst (.slice A n c)).run P w = .ok (.string ⟨bs.toArray⟩) w := by
  subst hn
  by_cases h0 : bs.length = 0
  · obtain rfl : bs = [] := List.eq_nil_of_length_eq_zero h0
    cases A with
    | none => exact run_convert_bytes_nil w src e hs he 0 c dst hd
    | some ad =>
      rw [List.length_nil, run_convert_bytes_string w src dst e _ 0 c hs he hd]
      exact run_bytesToString w ad 0 c [] (by simp [loadCells, loadCellsFrom])
  · rcases h with rfl | ⟨g, off, rfl, hg, hc⟩
    · simp at h0
    · have := run_convert_bytes_arg (P := P) w src e hs he g off bs.length c (bs.map fun x => (x.toNat : Int)) (by simp) (fun j hj => by
        rw [hc j hj]
        simp [byt, hj]) dst hd
      rw [this]
      have hb : strOfNums (bs.map fun x => (x.toNat : Int)) = ⟨bs.toArray⟩ := by
        have e1 : ((fun n : Int => UInt8.ofNat n.toNat) ∘ fun x : UInt8 => (x.toNat : Int)) = id := by
          funext x
          simp
        simp [strOfNums, e1]
      rw [hb]
/-- A call that makes bytes: what it answers is f of a slice of its own that holds bs, and nothing that was there is changed. -/
def Made (t : TypeId) (w : World) (bs : List UInt8) (f : Value → Value) (e : Ending) (w' : World) : Prop :=
  ∃ v, e = .returned (f v) ∧ Own w' w.heap.size t v bs ∧ Below w.heap.size w w'
/-- A call that answers bytes and a code: the bytes in new memory. -/
def Ans (t : TypeId) (w : World) (a : List UInt8 × Int) (e : Ending) (w' : World) : Prop :=
  ∃ v, e = .returned (.tuple #[v, .int .i64 a.2]) ∧ Own w' w.heap.size t v a.1 ∧ Below w.heap.size w w'
theorem grown_trans {a b c : World} {r : Option Nat} (h : a.grownBy b r) (k : b.grownBy c r) : a.grownBy c r :=
  ⟨k.os.trans h.os, k.tape.trans h.tape, k.output.trans h.output, Nat.le_trans h.size k.size, fun i hi hr => (k.block i (Nat.lt_of_lt_of_le hi h.size) hr).trans (h.block i hi hr)⟩
theorem grown_set (w : World) (g j : Nat) (u : Value) : w.grownBy (w.setCell ⟨g, j, none⟩ u) (some g) :=
  ⟨rfl, rfl, rfl, by simp [World.setCell], fun k _ hk => Below.heap_setCell w ⟨g, j, none⟩ u k (fun e => hk (by rw [e]))⟩
theorem grown_far {w w' : World} {g j : Nat} {r : Option Nat} (h : w.grownBy w' r) (hg : some g = r ∨ w.heap.size ≤ g) (u : Value) : w.grownBy (w'.setCell ⟨g, j, none⟩ u) r :=
  ⟨h.os, h.tape, h.output, by simpa [World.setCell] using h.size, fun k hk hr => (Below.heap_setCell w' ⟨g, j, none⟩ u k (fun e => by
    rcases hg with hg | hg
    · exact hr (by rw [← hg, e])
    · have : k = g := e
      omega)).trans (h.block k hk hr)⟩
end Mem
end Go.Proofs.YtpdnfdpoebhjoaaDoor
