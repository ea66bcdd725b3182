/-
  Ahead of TxqOrder: the frames that were put, as they came in, in a row of the law's own beside the queue; which of them were taken.
-/
import Derived.Test.YtlojomeofgnfjaaTxqKnown
namespace Go.Proofs.Ytlojomeofgnfjaa
namespace Txq
open Go.RowKit Mem Frm
set_option linter.unusedVariables false
set_option linter.unusedSimpArgs false
set_option maxRecDepth 100000

/-- Of the first k frames those that a queue takes. -/
def kept (fs : List Fv) (k : Nat) : List Fv := (fs.take k).filter (fun f => decide (Frm.err f.id f.r f.d.length = 0))
theorem take_more {fs : List Fv} {k : Nat} (hk : k < fs.length) : fs.take (k + 1) = fs.take k ++ [fs.getD k Fv.zero] := by
  rw [List.take_add_one]
  simp [hk]
theorem kept_yes {fs : List Fv} {k : Nat} (hk : k < fs.length) (h : (fs.getD k Fv.zero).fr.err = 0) : kept fs (k + 1) = kept fs k ++ [fs.getD k Fv.zero] := by
  unfold kept
  rw [take_more hk, List.filter_append]
  simp only [List.filter_cons, List.filter_nil]
  rw [if_pos (decide_eq_true (show Frm.err (fs.getD k Fv.zero).id (fs.getD k Fv.zero).r (fs.getD k Fv.zero).d.length = 0 from h))]
theorem kept_no {fs : List Fv} {k : Nat} (hk : k < fs.length) (h : (fs.getD k Fv.zero).fr.err ≠ 0) : kept fs (k + 1) = kept fs k := by
  unfold kept
  rw [take_more hk, List.filter_append]
  simp only [List.filter_cons, List.filter_nil]
  have h' : ¬ decide (Frm.err (fs.getD k Fv.zero).id (fs.getD k Fv.zero).r (fs.getD k Fv.zero).d.length = 0) = true := fun e => h (of_decide_eq_true e)
  rw [if_neg h', List.append_nil]
theorem kept_len (fs : List Fv) (k : Nat) : (kept fs k).length ≤ k := Nat.le_trans (List.length_filter_le _ _) (by rw [List.length_take]; omega)
theorem kept_mem {fs : List Fv} {k : Nat} {f : Fv} (h : f ∈ kept fs k) : ∃ j, j < fs.length ∧ fs.getD j Fv.zero = f ∧ Frm.err f.id f.r f.d.length = 0 := by
  unfold kept at h
  rw [List.mem_filter] at h
  obtain ⟨j, h1, h2⟩ := mem_getD (List.mem_of_mem_take h.1)
  exact ⟨j, h1, h2, of_decide_eq_true h.2⟩

def qs (l : List Fr) : Qs := ⟨srt key l, 64, 0, false⟩
theorem qs_yes {l : List Fr} {f : Fr} (h : f.err = 0) (hl : l.length < 64) : (qs l).put f = (qs (l ++ [f]), 0) := by
  have : ¬ (srt key l).length = 64 := by rw [srt_length]; omega
  unfold Qs.put qs
  rw [if_pos h, if_neg this, srt_snoc]
theorem qs_no {l : List Fr} {f : Fr} (h : f.err ≠ 0) : (qs l).put f = (qs l, f.err) := by
  unfold Qs.put
  rw [if_neg h]

/-- A queue in block p; beside it the frames that came in, in the row v of the law's own. -/
structure KO (w W : World) (p : Nat) (v : Value) (s : Qs) (ks : List Fv) : Prop where
  b : Below w.heap.size w W
  q : HasQ W p (fun g => g = p ∨ some g = v.ownBlock) s
  ge : w.heap.size ≤ p
  own : W.ownsRow w.heap.size FT 3 v ks.length (flatF ks)

theorem own_blk {W : World} {base size n : Nat} {e : TypeId} {v : Value} {xs : List Value} (h : W.ownsRow base e size v n xs) {g : Nat} (hg : some g = v.ownBlock) : base ≤ g ∧ g < W.heap.size ∧ ∃ cs, W.heap[g]? = some (.cells cs e (0, 0)) := by
  rcases h.2 with ⟨rfl, _⟩ | ⟨g', cap, cur, rfl, hb, hh, _⟩
  · cases hg
  · simp only [Value.ownBlock, Option.some.injEq] at hg
    subst hg
    exact ⟨hb, (Array.getElem?_eq_some_iff.1 hh).1, _, hh⟩
theorem own_keep {W W' : World} {base size n : Nat} {e : TypeId} {v : Value} {xs : List Value} (h : W.ownsRow base e size v n xs) (k : ∀ g, some g = v.ownBlock → W'.heap[g]? = W.heap[g]?) : W'.ownsRow base e size v n xs := by
  refine ⟨h.1, ?_⟩
  rcases h.2 with h1 | ⟨g, cap, cur, rfl, hb, hh, hr⟩
  · exact .inl h1
  · exact .inr ⟨g, cap, cur, rfl, hb, (k g rfl).trans hh, hr⟩
theorem HasQ.qt {W : World} {p : Nat} {N : Nat → Prop} {s : Qs} (h : HasQ W p N s) : ∃ cs, W.heap[p]? = some (.cells cs QT (0, 0)) := by
  obtain ⟨A, c, fs, hq, _⟩ := h
  exact ⟨_, hq.blk⟩
section
variable {w W W' : World} {p : Nat} {v : Value} {s : Qs} {ks : List Fv}
theorem KO.ne (h : KO w W p v s ks) : some p ≠ v.ownBlock := by
  intro e
  obtain ⟨_, _, cs, h1⟩ := own_blk h.own e
  obtain ⟨cs', h2⟩ := h.q.qt
  rw [h1] at h2
  injection h2 with h2
  injection h2 with _ h2
  exact absurd h2 (by decide)
theorem KO.start (h : KQ w W p s) : KO w W p (.slice none 0 0) s [] :=
  ⟨h.b, h.q.keep (Nat.le_refl _) rfl (fun _ _ _ => rfl) (fun g _ n => by rcases n with n | n; exact n; cases n) (.inl rfl), h.ge, World.ownsRow_nil _ _ _ _⟩
theorem KO.next (h : KO w W p v s ks) (b : Below W.heap.size W W') : KO w W' p v s ks :=
  ⟨h.b.trans (b.mono h.b.size), h.q.keep b.size (b.block p h.q.lt) (fun g hg _ => b.block g hg) (fun _ _ n => n) (.inl rfl), h.ge, row_below h.own b⟩
theorem KO.put (h : KO w W p v s ks) (hl : s.lost < 1000000) (f : Fv) (hf : f.Ok) (hr : Rd W W.heap.size f.A f.d) :
    Calls Try.prog 10 #[at_ p, frm f.id f.r (.slice f.A f.d.length f.c)] W fun e w' => e = .returned (.int .i64 (s.put f.fr).2) ∧ KO w w' p v (s.put f.fr).1 ks :=
  (put_any h.q (fun g n => by rcases n with rfl | n; exact h.q.lt; exact (own_blk h.own n).2.1) hl f hf hr).mono fun e w' ⟨h1, h2, h3⟩ =>
    ⟨h1, h.b.trans (h3.below h.b.size h.ge (by simp)), h2, h.ge, own_keep h.own fun g hg => h3.block g (own_blk h.own hg).2.1 (fun e => h.ne (by rw [← e]; exact hg)) (by simp)⟩
theorem KO.app (h : KO w W p v s ks) {f : Fv} {v' : Value} (o : W'.ownsRow w.heap.size FT 3 v' (ks.length + 1) (flatF ks ++ f.vals.toList)) (g : W.grownBy W' v.ownBlock) (hv : v'.ownBlock = v.ownBlock ∨ v'.ownBlock = some W.heap.size) : KO w W' p v' s (ks ++ [f]) := by
  refine ⟨h.b.grown g h.b.size (fun k e => (own_blk h.own e.symm).1), h.q.keep g.size (g.block p h.q.lt h.ne) (fun k hk n => g.block k hk (fun e => n (.inr e))) (fun k hk n => ?_) (.inl rfl), h.ge, ?_⟩
  · rcases n with n | n
    · exact .inl n
    · rcases hv with e | e
      · exact .inr (by rw [n, e])
      · rw [e] at n
        injection n with n
        omega
  · rw [flatF_snoc, List.length_append]
    exact o
end

/-- The blocks that the law writes to in its second part. -/
def Ns (p : Nat) (v : Value) (U L : Nat) (g : Nat) : Prop := g = p ∨ some g = v.ownBlock ∨ g = U ∨ g = L
/-- The queue, the row beside it, what was used, the frame that was taken last. -/
structure KT (w W : World) (p U L : Nat) (v : Value) (s : Qs) (ks : List Fv) (us : List Bool) (x y z : Value) : Prop where
  b : Below w.heap.size w W
  q : HasQ W p (Ns p v U L) s
  ge : w.heap.size ≤ p ∧ w.heap.size ≤ U ∧ w.heap.size ≤ L
  own : W.ownsRow w.heap.size FT 3 v ks.length (flatF ks)
  used : W.heap[U]? = some (.cells (us.map Value.bool).toArray 4 (0, 0))
  last : W.heap[L]? = some (.cells #[x, y, z] FT (0, 0))
  vL : some L ≠ v.ownBlock
section
variable {w W W' : World} {p U L : Nat} {v : Value} {s : Qs} {ks : List Fv} {us : List Bool} {x y z : Value}
theorem KT.vp (h : KT w W p U L v s ks us x y z) : some p ≠ v.ownBlock := by
  intro e
  obtain ⟨_, _, cs, h1⟩ := own_blk h.own e
  obtain ⟨cs', h2⟩ := h.q.qt
  rw [h1] at h2
  injection h2 with h2
  injection h2 with _ h2
  exact absurd h2 (by decide)
theorem KT.vU (h : KT w W p U L v s ks us x y z) : some U ≠ v.ownBlock := by
  intro e
  obtain ⟨_, _, cs, h1⟩ := own_blk h.own e
  have h2 := h.used
  rw [h1] at h2
  injection h2 with h2
  injection h2 with _ h2
  exact absurd h2 (by decide)
theorem KT.UL (h : KT w W p U L v s ks us x y z) : U ≠ L := by
  rintro rfl
  have h2 := h.used
  rw [h.last] at h2
  injection h2 with h2
  injection h2 with _ h2
  exact absurd h2 (by decide)
theorem KT.pU (h : KT w W p U L v s ks us x y z) : p ≠ U := by
  rintro rfl
  obtain ⟨cs', h2⟩ := h.q.qt
  rw [h.used] at h2
  injection h2 with h2
  injection h2 with _ h2
  exact absurd h2 (by decide)
theorem KT.pL (h : KT w W p U L v s ks us x y z) : p ≠ L := by
  rintro rfl
  obtain ⟨cs', h2⟩ := h.q.qt
  rw [h.last] at h2
  injection h2 with h2
  injection h2 with _ h2
  exact absurd h2 (by decide)
theorem KT.lt (h : KT w W p U L v s ks us x y z) : ∀ g, Ns p v U L g → g < W.heap.size := by
  rintro g (rfl | n | rfl | rfl)
  · exact h.q.lt
  · exact (own_blk h.own n).2.1
  · exact (Array.getElem?_eq_some_iff.1 h.used).1
  · exact (Array.getElem?_eq_some_iff.1 h.last).1
theorem KT.start (h : KO w W p v s ks) {o o' : Obj} (ho : o = .cells (us.map Value.bool).toArray 4 (0, 0)) (ho' : o' = .cells #[x, y, z] FT (0, 0)) : KT w ((W.alloc o).alloc o') p W.heap.size (W.heap.size + 1) v s ks us x y z := by
  subst ho ho'
  have b : Below W.heap.size W ((W.alloc (.cells (us.map Value.bool).toArray 4 (0, 0))).alloc (.cells #[x, y, z] FT (0, 0))) := below_two _ _ _
  refine ⟨h.b.trans (b.mono h.b.size), h.q.keep b.size (b.block p h.q.lt) (fun g hg _ => b.block g hg) (fun g hg n => ?_) (.inl rfl), ⟨h.ge, h.b.size, by have := h.b.size; omega⟩, row_below h.own b, heap_alloc2_old W _ _, heap_alloc2_new W _ _, fun e => by have := (own_blk h.own e).2.1; omega⟩
  rcases n with n | n | n | n
  · exact .inl n
  · exact .inr n
  · omega
  · omega
theorem KT.next (h : KT w W p U L v s ks us x y z) (b : Below W.heap.size W W') : KT w W' p U L v s ks us x y z :=
  ⟨h.b.trans (b.mono h.b.size), h.q.keep b.size (b.block p h.q.lt) (fun g hg _ => b.block g hg) (fun _ _ n => n) (.inl rfl), h.ge, row_below h.own b, (b.block U (h.lt U (.inr (.inr (.inl rfl))))).trans h.used, (b.block L (h.lt L (.inr (.inr (.inr rfl))))).trans h.last, h.vL⟩
/-- What Take ends with. -/
def TakeT (w W : World) (p U L : Nat) (v : Value) (s : Qs) (ks : List Fv) (us : List Bool) (x y z : Value) (e : Ending) (w' : World) : Prop :=
  ∃ A c, e = .returned (.tuple #[frm s.take.2.1.id s.take.2.1.r (.slice A s.take.2.1.d.length c), .bool s.take.2.2]) ∧ Rd w' w'.heap.size A s.take.2.1.d ∧ KT w w' p U L v s.take.1 ks us x y z
theorem KT.take (h : KT w W p U L v s ks us x y z) : Calls Try.prog 11 #[at_ p] W (TakeT w W p U L v s ks us x y z) :=
  (take_any h.q h.lt).mono fun e w' ⟨u, h1, h2, h3, h4⟩ => by
    obtain ⟨A, c, rfl, hr⟩ := h2.form
    have hU := h.lt U (.inr (.inr (.inl rfl)))
    have hL := h.lt L (.inr (.inr (.inr rfl)))
    exact ⟨A, c, h1, hr, h.b.trans (h4.below h.b.size h.ge.1 (by simp)), h3, h.ge, own_keep h.own fun g hg => h4.block g (own_blk h.own hg).2.1 (fun e => h.vp (by rw [← e]; exact hg)) (by simp),
      (h4.block U hU (fun e => h.pU e.symm) (by simp)).trans h.used, (h4.block L hL (fun e => h.pL e.symm) (by simp)).trans h.last, h.vL⟩
theorem KT.len (h : KT w W p U L v s ks us x y z) : Calls Try.prog 14 #[at_ p] W fun e w' => e = .returned (.int .i64 (s.l.length : Int)) ∧ W = w' := by
  obtain ⟨A, c, fs, hq, e⟩ := h.q
  rw [← e, List.length_map]
  exact len_any hq
theorem KT.ch (h : KT w W p U L v s ks us x y z) {g : Nat} (hg : W.grownBy W' (some g)) (hn : g = U ∨ g = L) : Below w.heap.size w W' ∧ HasQ W' p (Ns p v U L) s ∧ W'.ownsRow w.heap.size FT 3 v ks.length (flatF ks) := by
  have np : p ≠ g := by rcases hn with rfl | rfl; exact h.pU; exact h.pL
  refine ⟨h.b.grown hg h.b.size (fun k e => by cases e; rcases hn with rfl | rfl; exact h.ge.2.1; exact h.ge.2.2), h.q.keep hg.size (hg.block p h.q.lt (by simpa using np)) (fun k hk n => hg.block k hk (fun e => n (by cases e; rcases hn with rfl | rfl; exact .inr (.inr (.inl rfl)); exact .inr (.inr (.inr rfl))))) (fun _ _ n => n) (.inl rfl), own_keep h.own fun k hk => hg.block k (own_blk h.own hk).2.1 (fun e => ?_)⟩
  cases e
  rcases hn with rfl | rfl
  · exact h.vU hk
  · exact h.vL hk
theorem KT.mark (h : KT w W p U L v s ks us x y z) (j : Nat) : KT w (W.setCell ⟨U, j, none⟩ (.bool true)) p U L v s ks (us.set j true) x y z := by
  obtain ⟨h1, h2, h3⟩ := h.ch (grown_set W U j (.bool true)) (.inl rfl)
  refine ⟨h1, h2, h.ge, h3, ?_, (Below.heap_setCell W ⟨U, j, none⟩ _ L (fun e => h.UL e.symm)).trans h.last, h.vL⟩
  rw [heap_setCell_same W U j _ _ _ h.used]
  simp [List.map_set]
theorem KT.put3 (h : KT w W p U L v s ks us x y z) (a b c : Value) : KT w (((W.setCell ⟨L, 0, none⟩ a).setCell ⟨L, 1, none⟩ b).setCell ⟨L, 2, none⟩ c) p U L v s ks us a b c := by
  obtain ⟨h1, h2, h3⟩ := h.ch (grown_trans (grown_trans (grown_set W L 0 a) (grown_set _ L 1 b)) (grown_set _ L 2 c)) (.inr rfl)
  exact ⟨h1, h2, h.ge, h3, (Below.heap_setCell _ ⟨L, 2, none⟩ _ U h.UL).trans ((Below.heap_setCell _ ⟨L, 1, none⟩ _ U h.UL).trans ((Below.heap_setCell W ⟨L, 0, none⟩ _ U h.UL).trans h.used)), set3 h.last a b c, h.vL⟩
theorem KT.uc (h : KT w W p U L v s ks us x y z) {j : Nat} (hj : j < us.length) : W.cell? ⟨U, j, none⟩ = some (.bool (us.getD j false)) := by
  simp [World.cell?, h.used, hj]
theorem KT.uf (h : KT w W p U L v s ks us x y z) (j : Nat) : W.frozen? ⟨U, j, none⟩ = false := frozen_of_row W U j _ _ h.used
theorem KT.rd (h : KT w W p U L v s ks us x y z) (hd : ∀ j, j < ks.length → Rd w w.heap.size (ks.getD j Fv.zero).A (ks.getD j Fv.zero).d) : ∃ A c, v = .slice A ks.length c ∧ RdF W W.heap.size A ks := by
  obtain ⟨A, c, e, _, _, _, r⟩ := rdG_of (G := fun g => g < W.heap.size) h.own (fun j hj => ((hd j hj).below h.b).mono h.b.size) (fun _ _ h => h)
  exact ⟨A, c, e, r.rd fun g hg => hg⟩
end

/-- Of the frames that were put, l, in the order of the bus the first i were taken: which of them were used; the last one: its place, its frame. -/
structure Sofar (l : List Fr) (i : Nat) (us : List Bool) (pl : Int) (id : Int) (r : Bool) : Prop where
  len : us.length = l.length
  hi : i ≤ l.length
  us : ∀ j, j < us.length → (us.getD j false = true ↔ ∃ a x, a < i ∧ (ord key l)[a]? = some x ∧ x.2 = j)
  last : ∀ m, i = m + 1 → ∃ x, (ord key l)[m]? = some x ∧ x.1.id = id ∧ x.1.r = r ∧ pl = (x.2 : Int)
theorem Sofar.start (l : List Fr) (id : Int) (r : Bool) : Sofar l 0 (List.replicate l.length false) (-1) id r :=
  ⟨by simp, Nat.zero_le _, fun j hj => by simp at hj; simp [hj], fun m e => by omega⟩
/-- The search for the next one goes by whatever is used or other. -/
def Seek (l : List Fr) (us : List Bool) (f : Fr) (k : Nat) : Prop := ∀ j, j < k → us.getD j false = true ∨ l[j]? ≠ some f
structure Next (l : List Fr) (i : Nat) (us : List Bool) (y : Fr × Nat) : Prop where
  at_ : (ord key l)[i]? = some y
  mem : l[y.2]? = some y.1
  free : us.getD y.2 false = false
  seek : ∀ k, k < y.2 → l[k]? = some y.1 → us.getD k false = true
  drop : (srt key l).drop i = y.1 :: (srt key l).drop (i + 1)
theorem Sofar.next {l : List Fr} {i : Nat} {us : List Bool} {pl id : Int} {r : Bool} (h : Sofar l i us pl id r) (hi : i < l.length) : ∃ y, Next l i us y := by
  have hl : i < (ord key l).length := by rw [ord_length]; exact hi
  refine ⟨(ord key l)[i], ?_⟩
  have h0 : (ord key l)[i]? = some (ord key l)[i] := List.getElem?_eq_getElem hl
  generalize (ord key l)[i] = y at h0
  have hm := ord_at key h0
  have hy : y.2 < l.length := (List.getElem?_eq_some_iff.1 hm).1
  refine ⟨h0, hm, ?_, fun k hk hlk => ?_, ?_⟩
  · cases hu : us.getD y.2 false with
    | false => rfl
    | true =>
      obtain ⟨a, x, ha, hx, e⟩ := (h.us y.2 (by rw [h.len]; exact hy)).1 hu
      exact absurd e (ord_apart key hx h0 ha)
  · obtain ⟨a, x, ha, hx, e⟩ := ord_earlier key h0 hk hlk
    exact (h.us k (by rw [h.len]; omega)).2 ⟨a, x, ha, hx, e⟩
  · rw [← ord_map key l, ← List.map_drop, ← List.map_drop]
    rw [List.drop_eq_getElem_cons hl]
    have : (ord key l)[i] = y := by rw [List.getElem?_eq_getElem hl] at h0; exact Option.some.inj h0
    rw [this]
    rfl
/-- Where the search ends. -/
theorem Next.found {l : List Fr} {i k : Nat} {us : List Bool} {y : Fr × Nat} (h : Next l i us y) (hs : Seek l us y.1 k) (hk : us.getD k false = false) (hm : l[k]? = some y.1) : k = y.2 := by
  rcases Nat.lt_trichotomy k y.2 with h1 | h1 | h1
  · rw [h.seek k h1 hm] at hk; cases hk
  · exact h1
  · rcases hs y.2 h1 with h2 | h2
    · rw [h.free] at h2; cases h2
    · exact absurd h.mem h2
theorem Next.in_ {l : List Fr} {i k : Nat} {us : List Bool} {y : Fr × Nat} (h : Next l i us y) (hs : Seek l us y.1 k) : k ≤ y.2 := by
  rcases Nat.lt_or_ge y.2 k with h1 | h1
  · rcases hs y.2 h1 with h2 | h2
    · rw [h.free] at h2; cases h2
    · exact absurd h.mem h2
  · exact h1
/-- The order of the bus. -/
theorem Next.order {l : List Fr} {m : Nat} {us : List Bool} {pl id : Int} {r : Bool} {y : Fr × Nat} (h : Sofar l (m + 1) us pl id r) (n : Next l (m + 1) us y) :
    before y.1.id y.1.r id r = false ∧ (y.1.id = id → y.1.r = r → pl < (y.2 : Int)) := by
  obtain ⟨x, hx, rfl, rfl, rfl⟩ := h.last m rfl
  have ha := ord_ahead key hx n.at_ (Nat.lt_succ_self m)
  unfold Ahead key at ha
  refine ⟨?_, fun e1 e2 => ?_⟩
  · unfold before
    rw [rank_before]
    apply decide_eq_false
    omega
  · rw [e1, e2] at ha
    omega
theorem Sofar.step {l : List Fr} {i : Nat} {us : List Bool} {pl id : Int} {r : Bool} {y : Fr × Nat} (h : Sofar l i us pl id r) (n : Next l i us y) : Sofar l (i + 1) (us.set y.2 true) (y.2 : Int) y.1.id y.1.r := by
  have hy : y.2 < l.length := (List.getElem?_eq_some_iff.1 n.mem).1
  have hi : i < l.length := by
    have := (List.getElem?_eq_some_iff.1 n.at_).1
    rwa [ord_length] at this
  refine ⟨by rw [List.length_set]; exact h.len, hi, fun j hj => ?_, fun m e => ?_⟩
  · rw [List.length_set] at hj
    by_cases e : j = y.2
    · subst e
      simp only [List.getD_eq_getElem?_getD, List.getElem?_set_self hj, Option.getD_some, true_iff]
      exact ⟨i, y, by omega, n.at_, rfl⟩
    · have e1 : (us.set y.2 true).getD j false = us.getD j false := by simp [List.getD_eq_getElem?_getD, List.getElem?_set_ne (Ne.symm e)]
      rw [e1, h.us j hj]
      constructor
      · rintro ⟨a, x, h1, h2, h3⟩
        exact ⟨a, x, by omega, h2, h3⟩
      · rintro ⟨a, x, h1, h2, h3⟩
        by_cases e2 : a = i
        · subst e2
          rw [n.at_] at h2
          cases h2
          exact absurd h3.symm e
        · exact ⟨a, x, by omega, h2, h3⟩
  · obtain rfl : i = m := by omega
    exact ⟨y, n.at_, rfl, rfl, rfl⟩
theorem same_fr (G : Fv) (f : Fr) : same G.id G.r G.d f.id f.r f.d = true ↔ G.fr = f := by
  unfold same Fv.fr
  cases f
  simp
end Txq
end Go.Proofs.Ytlojomeofgnfjaa
