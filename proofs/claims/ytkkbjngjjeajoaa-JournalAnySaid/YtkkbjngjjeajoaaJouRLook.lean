/-
  The document's looks of all sectors.
  What the document's journal tells: tell, Open.
  A journal on a fresh flash: what an Append answers, and what is told behind it. No program is named here.
  The document's journal: how often a sector may be erased (Left), where a record goes (place).
  The document's journal: Open, Append on a flash without a planned cut.
  The document's Append on a flash without a planned cut.
-/
import Derived.Test.YtkkbjngjjeajoaaJouRFla
import Derived.Test.YtkkbjngjjeajoaaJouRSec
import Derived.Test.YtkkbjngjjeajoaaSecOf
import Derived.Test.YtkkbjngjjeajoaaJouData
import Derived.Test.YtkkbjngjjeajoaaJouReady
import Derived.Test.YtkkbjngjjeajoaaRecRParse
namespace Go.Proofs.Ytkkbjngjjeajoaa
namespace Jou
open Go.RowKit Mem Fla Rec Sec
set_option linter.unusedVariables false
set_option linter.unusedSimpArgs false
set_option maxRecDepth 100000
section
variable {P : Program} (w : World) {ops : Array Oper} {rest : List Oper} {o : Oper} {a : Act} {Q : Exit → Act → World → Prop}
/-- 'out = append(out, x, ..)' of structs, out the call's own. -/
theorem wpList_appS (hgd : o.guard = none) (s x : Operand) (t : TypeId)
    (ho : o.op = .call { callee := .builtin .append, args := #[s, x], argTypes := #[t, t] })
    (base : Nat) (e : TypeId) (i : TypeInfo) (z : Value) (size bytes : Nat) (ht : P.underlying t = some (.slice e)) (hi : P.info? e = some i) (hz : i.zero = some z) (hsize : i.size = size) (hby : i.bytes = bytes) (hzs : z.cells.size = size) (hsz : 0 < size)
    (v : Value) (n : Nat) (xs : List Value) (hs : a.eval s = v) (hown : w.ownsRow base e size v n xs) (ad : Addr) (m c : Nat) (news : List Value) (hx : a.eval x = .slice (some ad) m c)
    (hl : news.length = m * size) (hnews : ∀ j u, news[j]? = some u → w.cell? (ad.add j) = some u) (h1 : ∀ u ∈ news, u.oneCell' = true) (h63 : n + m ≤ maxLen) (hbytes : (n + m) * bytes ≤ 140737488355328) (hbase : base ≤ w.heap.size)
    (h : ∀ v' w', w'.ownsRow base e size v' (n + m) (xs ++ news) → w.grownBy w' v.ownBlock → wpList P ops Q rest (a.put o.dst v') w') : wpList P ops Q (o :: rest) a w := by
  refine wpList_plain hgd fun K hK => ?_
  obtain ⟨v', w', hrun, h2, h3, _, h5⟩ := run_append_own_at (P := P) w base t o.type e i z size bytes ht hi hz hsize hby hzs hsz v n xs hown ad m c news hl hnews h1 h63 hbytes hbase
  unfold Oper.wp execOp
  simp only [ho, resolve, invoke, builtin, Sem.run_bind, Sem.run_pure, Result.andThen_ok, List.map_toArray, List.map_cons, List.map_nil, hs, hx, hrun]
  exact hK _ _ (h v' w' h2 h3)
end
def RLT : TypeId := 129
def flatL (ls : List Lv) : List Value := (ls.map fun l => l.vals.toList).flatten
/-- What a look says of a sector. -/
def Says (W : World) (l : Lv) (x : Lk) (cl : Bool) : Prop := l.n = x.n ∧ l.cnt = x.cnt ∧ l.e = x.e ∧ l.cl = cl ∧ l.k = x.k ∧ l.m = x.d.length ∧ Own W 0 E (.slice l.A x.d.length l.c) x.d
theorem Says.below {W W' : World} {l : Lv} {x : Lk} {cl : Bool} (h : Says W l x cl) (b : Below W.heap.size W W') : Says W' l x cl := by
  obtain ⟨a1, a2, a3, a4, a5, a6, a7⟩ := h
  exact ⟨a1, a2, a3, a4, a5, a6, a7.below b (Nat.le_refl _)⟩
/-- The looks of the first k sectors: the call's own list. -/
structure RL (W : World) (base : Nat) (v : Value) (bs : List UInt8) (k : Nat) (ls : List Lv) : Prop where
  len : ls.length = k
  own : W.ownsRow base RLT 6 v k (flatL ls)
  says : ∀ i, i < k → Says W (ls.getD i Lv.zero) (lk bs i) (clean (secOf bs i))
theorem flatL_get : ∀ (ls : List Lv) (j i : Nat), j < ls.length → i < 6 → (flatL ls)[j * 6 + i]? = (ls.getD j Lv.zero).vals[i]? := by
  intro ls
  induction ls with
  | nil => intro j i h; simp at h
  | cons l r ih =>
    intro j i hj hi
    have h6 : l.vals.toList.length = 6 := rfl
    unfold flatL at *
    cases j with
    | zero =>
      simp only [List.map_cons, List.flatten_cons, Nat.zero_mul, Nat.zero_add]
      rw [List.getElem?_append_left (by omega)]
      simp
    | succ j =>
      simp only [List.map_cons, List.flatten_cons]
      rw [List.getElem?_append_right (by omega), h6, show (j + 1) * 6 + i - 6 = j * 6 + i by omega, ih j i (by simpa using hj) hi]
      simp
theorem ownsRow_below {W W' : World} {base size n B : Nat} {e : TypeId} {v : Value} {xs : List Value} (h : W.ownsRow base e size v n xs) (b : Below B W W') (hB : W.heap.size ≤ B) : W'.ownsRow base e size v n xs := by
  refine ⟨h.1, ?_⟩
  rcases h.2 with h1 | ⟨g, cap, cur, hv, hb, hh, hr⟩
  · exact .inl h1
  · exact .inr ⟨g, cap, cur, hv, hb, (b.block g (by have := (Array.getElem?_eq_some_iff.1 hh).1; omega)).trans hh, hr⟩
/-- Bytes are kept while a list of looks grows. -/
theorem own_grown {W W' : World} {base b : Nat} {v u : Value} {n : Nat} {xs : List Value} {d : List UInt8} (h : W.ownsRow base RLT 6 v n xs) (o : Own W b E u d) (g : W.grownBy W' v.ownBlock) : Own W' b E u d := by
  refine ⟨o.1, ?_⟩
  rcases o.2 with h1 | ⟨g1, cap, cur, hu, hb, hh, hr⟩
  · exact .inl h1
  · refine .inr ⟨g1, cap, cur, hu, hb, (g.block g1 (Array.getElem?_eq_some_iff.1 hh).1 ?_).trans hh, hr⟩
    intro e
    rcases h.2 with ⟨rfl, _⟩ | ⟨g2, cap2, cur2, rfl, _, hh2, _⟩
    · cases e
    · simp only [Value.ownBlock, Option.some.injEq] at e
      subst e
      rw [hh2] at hh
      injection hh with hh
      injection hh with _ ht
      exact absurd ht (by decide)
theorem Says.grown {W W' : World} {base n : Nat} {v : Value} {xs : List Value} {l : Lv} {x : Lk} {cl : Bool} (h : W.ownsRow base RLT 6 v n xs) (s : Says W l x cl) (g : W.grownBy W' v.ownBlock) : Says W' l x cl := by
  obtain ⟨a1, a2, a3, a4, a5, a6, a7⟩ := s
  exact ⟨a1, a2, a3, a4, a5, a6, own_grown h a7 g⟩
/-- One more look. -/
theorem RL.next {W W' : World} {base : Nat} {v v' : Value} {bs : List UInt8} {k : Nat} {ls : List Lv} (h : RL W base v bs k ls) (l : Lv) (hl : Says W l (lk bs k) (clean (secOf bs k))) (o : W'.ownsRow base RLT 6 v' (k + 1) (flatL ls ++ l.vals.toList)) (g : W.grownBy W' v.ownBlock) :
    RL W' base v' bs (k + 1) (ls ++ [l]) := by
  have hlen := h.len
  refine ⟨by simp [hlen], ?_, fun i hi => ?_⟩
  · have : flatL (ls ++ [l]) = flatL ls ++ l.vals.toList := by unfold flatL; simp
    rw [this]
    exact o
  · by_cases e : i = k
    · subst e
      have : (ls ++ [l]).getD i Lv.zero = l := by simp [← hlen]
      rw [this]
      exact hl.grown h.own g
    · have : (ls ++ [l]).getD i Lv.zero = ls.getD i Lv.zero := by
        have hi' : i < ls.length := by omega
        simp [List.getElem?_append_left hi']
      rw [this]
      exact (h.says i (by omega)).grown h.own g
theorem RL.below {W W' : World} {base : Nat} {v : Value} {bs : List UInt8} {k : Nat} {ls : List Lv} (h : RL W base v bs k ls) (b : Below W.heap.size W W') : RL W' base v bs k ls :=
  ⟨h.len, ownsRow_below h.own b (Nat.le_refl _), fun i hi => (h.says i hi).below b⟩
theorem RL.start (W : World) (base : Nat) (bs : List UInt8) : RL W base (.slice none 0 0) bs 0 [] := ⟨rfl, World.ownsRow_nil _ _ _ _, fun i hi => by omega⟩
theorem RL.form {W : World} {base : Nat} {v : Value} {bs : List UInt8} {k : Nat} {ls : List Lv} (h : RL W base v bs k ls) : ∃ A c, v = .slice A k c ∧ RdL W W.heap.size A ls ∧ ∀ a, A = some a → base ≤ a.block := by
  rcases h.own.2 with ⟨rfl, hn⟩ | ⟨g, cap, cur, rfl, hb, hg, hnc, hcm, hcs, ht⟩
  · subst hn
    exact ⟨none, 0, rfl, .inl (List.eq_nil_of_length_eq_zero h.len), fun a e => by cases e⟩
  · refine ⟨_, _, rfl, .inr ⟨g, 0, rfl, (Array.getElem?_eq_some_iff.1 hg).1, fun j hj i hi => ?_⟩, fun a e => by cases e; exact hb⟩
    have hj' : j < k := by rw [← h.len]; exact hj
    have h1 := World.ownsRow.cellAt h.own (j * 6 + i) (by omega)
    rw [flatL_get ls j i hj hi] at h1
    rw [Nat.zero_add]
    exact h1
theorem info_rlook : ∃ i, Try.prog.info? 129 = some i ∧ i.zero = some (.agg #[.int .i64 0, .int .u32 0, .slice none 0 0, .int .i64 0, .int .i64 0, .bool false]) ∧ i.size = 6 ∧ i.bytes ≤ 1024 := by
  refine ⟨_, rfl, rfl, rfl, by decide⟩
/-- What looks answers. -/
def LooksAll (w : World) (bs : List UInt8) (N : Nat) (e : Ending) (w' : World) : Prop := ∃ A c ls, e = .returned (.slice A N c) ∧ ls.length = N ∧ RdL w' w'.heap.size A ls ∧ (∀ i, i < N → Says w' (ls.getD i Lv.zero) (lk bs i) (clean (secOf bs i))) ∧ Below w.heap.size w w' ∧ ∀ a, A = some a → w.heap.size ≤ a.block
set_option maxHeartbeats 2000000 in
theorem rlooks_any {w : World} {r : Nat} {bs : List UInt8} {ws : List Int} {m o : Int} {AB AW : Option Addr} {cB cW : Nat} (h : IsG w r bs ws m o AB cB AW cW) (hN : ws.length = nsec bs) (hl : bs.length ≤ 8192) :
    Calls Try.prog 81 #[at_ r] w (LooksAll w bs (nsec bs)) := by
  obtain ⟨i0, hi, hz0, hz1, hz2⟩ := info_rlook
  have hi := Lib.hid hi
  have hz0 := Lib.hid hz0
  have hz1 := Lib.hid hz1
  have hz2 := Lib.hid hz2
  have H := Lib.hid h
  clear h
  go_enter Try.func81, Try.ntmps81
  go_wp2_with fail
  go_loopw [3, 4] (fun v i wr => ∃ (k : Nat) (ls : List Lv), k ≤ nsec bs ∧ i = .int .i64 (k : Int) ∧ RL wr w.heap.size v bs k ls ∧ Below w.heap.size w wr) (fun _ i _ => nsec bs - (intOf i).toNat)
  case atStart => exact ⟨0, [], by omega, rfl, RL.start _ _ _, Below.refl _ _⟩
  case round =>
    obtain ⟨k, ls, hk, rfl, R, b⟩ := hrel
    have G := H.out.below b (Nat.le_refl _)
    have c1 := G.c1
    rw [hN] at c1
    by_cases hlt : k < nsec bs
    · have hkl : k * 1024 + 1024 ≤ bs.length := by unfold nsec at hlt; omega
      obtain ⟨gB, cap, hv, hgB, hgs, hc1, hc2⟩ := G.ob.some_ (by omega)
      injection hv with hA _ hc
      subst hA
      subst hc
      have c0 := G.c0
      have hrd : Rd wr wr.heap.size (some ⟨gB, k * 1024, none⟩) (secOf bs k) := by
        have := rd_part (own_rd G.ob) (k := k * 1024) (n := 1024) hkl
        exact this
      have HO := Lib.hid (fun cc h1 h2 => rof_any (some ⟨gB, k * 1024, none⟩) 1024 cc (secOf bs k) wr hrd (secOf_len hkl).symm (by omega) h1 h2)
      unfold LooksTo at HO
      rw [clean_blank] at HO
      have hlk : Sec.look (secOf bs k) = lk bs k := rfl
      rw [hlk] at HO
      obtain ⟨A0, c00, rfl, _⟩ := R.form
      have RR := Lib.hid R
      have hki : (k : Int) < ((nsec bs : Nat) : Int) := by omega
      have hk8 : (k : Int) ≤ 8 := by unfold nsec at hlt; omega
      have hk0 : (0 : Int) ≤ (k : Int) := by omega
      have hkb : (k : Int) * 1024 + 1024 ≤ (bs.length : Int) := by omega
      have hkc : (bs.length : Int) ≤ (cB : Int) := by omega
      have hcm := Lib.hid hc2
      clear G R hlk hrd
      generalize hx : lk bs k = x at *
      generalize hy : clean (secOf bs k) = y at *
      have HX := Lib.hid hx
      have HY := Lib.hid hy
      clear hx hy
      go_wp2_with fail
      refine (HO.out _ (by omega) (by have := hcm.out; omega)).mono ?_
      rintro e w2 ⟨v2, rfl, o2, b2⟩
      obtain ⟨A2, c2, rfl, _⟩ := o2.form
      have bA := below1 w2 (.cells #[.int .i64 x.k, .int .u32 x.n, .slice A2 x.d.length c2, .int .i64 (x.cnt : Int), .int .i64 (x.e : Int), .bool y] 129)
      have b3 := b2.trans (bA.mono b2.size)
      have R3 := Lib.hid (RR.out.below b3)
      have hS : Says (w2.alloc (.cells #[.int .i64 x.k, .int .u32 x.n, .slice A2 x.d.length c2, .int .i64 (x.cnt : Int), .int .i64 (x.e : Int), .bool y] 129)) ⟨x.k, x.n, A2, x.d.length, c2, x.cnt, x.e, y⟩ (lk bs k) (clean (secOf bs k)) := by
        rw [HX.out, HY.out]
        exact ⟨rfl, rfl, rfl, rfl, rfl, rfl, (o2.lower (Nat.zero_le _)).below bA (Nat.le_refl _)⟩
      have HS := Lib.hid hS
      have hbA := heap_alloc_new w2 (.cells #[.int .i64 x.k, .int .u32 x.n, .slice A2 x.d.length c2, .int .i64 (x.cnt : Int), .int .i64 (x.e : Int), .bool y] 129)
      have HN := Lib.hid (fun (j : Nat) (u : Value) (h : (⟨x.k, x.n, A2, x.d.length, c2, x.cnt, x.e, y⟩ : Lv).vals.toList[j]? = some u) => by
        have h2 := cell_of hbA j
        rw [← Array.getElem?_toList] at h2
        exact h2.trans h)
      have HB := Lib.hid (b.trans (b3.mono b.size))
      have hsz3 := Lib.hid b.size
      clear hS o2 b2 bA b3 RR hbA HO
      go_wp2_with (at_builtin; refine wpList_appS _ rfl (.tmp 14) (.tmp 26) 126 rfl w.heap.size RLT i0 _ 6 _ Try.underlying126 hi.out hz0.out hz1.out rfl rfl (by omega) (.slice A0 k c00) k (flatL ls) rfl R3.out.own ⟨w2.heap.size, 0, none⟩ 1 1 (⟨x.k, x.n, A2, x.d.length, c2, x.cnt, x.e, y⟩ : Lv).vals.toList rfl rfl (fun j u h => by rw [Addr.add_lit, Nat.zero_add]; exact HN.out j u h) (by intro u hu; simp [Lv.vals] at hu; rcases hu with rfl | rfl | rfl | rfl | rfl | rfl <;> rfl) (by unfold maxLen; omega) (by have := hz2.out; have : (k + 1) * i0.bytes ≤ 9 * 1024 := Nat.mul_le_mul (by omega) hz2.out; omega) (by have := HB.out.size; omega) ?_; intro v3 w3 o3 g3; have R4 := Lib.hid (R3.out.next _ HS.out o3 g3); have B4 := Lib.hid (HB.out.grown g3 HB.out.size (fun q hq => by
        rcases R3.out.own.2 with ⟨hv, _⟩ | ⟨g, cap, cur, hv, hb, _⟩
        · rw [hv] at hq; cases hq
        · rw [hv] at hq
          have hq2 : g = q := by simpa [Value.ownBlock] using hq
          rw [← hq2]
          exact hb)); clear o3 g3)
      go_roundw
      case rel => exact ⟨k + 1, _, by omega, by go_num, R4.out, B4.out⟩
      case measure => simp [intOf]; omega
    · obtain rfl : k = nsec bs := by omega
      obtain ⟨A0, c00, rfl, r0, ra⟩ := R.form
      go_wp2_with fail
      go_ret
      exact ⟨A0, c00, ls, rfl, R.len, r0, R.says, b, ra⟩
end Jou
end Go.Proofs.Ytkkbjngjjeajoaa

namespace Go.Proofs.Ytkkbjngjjeajoaa
namespace Jou
open Go.RowKit Mem Fla Rec Sec
set_option linter.unusedVariables false
set_option linter.unusedSimpArgs false
set_option maxRecDepth 100000
def RJT : TypeId := 79
theorem IsG.keepX {W W' : World} {r : Nat} {bs : List UInt8} {ws : List Int} {m o : Int} {AB AW : Option Addr} {cB cW : Nat} (h : IsG W r bs ws m o AB cB AW cW) (hk : ∀ k, GX r AB AW k → W'.heap[k]? = W.heap[k]?) : IsG W' r bs ws m o AB cB AW cW :=
  ⟨(hk r (.inl rfl)).trans h.blk, own_keep2 h.ob fun g hg => hk g (.inr (.inl hg)), ownI_keep2 h.ow fun g hg => hk g (.inr (.inr hg)), h.sep⟩
/-- The document's journal in block j, its flash in block r: the record that it tells, whether there is one, its sector. -/
def JRow (W : World) (j r : Nat) (t : Lk) (A : Option Addr) (c : Nat) (has : Bool) (sec : Nat) (dead : Bool) : Prop :=
  W.heap[j]? = some (.cells #[at_ r, .int .i64 t.k, .int .u32 t.n, .slice A t.d.length c, .bool has, .int .i64 (sec : Int), .bool dead] RJT (0, 0))
/-- What tell leaves. -/
structure TellTo (w : World) (j r : Nat) (bs : List UInt8) (dead : Bool) (w' : World) : Prop where
  row : ∃ A c, JRow w' j r (tell bs) A c (newest bs).isSome ((newest bs).getD 0) dead ∧ Own w' 0 E (.slice A (tell bs).d.length c) (tell bs).d
  far : FarS (· = j) w w'
theorem row7_five {W : World} {j : Nat} {x0 x1 x2 x3 x4 x5 x6 : Value} {T : TypeId} (hr : W.heap[j]? = some (.cells #[x0, x1, x2, x3, x4, x5, x6] T (0, 0))) (v4 v5 v1 v2 v3 : Value) :
    (((((W.setCell ⟨j, 4, none⟩ v4).setCell ⟨j, 5, none⟩ v5).setCell ⟨j, 1, none⟩ v1).setCell ⟨j, 2, none⟩ v2).setCell ⟨j, 3, none⟩ v3).heap[j]? = some (.cells #[x0, v1, v2, v3, v4, v5, x6] T (0, 0)) :=
  heap_setCell_same _ j 3 _ _ v3 (heap_setCell_same _ j 2 _ _ v2 (heap_setCell_same _ j 1 _ _ v1 (heap_setCell_same _ j 5 _ _ v5 (heap_setCell_same _ j 4 _ _ v4 hr))))
theorem row7_rec {W : World} {j : Nat} {x0 x1 x2 x3 x4 x5 x6 : Value} {T : TypeId} (hr : W.heap[j]? = some (.cells #[x0, x1, x2, x3, x4, x5, x6] T (0, 0))) (v1 v2 v3 : Value) :
    (((W.setCell ⟨j, 1, none⟩ v1).setCell ⟨j, 2, none⟩ v2).setCell ⟨j, 3, none⟩ v3).heap[j]? = some (.cells #[x0, v1, v2, v3, x4, x5, x6] T (0, 0)) :=
  heap_setCell_same _ j 3 _ _ v3 (heap_setCell_same _ j 2 _ _ v2 (heap_setCell_same _ j 1 _ _ v1 hr))
theorem own_row {W W' : World} {b j : Nat} {v : Value} {d : List UInt8} {x : Array Value} (o : Own W b E v d) (hj : W.heap[j]? = some (.cells x RJT (0, 0))) (f : FarS (· = j) W W') : Own W' b E v d := by
  refine ⟨o.1, ?_⟩
  rcases o.2 with h1 | ⟨g1, cap, cur, hu, hb, hh, hr⟩
  · exact .inl h1
  · refine .inr ⟨g1, cap, cur, hu, hb, (f.block g1 (Array.getElem?_eq_some_iff.1 hh).1 ?_).trans hh, hr⟩
    intro e
    have e : g1 = j := e
    subst e
    rw [hh] at hj
    injection hj with hj
    injection hj with _ ht
    exact absurd ht (by decide)
set_option maxHeartbeats 2000000 in
theorem rtell_any {w : World} {r j : Nat} {bs : List UInt8} {ws : List Int} {m o : Int} {AB AW : Option Addr} {cB cW : Nat} (h : IsG w r bs ws m o AB cB AW cW) (hN : ws.length = nsec bs) (hl : bs.length ≤ 8192)
    {a b c d e : Value} {dead : Bool} (hj : w.heap[j]? = some (.cells #[at_ r, a, b, c, d, e, .bool dead] RJT (0, 0))) :
    Calls Try.prog 57 #[at_ j] w fun e w' => e = .returned (.tuple #[]) ∧ TellTo w j r bs dead w' := by
  have HL := Lib.hid (rlooks_any h hN hl)
  have q0 := cell_of hj 0
  have HJ := Lib.hid hj
  clear h hj
  go_enter Try.func57, Try.ntmps57
  go_wp2_with fail
  refine HL.out.mono ?_
  rintro e1 w1 ⟨A, cc, ls, rfl, hlen, hrl, hsay, b1, hab⟩
  have HN := Lib.hid (rnewest_any A cc ls w1 hrl (by rw [hlen]; unfold nsec; omega))
  rw [hlen, nst_nstF (f := lk bs) (nsec bs) fun i hi => ⟨(hsay i hi).1, (hsay i hi).2.1⟩] at HN
  have hnn : nstF (lk bs) (nsec bs) = newest bs := rfl
  rw [hnn] at HN
  have HR := Lib.hid hrl
  have HS := Lib.hid hsay
  have HB := Lib.hid b1
  have hns : nsec bs ≤ 8 := by unfold nsec; omega
  clear hnn hrl hsay b1 q0
  go_wp2_with fail
  refine HN.out.mono ?_
  rintro e2 w2 ⟨rfl, b2⟩
  have row := ((HB.out.trans (b2.mono HB.out.size)).block j (Array.getElem?_eq_some_iff.1 HJ.out).1).trans HJ.out
  have HB2 := Lib.hid (HB.out.trans (b2.mono HB.out.size))
  have HR2 := Lib.hid ((HR.out.below b2))
  have HS2 := Lib.hid (fun i hi => (HS.out i hi).below b2)
  clear b2 HB HR HS
  have q4 := cell_of row 4
  have z4 := frozen_of_row _ _ 4 _ _ row
  have ROW := Lib.hid row
  rename_i Q0 K1 h1 K2 h2
  have H1 := Lib.hid h1
  clear h1 row
  have HAB := Lib.hid hab
  have HLEN := Lib.hid hlen
  have HNS := Lib.hid hns
  clear hab hlen hns
  obtain ⟨hv, hhv⟩ : ∃ hv : Bool, hv = (newest bs).isSome := ⟨_, rfl⟩
  obtain ⟨kv, hkv⟩ : ∃ kv : Nat, kv = (newest bs).getD 0 := ⟨_, rfl⟩
  rw [← hhv, ← hkv]
  have HHV := Lib.hid hhv
  have HKV := Lib.hid hkv
  clear hhv hkv HN
  go_wp2_with fail
  refine H1.out _ _ ?_
  apply wp_seq_k; intro K3 hK3; have H3 := Lib.hid hK3; clear hK3
  go_wp2_with fail
  have row3 : (w2.setCell ⟨j, 4, none⟩ (.bool hv)).heap[j]? = some (.cells #[at_ r, a, b, c, .bool hv, e, .bool dead] RJT (0, 0)) := heap_setCell_same _ j 4 _ _ _ ROW.out
  have F3 : Hid (FarS (· = j) w2 (w2.setCell ⟨j, 4, none⟩ (.bool hv))) := Lib.hid ((FarS.refl (· = j) w2).set ⟨j, 4, none⟩ rfl (.bool hv))
  generalize w2.setCell ⟨j, 4, none⟩ (.bool hv) = W3 at row3 F3 ⊢
  clear q4 z4
  have q5 := cell_of row3 5
  have z5 := frozen_of_row _ _ 5 _ _ row3
  have ROW3 := Lib.hid row3
  clear row3
  refine H3.out _ _ ?_
  apply wp_seq_k; intro K4 hK4; have H4 := Lib.hid hK4; clear hK4
  go_wp2_with fail
  have row4 : (W3.setCell ⟨j, 5, none⟩ (.int .i64 (kv : Int))).heap[j]? = some (.cells #[at_ r, a, b, c, .bool hv, .int .i64 (kv : Int), .bool dead] RJT (0, 0)) := heap_setCell_same _ j 5 _ _ _ ROW3.out
  have F4 : Hid (FarS (· = j) w2 (W3.setCell ⟨j, 5, none⟩ (.int .i64 (kv : Int)))) := Lib.hid (F3.out.set ⟨j, 5, none⟩ rfl (.int .i64 (kv : Int)))
  generalize W3.setCell ⟨j, 5, none⟩ (.int .i64 (kv : Int)) = W4 at row4 F4 ⊢
  clear q5 z5 F3 ROW3
  have q1 := cell_of row4 1
  have q2 := cell_of row4 2
  have q3 := cell_of row4 3
  have z1 := frozen_of_row _ _ 1 _ _ row4
  have z2 := frozen_of_row _ _ 2 _ _ row4
  have z3 := frozen_of_row _ _ 3 _ _ row4
  have ROW4 := Lib.hid row4
  clear row4
  refine H4.out _ _ ?_
  apply wp_seq_k; intro K5 hK5; have H5 := Lib.hid hK5; clear hK5
  go_wp2_with fail
  have row5 := row7_rec ROW4.out (.int .i64 0) (.int .u32 0) (.slice none 0 0)
  have F5 := Lib.hid (((F4.out.set ⟨j, 1, none⟩ rfl (.int .i64 0)).set ⟨j, 2, none⟩ rfl (.int .u32 0)).set ⟨j, 3, none⟩ rfl (.slice none 0 0))
  generalize ((W4.setCell ⟨j, 1, none⟩ (.int .i64 0)).setCell ⟨j, 2, none⟩ (.int .u32 0)).setCell ⟨j, 3, none⟩ (.slice none 0 0) = W5 at row5 F5 ⊢
  clear q1 q2 q3 z1 z2 z3 F4 ROW4
  refine H5.out _ _ ?_
  clear H1 H3 H4 H5
  have ROW5 := Lib.hid row5
  clear row5
  cases hn : newest bs with
  | none =>
    have e1 := HHV.out
    have e2 := HKV.out
    rw [hn] at e1 e2
    simp only [Option.getD_none, Option.isSome_none] at e1 e2
    subst e1 e2
    go_wp2_with fail
    go_end0
    have ht : tell bs = Lk.zero := by unfold tell; rw [hn]
    refine ⟨rfl, ⟨⟨none, 0, ?_, ?_⟩, (FarS.of_below HB2.out (Nat.le_refl _)).trans F5.out⟩⟩
    · rw [ht, hn]
      exact ROW5.out
    · rw [ht]
      exact Own.nil _ _ _
  | some k =>
    have hk : k < nsec bs := by
      have := newest_spec bs
      rw [hn] at this
      exact this.1
    have e1 := HHV.out
    have e2 := HKV.out
    rw [hn] at e1 e2
    simp only [Option.getD_some, Option.isSome_some] at e1 e2
    subst e1 e2
    have ht : tell bs = lk bs kv := by unfold tell; rw [hn]
    obtain ⟨l, hll⟩ : ∃ l, ls.getD kv Lv.zero = l := ⟨_, rfl⟩
    obtain ⟨g, off, rfl, hg, c0, c1, c2, c3, c4, c5⟩ := HR2.out.six (by rw [HLEN.out]; exact hk) hll
    have hgj : g ≠ j := by
      have h1 := HAB.out _ rfl
      have h2 := (Array.getElem?_eq_some_iff.1 HJ.out).1
      intro e
      subst e
      simp at h1
      omega
    have hs := HS2.out kv hk
    rw [hll, ← ht] at hs
    obtain ⟨s1, s2, s3, s4, s5, s6, s7⟩ := hs
    have hb5 := F5.out.block g (cell_lt' c0) hgj
    have d0 := (World.cell?_of_block (w := w2) (a := ⟨g, off + kv * 6, none⟩) hb5).trans c0
    have d1 := (World.cell?_of_block (w := w2) (a := ⟨g, off + kv * 6 + 1, none⟩) hb5).trans c1
    have d2 := (World.cell?_of_block (w := w2) (a := ⟨g, off + kv * 6 + 2, none⟩) hb5).trans c2
    have q5 := cell_of ROW5.out 5
    have q1 := cell_of ROW5.out 1
    have q2 := cell_of ROW5.out 2
    have q3 := cell_of ROW5.out 3
    have z1 := frozen_of_row _ _ 1 _ _ ROW5.out
    have z2 := frozen_of_row _ _ 2 _ _ ROW5.out
    have z3 := frozen_of_row _ _ 3 _ _ ROW5.out
    have hki : (kv : Int) < ((nsec bs : Nat) : Int) := by omega
    have hk0 : (0 : Int) ≤ (kv : Int) := by omega
    have SS := Lib.hid (And.intro s5 (And.intro s1 s6))
    have S7 := Lib.hid s7
    have HT := Lib.hid (And.intro ht hn)
    clear c0 c1 c2 c3 c4 c5 s1 s2 s3 s4 s5 s6 s7 ht hn hll hg HAB HR2 HS2 hb5 hgj
    go_wp2_with fail
    go_end0
    have row6 := row7_rec ROW5.out (.int .i64 l.k) (.int .u32 l.n) (.slice l.A l.m l.c)
    have F6 := ((F5.out.set ⟨j, 1, none⟩ rfl (.int .i64 l.k)).set ⟨j, 2, none⟩ rfl (.int .u32 l.n)).set ⟨j, 3, none⟩ rfl (.slice l.A l.m l.c)
    have o6 := own_row S7.out ROW.out F6
    obtain ⟨s5, s1, s6⟩ := SS.out
    rw [s5, s1, s6] at row6 F6 o6 ⊢
    refine ⟨rfl, ⟨⟨l.A, l.c, ?_, o6⟩, (FarS.of_below HB2.out (Nat.le_refl _)).trans F6⟩⟩
    rw [HT.out.2]
    exact row6
end Jou
end Go.Proofs.Ytkkbjngjjeajoaa

namespace Go.Proofs.Ytkkbjngjjeajoaa
namespace Jou
open Go.RowKit Mem Fla Rec Sec
set_option maxRecDepth 100000

/-- What the document's Append answers on a flash without a planned cut. -/
def ansG (s : Fl) (k : Int) (d : List UInt8) : Int :=
  if pre (tell s.bs) k d.length ≠ 0 then pre (tell s.bs) k d.length else match place s d.length with | none => 10 | some _ => 0

/-- What comes of an Append there. -/
structure Fresh (s : Fl) (k : Int) (d : List UInt8) (s' : Fl) (c : Int) : Prop where
  code : c = ansG s k d
  new : c = 0 → s'.on = true ∧ nsec s'.bs = nsec s.bs ∧ (newest s'.bs).isSome = true ∧ (tell s'.bs).k = k ∧ (tell s'.bs).n = (tell s.bs).n + 1 ∧ (tell s'.bs).d = d
  old : c ≠ 0 → s' = s

section
variable {s : Fl} {k : Int} {d : List UInt8}
theorem app_fresh (hon : s.on = true) (hpl : s.pl = false) (ha : 0 ≤ s.ahead) : Fresh s k d (app s k d).1 (app s k d).2 := by
  by_cases hp : pre (tell s.bs) k d.length = 0
  · obtain ⟨h1, h2, h3⟩ := pre_ok hp
    have happ := app_in hon hp
    cases e : place s d.length with
    | none =>
      have h0 : app s k d = (s, 10) := by rw [happ, e]
      rw [h0]
      refine ⟨?_, fun h => absurd h (by show ¬ (10 : Int) = 0; decide), fun _ => rfl⟩
      unfold ansG
      rw [if_neg (by simpa using hp), e]
    | some p =>
      have hpl' := place_spec e
      have hst : Step s (app s k d).1 (app s k d).2 p k d := by
        rw [happ, e]
        exact lay_step hpl' hon ha h1 h2
      have hc : (app s k d).2 = 0 := by
        rcases hst.out with h | h
        · exact h.1
        · rw [hpl] at h; exact absurd h.2.1 (by decide)
      refine ⟨?_, fun _ => ?_, fun h => absurd hc h⟩
      · rw [hc]
        unfold ansG
        rw [if_neg (by simpa using hp), e]
      · rcases hst.out with h | h
        · obtain ⟨n1, n2, n3, n4, n5⟩ := hst.new hpl' h.2.2.2.2
          exact ⟨h.2.1, hst.nsec, by rw [n1]; rfl, n3, n4, n5⟩
        · rw [hpl] at h; exact absurd h.2.1 (by decide)
  · rw [app_pre hon hp]
    refine ⟨?_, fun h => absurd h hp, fun _ => rfl⟩
    unfold ansG
    rw [if_pos hp]
end
end Jou
end Go.Proofs.Ytkkbjngjjeajoaa

namespace Go.Proofs.Ytkkbjngjjeajoaa
namespace Jou
open Go.RowKit Mem Fla Rec Sec
set_option linter.unusedVariables false
set_option linter.unusedSimpArgs false
set_option maxRecDepth 100000
section
variable {w W : World} {r j : Nat} {bs : List UInt8} {ws : List Int} {m o : Int} {AB AW : Option Addr} {cB cW : Nat}
theorem IsG.wear {i : Nat} (h : IsG W r bs ws m o AB cB AW cW) (hi : i < ws.length) : ∃ g, AW = some ⟨g, 0, none⟩ ∧ W.cell? ⟨g, i, none⟩ = some (.int .i64 (ws.getD i 0)) := by
  obtain ⟨g, off, hA, _, hc⟩ := ownI_rd0 h.ow (by omega)
  have := hc i hi
  rw [Nat.mul_zero, Nat.zero_add] at this
  exact ⟨g, hA, this⟩
set_option maxHeartbeats 1000000 in
theorem rgleft_any (i : Nat) (h : IsG w r bs ws m o AB cB AW cW) (hi : i < ws.length) (h8 : ws.length ≤ 8) (hv : 0 ≤ ws.getD i 0 ∧ ws.getD i 0 ≤ m) (m1 : m ≤ 1000000) :
    Calls Try.prog 83 #[at_ r, .int .i64 (i : Int)] w fun e w' => e = .returned (.int .i64 (m - ws.getD i 0)) ∧ Below w.heap.size w w' := by
  obtain ⟨g, rfl, hc⟩ := h.wear hi
  have c1 := h.c1
  have c2 := h.c2
  have hlt := cell_lt' hc
  have HC := Lib.hid (show ∀ W', Below w.heap.size w W' → W'.cell? ⟨g, i, none⟩ = some (.int .i64 (ws.getD i 0)) from fun W' b => (b.cell (p := ⟨g, i, none⟩) hlt).trans hc)
  have HG := Lib.hid (show ∀ W', Below w.heap.size w W' → W'.cell? ⟨r, 1, none⟩ = some (.slice (some ⟨g, 0, none⟩) ws.length cW) ∧ W'.cell? ⟨r, 2, none⟩ = some (.int .i64 m) from fun W' b => ⟨(h.below b (Nat.le_refl _)).c1, (h.below b (Nat.le_refl _)).c2⟩)
  have hi1 : (i : Int) < (ws.length : Int) := by omega
  have hi0 : (0 : Int) ≤ (i : Int) := by omega
  have hi8 : (ws.length : Int) ≤ 8 := by omega
  have hd1 : decide (ws.length ≤ i) = false := by simp; omega
  obtain ⟨v0, v1⟩ := hv
  generalize ws.getD i 0 = y at *
  have hm64 : IntKind.i64.wrap (m - y) = m - y := IntWalk.i64_in _ (by omega)
  clear h hc hlt
  go_enter Try.func83, Try.ntmps83
  go_wp2_with fail
  refine Txt.wp_region_textN 13 (fun W' => Below w.heap.size w W') (by kernel_rfl) (by kernel_rfl) (by kernel_rfl) (by kernel_rfl) (fun _ _ _ _ _ h => h) (Below.refl _ _).drew ?_
  clear c1 c2
  repeat (
    apply Txt.step rfl
    · intro W' hS K hK
      obtain ⟨c1, c2⟩ := HG.out _ hS
      have hc := HC.out _ hS
      go_simp
      first
        | exact hK.out _ hS
        | (go_wp2_with fail
           exact hK.out _ hS)
    · first | exact ⟨_, rfl⟩ | exact ⟨undef, rfl⟩)
  refine Txt.last fun W' hS => ?_
  have HS := Lib.hid hS
  clear hS
  go_wp2_with fail
  go_ret
  exact ⟨rfl, HS.out⟩
end

def plA : Option Pl → Int
  | none => -1
  | some p => ((p.t * 1024 + p.e : Nat) : Int)
def plE : Option Pl → Bool
  | none => false
  | some p => p.er
theorem newBs (bs : List UInt8) : (Fl.new bs 5).bs = bs := rfl
def plB (s : Fl) : Option Nat → Option Pl
  | none => none
  | some t => some ⟨t, 0, !unused s.bs t⟩
theorem begin_fresh (s : Fl) : begin_ s = plB s (nxtF (can s) s.wearAt (nsec s.bs)) := by
  unfold begin_ plB
  cases nxtF (can s) s.wearAt (nsec s.bs) <;> rfl
theorem place_begin {s : Fl} {n : Nat} (h : ∀ a, newest s.bs = some a → room s.bs a n = false) : place s n = begin_ s := by
  unfold place
  cases hn : newest s.bs with
  | none => rfl
  | some a => simp only [h a hn]; rfl
theorem place_room {s : Fl} {n a : Nat} (hn : newest s.bs = some a) (h : room s.bs a n = true) : place s n = some ⟨a, (lk s.bs a).e, false⟩ := by
  unfold place
  rw [hn]
  simp only [h]
  rfl
/-- What the document's Next says of what its looks say. -/
theorem rnext_fresh {W : World} {s : Fl} {ls : List Lv} {ws left : List Int} (hs : ∀ i, i < nsec s.bs → Says W (ls.getD i Lv.zero) (lk s.bs i) (clean (secOf s.bs i)))
    (hw : ∀ i, i < nsec s.bs → ws.getD i 0 = s.wearAt i) (hl : ∀ i, i < nsec s.bs → left.getD i 0 = s.left (i : Int)) : nxt ls ws left (nst ls (nsec s.bs)) (nsec s.bs) = nxtF (can s) s.wearAt (nsec s.bs) := by
  rw [nst_nstF (f := lk s.bs) _ fun i hi => ⟨(hs i hi).1, (hs i hi).2.1⟩]
  refine nxt_nxtF (can := can s) (w := s.wearAt) _ fun i hi => ⟨?_, hw i hi⟩
  unfold Sec.Can can unused
  rw [hl i hi, (hs i hi).2.1, (hs i hi).2.2.2.1]
  simp only [Bool.and_eq_true, Bool.or_eq_true, decide_eq_true_eq]
  constructor
  · rintro ⟨a1, a2 | a2⟩
    · exact ⟨a1, .inl ⟨by omega, a2.2⟩⟩
    · exact ⟨a1, .inr a2⟩
  · rintro ⟨a1, a2 | a2⟩
    · exact ⟨a1, .inl ⟨by omega, a2.2⟩⟩
    · exact ⟨a1, .inr a2⟩
section
variable {w W : World} {r j : Nat} {ws : List Int} {m o : Int} {AB AW : Option Addr} {cB cW : Nat}
set_option maxHeartbeats 2000000 in
theorem rplace_room (n a : Nat) (hn : n ≤ 960) {s : Fl} (h : IsG w r s.bs ws m o AB cB AW cW) (hN : ws.length = nsec s.bs) (hl : s.bs.length ≤ 8192) {A : Option Addr} {c : Nat} {t : Lk} (hj : JRow w j r t A c true a false)
    (hnw : newest s.bs = some a) (hrm : room s.bs a n = true) :
    Calls Try.prog 54 #[at_ j, .int .i64 (n : Int)] w fun e w' => e = .returned (.tuple #[.int .i64 (plA (place s n)), .bool (plE (place s n))]) ∧ Below w.heap.size w w' := by
  rw [place_room hnw hrm]
  have hk : a < nsec s.bs := by
    have := newest_spec s.bs
    rw [hnw] at this
    exact this.1
  have h8 : nsec s.bs ≤ 8 := by unfold nsec; omega
  have hrb := room_eq s.bs a n
  rw [hrm] at hrb
  have he : (lk s.bs a).e ≤ 1024 := by
    unfold room at hrm
    simp only [Bool.and_eq_true, decide_eq_true_eq] at hrm
    exact hrm.2.1
  have HL := Lib.hid (rlooks_any h hN hl)
  have HJ := Lib.hid hj
  have q0 := cell_of hj 0
  clear h hj hnw hrm hl
  unfold plA plE
  generalize nsec s.bs = N at *
  go_enter Try.func54, Try.ntmps54
  go_wp2_with fail
  refine HL.out.mono ?_
  rintro e1 w1 ⟨A1, cc, ls, rfl, hlen, hrl, hsay, b1, hab⟩
  obtain ⟨l, hll⟩ : ∃ l, ls.getD a Lv.zero = l := ⟨_, rfl⟩
  obtain ⟨g, off, rfl, hg, c0, c1, c2, c3, c4, c5⟩ := hrl.six (by rw [hlen]; exact hk) hll
  have hs := hsay a hk
  rw [hll] at hs
  obtain ⟨s1, s2, s3, s4, s5, s6, s7⟩ := hs
  have RM := Lib.hid (fun W => rroom_any l (n : Int) W (by omega) (by omega) (by rw [s3]; omega) (by rw [s3]; omega))
  rw [s4, s3, hrb] at RM
  have row := (b1.block j (Array.getElem?_eq_some_iff.1 HJ.out).1).trans HJ.out
  have CJ := Lib.hid (show ∀ W', Below w1.heap.size w1 W' → W'.cell? ⟨j, 4, none⟩ = some (.bool true) ∧ W'.cell? ⟨j, 5, none⟩ = some (.int .i64 (a : Int)) ∧ W'.cell? ⟨g, off + a * 6, none⟩ = some (.int .i64 l.k) ∧ W'.cell? ⟨g, off + a * 6 + 1, none⟩ = some (.int .u32 l.n) ∧
      W'.cell? ⟨g, off + a * 6 + 2, none⟩ = some (.slice l.A l.m l.c) ∧ W'.cell? ⟨g, off + a * 6 + 3, none⟩ = some (.int .i64 l.cnt) ∧ W'.cell? ⟨g, off + a * 6 + 4, none⟩ = some (.int .i64 l.e) ∧ W'.cell? ⟨g, off + a * 6 + 5, none⟩ = some (.bool l.cl) from
    fun W' b => ⟨(b.cell (p := ⟨j, 4, none⟩) (Array.getElem?_eq_some_iff.1 row).1).trans (cell_of row 4), (b.cell (p := ⟨j, 5, none⟩) (Array.getElem?_eq_some_iff.1 row).1).trans (cell_of row 5),
      (b.cell (p := ⟨g, off + a * 6, none⟩) hg).trans c0, (b.cell (p := ⟨g, off + a * 6 + 1, none⟩) hg).trans c1, (b.cell (p := ⟨g, off + a * 6 + 2, none⟩) hg).trans c2, (b.cell (p := ⟨g, off + a * 6 + 3, none⟩) hg).trans c3, (b.cell (p := ⟨g, off + a * 6 + 4, none⟩) hg).trans c4, (b.cell (p := ⟨g, off + a * 6 + 5, none⟩) hg).trans c5⟩)
  have hki : (a : Int) < (N : Int) := by omega
  have hk0 : (0 : Int) ≤ (a : Int) := by omega
  have hk8 : (a : Int) ≤ 8 := by omega
  have E3 := Lib.hid s3
  have e0 : 0 ≤ l.e := by omega
  have e1 : l.e ≤ 1024 := by omega
  have HB := Lib.hid b1
  clear hrl hab c0 c1 c2 c3 c4 c5 s1 s2 s3 s4 s5 s6 s7 hsay hll hg hlen b1 row q0 HL HJ hrb
  obtain ⟨q4, q5, c0, c1, c2, c3, c4, c5⟩ := CJ.out _ (Below.refl _ _)
  go_wp2_with fail
  refine (RM.out _).mono ?_
  rintro e w2 ⟨rfl, b2⟩
  clear q4 q5 c0 c1 c2 c3 c4 c5
  obtain ⟨q4, q5, c0, c1, c2, c3, c4, c5⟩ := CJ.out _ b2
  have HB2 := Lib.hid (HB.out.trans (b2.mono HB.out.size))
  clear b2 CJ
  go_wp2_with fail
  refine Txt.wp_region_textN 16 (fun W' => W'.cell? ⟨j, 5, none⟩ = some (.int .i64 (a : Int)) ∧ W'.cell? ⟨g, off + a * 6 + 4, none⟩ = some (.int .i64 l.e) ∧ Below w.heap.size w W') (by kernel_rfl) (by kernel_rfl) (by kernel_rfl) (by kernel_rfl) (fun _ _ _ _ _ h => h) ⟨q5, c4, HB2.out.drew⟩ ?_
  clear q4 q5 c0 c1 c2 c3 c4 c5 HB2 HB
  repeat (
    apply Txt.step rfl
    · intro W' hS K hK
      obtain ⟨q5, c4, hb⟩ := hS
      have HS := Lib.hid (And.intro q5 (And.intro c4 hb))
      clear hb
      go_simp
      first
        | exact hK.out _ HS.out
        | (go_wp2_with fail
           exact hK.out _ HS.out)
    · first | exact ⟨_, rfl⟩ | exact ⟨undef, rfl⟩)
  refine Txt.last fun W' hS => ?_
  have HS := Lib.hid hS.2.2
  clear hS
  go_wp2_with fail
  go_ret2
  refine ⟨?_, HS.out⟩
  rw [E3.out]
  have w1 : IntKind.i64.wrap ((a : Int) * 1024) = (a : Int) * 1024 := IntWalk.i64_in _ (by omega)
  have w2 : IntKind.i64.wrap ((a : Int) * 1024 + ((lk s.bs a).e : Int)) = (a : Int) * 1024 + ((lk s.bs a).e : Int) := IntWalk.i64_in _ (by omega)
  simp [w1, w2]

theorem lk_e_le (bs : List UInt8) (a : Nat) : (lk bs a).e ≤ 1024 := by
  have h := (look_e (secOf bs a)).1
  have h2 : (secOf bs a).length ≤ 1024 := by simp [secOf]; omega
  unfold lk
  omega
def lefts (ws : List Int) (m : Int) (k : Nat) : List Int := (List.range k).map fun i => m - ws.getD i 0
theorem lefts_len (ws : List Int) (m : Int) (k : Nat) : (lefts ws m k).length = k := by simp [lefts]
theorem lefts_succ (ws : List Int) (m : Int) (k : Nat) : lefts ws m (k + 1) = lefts ws m k ++ [m - ws.getD k 0] := by simp [lefts, List.range_succ]
theorem lefts_get (ws : List Int) (m : Int) {k i : Nat} (h : i < k) : (lefts ws m k).getD i 0 = m - ws.getD i 0 := by simp [lefts, List.getD_eq_getElem?_getD, h]
theorem rdl_mono {W : World} {B B' : Nat} {A : Option Addr} {ls : List Lv} (h : RdL W B A ls) (hB : B ≤ B') : RdL W B' A ls := by
  rcases h with h | ⟨g, off, e, hg, hc⟩
  · exact .inl h
  · exact .inr ⟨g, off, e, by omega, hc⟩
/-- The frame, the looks and the journal that place holds on to. -/
structure PS (w W : World) (j r : Nat) (hs : Bool) (sc : Nat) (A1 : Option Addr) (ls : List Lv) : Prop where
  b : Below w.heap.size w W
  lt : j < W.heap.size
  c0 : W.cell? ⟨j, 0, none⟩ = some (at_ r)
  c4 : W.cell? ⟨j, 4, none⟩ = some (.bool hs)
  c5 : W.cell? ⟨j, 5, none⟩ = some (.int .i64 (sc : Int))
  rl : RdL W W.heap.size A1 ls
theorem PS.next {w W W' : World} {j r sc : Nat} {hs : Bool} {A1 : Option Addr} {ls : List Lv} (h : PS w W j r hs sc A1 ls) (k : Below W.heap.size W W') : PS w W' j r hs sc A1 ls :=
  ⟨h.b.trans (k.mono h.b.size), Nat.lt_of_lt_of_le h.lt k.size, (k.cell (p := ⟨j, 0, none⟩) h.lt).trans h.c0, (k.cell (p := ⟨j, 4, none⟩) h.lt).trans h.c4, (k.cell (p := ⟨j, 5, none⟩) h.lt).trans h.c5, rdl_mono (h.rl.below k) k.size⟩
set_option maxHeartbeats 2000000 in
theorem rplace_next (n : Nat) (hn : n ≤ 960) {s : Fl} (h : IsG w r s.bs ws m o AB cB AW cW) (hN : ws.length = nsec s.bs) (hl : s.bs.length ≤ 8192) {A : Option Addr} {c : Nat} {t : Lk} (hj : JRow w j r t A c (newest s.bs).isSome ((newest s.bs).getD 0) false)
    (hno : ∀ a, newest s.bs = some a → room s.bs a n = false) (hw : ∀ i, i < nsec s.bs → ws.getD i 0 = s.wearAt i) (hlf : ∀ i, i < nsec s.bs → m - ws.getD i 0 = s.left (i : Int)) (hv : ∀ i, i < nsec s.bs → 0 ≤ ws.getD i 0 ∧ ws.getD i 0 ≤ m) (m1 : m ≤ 1000000) :
    Calls Try.prog 54 #[at_ j, .int .i64 (n : Int)] w fun e w' => e = .returned (.tuple #[.int .i64 (plA (place s n)), .bool (plE (place s n))]) ∧ Below w.heap.size w w' := by
  rw [place_begin hno, begin_fresh]
  obtain ⟨i1, hj1, hy0, hy1, hy2⟩ := info_parts info_int
  have hj1 := Lib.hid hj1
  have hy0 := Lib.hid hy0
  have hy1 := Lib.hid hy1
  have hy2 := Lib.hid hy2
  have h8 : nsec s.bs ≤ 8 := by unfold nsec; omega
  have HG := Lib.hid h
  have HL := Lib.hid (rlooks_any h hN hl)
  have HJ := Lib.hid hj
  have q0 := cell_of hj 0
  have HNO := Lib.hid (fun a (ha : newest s.bs = some a) => (room_eq s.bs a n).trans (hno a ha))
  have HW := Lib.hid hw
  have HLF := Lib.hid hlf
  have HV := Lib.hid hv
  have HSP := Lib.hid (newest_spec s.bs)
  clear h hj hl hno hw hlf hv
  go_enter Try.func54, Try.ntmps54
  go_wp2_with fail
  refine HL.out.mono ?_
  rintro e1 w1 ⟨A1, cc, ls, rfl, hlen, hrl, hsay, b1, hab⟩
  have S1 := Lib.hid (show PS w w1 j r (newest s.bs).isSome ((newest s.bs).getD 0) A1 ls from
    have hrow := (b1.block j (Array.getElem?_eq_some_iff.1 HJ.out).1).trans HJ.out
    ⟨b1, (Array.getElem?_eq_some_iff.1 hrow).1, cell_of hrow 0, cell_of hrow 4, cell_of hrow 5, hrl⟩)
  have HLEN := Lib.hid hlen
  have NX := Lib.hid (fun left hl => rnext_fresh (s := s) (W := w1) (ls := ls) (ws := ws) (left := left) hsay HW.out hl)
  have SAY := Lib.hid hsay
  clear hrl hsay b1 hab q0 hlen
  rename_i Q0 K1 h1 K2 h2
  have H1 := Lib.hid h1
  clear h1
  go_wp2_with fail
  refine H1.out _ _ ?_
  apply wp_seq_k; intro K3 hK3; have H3 := Lib.hid hK3; clear hK3 H1
  have hcase : newest s.bs = none ∨ ∃ a, newest s.bs = some a := by
    cases newest s.bs with
    | none => exact .inl rfl
    | some a => exact .inr ⟨a, rfl⟩
  rcases hcase with hnw | ⟨a, hnw⟩
  focus
    have q4 : w1.cell? ⟨j, 4, none⟩ = some (.bool (newest s.bs).isSome) := S1.out.c4
    rw [hnw] at q4
    simp only [Option.isSome_none] at q4
    have hnw' := Lib.hid hnw
    clear hnw
    go_wp2_with fail
    have SW := Lib.hid S1.out
    clear q4 hnw' S1
    generalize w1 = W at *
  rotate_left
  focus
    have hk : a < nsec s.bs := by
      have := HSP.out
      rw [hnw] at this
      exact this.1
    have q4 : w1.cell? ⟨j, 4, none⟩ = some (.bool (newest s.bs).isSome) := S1.out.c4
    have q5 : w1.cell? ⟨j, 5, none⟩ = some (.int .i64 (((newest s.bs).getD 0 : Nat) : Int)) := S1.out.c5
    rw [hnw] at q4 q5
    simp only [Option.isSome_some, Option.getD_some] at q4 q5
    have hrb := HNO.out a hnw
    obtain ⟨l, hll⟩ : ∃ l, ls.getD a Lv.zero = l := ⟨_, rfl⟩
    obtain ⟨g, off, rfl, hg, c0, c1, c2, c3, c4, c5⟩ := S1.out.rl.six (by rw [HLEN.out]; exact hk) hll
    have hs := SAY.out a hk
    rw [hll] at hs
    obtain ⟨s1, s2, s3, s4, s5, s6, s7⟩ := hs
    have hb3 := lk_e_le s.bs a
    have RM := Lib.hid (fun W => rroom_any l (n : Int) W (by omega) (by omega) (by rw [s3]; omega) (by rw [s3]; omega))
    rw [s4, s3, hrb] at RM
    have hki : (a : Int) < ((nsec s.bs : Nat) : Int) := by omega
    have hk0 : (0 : Int) ≤ (a : Int) := by omega
    clear s1 s2 s3 s4 s5 s6 s7 hrb hll hg hnw hk hb3
    go_wp2_with fail
    refine (RM.out _).mono ?_
    rintro e w2 ⟨rfl, b2⟩
    have SW := Lib.hid (S1.out.next b2)
    clear q4 q5 c0 c1 c2 c3 c4 c5 b2 S1 RM
    go_wp2_with fail
    generalize (some (⟨g, off, none⟩ : Addr)) = A1 at *
    generalize w2 = W at *
  rotate_left
  all_goals
    refine H3.out _ _ ?_
    clear H3
    go_wp2_with fail
    go_loopw [7, 8] (fun v i wr => ∃ k : Nat, k ≤ nsec s.bs ∧ i = .int .i64 (k : Int) ∧ OwnI .i64 wr W.heap.size 3 v (lefts ws m k) ∧ Below W.heap.size W wr) (fun _ i _ => nsec s.bs - (intOf i).toNat)
    case atStart => exact ⟨0, by omega, rfl, World.ownsRow_nil _ _ _ _, Below.refl _ _⟩
    case round =>
      obtain ⟨k, hk, rfl, hown, hb⟩ := hrel
      obtain ⟨Al, cl, rfl, hrd⟩ := hown.form
      rw [lefts_len]
      have S := Lib.hid (SW.out.next hb)
      have c0 := S.out.c0
      by_cases hlt : k < nsec s.bs
      · have LE := Lib.hid (rgleft_any k (HG.out.below S.out.b (Nat.le_refl _)) (by omega) (by omega) (HV.out k hlt) m1)
        have HO := Lib.hid hown
        have HB := Lib.hid hb
        have hki : (k : Int) < ((nsec s.bs : Nat) : Int) := by omega
        have hle := lefts_len ws m k
        have hls := lefts_succ ws m k
        generalize ws.getD k 0 = y at LE hls
        clear hown hb hrd
        go_wp2_with fail
        refine LE.out.mono ?_
        rintro e w3 ⟨rfl, b3⟩
        have B3 := Lib.hid (HB.out.trans (b3.mono HB.out.size))
        have O3 := Lib.hid (show OwnI .i64 w3 W.heap.size 3 (.slice Al (lefts ws m k).length cl) (lefts ws m k) from ownsRow_below HO.out b3 (Nat.le_refl _))
        have hb3 := B3.out.size
        clear b3 HO HB c0 LE
        go_wp2_with (at_builtin; go_loud (refine wpList_appI _ .i64 rfl (.tmp 51) (.tmp 58) 73 rfl W.heap.size 3 i1 8 Try.underlying73 hj1.out hy0.out hy1.out hy2.out (by omega) _ (lefts ws m k) (by rw [hle]; rfl) (O3.out.alloc _) (some ⟨w3.heap.size, 0, none⟩) 1 1 [m - y] rfl rfl (w3.heap.size + 1) (RdI.new1 _ _ _ _) (by simp; omega) (by simp; omega) ?_); intro v' w' own' gr')
        have B5 := Lib.hid ((B3.out.alloc hb3 _).grown gr' (by simp; omega) (fun g hg => (ownI_at O3.out hg).1))
        rw [← hls] at own'
        have O5 := Lib.hid own'
        clear own' gr' O3 B3
        go_wp2_with fail
        go_roundw
        case rel => exact ⟨k + 1, by omega, by go_num, O5.out, B5.out⟩
        case measure => simp [intOf]; omega
      · obtain rfl : k = nsec s.bs := by omega
        have G := HG.out.below S.out.b (Nat.le_refl _)
        have c1 := G.c1
        have hwr : RdI .i64 wr wr.heap.size AW ws := by
          obtain ⟨Aw', cw', hv', hr'⟩ := G.ow.form
          injection hv' with e1
          rw [e1]
          exact hr'
        have NXT := Lib.hid (rnext_any A1 AW Al cc cW cl ls ws (lefts ws m (nsec s.bs)) wr S.out.rl (by rw [HLEN.out]; omega) hwr hrd (by omega) (by rw [lefts_len]; omega))
        rw [lefts_len, HLEN.out, NX.out _ (fun i hi => (lefts_get ws m hi).trans (HLF.out i hi)), hN] at NXT
        rw [hN] at c1
        have hB := Lib.hid hb
        clear hown hb hrd G hwr SW HG HL
        go_wp2_with fail
        refine NXT.out.mono ?_
        rintro e w3 ⟨rfl, b3⟩
        have S3 := Lib.hid (S.out.next b3)
        clear b3 c0 c1 NXT S
        have HSPEC := nxtF_spec (can s) s.wearAt (nsec s.bs)
        cases hnx : nxtF (can s) s.wearAt (nsec s.bs) with
        | none =>
          simp only [Option.getD_none, Option.isSome_none]
          have HNX := Lib.hid hnx
          clear hnx HSPEC
          go_wp2_with fail
          go_ret2
          refine ⟨?_, S3.out.b⟩
          rw [HNX.out]
          rfl
        | some t' =>
          have ht := (HSPEC.2 t' hnx).1
          simp only [Option.getD_some, Option.isSome_some]
          obtain ⟨l, hll⟩ : ∃ l, ls.getD t' Lv.zero = l := ⟨_, rfl⟩
          obtain ⟨g, off, rfl, hg, d0, d1, d2, d3, d4, d5⟩ := S3.out.rl.six (by rw [HLEN.out]; exact ht) hll
          have hs := SAY.out t' ht
          rw [hll] at hs
          obtain ⟨s1, s2, s3, s4, s5, s6, s7⟩ := hs
          have U := Lib.hid (show (plB s (some t')) = some ⟨t', 0, !(decide ((lk s.bs t').cnt = 0) && clean (secOf s.bs t'))⟩ from rfl)
          have HC := Lib.hid (And.intro s2 s4)
          have HNX := Lib.hid hnx
          have hki : (t' : Int) < ((nsec s.bs : Nat) : Int) := by omega
          have hk0 : (0 : Int) ≤ (t' : Int) := by omega
          have hk8 : (t' : Int) ≤ 8 := by omega
          have HB := Lib.hid S3.out.b
          have hc0 : 0 ≤ l.cnt := by omega
          clear s1 s2 s3 s4 s5 s6 s7 d0 d1 d2 d4 hll hg ht HSPEC S3 hnx
          obtain ⟨cn, hcn⟩ : ∃ cn, l.cnt = cn := ⟨_, rfl⟩
          obtain ⟨cl', hcl⟩ : ∃ cl', l.cl = cl' := ⟨_, rfl⟩
          rw [hcn] at d3 HC hc0
          rw [hcl] at d5 HC
          clear hcn hcl
          go_wp2_with fail
          refine Txt.wp_region_textN 18 (fun W' => W'.cell? ⟨g, off + t' * 6 + 3, none⟩ = some (.int .i64 cn) ∧ W'.cell? ⟨g, off + t' * 6 + 5, none⟩ = some (.bool cl') ∧ Below w.heap.size w W') (by kernel_rfl) (by kernel_rfl) (by kernel_rfl) (by kernel_rfl) (fun _ _ _ _ _ h => h) ⟨d3, d5, HB.out.drew⟩ ?_
          clear d3 d5 HB
          by_cases hz : 0 < cn
          focus
            have hdec : decide (0 < cn) = true := decide_eq_true hz
            repeat (
              apply Txt.step rfl
              · intro W' hS K hK
                obtain ⟨d3, d5, hb⟩ := hS
                have HS := Lib.hid (And.intro d3 (And.intro d5 hb))
                clear hb
                go_simp
                first
                  | exact hK.out _ HS.out
                  | (go_wp2_with fail
                     exact hK.out _ HS.out)
              · first | exact ⟨_, rfl⟩ | exact ⟨undef, rfl⟩)
            refine Txt.last fun W' hS => ?_
            have HS := Lib.hid hS.2.2
            clear hS
            go_wp2_with fail
            go_ret2
            refine ⟨?_, HS.out⟩
            rw [HNX.out, U.out, ← HC.out.2]
            have h1 : (lk s.bs t').cnt ≠ 0 := by have := HC.out.1; omega
            have w1 : IntKind.i64.wrap ((t' : Int) * 1024) = (t' : Int) * 1024 := IntWalk.i64_in _ (by omega)
            simp [plA, plE, h1, w1]
          focus
            have hz0 : cn = 0 := by omega
            subst hz0
            clear hz hc0
            repeat (
              apply Txt.step rfl
              · intro W' hS K hK
                obtain ⟨d3, d5, hb⟩ := hS
                have HS := Lib.hid (And.intro d3 (And.intro d5 hb))
                clear hb
                go_simp
                first
                  | exact hK.out _ HS.out
                  | (go_wp2_with fail
                     exact hK.out _ HS.out)
              · first | exact ⟨_, rfl⟩ | exact ⟨undef, rfl⟩)
            refine Txt.last fun W' hS => ?_
            have HS := Lib.hid hS.2.2
            clear hS
            go_wp2_with fail
            go_ret2
            refine ⟨?_, HS.out⟩
            rw [HNX.out, U.out, ← HC.out.2]
            have h1 : (lk s.bs t').cnt = 0 := by have := HC.out.1; omega
            have w1 : IntKind.i64.wrap ((t' : Int) * 1024) = (t' : Int) * 1024 := IntWalk.i64_in _ (by omega)
            simp [plA, plE, h1, w1]
end
end Jou
end Go.Proofs.Ytkkbjngjjeajoaa

namespace Go.Proofs.Ytkkbjngjjeajoaa
namespace Jou
open Go.RowKit Mem Fla Rec Sec
set_option linter.unusedVariables false
set_option linter.unusedSimpArgs false
set_option maxRecDepth 100000
section
variable {w W w' : World} {r j : Nat} {bs : List UInt8} {ws : List Int} {m o : Int} {AB AW : Option Addr} {cB cW : Nat}
/-- The flash's blocks are there. -/
theorem IsG.gx (h : IsG W r bs ws m o AB cB AW cW) (hb : 0 < bs.length) (hw : 0 < ws.length) {k : Nat} (hk : GX r AB AW k) : k < W.heap.size := by
  rcases hk with rfl | ⟨a, ha, rfl⟩ | ⟨a, ha, rfl⟩
  · exact h.lt
  · obtain ⟨gB, cap, hv, _, hgs, _⟩ := h.ob.some_ hb
    injection hv with hA
    rw [hA] at ha
    injection ha with ha
    subst ha
    exact hgs
  · obtain ⟨g, hA, hc⟩ := h.wear (i := 0) hw
    rw [hA] at ha
    injection ha with ha
    subst ha
    exact cell_lt' hc
theorem IsG.gx_ge (h : IsG W r bs ws m o AB cB AW cW) (hb : 0 < bs.length) (hw : 0 < ws.length) {k : Nat} (hk : GX r AB AW k) : r ≤ k := by
  rcases hk with rfl | ⟨a, ha, rfl⟩ | ⟨a, ha, rfl⟩
  · omega
  · obtain ⟨gB, cap, hv, hge, hgs, _⟩ := h.ob.some_ hb
    injection hv with hA
    rw [hA] at ha
    injection ha with ha
    subst ha
    show r ≤ gB
    omega
  · obtain ⟨g, off, hA, hge, hc⟩ := ownI_rd0 h.ow hw
    rw [hA] at ha
    injection ha with ha
    subst ha
    show r ≤ g
    omega
theorem JRow.far {X : Nat → Prop} {t : Lk} {A : Option Addr} {c sec : Nat} {has dead : Bool} (h : JRow W j r t A c has sec dead) (hf : FarS X W w') (hx : ¬ X j) : JRow w' j r t A c has sec dead :=
  (hf.block j (Array.getElem?_eq_some_iff.1 h).1 hx).trans h

def OpenTo (w : World) (r : Nat) (bs : List UInt8) (e : Ending) (w' : World) : Prop :=
  ∃ A c, e = .returned (.tuple #[at_ w.heap.size, .int .i64 0]) ∧ JRow w' w.heap.size r (tell bs) A c (newest bs).isSome ((newest bs).getD 0) false ∧ Own w' 0 E (.slice A (tell bs).d.length c) (tell bs).d ∧ Below w.heap.size w w'
set_option maxHeartbeats 1000000 in
theorem ropen_few (h : IsG w r bs ws m o AB cB AW cW) (hN : ws.length < 3) :
    Calls Try.prog 45 #[at_ r] w fun e w' => e = .returned (.tuple #[at_ w.heap.size, .int .i64 9]) ∧ Below w.heap.size w w' := by
  have HB := Lib.hid (below1 w (.cells #[at_ r, .int .i64 0, .int .u32 0, .slice none 0 0, .bool false, .int .i64 0, .bool true] RJT))
  have G := h.below HB.out (Nat.le_refl _)
  have c1 := G.c1
  have c3 := G.c3
  have hd : decide (ws.length < 3) = true := by simpa using hN
  have row := heap_alloc_new w (.cells #[at_ r, .int .i64 0, .int .u32 0, .slice none 0 0, .bool false, .int .i64 0, .bool true] RJT)
  have q0 := cell_of row 0
  clear h G
  unfold RJT at *
  go_enter Try.func45, Try.ntmps45
  go_wp2_with fail
  go_ret2
  exact ⟨rfl, HB.out⟩
set_option maxHeartbeats 1000000 in
theorem ropen_ok (h : IsG w r bs ws m o AB cB AW cW) (hN : ws.length = nsec bs) (hl : bs.length ≤ 8192) (h3 : 3 ≤ nsec bs) :
    Calls Try.prog 45 #[at_ r] w (OpenTo w r bs) := by
  have HB := Lib.hid (below1 w (.cells #[at_ r, .int .i64 0, .int .u32 0, .slice none 0 0, .bool false, .int .i64 0, .bool true] RJT))
  have G := h.below HB.out (Nat.le_refl _)
  have GG := Lib.hid G
  have c1 := G.c1
  have c3 := G.c3
  have hd : decide (ws.length < 3) = false := by simp; omega
  have row := heap_alloc_new w (.cells #[at_ r, .int .i64 0, .int .u32 0, .slice none 0 0, .bool false, .int .i64 0, .bool true] RJT)
  have ROW := Lib.hid row
  have q0 := cell_of row 0
  have q6 := cell_of row 6
  have z6 := frozen_of_row _ _ 6 _ _ row
  have TT := Lib.hid (fun (W : World) (g : IsG W r bs ws m o AB cB AW cW) a b c d e hj => rtell_any (j := w.heap.size) (a := a) (b := b) (c := c) (d := d) (e := e) (dead := false) g hN hl hj)
  have H := Lib.hid h
  clear h G row
  unfold RJT at *
  go_enter Try.func45, Try.ntmps45
  go_wp2_with fail
  have row2 := heap_alloc_new w (.cells #[at_ r, .int .i64 0, .int .u32 0, .slice none 0 0, .bool false, .int .i64 0, .bool false] 79)
  have B2 := below1 w (.cells #[at_ r, .int .i64 0, .int .u32 0, .slice none 0 0, .bool false, .int .i64 0, .bool false] 79)
  refine (TT.out _ (H.out.below B2 (Nat.le_refl _)) _ _ _ _ _ row2).mono ?_
  rintro e w2 ⟨rfl, ⟨⟨A, c, hrow, own⟩, far⟩⟩
  have B3 := B2.trans (far.below (B := w.heap.size) (by simp) (fun k hk => Nat.le_of_eq hk.symm))
  have S := Lib.hid (And.intro hrow (And.intro own B3))
  clear row2 B2 far hrow own B3
  go_wp2_with fail
  go_ret2
  exact ⟨A, c, rfl, S.out.1, S.out.2.1, S.out.2.2⟩

/-- What the document's Append may change. -/
def RX (j r : Nat) (AB AW : Option Addr) (k : Nat) : Prop := k = j ∨ GX r AB AW k
/-- The flash and the journal behind it, as the document's Append wants them. -/
structure RA (w : World) (s : Fl) (ws : List Int) (m o : Int) (j r : Nat) (AB : Option Addr) (cB : Nat) (AW : Option Addr) (cW : Nat) : Prop where
  g : IsG w r s.bs ws m o AB cB AW cW
  row : ∃ A c, JRow w j r (tell s.bs) A c (newest s.bs).isSome ((newest s.bs).getD 0) false
  N : ws.length = nsec s.bs
  l : s.bs.length ≤ 8192
  b1 : 0 < s.bs.length
  sec : s.bs.length % 1024 = 0
  w : ∀ i, i < nsec s.bs → ws.getD i 0 = s.wearAt i
  lf : ∀ i, i < nsec s.bs → m - ws.getD i 0 = s.left (i : Int)
  v : ∀ i, i < nsec s.bs → 0 ≤ ws.getD i 0 ∧ ws.getD i 0 ≤ m
  m1 : m ≤ 1000
  o0 : 0 ≤ o
  o1 : o ≤ 1000
  jx : ¬ GX r AB AW j
theorem RA.below {s : Fl} (h : RA w s ws m o j r AB cB AW cW) (b : Below w.heap.size w W) : RA W s ws m o j r AB cB AW cW := by
  obtain ⟨A, c, hr⟩ := h.row
  exact { h with g := h.g.below b (Nat.le_refl _), row := ⟨A, c, (b.block j (Array.getElem?_eq_some_iff.1 hr).1).trans hr⟩ }
theorem RA.place {s : Fl} (h : RA w s ws m o j r AB cB AW cW) (n : Nat) (hn : n ≤ 960) :
    Calls Try.prog 54 #[at_ j, .int .i64 (n : Int)] w fun e w' => e = .returned (.tuple #[.int .i64 (plA (place s n)), .bool (plE (place s n))]) ∧ Below w.heap.size w w' := by
  obtain ⟨A, c, hr⟩ := h.row
  cases hnw : newest s.bs with
  | none => exact rplace_next n hn h.g h.N h.l hr (fun a ha => by rw [hnw] at ha; cases ha) h.w h.lf h.v (by have := h.m1; omega)
  | some a =>
    cases hrm : room s.bs a n with
    | true =>
      rw [hnw] at hr
      exact rplace_room n a hn h.g h.N h.l hr hnw hrm
    | false => exact rplace_next n hn h.g h.N h.l hr (fun a' ha => by rw [hnw] at ha; cases ha; exact hrm) h.w h.lf h.v (by have := h.m1; omega)
set_option maxHeartbeats 1000000 in
theorem rapp_full {s : Fl} (k : Int) (A : Option Addr) (cc : Nat) (d : List UInt8) (h : RA w s ws m o j r AB cB AW cW) (hf : (tell s.bs).n = 4294967295) :
    Calls Try.prog 17 #[at_ j, .int .i64 k, .slice A d.length cc] w fun e w' => e = .returned (.int .i64 (ansG s k d)) ∧ FarS (RX j r AB AW) w w' := by
  have e1 : ansG s k d = 6 := by unfold ansG pre; simp [hf]
  rw [e1]
  obtain ⟨A0, c0, hr⟩ := h.row
  have q0 := cell_of hr 0
  have q2 := cell_of hr 2
  have q6 := cell_of hr 6
  have c3 := h.g.c3
  rw [hf] at q2
  clear h e1 hr hf
  go_enter Try.func17, Try.ntmps17
  go_wp2_with fail
  go_ret
  exact ⟨rfl, FarS.refl _ _⟩
end
end Jou
end Go.Proofs.Ytkkbjngjjeajoaa

namespace Go.Proofs.Ytkkbjngjjeajoaa
namespace Jou
open Go.RowKit Mem Fla Rec Sec
set_option linter.unusedVariables false
set_option linter.unusedSimpArgs false
set_option maxRecDepth 100000
section
variable {w W w' : World} {r j : Nat} {ws : List Int} {m o : Int} {AB AW : Option Addr} {cB cW : Nat} {s : Fl}
theorem ansG_bad {k : Int} {d : List UInt8} (hf : (tell s.bs).n ≠ 4294967295) (he : err k ((tell s.bs).n + 1) d.length ≠ 0) : ansG s k d = err k ((tell s.bs).n + 1) d.length := by
  unfold ansG pre
  rw [if_neg hf, if_pos he]
theorem ansG_none {k : Int} {d : List UInt8} (hf : (tell s.bs).n ≠ 4294967295) (he : err k ((tell s.bs).n + 1) d.length = 0) (hp : place s d.length = none) : ansG s k d = 10 := by
  unfold ansG pre
  rw [if_neg hf, if_neg (fun h => h he), hp]
theorem ansG_some {k : Int} {d : List UInt8} (hf : (tell s.bs).n ≠ 4294967295) (he : err k ((tell s.bs).n + 1) d.length = 0) {p : Pl} (hp : place s d.length = some p) : ansG s k d = 0 := by
  unfold ansG pre
  rw [if_neg hf, if_neg (fun h => h he), hp]
set_option maxHeartbeats 1000000 in
theorem rapp_bad (k : Int) (A : Option Addr) (cc : Nat) (d : List UInt8) (k1 : -9223372036854775808 ≤ k) (k2 : k ≤ 9223372036854775807) (hl : d.length ≤ 140737488355328) (h : RA w s ws m o j r AB cB AW cW) (hf : (tell s.bs).n ≠ 4294967295) (he : err k ((tell s.bs).n + 1) d.length ≠ 0) :
    Calls Try.prog 17 #[at_ j, .int .i64 k, .slice A d.length cc] w fun e w' => e = .returned (.int .i64 (ansG s k d)) ∧ FarS (RX j r AB AW) w w' := by
  rw [ansG_bad hf he]
  obtain ⟨A0, c0, hr⟩ := h.row
  have hbd := (tell_bd s.bs).1
  have NO := Lib.hid (fun W => rbuild_no k ((tell s.bs).n + 1) A cc d W k1 k2 (by omega) (by omega) hl he)
  have q0 := cell_of hr 0
  have q2 := cell_of hr 2
  have q6 := cell_of hr 6
  have c3 := h.g.c3
  have he' : (err k ((tell s.bs).n + 1) d.length != 0) = true := by simpa using he
  clear h hr he
  generalize err k ((tell s.bs).n + 1) d.length = E at *
  generalize (tell s.bs).n = n at *
  have hn1 : IntKind.u32.wrap (n + 1) = n + 1 := IntWalk.u32_in _ (by omega)
  have hf' : (n == 4294967295) = false := by simpa using hf
  go_enter Try.func17, Try.ntmps17
  go_wp2_with fail
  refine (NO.out _).mono ?_
  rintro e w1 ⟨rfl, b1⟩
  have B1 := Lib.hid b1
  clear b1 q0 q2 q6 c3
  go_wp2_with fail
  go_ret
  exact ⟨rfl, FarS.of_below B1.out (Nat.le_refl _)⟩
set_option maxHeartbeats 1000000 in
theorem rapp_none (k : Int) (A : Option Addr) (cc : Nat) (d : List UInt8) (k1 : -9223372036854775808 ≤ k) (k2 : k ≤ 9223372036854775807) (hd : Rd w w.heap.size A d) (hl : d.length ≤ 140737488355328) (h : RA w s ws m o j r AB cB AW cW) (hf : (tell s.bs).n ≠ 4294967295) (he : err k ((tell s.bs).n + 1) d.length = 0) (hp : place s d.length = none) :
    Calls Try.prog 17 #[at_ j, .int .i64 k, .slice A d.length cc] w fun e w' => e = .returned (.int .i64 (ansG s k d)) ∧ FarS (RX j r AB AW) w w' := by
  rw [ansG_none hf he hp]
  obtain ⟨A0, c0, hr⟩ := h.row
  have hbd := (tell_bd s.bs).1
  have hd960 := (err_ok he).2.2
  have OK := Lib.hid (rbuild_ok k ((tell s.bs).n + 1) A cc d w hd k1 k2 (by omega) (by omega) hl he)
  have HR := Lib.hid h
  have PL := Lib.hid (fun (W : World) (b : Below w.heap.size w W) => (h.below b).place d.length hd960)
  rw [hp] at PL
  have q0 := cell_of hr 0
  have q2 := cell_of hr 2
  have q6 := cell_of hr 6
  have c3 := h.g.c3
  clear h hr he hp
  generalize build k ((tell s.bs).n + 1) d = bd at *
  generalize (tell s.bs).n = n at *
  have hn1 : IntKind.u32.wrap (n + 1) = n + 1 := IntWalk.u32_in _ (by omega)
  have hf' : (n == 4294967295) = false := by simpa using hf
  go_enter Try.func17, Try.ntmps17
  go_wp2_with fail
  refine OK.out.mono ?_
  rintro e w1 ⟨v1, rfl, o1, b1⟩
  have B1 := Lib.hid b1
  clear b1 q0 q2 q6 c3
  go_wp2_with fail
  refine (PL.out _ B1.out).mono ?_
  rintro e w2 ⟨rfl, b2⟩
  have B2 := Lib.hid (B1.out.trans (b2.mono B1.out.size))
  unfold plA plE
  clear b2
  go_wp2_with fail
  go_ret
  exact ⟨rfl, FarS.of_below B2.out (Nat.le_refl _)⟩
theorem own_rdX {X : Nat → Prop} {base : Nat} {v : Value} {x : List UInt8} (o : Own W base E v x) (hX : ∀ k, X k → k < base) : ∃ A c, v = .slice A x.length c ∧ RdX X W A x := by
  obtain ⟨A, c, rfl, rd⟩ := o.form
  refine ⟨A, c, rfl, ?_⟩
  by_cases h0 : x.length = 0
  · exact .inl (List.eq_nil_of_length_eq_zero h0)
  · obtain ⟨gB, cap, hv, hge, hgs, _⟩ := o.some_ (by omega)
    injection hv with e1
    subst e1
    rcases rd with rfl | ⟨g, off, e, hg, hc⟩
    · simp at h0
    · injection e with e
      injection e with e1 e2 e3
      subst e1
      subst e2
      exact .inr ⟨gB, 0, rfl, hgs, fun hx => by have := hX _ hx; omega, hc⟩
/-- What a program and a tell leave. -/
theorem rtail_any {a n c' : Nat} {A : Option Addr} {x : List UInt8} {bs : List UInt8} {t : Lk} {A0 : Option Addr} {c0 sec : Nat} {has : Bool} (g : IsG w r bs ws m o AB cB AW cW) (hN : ws.length = nsec bs) (hl : bs.length ≤ 8192) (hj : JRow w j r t A0 c0 has sec false) (jx : ¬ GX r AB AW j)
    (hf : FarS (GX r AB AW) w W) (hg : ∃ bs' : List UInt8, bs'.length = bs.length ∧ IsG W r bs' ws m (o + x.length) AB cB AW cW) :
    Calls Try.prog 57 #[at_ j] W fun e w' => e = .returned (.tuple #[]) ∧ FarS (RX j r AB AW) w w' := by
  obtain ⟨bs', hlen, g'⟩ := hg
  have hj' := hj.far hf jx
  refine (rtell_any g' (by rw [hN]; unfold nsec; rw [hlen]) (by omega) hj').mono ?_
  rintro e w' ⟨rfl, T⟩
  exact ⟨rfl, (hf.mono fun k h => .inr h).trans (T.far.mono fun k h => .inl h)⟩
set_option maxHeartbeats 1000000 in
theorem rapp_lay (k : Int) (A : Option Addr) (cc : Nat) (d : List UInt8) (k1 : -9223372036854775808 ≤ k) (k2 : k ≤ 9223372036854775807) (hd : Rd w w.heap.size A d) (hl : d.length ≤ 140737488355328) (h : RA w s ws m o j r AB cB AW cW) (hf : (tell s.bs).n ≠ 4294967295) (he : err k ((tell s.bs).n + 1) d.length = 0) {p : Pl} (hp : place s d.length = some p) (her : p.er = false) :
    Calls Try.prog 17 #[at_ j, .int .i64 k, .slice A d.length cc] w fun e w' => e = .returned (.int .i64 (ansG s k d)) ∧ FarS (RX j r AB AW) w w' := by
  rw [ansG_some hf he hp]
  obtain ⟨A0, c0, hr⟩ := h.row
  have hbd := (tell_bd s.bs).1
  have hd960 := (err_ok he).2.2
  have hpl := place_spec hp
  have hlt := hpl.lt
  have hle : p.t * 1024 + p.e + (d.length + 13) ≤ s.bs.length := by
    have h1 : p.t * 1024 + 1024 ≤ s.bs.length := by unfold nsec at hlt; omega
    rcases hpl.way with ⟨_, e1, _, _, e2⟩ | ⟨_, e1, _⟩ <;> omega
  have OK := Lib.hid (rbuild_ok k ((tell s.bs).n + 1) A cc d w hd k1 k2 (by omega) (by omega) hl he)
  have HR := Lib.hid h
  have PL := Lib.hid (fun (W : World) (b : Below w.heap.size w W) => (h.below b).place d.length hd960)
  rw [hp, show plA (some p) = ((p.t * 1024 + p.e : Nat) : Int) from rfl, show plE (some p) = false from her] at PL
  have BL := build_length k ((tell s.bs).n + 1) d
  have q0 := cell_of hr 0
  have q2 := cell_of hr 2
  have q6 := cell_of hr 6
  have c3 := h.g.c3
  have HJ := Lib.hid hr
  have HL := Lib.hid hle
  have hle8 := h.l
  have ha0 : ¬ (((p.t * 1024 + p.e : Nat) : Int) < 0) := by omega
  generalize build k ((tell s.bs).n + 1) d = bd at *
  generalize (tell s.bs).n = n at *
  have hn1 : IntKind.u32.wrap (n + 1) = n + 1 := IntWalk.u32_in _ (by omega)
  have hf' : (n == 4294967295) = false := by simpa using hf
  clear h hr he hp hpl hlt her
  generalize p.t * 1024 + p.e = a at *
  go_enter Try.func17, Try.ntmps17
  go_wp2_with fail
  refine OK.out.mono ?_
  rintro e w1 ⟨v1, rfl, o1, b1⟩
  have B1 := Lib.hid b1
  have O1 := Lib.hid o1
  clear b1 q0 q2 q6 c3 o1
  go_wp2_with fail
  refine (PL.out _ B1.out).mono ?_
  rintro e w2 ⟨rfl, b2⟩
  have B2 := Lib.hid (B1.out.trans (b2.mono B1.out.size))
  have RB := HR.out.below B2.out
  have q0 : w2.cell? ⟨j, 0, none⟩ = some (at_ r) := by obtain ⟨_, _, hr⟩ := RB.row; exact cell_of hr 0
  obtain ⟨A1, c1, rfl, rx⟩ := own_rdX (X := GX r AB AW) (O1.out.below b2 (Nat.le_refl _)) (fun k hk => HR.out.g.gx HR.out.b1 (by have := HR.out.N; have := hle8; have := HR.out.b1; have := HR.out.sec; unfold nsec at *; omega) hk)
  have PG := Lib.hid (rprogram_any a (d.length + 13) c1 A1 bd rx BL.symm (by have := HL.out; omega) RB.g RB.o0 (by have := RB.o1; omega) RB.l)
  have G2 := Lib.hid RB.g
  have J2 := Lib.hid ((HJ.out.far (FarS.of_below (X := GX r AB AW) B2.out (Nat.le_refl _)) HR.out.jx))
  clear b2 RB rx PL OK O1
  go_wp2_with fail
  refine PG.out.mono ?_
  rintro e w3 ⟨rfl, GT⟩
  have TL := Lib.hid (rtail_any (a := a) (n := 0) (c' := 0) (A := none) G2.out HR.out.N HR.out.l J2.out HR.out.jx GT.far GT.g)
  clear GT q0
  go_wp2_with fail
  refine TL.out.mono ?_
  rintro e w4 ⟨rfl, F⟩
  have FF := Lib.hid ((FarS.of_below B2.out (Nat.le_refl _)).trans F)
  clear F
  go_wp2_with fail
  go_ret
  exact ⟨rfl, FF.out⟩
set_option maxHeartbeats 1000000 in
theorem rapp_era (k : Int) (A : Option Addr) (cc : Nat) (d : List UInt8) (k1 : -9223372036854775808 ≤ k) (k2 : k ≤ 9223372036854775807) (hd : Rd w w.heap.size A d) (hl : d.length ≤ 140737488355328) (h : RA w s ws m o j r AB cB AW cW) (hf : (tell s.bs).n ≠ 4294967295) (he : err k ((tell s.bs).n + 1) d.length = 0) {p : Pl} (hp : place s d.length = some p) (her : p.er = true) :
    Calls Try.prog 17 #[at_ j, .int .i64 k, .slice A d.length cc] w fun e w' => e = .returned (.int .i64 (ansG s k d)) ∧ FarS (RX j r AB AW) w w' := by
  rw [ansG_some hf he hp]
  obtain ⟨A0, c0, hr⟩ := h.row
  have hbd := (tell_bd s.bs).1
  have hd960 := (err_ok he).2.2
  have hpl := place_spec hp
  have hlt := hpl.lt
  have hle : p.t * 1024 + 1024 ≤ s.bs.length := by unfold nsec at hlt; omega
  have hpe : p.e = 0 ∧ ws.getD p.t 0 < m := by
    rcases hpl.way with ⟨_, _, e3, _⟩ | ⟨_, e1, _, e4, _⟩
    · rw [e3] at her; cases her
    · refine ⟨e1, ?_⟩
      have := e4 her
      have := h.lf p.t hlt
      omega
  have OK := Lib.hid (rbuild_ok k ((tell s.bs).n + 1) A cc d w hd k1 k2 (by omega) (by omega) hl he)
  have HR := Lib.hid h
  have PL := Lib.hid (fun (W : World) (b : Below w.heap.size w W) => (h.below b).place d.length hd960)
  rw [hp, show plA (some p) = (p.t : Int) * 1024 by show ((p.t * 1024 + p.e : Nat) : Int) = _; rw [hpe.1]; omega, show plE (some p) = true from her] at PL
  have BL := build_length k ((tell s.bs).n + 1) d
  have q0 := cell_of hr 0
  have q2 := cell_of hr 2
  have q6 := cell_of hr 6
  have c3 := h.g.c3
  have HJ := Lib.hid hr
  have HL := Lib.hid hle
  have HLT := Lib.hid hlt
  have HPE := Lib.hid hpe.2
  have hle8 := h.l
  generalize build k ((tell s.bs).n + 1) d = bd at *
  generalize (tell s.bs).n = n at *
  have hn1 : IntKind.u32.wrap (n + 1) = n + 1 := IntWalk.u32_in _ (by omega)
  have hf' : (n == 4294967295) = false := by simpa using hf
  clear h hr he hp hpl hlt her hpe
  have ht8 : p.t ≤ 8 := by omega
  obtain ⟨a, ha⟩ : ∃ a, p.t = a := ⟨_, rfl⟩
  rw [ha] at PL HL HLT HPE hle ht8
  clear ha
  have ha0 : ¬ ((a : Int) * 1024 < 0) := by omega
  go_enter Try.func17, Try.ntmps17
  go_wp2_with fail
  refine OK.out.mono ?_
  rintro e w1 ⟨v1, rfl, o1, b1⟩
  have B1 := Lib.hid b1
  have O1 := Lib.hid o1
  clear b1 q0 q2 q6 c3 o1
  go_wp2_with fail
  refine (PL.out _ B1.out).mono ?_
  rintro e w2 ⟨rfl, b2⟩
  have B2 := Lib.hid (B1.out.trans (b2.mono B1.out.size))
  have RB := HR.out.below B2.out
  have q0 : w2.cell? ⟨j, 0, none⟩ = some (at_ r) := by obtain ⟨_, _, hr⟩ := RB.row; exact cell_of hr 0
  obtain ⟨A1, c1, rfl, rx⟩ := own_rdX (X := GX r AB AW) (O1.out.below b2 (Nat.le_refl _)) (fun k hk => HR.out.g.gx HR.out.b1 (by have := HR.out.N; have := hle8; have := HR.out.b1; have := HR.out.sec; unfold nsec at *; omega) hk)
  have RX := Lib.hid rx
  have HV := HR.out.v a HLT.out
  have ER := Lib.hid (rerase_any a (by rw [HR.out.N]; exact HLT.out) HPE.out (by have := HR.out.m1; omega) HL.out RB.g RB.o0 (by have := RB.o1; omega) RB.l (by rw [HR.out.N]; unfold nsec; omega))
  have J2 := Lib.hid ((HJ.out.far (FarS.of_below (X := GX r AB AW) B2.out (Nat.le_refl _)) HR.out.jx))
  clear b2 RB rx PL OK O1 HV
  go_wp2_with fail
  refine ER.out.mono ?_
  rintro e w3 ⟨rfl, ⟨⟨bs1, hl1, g1⟩, f1⟩⟩
  have J3 := Lib.hid (J2.out.far f1 HR.out.jx)
  have q0 := cell_of J3.out 0
  have hl8 := HR.out.l
  have ho0 := HR.out.o0
  have ho1 := HR.out.o1
  have hbl : a * 1024 + bd.length ≤ bs1.length := by have := HL.out; omega
  have PG := Lib.hid (rprogram_any (a * 1024) (d.length + 13) c1 A1 bd (RX.out.far f1) BL.symm hbl g1 (by omega) (by omega) (by omega))
  rw [show ((a * 1024 : Nat) : Int) = (a : Int) * 1024 by omega] at PG
  have G3 := Lib.hid g1
  have F1 := Lib.hid f1
  have HN1 := Lib.hid (show (ws.set a (ws.getD a 0 + 1)).length = nsec bs1 by rw [List.length_set, HR.out.N]; unfold nsec; rw [hl1])
  have HL1 := Lib.hid (show bs1.length ≤ 8192 by omega)
  clear f1 g1 ER hl1 hl8 ho0 ho1 hbl
  go_wp2_with fail
  refine PG.out.mono ?_
  rintro e w4 ⟨rfl, GT⟩
  have TL := Lib.hid (rtail_any (a := a) (n := 0) (c' := 0) (A := none) G3.out HN1.out HL1.out J3.out HR.out.jx GT.far GT.g)
  clear GT q0
  go_wp2_with fail
  refine TL.out.mono ?_
  rintro e w5 ⟨rfl, F⟩
  have FF := Lib.hid (((FarS.of_below B2.out (Nat.le_refl _)).trans (F1.out.mono fun _ h => .inr h)).trans F)
  clear F
  go_wp2_with fail
  go_ret
  exact ⟨rfl, FF.out⟩
/-- The document's Append. -/
theorem rapp_any (k : Int) (A : Option Addr) (cc : Nat) (d : List UInt8) (k1 : -9223372036854775808 ≤ k) (k2 : k ≤ 9223372036854775807) (hd : Rd w w.heap.size A d) (hl : d.length ≤ 140737488355328) (h : RA w s ws m o j r AB cB AW cW) :
    Calls Try.prog 17 #[at_ j, .int .i64 k, .slice A d.length cc] w fun e w' => e = .returned (.int .i64 (ansG s k d)) ∧ FarS (RX j r AB AW) w w' := by
  by_cases hf : (tell s.bs).n = 4294967295
  · exact rapp_full k A cc d h hf
  · by_cases he : err k ((tell s.bs).n + 1) d.length = 0
    · cases hp : place s d.length with
      | none => exact rapp_none k A cc d k1 k2 hd hl h hf he hp
      | some p =>
        cases her : p.er with
        | false => exact rapp_lay k A cc d k1 k2 hd hl h hf he hp her
        | true => exact rapp_era k A cc d k1 k2 hd hl h hf he hp her
    · exact rapp_bad k A cc d k1 k2 hl h hf he
end
end Jou
end Go.Proofs.Ytkkbjngjjeajoaa
