/-
  What a law that opens its journal anew holds on to.
  Append after Append, whatever the power does: the wears. And what a law about them holds on to.
-/
import Derived.Test.YtppjjdaejhilkaaJouData
import Derived.Test.YtppjjdaejhilkaaJouRun
import Derived.Test.YtppjjdaejhilkaaOctCount
namespace Go.Proofs.Ytppjjdaejhilkaa
namespace Jou
open Go.RowKit Mem Fla Rec Sec
set_option linter.unusedVariables false
set_option linter.unusedSimpArgs false
set_option maxRecDepth 100000
section
variable {w W W' : World} {q L p D c : Nat} {s s' : Fl} {t t' : Lk} {gl B0 : Nat} {A Ab : Option Addr} {cc cb : Nat} {bs : List UInt8} {x : Int} {f : Nat} {args : Array Value} {v : Value}
theorem IsJ.far (h : IsJ W q L p D c s) (hf : Far p D W W') (i : IsF W' p D c s') (e : s'.bs = s.bs) : IsJ W' q L p D c s' := by
  have hpq := h.pq
  have hDq := h.Dq
  refine ⟨?_, ?_, i, hpq, hDq⟩
  · rw [e]; exact h.fd.far hf hpq hDq
  · rw [e]; exact (hf.block _ h.lt (by omega) (by omega)).trans h.row
/-- What stands: the journal, the last record that was told (in block gl), bytes that are to be laid. -/
structure CS (w W : World) (q L p D c : Nat) (s : Fl) (gl : Nat) (t : Lk) (A : Option Addr) (cc : Nat) (Ab : Option Addr) (cb : Nat) (bs : List UInt8) : Prop where
  j : JS w W q L p D c s
  row : W.heap[gl]? = some (.cells #[.int .i64 t.k, .int .u32 t.n, .slice A t.d.length cc] 32 (0, 0))
  o : Own W (L + 1) E (.slice A t.d.length cc) t.d
  b : Own W (L + 1) E (.slice Ab bs.length cb) bs
  gx : ¬ JX q L p D gl
  gw : w.heap.size ≤ gl
theorem CS.next (S : CS w W q L p D c s gl t A cc Ab cb bs) (h : Below W.heap.size W W') : CS w W' q L p D c s gl t A cc Ab cb bs :=
  ⟨S.j.next h, (h.block _ (Array.getElem?_eq_some_iff.1 S.row).1).trans S.row, S.o.below h (Nat.le_refl _), S.b.below h (Nat.le_refl _), S.gx, S.gw⟩
theorem CS.notx (S : CS w W q L p D c s gl t A cc Ab cb bs) {k : Nat} (hk : L + 1 ≤ k) : ¬ JX q L p D k := fun hx => by
  have h3 := S.j.j.pq
  have h4 := S.j.j.Dq
  have h5 := S.j.j.fd.qL
  unfold JX at hx
  omega
theorem CS.newb (S : CS w W q L p D c s gl t A cc Ab cb bs) {Ab' : Option Addr} {cb' : Nat} {bs' : List UInt8} (o : Own W (L + 1) E (.slice Ab' bs'.length cb') bs') : CS w W q L p D c s gl t A cc Ab' cb' bs' :=
  ⟨S.j, S.row, S.o, o, S.gx, S.gw⟩
/-- A planned cut. -/
theorem CS.ends (S : CS w W q L p D c s gl t A cc Ab cb bs) (e : s'.bs = s.bs) (h : Calls Try.prog f args W (Fla.Ends p D c W x s')) : Calls Try.prog f args W fun e w' => e = .returned (.int .i64 x) ∧ CS w w' q L p D c s' gl t A cc Ab cb bs ∧ Far p D W w' :=
  h.mono (by
    rintro e' w' ⟨rfl, i, g⟩
    have hk : ∀ k, ¬ JX q L p D k → k < W.heap.size → w'.heap[k]? = W.heap[k]? := fun k hx hk => g.block k hk (fun e => hx (.inl e)) (fun e => hx (.inr (.inl e)))
    exact ⟨rfl, ⟨⟨S.j.b.trans (g.below S.j.b.size S.j.hp S.j.hD), S.j.j.far g i e, S.j.hp, S.j.hD⟩, (hk _ S.gx (Array.getElem?_eq_some_iff.1 S.row).1).trans S.row, own_keep S.o fun k a b => hk k (S.notx b) a, own_keep S.b fun k a b => hk k (S.notx b) a, S.gx, S.gw⟩, g⟩)
theorem CS.rdb (S : CS w W q L p D c s gl t A cc Ab cb bs) : Rd W W.heap.size Ab bs := own_rd S.b
/-- The journal is no more asked: the flash, the record, the bytes. -/
structure PS (w W : World) (p D c : Nat) (s : Fl) (gl : Nat) (t : Lk) (A : Option Addr) (cc : Nat) (Ab : Option Addr) (cb : Nat) (bs : List UInt8) (B0 : Nat) : Prop where
  ls : LS w W p D c s
  row : W.heap[gl]? = some (.cells #[.int .i64 t.k, .int .u32 t.n, .slice A t.d.length cc] 32 (0, 0))
  o : Own W B0 E (.slice A t.d.length cc) t.d
  b : Own W B0 E (.slice Ab bs.length cb) bs
  pB : p < B0
  DB : D < B0
  gp : gl ≠ p
  gD : gl ≠ D
  gw : w.heap.size ≤ gl
theorem CS.lay {r : Fl × Int} {e : Ending} (S : CS w W q L p D c s gl t A cc Ab cb bs) (h : LayTo (JX q L p D) q L p D c W r e W') : e = .returned (.int .i64 r.2) ∧ PS w W' p D c r.1 gl t A cc Ab cb bs (L + 1) := by
  obtain ⟨h1, h2, h3, h4⟩ := S.j.lay h
  have hpq := S.j.j.pq
  have hDq := S.j.j.Dq
  have hqL := S.j.j.fd.qL
  exact ⟨h1, h2, (h3.block _ (Array.getElem?_eq_some_iff.1 S.row).1 S.gx).trans S.row, own_keep S.o fun k a b => h3.block k a (S.notx b), own_keep S.b fun k a b => h3.block k a (S.notx b), by omega, by omega, fun e => S.gx (.inl e), fun e => S.gx (.inr (.inl e)), S.gw⟩
theorem PS.next (S : PS w W p D c s gl t A cc Ab cb bs B0) (h : Below W.heap.size W W') : PS w W' p D c s gl t A cc Ab cb bs B0 :=
  ⟨S.ls.next h, (h.block _ (Array.getElem?_eq_some_iff.1 S.row).1).trans S.row, S.o.below h (Nat.le_refl _), S.b.below h (Nat.le_refl _), S.pB, S.DB, S.gp, S.gD, S.gw⟩
theorem PS.same (S : PS w W p D c s gl t A cc Ab cb bs B0) (h : Calls Try.prog f args W fun e w' => e = .returned v ∧ W = w') : Calls Try.prog f args W fun e w' => e = .returned v ∧ PS w w' p D c s gl t A cc Ab cb bs B0 :=
  h.mono (by rintro e w' ⟨rfl, rfl⟩; exact ⟨rfl, S⟩)
theorem PS.ends0 (S : PS w W p D c s gl t A cc Ab cb bs B0) (h : Calls Try.prog f args W (Fla.Ends0 p D c W s')) : Calls Try.prog f args W fun e w' => e = .returned (.tuple #[]) ∧ PS w w' p D c s' gl t A cc Ab cb bs B0 :=
  h.mono (by
    rintro e w' ⟨rfl, i, g⟩
    have hp := S.pB
    have hD := S.DB
    exact ⟨rfl, ⟨S.ls.b.trans (g.below S.ls.b.size S.ls.hp S.ls.hD), i, S.ls.hp, S.ls.hD⟩, (g.block _ (Array.getElem?_eq_some_iff.1 S.row).1 S.gp S.gD).trans S.row, own_keep S.o fun k a b => g.block k a (by omega) (by omega), own_keep S.b fun k a b => g.block k a (by omega) (by omega), hp, hD, S.gp, S.gD, S.gw⟩)
/-- Opened anew: the journal beside what stands. -/
structure QS (w W : World) (q p D c : Nat) (s : Fl) (gl : Nat) (t : Lk) (A : Option Addr) (cc : Nat) (Ab : Option Addr) (cb : Nat) (bs : List UInt8) : Prop where
  j : JS w W q (q + 1) p D c s
  row : W.heap[gl]? = some (.cells #[.int .i64 t.k, .int .u32 t.n, .slice A t.d.length cc] 32 (0, 0))
  o : Rd W W.heap.size A t.d
  b : Rd W W.heap.size Ab bs
  gp : gl ≠ p
  gD : gl ≠ D
  gq : gl < q
  gw : w.heap.size ≤ gl
theorem PS.opened (S : PS w W p D c s gl t A cc Ab cb bs B0) {e : Ending} (h : e = .returned (.tuple #[at_ W.heap.size, .int .i64 0]) ∧ IsJ W' W.heap.size (W.heap.size + 1) p D c s ∧ Below W.heap.size W W') :
    e = .returned (.tuple #[at_ W.heap.size, .int .i64 0]) ∧ QS w W' W.heap.size p D c s gl t A cc Ab cb bs := by
  obtain ⟨h1, h2⟩ := Jou.opened S.ls h
  have P := S.next h.2.2
  exact ⟨h1, h2, P.row, own_rd P.o, own_rd P.b, P.gp, P.gD, (Array.getElem?_eq_some_iff.1 S.row).1, P.gw⟩
theorem QS.next (S : QS w W q p D c s gl t A cc Ab cb bs) (h : Below W.heap.size W W') : QS w W' q p D c s gl t A cc Ab cb bs :=
  ⟨S.j.next h, (h.block _ (Array.getElem?_eq_some_iff.1 S.row).1).trans S.row, (S.o.below h).mono h.size, (S.b.below h).mono h.size, S.gp, S.gD, S.gq, S.gw⟩
/-- The record that is told from now on. -/
theorem QS.last (S : QS w W q p D c s gl t A cc Ab cb bs) {A' : Option Addr} {cc' : Nat} (o : Own W (q + 1 + 1) E (.slice A' t'.d.length cc') t'.d) :
    CS w (((W.setCell ⟨gl, 0, none⟩ (.int .i64 t'.k)).setCell ⟨gl, 1, none⟩ (.int .u32 t'.n)).setCell ⟨gl, 2, none⟩ (.slice A' t'.d.length cc')) q (q + 1) p D c s gl t' A' cc' none 0 [] := by
  have F := row3_far W gl (.int .i64 t'.k) (.int .u32 t'.n) (.slice A' t'.d.length cc')
  have hr := row3_set S.row (.int .i64 t'.k) (.int .u32 t'.n) (.slice A' t'.d.length cc')
  generalize ((W.setCell ⟨gl, 0, none⟩ (.int .i64 t'.k)).setCell ⟨gl, 1, none⟩ (.int .u32 t'.n)).setCell ⟨gl, 2, none⟩ (.slice A' t'.d.length cc') = W2 at *
  have gq := S.gq
  have gp := S.gp
  have gD := S.gD
  have J := S.j.j
  have hk : ∀ k, k < W.heap.size → k ≠ gl → W2.heap[k]? = W.heap[k]? := fun k h1 h2 => F.block k h1 h2
  refine ⟨⟨S.j.b.trans (F.below S.j.b.size fun k e => by rw [e]; exact S.gw), ⟨J.fd.keep fun k h1 h2 => hk k h1 (by omega), (hk _ J.lt (by omega)).trans J.row, J.fl.keep (hk _ J.fl.lt (fun e => gp e.symm)) (hk _ J.fl.ltD (fun e => gD e.symm)), J.pq, J.Dq⟩, S.j.hp, S.j.hD⟩, hr, own_keep o fun k a b => hk k a (by omega), Own.nil _ _ _, ?_, S.gw⟩
  unfold JX
  omega
/-- What an Append of a snapshot ends in. -/
structure Cr (t : Lk) (ns : Option Nat) (bs : List UInt8) (k : Nat) (r : Fl × Int) : Prop where
  c : r.2 = 0 ∧ r.1.on = true ∨ r.2 = 7 ∧ r.1.on = false
  w : WC 3 1000 r.1.start (k + 1)
  tl : ((tell r.1.bs).k = 1 ∧ (tell r.1.bs).n = t.n + 1 ∧ (tell r.1.bs).d = bs ∧ (newest r.1.bs).isSome = true) ∨ r.2 = 7 ∧ tell r.1.bs = t ∧ newest r.1.bs = ns
theorem CS.crash {k : Nat} {ns : Option Nat} (S : CS w W q L p D c s gl t A cc Ab cb bs) (WK : WC 3 1000 s k) (hts : tell s.bs = t) (hns : newest s.bs = ns) (hk : k < 100) (hb : bs.length ≤ 960) :
    Calls Try.prog 14 #[at_ q, .int .i64 1, .slice Ab bs.length cb] W fun e w' => e = .returned (.int .i64 (app s 1 bs).2) ∧ PS w w' p D c (app s 1 bs).1 gl t A cc Ab cb bs (L + 1) ∧ Cr t ns bs k (app s 1 bs) :=
  (append_any 1 Ab cb bs (by omega) (by omega) S.j.j S.rdb (by omega) (by have := WK.ops; omega)).mono (fun e w' h => by
    obtain ⟨h1, h2⟩ := S.lay h
    have st := WK.step (by omega) (by omega) (by omega) (by omega) hb h2.ls.i.ok
    rw [hts, hns] at st
    exact ⟨h1, h2, st.1, st.2.1, st.2.2.1⟩)
end
end Jou
end Go.Proofs.Ytppjjdaejhilkaa

namespace Go.Proofs.Ytppjjdaejhilkaa
namespace Jou
open Go.RowKit Mem Fla Rec Sec
set_option linter.unusedVariables false
set_option linter.unusedSimpArgs false
set_option maxRecDepth 100000

/-- Behind i Appends of which x failed. -/
structure WW (N : Nat) (s : Fl) (i x : Nat) : Prop where
  wc : WC N 1073741824 s i
  dr : Dr s x
  sm : wsum s.wearAt N ≤ i
  xi : x ≤ i
theorem wsum_zero {w : Nat → Int} (h : ∀ i, w i = 0) : ∀ N, wsum w N = 0 := by
  intro N
  induction N with
  | zero => rfl
  | succ n ih => simp only [wsum, ih, h]; rfl
theorem WW.start (N : Nat) (h1 : 1 ≤ N) (h8 : N ≤ 8) : WW N (Fl.new (blankN N) 1073741824) 0 0 := by
  refine ⟨WC.start N _ h1 h8 (by omega) (by omega), ?_, ?_, Nat.le_refl _⟩
  · unfold Dr
    have e : newest (Fl.new (blankN N) 1073741824).bs = none := newest_blank N
    rw [e]
    exact Drift.start _ _ fun i _ => wearAt_new _ _ i
  · rw [wsum_zero (wearAt_new _ _)]
    exact Int.le_refl _
theorem WW.cut {N : Nat} {s : Fl} {i x : Nat} (h : WW N s i x) (n k : Int) (hn : 0 ≤ n) (n1 : n ≤ 9223372036854775807) (k0 : 0 ≤ k) (k1 : k ≤ 4294967295) : WW N (s.cut n k) i x ∧ (s.cut n k).bs = s.bs := by
  obtain ⟨c1, c2, c3⟩ := h.wc.cut n k hn n1 k0 k1
  have hw : (s.cut n k).wearAt = s.wearAt := by funext i; unfold Fl.wearAt; rw [c3]
  refine ⟨⟨c1, ?_, by rw [hw]; exact h.sm, h.xi⟩, c2⟩
  have := h.dr
  unfold Dr at *
  rw [hw, c2]
  exact this
theorem start_on {s : Fl} (h : s.on = true) : s.start = s := by
  cases s
  simp only at h
  subst h
  rfl
theorem WW.step {N : Nat} {s : Fl} {i x : Nat} (h : WW N s i x) (hi : i < 100) (hN : 2 ≤ N) (h8 : N ≤ 8) {d : List UInt8} (hd : d.length ≤ 960) (ok' : (app s 1 d).1.Ok) :
    ((app s 1 d).2 = 0 ∧ (app s 1 d).1.on = true ∧ WW N (app s 1 d).1 (i + 1) x) ∨ ((app s 1 d).2 = 7 ∧ (app s 1 d).1.on = false ∧ WW N (app s 1 d).1.start (i + 1) (x + 1)) := by
  obtain ⟨c1, c2, _, p, hP, st⟩ := h.wc.step hi (by omega) hN h8 hd ok'
  generalize app s 1 d = r at *
  obtain ⟨s', c⟩ := r
  simp only at *
  have hlt := hP.lt
  have hn := h.wc.n
  have hw := st.wears h.wc.ok.w8 (by omega)
  have hdr := st.drift hP h.wc.ok.w8 (by omega) (fun j hj => by rw [left_at hj, h.wc.most]; have := h.wc.wb j; omega) (x := (x : Int)) (by omega) h.dr
  have hsm : wsum s'.wearAt N ≤ ((i + 1 : Nat) : Int) := by
    rw [hw]
    have := h.sm
    split
    · rw [wsum_up (by omega)]; omega
    · omega
  have hxi := h.xi
  rcases c1 with ⟨rfl, o⟩ | ⟨rfl, o⟩
  · left
    rw [start_on o] at c2
    exact ⟨rfl, o, c2, hdr.1 rfl, hsm, by omega⟩
  · right
    refine ⟨rfl, o, c2, ?_, hsm, by omega⟩
    have := hdr.2 rfl
    have e : ((x + 1 : Nat) : Int) = (x : Int) + 1 := by omega
    rw [e]
    exact this
theorem wsum_bd {w : Nat → Int} (h : ∀ i, i < 8 → 0 ≤ w i ∧ w i ≤ 100) : ∀ j, j ≤ 8 → 0 ≤ wsum w j ∧ wsum w j ≤ 100 * j := by
  intro j
  induction j with
  | zero => intro _; exact ⟨Int.le_refl _, Int.le_refl _⟩
  | succ n ih =>
    intro hj
    have h1 := ih (by omega)
    have h2 := h n (by omega)
    simp only [wsum]
    omega
theorem WW.wb {N : Nat} {s : Fl} {i x : Nat} (h : WW N s i x) (hi : i ≤ 100) : ∀ j, j < 8 → 0 ≤ s.wearAt j ∧ s.wearAt j ≤ 100 := fun j hj => by
  have h1 := h.wc.ok.wear_bd j hj
  have h2 := h.wc.wb j
  omega
/-- While the wears are looked through: so many of them. -/
structure WL (N : Nat) (w : Nat → Int) (j : Nat) (sum low high : Int) : Prop where
  sm : sum = wsum w j
  lo : ∃ i, i < N ∧ low = w i
  hi : ∃ i, i < N ∧ high = w i
theorem WL.start {N : Nat} (h : 0 < N) (w : Nat → Int) : WL N w 0 0 (w 0) (w 0) := ⟨rfl, ⟨0, h, rfl⟩, ⟨0, h, rfl⟩⟩
theorem WL.next {N j : Nat} {w : Nat → Int} {sum low high : Int} (h : WL N w j sum low high) (hj : j < N) : WL N w (j + 1) (sum + w j) (if w j < low then w j else low) (if high < w j then w j else high) := by
  refine ⟨by rw [h.sm]; rfl, ?_, ?_⟩
  · split
    · exact ⟨j, hj, rfl⟩
    · exact h.lo
  · split
    · exact ⟨j, hj, rfl⟩
    · exact h.hi
theorem WL.done {N : Nat} {s : Fl} {i x : Nat} {sum low high : Int} (h : WL N s.wearAt N sum low high) (W : WW N s i x) : sum ≤ i ∧ high - low ≤ x + 2 := by
  obtain ⟨a, ha, rfl⟩ := h.lo
  obtain ⟨b, hb, rfl⟩ := h.hi
  have h1 := W.sm
  have h2 := W.dr a b (by rw [W.wc.n]; exact ha) (by rw [W.wc.n]; exact hb)
  have h3 := h.sm
  exact ⟨by omega, by have := h2.1; omega⟩
theorem WL.bd {N j : Nat} {s : Fl} {i x : Nat} {sum low high : Int} (h : WL N s.wearAt j sum low high) (W : WW N s i x) (hi : i ≤ 100) (hj : j ≤ 8) (h8 : N ≤ 8) : (0 ≤ sum ∧ sum ≤ 800) ∧ (0 ≤ low ∧ low ≤ 100) ∧ (0 ≤ high ∧ high ≤ 100) := by
  have hb := W.wb hi
  obtain ⟨a, ha, rfl⟩ := h.lo
  obtain ⟨b, hb', rfl⟩ := h.hi
  have h1 := wsum_bd hb j hj
  have h2 := h.sm
  exact ⟨by omega, hb a (by omega), hb b (by omega)⟩
section
variable {w W W' : World} {q L p D c : Nat} {s s' : Fl} {A : Option Addr} {cc : Nat} {bs : List UInt8} {x : Int} {f : Nat} {args : Array Value} {v : Value}
theorem JB.ends (S : JB w W q L p D c s A cc bs) (e : s'.bs = s.bs) (h : Calls Try.prog f args W (Fla.Ends p D c W x s')) : Calls Try.prog f args W fun e w' => e = .returned (.int .i64 x) ∧ JB w w' q L p D c s' A cc bs ∧ Far p D W w' :=
  h.mono (by
    rintro e' w' ⟨rfl, i, g⟩
    have hk : ∀ k, ¬ JX q L p D k → k < W.heap.size → w'.heap[k]? = W.heap[k]? := fun k hx hk => g.block k hk (fun e => hx (.inl e)) (fun e => hx (.inr (.inl e)))
    exact ⟨rfl, ⟨⟨S.j.b.trans (g.below S.j.b.size S.j.hp S.j.hD), S.j.j.far g i e, S.j.hp, S.j.hD⟩, own_keep S.o fun k a b => hk k (S.notx b) a⟩, g⟩)
/-- What an Append of a snapshot ends in. -/
structure Cw (N i x : Nat) (w W' : World) (q L p D c : Nat) (r : Fl × Int) : Prop where
  ls : LS w W' p D c r.1
  c : r.2 = 0 ∧ WW N r.1 (i + 1) x ∧ JS w W' q L p D c r.1 ∨ r.2 = 7 ∧ WW N r.1.start (i + 1) (x + 1)
theorem JB.crash {N i y : Nat} (S : JB w W q L p D c s A cc bs) (WK : WW N s i y) (hi : i < 100) (hN : 2 ≤ N) (h8 : N ≤ 8) (hb : bs.length ≤ 960) :
    Calls Try.prog 14 #[at_ q, .int .i64 1, .slice A bs.length cc] W fun e w' => e = .returned (.int .i64 (app s 1 bs).2) ∧ Cw N i y w w' q L p D c (app s 1 bs) :=
  (append_any 1 A cc bs (by omega) (by omega) S.j.j S.rd (by omega) (by have := WK.wc.ops; omega)).mono (fun e w' h => by
    obtain ⟨h1, h2, h3, h4⟩ := S.j.lay h
    refine ⟨h1, h2, ?_⟩
    rcases WK.step hi hN h8 hb h2.i.ok with ⟨a, _, b⟩ | ⟨a, _, b⟩
    · exact .inl ⟨a, b, h4 (by rw [a]; decide)⟩
    · exact .inr ⟨a, b⟩)
theorem LS.ends0' (S : LS w W p D c s) (h : Calls Try.prog f args W (Fla.Ends0 p D c W s')) : Calls Try.prog f args W fun e w' => e = .returned (.tuple #[]) ∧ LS w w' p D c s' := LS.ends0 S h
end
end Jou
end Go.Proofs.Ytppjjdaejhilkaa
