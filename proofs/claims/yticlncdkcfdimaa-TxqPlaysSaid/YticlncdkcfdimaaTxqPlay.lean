/-
  A queue and the document's, side by side.
-/
import Derived.Test.YticlncdkcfdimaaTxqRSort
import Derived.Test.YticlncdkcfdimaaTxqKnown
namespace Go.Proofs.Yticlncdkcfdimaa
namespace Txq
open Go.RowKit Mem Frm
set_option linter.unusedVariables false
set_option linter.unusedSimpArgs false
set_option maxRecDepth 100000

/-- Both are alike. -/
structure SR (s t : Qs) : Prop where
  l : s.l = srt key t.l
  room : s.room = t.room
  lost : s.lost = t.lost
  sp : s.sp = t.sp
theorem SR.put {s t : Qs} (h : SR s t) (f : Fr) : (s.put f).2 = (t.rput f).2 ∧ SR (s.put f).1 (t.rput f).1 := by
  have hl : s.l.length = t.l.length := by rw [h.l, srt_length]
  unfold Qs.put Qs.rput
  rw [hl, h.room]
  split
  · split
    · exact ⟨rfl, h.l, rfl, by rw [h.lost], rfl⟩
    · exact ⟨rfl, by rw [srt_snoc, h.l], rfl, h.lost, h.sp⟩
  · exact ⟨rfl, h⟩
theorem SR.none {s t : Qs} (h : SR s t) (h0 : t.l = []) : s.take = (s, Fr.zero, false) := by
  have e : s.l = [] := by rw [h.l, h0]; rfl
  unfold Qs.take
  rw [e]
theorem SR.one {s t : Qs} (h : SR s t) {k : Nat} (hF : First key t.l t.l.length k) : s.take.2.2 = true ∧ t.l[k]? = some s.take.2.1 ∧ SR s.take.1 { t with l := t.l.take k ++ t.l.drop (k + 1) } := by
  obtain ⟨m, hm, hs⟩ := srt_first key hF
  have e : s.l = m :: srt key (t.l.take k ++ t.l.drop (k + 1)) := by rw [h.l, hs]
  unfold Qs.take
  rw [e]
  exact ⟨rfl, hm, rfl, h.room, h.lost, h.sp⟩

/-- The queue in block p, the document's in block r with the row v; what they hold lies apart from the blocks K. -/
structure PQ (w W : World) (K : Nat → Prop) (p r : Nat) (v : Value) (s t : Qs) : Prop where
  b : Below w.heap.size w W
  q : HasQ W p (RN K r v) s
  rr : HasR W r K v t
  kp : K p
  kl : ∀ g, K g → w.heap.size ≤ g ∧ g < W.heap.size
  ger : w.heap.size ≤ r
  gev : ∀ g, v.ownBlock = some g → w.heap.size ≤ g
section
variable {w W W' : World} {K K' : Nat → Prop} {p r : Nat} {v : Value} {s t : Qs}
theorem HasR.lt (h : HasR W r K v t) : r < W.heap.size := by
  obtain ⟨fs, h, _⟩ := h
  exact h.lt
theorem HasR.vlt (h : HasR W r K v t) {g : Nat} (hg : v.ownBlock = some g) : g < W.heap.size := by
  obtain ⟨fs, h, _⟩ := h
  exact h.vlt hg
theorem HasR.nr (h : HasR W r K v t) : ¬ K r ∧ v.ownBlock ≠ some r ∧ ∀ g, v.ownBlock = some g → ¬ K g := by
  obtain ⟨fs, h, _⟩ := h
  exact ⟨h.rk, h.ne, h.nk⟩
theorem HasR.keep (h : HasR W r K v t) (hs : W.heap.size ≤ W'.heap.size) (hk : ∀ g, g < W.heap.size → ¬ K g → W'.heap[g]? = W.heap[g]?) (hK : ∀ g, g < W.heap.size → K' g → K g) : HasR W' r K' v t := by
  obtain ⟨fs, h, e⟩ := h
  exact ⟨fs, h.keep hs hk hK, e⟩
theorem HasR.len (h : HasR W r K v t) : t.l.length ≤ t.room ∧ t.room ≤ 64 := by
  obtain ⟨fs, h, e⟩ := h
  rw [← e]
  exact ⟨by simpa using h.len, h.r64⟩
theorem PQ.nlt (h : PQ w W K p r v s t) : ∀ g, RN K r v g → g < W.heap.size := fun g n => n.elim (fun k => (h.kl g k).2) fun n => n.elim (fun e => e ▸ h.rr.lt) fun e => h.rr.vlt e
theorem PQ.klt (h : PQ w W K p r v s t) : ∀ g, K g → g < W.heap.size := fun g k => (h.kl g k).2
theorem PQ.next (h : PQ w W K p r v s t) (b : Below W.heap.size W W') : PQ w W' K p r v s t :=
  ⟨h.b.trans (b.mono h.b.size), h.q.below b, h.rr.keep b.size (fun g hg _ => b.block g hg) (fun _ _ k => k), h.kp, fun g k => ⟨(h.kl g k).1, Nat.lt_of_lt_of_le (h.kl g k).2 b.size⟩, h.ger, h.gev⟩
theorem PQ.new (h : PQ w W K p r v s t) (o : Obj) : PQ w (W.alloc o) K p r v s t := h.next ((Below.refl _ _).alloc (Nat.le_refl _) o)
/-- What the law made since is apart, too. -/
theorem PQ.lock (h : PQ w W K p r v s t) (b : Below W.heap.size W W') : PQ w W' (fun g => K g ∨ (W.heap.size ≤ g ∧ g < W'.heap.size)) p r v s t := by
  refine ⟨h.b.trans (b.mono h.b.size), h.q.keep b.size (b.block _ h.q.lt) (fun g hg _ => b.block g hg) (fun g hg n => ?_) (.inl (.inl h.kp)), h.rr.keep b.size (fun g hg _ => b.block g hg) (fun g hg k => k.elim id fun k => by omega), .inl h.kp, fun g k => ?_, h.ger, h.gev⟩
  · rcases n with (n | n) | n
    · exact .inl n
    · omega
    · exact .inr n
  · rcases k with k | k
    · exact ⟨(h.kl g k).1, Nat.lt_of_lt_of_le (h.kl g k).2 b.size⟩
    · have := h.b.size; omega
theorem PQ.unlock (h : PQ w W K p r v s t) (hK : ∀ g, K' g → K g) (kp : K' p) : PQ w W K' p r v s t :=
  ⟨h.b, h.q.keep (Nat.le_refl _) rfl (fun _ _ _ => rfl) (fun g hg n => n.elim (fun k => .inl (hK g k)) .inr) (.inl kp), h.rr.keep (Nat.le_refl _) (fun _ _ _ => rfl) (fun g _ k => hK g k), kp, fun g k => h.kl g (hK g k), h.ger, h.gev⟩
/-- A block of K is written to, not the queue's. -/
theorem PQ.touch (h : PQ w W K p r v s t) {x : Option Nat} (hx : ∀ g, x = some g → K g ∧ g ≠ p) (g : W.grownBy W' x) : PQ w W' K p r v s t := by
  have hk : ∀ q, q < W.heap.size → ¬ K q → W'.heap[q]? = W.heap[q]? := fun q hq hn => g.block q hq fun e => hn (hx q e.symm).1
  refine ⟨h.b.grown g h.b.size fun q e => (h.kl q (hx q e).1).1, h.q.keep g.size (g.block p h.q.lt fun e => (hx p e.symm).2 rfl) (fun q hq hn => hk q hq fun k => hn (.inl k)) (fun _ _ n => n) (.inl h.kp), h.rr.keep g.size hk (fun _ _ k => k), h.kp, fun q k => ⟨(h.kl q k).1, Nat.lt_of_lt_of_le (h.kl q k).2 g.size⟩, h.ger, h.gev⟩
/-- The queue was changed. -/
theorem PQ.chq (h : PQ w W K p r v s t) {s' : Qs} (q : HasQ W' p (RN K r v) s') (c : Ch p none W W') : PQ w W' K p r v s' t :=
  ⟨h.b.trans (c.below h.b.size (h.kl p h.kp).1 (by simp)), q, h.rr.keep c.size (fun g hg hn => c.block g hg (fun e => hn (e ▸ h.kp)) (by simp)) (fun _ _ k => k), h.kp, fun g k => ⟨(h.kl g k).1, Nat.lt_of_lt_of_le (h.kl g k).2 c.size⟩, h.ger, h.gev⟩
/-- The document's was changed. -/
theorem PQ.chr (h : PQ w W K p r v s t) {t' : Qs} {v' : Value} (q : HasR W' r K v' t') (hv : ∀ g, v'.ownBlock = some g → v.ownBlock = some g ∨ W.heap.size ≤ g) (c : Ch r v.ownBlock W W') : PQ w W' K p r v' s t' := by
  have hpr : p ≠ r := fun e => h.rr.nr.1 (e ▸ h.kp)
  have hpv : v.ownBlock ≠ some p := fun e => h.rr.nr.2.2 p e h.kp
  refine ⟨h.b.trans (c.below h.b.size h.ger h.gev), h.q.keep c.size (c.block p h.q.lt hpr hpv) (fun g hg hn => c.block g hg (fun e => hn (.inr (.inl e))) (fun e => hn (.inr (.inr e)))) (fun g hg n => ?_) (.inl h.kp), q, h.kp, fun g k => ⟨(h.kl g k).1, Nat.lt_of_lt_of_le (h.kl g k).2 c.size⟩, h.ger, fun g hg => ?_⟩
  · rcases n with n | n | n
    · exact .inl n
    · exact .inr (.inl n)
    · rcases hv g n with h1 | h1
      · exact .inr (.inr h1)
      · omega
  · rcases hv g hg with h1 | h1
    · exact h.gev g h1
    · exact Nat.le_trans h.b.size h1
theorem PQ.put (h : PQ w W K p r v s t) (hl : s.lost < 1000000) (f : Fv) (hf : f.Ok) (hr : Rd W W.heap.size f.A f.d) :
    Calls Try.prog 12 #[at_ p, frm f.id f.r (.slice f.A f.d.length f.c)] W fun e w' => e = .returned (.int .i64 (s.put f.fr).2) ∧ PQ w w' K p r v (s.put f.fr).1 t ∧ Ch p none W w' :=
  (put_any h.q h.nlt hl f hf hr).mono fun e w' ⟨h1, h2, h3⟩ => ⟨h1, h.chq h2 h3, h3⟩
/-- What the document's Put ends with. -/
def RPutP (w W : World) (K : Nat → Prop) (p r : Nat) (v : Value) (s t : Qs) (f : Fr) (e : Ending) (w' : World) : Prop :=
  e = .returned (.int .i64 (t.rput f).2) ∧ (∃ v', PQ w w' K p r v' s (t.rput f).1) ∧ Ch r v.ownBlock W w'
theorem PQ.rput (h : PQ w W K p r v s t) (hl : t.lost < 1000000) (f : Fv) (hf : f.Ok) (hr : Rd W W.heap.size f.A f.d) :
    Calls Try.prog 13 #[at_ r, frm f.id f.r (.slice f.A f.d.length f.c)] W (RPutP w W K p r v s t f.fr) :=
  (rput_any h.rr h.klt hl f hf hr).mono fun e w' ⟨h1, ⟨v', h2, h3⟩, h4⟩ => ⟨h1, ⟨v', h.chr h2 h3 h4⟩, h4⟩
theorem PQ.len (h : PQ w W K p r v s t) : Calls Try.prog 26 #[at_ p] W fun e w' => e = .returned (.int .i64 (s.l.length : Int)) ∧ W = w' := by
  obtain ⟨A, c, fs, hq, e⟩ := h.q
  rw [← e, List.length_map]
  exact len_any hq
theorem PQ.lost (h : PQ w W K p r v s t) : Calls Try.prog 27 #[at_ p] W fun e w' => e = .returned (.int .i64 (s.lost : Int)) ∧ W = w' := by
  obtain ⟨A, c, fs, hq, e⟩ := h.q
  exact lost_any hq
theorem PQ.spilt (h : PQ w W K p r v s t) : Calls Try.prog 19 #[at_ p] W fun e w' => e = .returned (.bool s.sp) ∧ PQ w w' K p r v { s with sp := false } t ∧ Ch p none W w' := by
  obtain ⟨A, c, fs, hq, e⟩ := h.q
  exact (spilt_any hq).mono fun e' w' ⟨h1, h2, h3⟩ => ⟨h1, h.chq ⟨A, c, fs, h2, e⟩ h3, h3⟩
theorem PQ.rspilt (h : PQ w W K p r v s t) : Calls Try.prog 20 #[at_ r] W fun e w' => e = .returned (.bool t.sp) ∧ PQ w w' K p r v s { t with sp := false } := by
  obtain ⟨fs, hq, e⟩ := h.rr
  exact (rspilt_any hq).mono fun e' w' ⟨h1, h2, h3⟩ => ⟨h1, h.chr ⟨fs, h2, e⟩ (fun g hg => .inl hg) h3.wide⟩
theorem PQ.clear (h : PQ w W K p r v s t) : Calls Try.prog 21 #[at_ p] W fun e w' => e = .returned (.tuple #[]) ∧ PQ w w' K p r v { s with l := [] } t := by
  obtain ⟨A, c, fs, hq, e⟩ := h.q
  exact (clear_any hq).mono fun e' w' ⟨h1, h2, h3⟩ => ⟨h1, h.chq ⟨none, 0, [], h2, rfl⟩ h3⟩
/-- 'r.L = nil' -/
theorem PQ.rclear (h : PQ w W K p r v s t) : PQ w (W.setCell ⟨r, 1, none⟩ (.slice none 0 0)) K p r (.slice none 0 0) s { t with l := [] } := by
  obtain ⟨fs, hq, e⟩ := h.rr
  refine h.chr ⟨[], ?_, rfl⟩ (fun g hg => by simp [Value.ownBlock] at hg) ((Ch.refl _ _ _).set _ _)
  exact hq.row rfl (Nat.le_refl _) (World.ownsRow_nil _ _ _ _) (Nat.le_refl _) (fun g hg => by simp [Value.ownBlock] at hg) h.klt (fun f hf => by simp at hf) (fun f hf => by simp at hf) (by simp)
theorem PQ.rc (h : PQ w W K p r v s t) : W.cell? ⟨r, 1, none⟩ = some v ∧ W.cell? ⟨r, 2, none⟩ = some (.int .i64 (t.lost : Int)) ∧ W.frozen? ⟨r, 1, none⟩ = false ∧ ∃ A c, v = .slice A t.l.length c := by
  obtain ⟨fs, hq, e⟩ := h.rr
  refine ⟨hq.c1, hq.c2, hq.free 1, ?_⟩
  rw [← e, List.length_map]
  obtain ⟨A, c, hv, _⟩ := hq.rdf
  exact ⟨A, c, hv⟩
/-- What Take ends with in a law. -/
def TakeP (w W : World) (K : Nat → Prop) (p r : Nat) (v : Value) (s t : Qs) (e : Ending) (w' : World) : Prop :=
  ∃ A c, e = .returned (.tuple #[frm s.take.2.1.id s.take.2.1.r (.slice A s.take.2.1.d.length c), .bool s.take.2.2]) ∧ RdB (fun g => W.heap.size ≤ g ∧ g < w'.heap.size) w' A s.take.2.1.d ∧ PQ w w' K p r v s.take.1 t ∧ Ch p none W w'
theorem PQ.take (h : PQ w W K p r v s t) : Calls Try.prog 16 #[at_ p] W (TakeP w W K p r v s t) :=
  (take_any h.q h.nlt).mono fun e w' ⟨x, h1, h2, h3, h4⟩ => by
    obtain ⟨A, c, rfl, hr⟩ := h2.form
    exact ⟨A, c, h1, rdB_own h2 rfl (Nat.le_refl _), h.chq h3 h4, h4⟩
/-- What the document's Take ends with in a law: of two that are alike, the same. -/
def RTakeP (w W : World) (K : Nat → Prop) (p r : Nat) (s1 s t : Qs) (e : Ending) (w' : World) : Prop :=
  ∃ A c v' t', e = .returned (.tuple #[frm s.take.2.1.id s.take.2.1.r (.slice A s.take.2.1.d.length c), .bool s.take.2.2]) ∧ RdB (fun g => g < W.heap.size) w' A s.take.2.1.d ∧ PQ w w' K p r v' s1 t' ∧ SR s.take.1 t' ∧ Ch r none W w'
theorem PQ.rtake {s1 : Qs} (h : PQ w W K p r v s1 t) (hs : SR s t) : Calls Try.prog 17 #[at_ r] W (RTakeP w W K p r s1 s t) := by
  obtain ⟨fs, hq, e⟩ := h.rr
  cases hfs : fs with
  | nil =>
    subst hfs
    have ht : t.l = [] := by rw [← e]; rfl
    rw [show RTakeP w W K p r s1 s t = fun e w' => RTakeP w W K p r s1 s t e w' from rfl]
    refine (rtake_none hq).mono fun e' w' ⟨h1, h2⟩ => ?_
    unfold RTakeP
    rw [hs.none ht]
    exact ⟨none, 0, v, t, h1, .inl rfl, h.next h2, hs, .of_below h2⟩
  | cons f0 fs0 =>
    have h0 : 0 < fs.length := by rw [hfs]; simp
    refine (rtake_one hq h.klt h0).mono fun e' w' ⟨k, v', h1, h2, h3, h4, h5, h6⟩ => ?_
    have hk : k < fs.length := h2.1
    rw [e] at h2
    have hF : First key t.l t.l.length k := by rw [show t.l.length = fs.length by rw [← e]; simp]; exact h2
    obtain ⟨a1, a2, a3⟩ := hs.one hF
    have hm : s.take.2.1 = (fs.getD k Fv.zero).fr := by
      have : t.l[k]? = some (fs.getD k Fv.zero).fr := by
        simp only [← e]
        rw [List.getElem?_eq_getElem (by simpa using hk), fr_get hk]
      rw [this] at a2
      exact (Option.some.inj a2).symm
    refine ⟨(fs.getD k Fv.zero).A, (fs.getD k Fv.zero).c, v', _, ?_, ?_, h.chr (t' := { t with l := t.l.take k ++ t.l.drop (k + 1) }) ⟨_, h4, ?_⟩ (fun g hg => .inr (h5 g hg)) h6.wide, a3, h6⟩
    · rw [h1, hm, a1]
      rfl
    · rw [hm]
      exact h3
    · rw [← e]
      simp [List.map_take, List.map_drop]
end
end Txq
end Go.Proofs.Yticlncdkcfdimaa
