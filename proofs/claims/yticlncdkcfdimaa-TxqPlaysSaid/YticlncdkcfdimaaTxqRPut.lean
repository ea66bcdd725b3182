/-
  The document's New, Spilt, Put.
-/
import Derived.Test.YticlncdkcfdimaaTxqRef
namespace Go.Proofs.Yticlncdkcfdimaa
namespace Txq
open Go.RowKit Mem Frm
set_option linter.unusedVariables false
set_option linter.unusedSimpArgs false
set_option maxRecDepth 100000

/-- The document's queue, its frames as values, as they were put. -/
def HasR (W : World) (r : Nat) (K : Nat → Prop) (v : Value) (t : Qs) : Prop := ∃ fs, IsR W r K v fs t.room t.lost t.sp ∧ fs.map Fv.fr = t.l
def Qs.rput (s : Qs) (f : Fr) : Qs × Int :=
  if f.err = 0 then (if s.l.length = s.room then ({ s with lost := s.lost + 1, sp := true }, 6) else ({ s with l := s.l ++ [f] }, 0)) else (s, f.err)

theorem rnew_bad (room : Int) (k : room < 1 ∨ 64 < room) (k0 : -9223372036854775808 ≤ room) (k1 : room ≤ 9223372036854775807) (W : World) :
    Calls Try.prog 10 #[.int .i64 room] W fun e w' => e = .returned (.tuple #[at_ W.heap.size, .int .i64 1]) ∧ Below W.heap.size W w' := by
  have B := Lib.hid (fun o => (Below.refl W.heap.size W).alloc (Nat.le_refl _) o)
  rcases (by omega : room < 1 ∨ (¬ room < 1 ∧ 64 < room)) with h | ⟨h, h'⟩
  all_goals
    go_enter Try.func10, Try.ntmps10
    go_wp2_with fail
    go_ret2
    exact ⟨rfl, B.out _⟩
theorem rnew_any (room : Nat) (k1 : 1 ≤ room) (k2 : room ≤ 64) (W : World) (K : Nat → Prop) (nk : ∀ g, K g → g < W.heap.size) :
    Calls Try.prog 10 #[.int .i64 (room : Int)] W fun e w' => e = .returned (.tuple #[at_ W.heap.size, .int .i64 0]) ∧ IsR w' W.heap.size K (.slice none 0 0) [] room 0 false ∧ Below W.heap.size W w' := by
  have d1 : decide ((room : Int) < 1) = false := by simp; omega
  have d2 : decide ((64 : Int) < (room : Int)) = false := by simp; omega
  have Q := Lib.hid (show ∀ t, t = RT → IsR (W.alloc (.cells #[.int .i64 (room : Int), .slice none 0 0, .int .i64 0, .bool false] t)) W.heap.size K (.slice none 0 0) [] room 0 false from fun t ht => by
    subst ht
    exact ⟨heap_alloc_new W _, World.ownsRow_nil _ _ _ _, by simp [Value.ownBlock], fun g hg => by simp [Value.ownBlock] at hg, fun k => by have := nk _ k; omega, fun f hf => by simp at hf, fun f hf => by simp at hf, by simp, k1, k2⟩)
  have B := Lib.hid (fun o => (Below.refl W.heap.size W).alloc (Nat.le_refl _) o)
  go_enter Try.func10, Try.ntmps10
  go_wp2_with fail
  go_ret2
  exact ⟨rfl, Q.out _ rfl, B.out _⟩

section
variable {W W' : World} {r : Nat} {K : Nat → Prop} {v : Value} {fs : List Fv} {room lost : Nat} {sp : Bool}
theorem rspilt_any (h : IsR W r K v fs room lost sp) :
    Calls Try.prog 20 #[at_ r] W fun e w' => e = .returned (.bool sp) ∧ IsR w' r K v fs room lost false ∧ Ch r none W w' := by
  have h0 := h.c3
  have hf := h.free 3
  have HQ := Lib.hid h
  clear h
  go_enter Try.func20, Try.ntmps20
  go_wp2_with fail
  go_ret
  exact ⟨rfl, HQ.out.set 3 _ rfl, (Ch.refl _ _ _).set _ _⟩
theorem One.toR {x y z : Value} {g : Nat} (h : One W g x y z W') (q : IsR W r K v fs room lost sp) : IsR W' r K v fs room lost sp := q.below h.b
def AsR (W : World) (r : Nat) (K : Nat → Prop) (v : Value) (fs : List Fv) (room lost : Nat) (sp : Bool) (z : Int) (e : Ending) (w' : World) : Prop :=
  e = .returned (.int .i64 z) ∧ IsR w' r K v fs room lost sp ∧ Ch r none W w'
set_option maxHeartbeats 1000000 in
theorem rput_err (hq : IsR W r K v fs room lost sp) (f : Fv) (hf : f.Ok) (he : Frm.err f.id f.r f.d.length ≠ 0) :
    Calls Try.prog 13 #[at_ r, frm f.id f.r (.slice f.A f.d.length f.c)] W (AsR W r K v fs room lost sp (Frm.err f.id f.r f.d.length)) := by
  have HQ := Lib.hid hq
  have O1 := Lib.hid (One.start W (.int .i64 f.id) (.bool f.r) (.slice f.A f.d.length f.c))
  have hm := hf.l
  unfold maxLen at hm
  have H2 := Lib.hid (fun W' => rcheck_any f.id f.r f.A f.d.length f.c W' hf.k0 hf.k1 (by omega))
  have he' : (Frm.err f.id f.r f.d.length != 0) = true := by simpa using he
  obtain ⟨x0, x1, x2⟩ := O1.out.c
  clear hq he
  generalize Frm.err f.id f.r f.d.length = E at *
  go_enter Try.func13, Try.ntmps13
  go_wp2_with fail
  refine (H2.out _).mono ?_
  rintro e w2 ⟨rfl, b2⟩
  have O2 := Lib.hid (O1.out.next b2)
  clear b2 O1 x0 x1 x2
  go_wp2_with fail
  go_ret
  exact ⟨rfl, O2.out.toR HQ.out, (Ch.refl _ _ _).next O2.out.b⟩

set_option maxHeartbeats 1000000 in
theorem rput_full (hq : IsR W r K v fs room lost sp) (hl : lost < 1000000) (f : Fv) (hf : f.Ok) (he : Frm.err f.id f.r f.d.length = 0) (hroom : fs.length = room) :
    Calls Try.prog 13 #[at_ r, frm f.id f.r (.slice f.A f.d.length f.c)] W (AsR W r K v fs room (lost + 1) true 6) := by
  have HQ := Lib.hid hq
  have O1 := Lib.hid (One.start W (.int .i64 f.id) (.bool f.r) (.slice f.A f.d.length f.c))
  have hm := hf.l
  unfold maxLen at hm
  have H2 := Lib.hid (fun W' => rcheck_any f.id f.r f.A f.d.length f.c W' hf.k0 hf.k1 (by omega))
  rw [he] at H2
  have r64 := hq.r64
  obtain ⟨A, c, rfl, _⟩ := hq.rdf
  subst hroom
  obtain ⟨x0, x1, x2⟩ := O1.out.c
  clear hq he
  go_enter Try.func13, Try.ntmps13
  go_wp2_with fail
  refine (H2.out _).mono ?_
  rintro e w2 ⟨rfl, b2⟩
  have O2 := Lib.hid (O1.out.next b2)
  have Q2 := O2.out.toR HQ.out
  have c0 := Q2.c0
  have c1 := Q2.c1
  clear b2 O1 x0 x1 x2
  go_wp2_with fail
  go_quiet (fail)
  have Q3 : IsR (w2.drewN nq) r K (.slice A fs.length c) fs fs.length lost sp := Q2.below (below_drewN (Below.refl _ _) nq)
  have O3 := Lib.hid (show Below W.heap.size W (w2.drewN nq) from below_drewN O2.out.b nq)
  clear c0 c1
  generalize w2.drewN nq = w3 at *
  have c2 := Q3.c2
  have f2 := Q3.free 2
  have Q4 := Lib.hid (Q3.set 2 (.int .i64 ((lost : Int) + 1)) (lost' := lost + 1) (sp' := sp) (by simp [rcells]))
  have c3 := Q4.out.c3
  have f3 := Q4.out.free 3
  have Q5 := Lib.hid (Q4.out.set 3 (.bool true) (lost' := lost + 1) (sp' := true) rfl)
  clear Q2 Q3
  go_wp2_with fail
  go_ret
  exact ⟨rfl, Q5.out, (((Ch.refl _ _ _).next O3.out).set _ _).set _ _⟩

/-- The cells that the last statement reads. -/
theorem One.rfour {g : Nat} {x y z : Value} (h : One W g x y z W') (q : IsR W r K v fs room lost sp) : W'.cell? ⟨r, 1, none⟩ = some v ∧ W'.cell? ⟨g, 0, none⟩ = some x ∧ W'.cell? ⟨g, 1, none⟩ = some y ∧ W'.cell? ⟨g, 2, none⟩ = some z :=
  ⟨(h.toR q).c1, h.c.1, h.c.2.1, h.c.2.2⟩
/-- What Put ends with when there is room. -/
def InR (W : World) (r : Nat) (K : Nat → Prop) (v : Value) (fs : List Fv) (room lost : Nat) (sp : Bool) (f : Fv) (e : Ending) (w' : World) : Prop :=
  e = .returned (.int .i64 0) ∧ (∃ v' f', IsR w' r K v' (fs ++ [f']) room lost sp ∧ f'.fr = f.fr ∧ ∀ g, v'.ownBlock = some g → v.ownBlock = some g ∨ W.heap.size ≤ g) ∧ Ch r v.ownBlock W w'
/-- The row with one more. -/
theorem IsR.more (h : IsR W r K v fs room lost sp) (hK : ∀ g, K g → g < W.heap.size) (hroom : fs.length < room) {w5 w7 : World} (b : Below W.heap.size W w5) {f' : Fv} (he : Frm.err f'.id f'.r f'.d.length = 0) {M : Nat} (hM : W.heap.size ≤ M) (hd : RdB (fun g => M ≤ g ∧ g < w5.heap.size) w5 f'.A f'.d) {o : Obj} {v' : Value}
    (own : w7.ownsRow 0 34 3 v' (fs.length + 1) (flatF fs ++ [.int .i64 f'.id, .bool f'.r, .slice f'.A f'.d.length f'.c])) (g7 : (w5.alloc o).grownBy w7 v.ownBlock) (t7 : v'.ownBlock = v.ownBlock ∨ v'.ownBlock = some (w5.alloc o).heap.size) :
    IsR (w7.setCell ⟨r, 1, none⟩ v') r K v' (fs ++ [f']) room lost sp ∧ (∀ g, v'.ownBlock = some g → v.ownBlock = some g ∨ W.heap.size ≤ g) ∧ Ch r v.ownBlock W (w7.setCell ⟨r, 1, none⟩ v') := by
  have s5 : (w5.alloc o).heap.size = w5.heap.size + 1 := by simp
  have hv : ∀ g, v'.ownBlock = some g → v.ownBlock = some g ∨ W.heap.size ≤ g := fun g hg => by
    rcases t7 with h1 | h1
    · exact .inl (h1 ▸ hg)
    · rw [h1] at hg
      cases hg
      have := b.size
      omega
  have keep : ∀ g, g < w5.heap.size → v.ownBlock ≠ some g → w7.heap[g]? = w5.heap[g]? := fun g hg hne => (g7.block g (by omega) (fun e => hne e.symm)).trans (Below.heap_alloc w5 o g hg)
  have s7 : w5.heap.size ≤ w7.heap.size := by have := g7.size; omega
  have own' : w7.ownsRow 0 34 3 v' (fs ++ [f']).length (flatF (fs ++ [f'])) := by
    rw [flatF_snoc, List.length_append]
    exact own
  refine ⟨h.row ((keep r (Nat.lt_of_lt_of_le h.lt b.size) h.ne).trans (b.block r h.lt)) (Nat.le_trans b.size s7) own' (Nat.le_refl _) hv hK (fun f hf => ?_) (fun f hf => ?_) (by simp; omega), hv, ?_⟩
  · rcases List.mem_append.1 hf with hf | hf
    · refine ((h.data f hf).keep fun g hg => ?_).mono fun g hg => ⟨Nat.lt_of_lt_of_le hg.1 (Nat.le_trans b.size s7), fun n => ?_⟩
      · exact (keep g (Nat.lt_of_lt_of_le hg.1 b.size) fun e => hg.2 (.inr (.inr e))).trans (b.block g hg.1)
      · rcases n with n | n | n
        · exact hg.2 (.inl n)
        · exact hg.2 (.inr (.inl n))
        · rcases hv g n with h1 | h1
          · exact hg.2 (.inr (.inr h1))
          · have := hg.1; omega
    · simp only [List.mem_singleton] at hf
      subst hf
      refine (hd.keep fun g hg => keep g hg.2 fun e => by have := h.vlt e; omega).mono fun g hg => ⟨Nat.lt_of_lt_of_le hg.2 s7, fun n => ?_⟩
      rcases n with n | n | n
      · have := hK g n; omega
      · have := h.lt; omega
      · rcases t7 with h1 | h1
        · have := h.vlt (h1 ▸ n); omega
        · rw [h1] at n
          cases n
          omega
  · rcases List.mem_append.1 hf with hf | hf
    · exact h.ok f hf
    · simp only [List.mem_singleton] at hf
      subst hf
      exact he
  · refine Ch.set ⟨g7.os.trans b.os, g7.tape.trans b.tape, g7.output.trans b.output, Nat.le_trans b.size s7, fun k hk h1 h2 => (keep k (Nat.lt_of_lt_of_le hk b.size) h2).trans (b.block k hk)⟩ 1 v'

theorem one3 (id : Int) (r : Bool) (A : Option Addr) (n c : Nat) : ∀ u ∈ [Value.int .i64 id, .bool r, .slice A n c], u.oneCell' = true := by
  intro u hu
  simp only [List.mem_cons, List.not_mem_nil, or_false] at hu
  rcases hu with rfl | rfl | rfl <;> rfl
theorem more_blk (h : IsR W r K v fs room lost sp) {w5 w7 : World} (b : Below W.heap.size W w5) {o : Obj} (g7 : (w5.alloc o).grownBy w7 v.ownBlock) : w7.heap[r]? = some (.cells (rcells room v lost sp).toArray RT (0, 0)) :=
  ((g7.block r (by have := h.lt; have := b.size; simp; omega) (fun e => h.ne e.symm)).trans (Below.heap_alloc w5 o r (Nat.lt_of_lt_of_le h.lt b.size))).trans ((b.block r h.lt).trans h.blk)
theorem more_cell (h : IsR W r K v fs room lost sp) {w5 w7 : World} (b : Below W.heap.size W w5) {o : Obj} (g7 : (w5.alloc o).grownBy w7 v.ownBlock) : w7.cell? ⟨r, 1, none⟩ = some v := cell_of (more_blk h b g7) rfl
theorem more_free (h : IsR W r K v fs room lost sp) {w5 w7 : World} (b : Below W.heap.size W w5) {o : Obj} (g7 : (w5.alloc o).grownBy w7 v.ownBlock) : w7.frozen? ⟨r, 1, none⟩ = false := frozen_of_row w7 r 1 _ RT (more_blk h b g7)

set_option maxHeartbeats 4000000 in
theorem rput_in (hq : IsR W r K v fs room lost sp) (hK : ∀ g, K g → g < W.heap.size) (f : Fv) (hf : f.Ok) (hr : Rd W W.heap.size f.A f.d) (he : Frm.err f.id f.r f.d.length = 0) (hroom : fs.length < room) :
    Calls Try.prog 13 #[at_ r, frm f.id f.r (.slice f.A f.d.length f.c)] W (InR W r K v fs room lost sp f) := by
  obtain ⟨i0, hi, hz0, hz1, hz2⟩ := info_parts info_frm'
  have HQ := Lib.hid hq
  have HE := Lib.hid he
  have HK := Lib.hid hK
  have HRM := Lib.hid hroom
  have O1 := Lib.hid (One.start W (.int .i64 f.id) (.bool f.r) (.slice f.A f.d.length f.c))
  have hm := hf.l
  unfold maxLen at hm
  have H2 := Lib.hid (fun W' => rcheck_any f.id f.r f.A f.d.length f.c W' hf.k0 hf.k1 (by omega))
  rw [he] at H2
  have r64 := hq.r64
  have d8 := (err_ok he).2.2.1
  obtain ⟨A, c, rfl, _⟩ := hq.rdf
  have FOUR := Lib.hid (fun W' (o : One W W.heap.size (.int .i64 f.id) (.bool f.r) (.slice f.A f.d.length f.c) W') => o.rfour hq)
  have FR := Lib.hid (fun W' (o : One W W.heap.size (.int .i64 f.id) (.bool f.r) (.slice f.A f.d.length f.c) W') => (o.toR hq).free 1)
  have OWN := Lib.hid (fun W' (o : One W W.heap.size (.int .i64 f.id) (.bool f.r) (.slice f.A f.d.length f.c) W') => (o.toR hq).own)
  have LE := Lib.hid (fun W' (o : One W W.heap.size (.int .i64 f.id) (.bool f.r) (.slice f.A f.d.length f.c) W') => rlent_any f.id f.r f.A f.d.length f.c f.d W' ((hr.below o.b).mono o.b.size) rfl (by omega))
  obtain ⟨x0, x1, x2⟩ := O1.out.c
  have hlt : ¬ fs.length = room := by omega
  have hne : ((fs.length : Int) == (room : Int)) = false := beq_eq_false_iff_ne.2 (by omega)
  clear hq he hr hK
  go_enter Try.func13, Try.ntmps13
  go_wp2_with fail
  refine (H2.out _).mono ?_
  rintro e w2 ⟨rfl, b2⟩
  have O2 := Lib.hid (O1.out.next b2)
  have Q2 := O2.out.toR HQ.out
  have c0 := Q2.c0
  have c1 := Q2.c1
  clear b2 O1 x0 x1 x2 Q2
  go_wp2_with fail
  go_quiet (fail)
  have O3 := Lib.hid (show One W W.heap.size (.int .i64 f.id) (.bool f.r) (.slice f.A f.d.length f.c) (w2.drewN nq) from ⟨below_drewN O2.out.b nq, O2.out.box, O2.out.ge⟩)
  clear c0 c1 O2
  generalize w2.drewN nq = w4 at *
  obtain ⟨y0, y1, y2, y3⟩ := FOUR.out _ O3.out
  go_wp2_with fail
  go_region_law (first
    | (go_simp; go_at_call 36; refine (LE.out _ O3.out.drew).mono ?_; rintro e w5 ⟨v5, rfl, o5, b5⟩; have R5 := Lib.hid (fun A5 c5 (e : _ = Value.slice A5 f.d.length c5) => rdB_own (B := w4.heap.size) o5 e (Nat.le_refl _)); obtain ⟨A5, c5, rfl, _⟩ := o5.form; have O5 := Lib.hid (O3.out.drew.next b5); obtain ⟨z0, z1, z2, z3⟩ := FOUR.out _ O5.out; obtain ⟨p0, p1, p2, p3⟩ := FOUR.out _ (O5.out.alloc (.cells #[.int .i64 f.id, .bool f.r, .slice A5 f.d.length c5] 34)); have N5 := Lib.hid (new3_cells w5 (.int .i64 f.id) (.bool f.r) (.slice A5 f.d.length c5) 34); have W5 := Lib.hid ((OWN.out _ O5.out).alloc (.cells #[.int .i64 f.id, .bool f.r, .slice A5 f.d.length c5] 34)); have X5 := Lib.hid (show ∀ u ∈ [Value.int .i64 f.id, .bool f.r, .slice A5 f.d.length c5], u.oneCell' = true from one3 _ _ _ _ _); clear b5)
    | (refine step_appX _ rfl (.tmp 36) (.tmp 39) 44 rfl 0 34 i0 (.agg #[.int .i64 0, .bool false, .slice none 0 0]) 3 40 Try.underlying44 hi hz0 hz1 hz2 rfl (by decide) (.slice A fs.length c) fs.length (flatF fs) rfl W5.out (some ⟨w5.heap.size, 0, none⟩) 1 1 [.int .i64 f.id, .bool f.r, .slice A5 f.d.length c5] rfl rfl (.inr ⟨_, rfl, N5.out⟩) X5.out (by unfold maxLen; omega) (by omega) (Nat.zero_le _) ?_; intro v7 w7 o7 g7 t7; have M7 := Lib.hid (HQ.out.more HK.out HRM.out O5.out.b (f' := ⟨f.id, f.r, A5, f.d, c5⟩) HE.out O3.out.b.size (R5.out A5 c5 rfl) o7 g7 t7); obtain ⟨A7, c7, rfl⟩ := row_form o7 rfl; have u1 := more_cell HQ.out O5.out.b g7; have uf := more_free HQ.out O5.out.b g7; clear o7 g7 t7))
  all_goals
    clear y0 y1 y2 y3 z0 z1 z2 z3 p0 p1 p2 p3 u1 uf
    go_wp2_with fail
    go_ret
    exact ⟨rfl, ⟨_, _, M7.out.1, rfl, M7.out.2.1⟩, M7.out.2.2⟩
end
/-- What Put ends with. -/
def RPutEnds (W : World) (r : Nat) (K : Nat → Prop) (v : Value) (t : Qs) (f : Fr) (e : Ending) (w' : World) : Prop :=
  e = .returned (.int .i64 (t.rput f).2) ∧ (∃ v', HasR w' r K v' (t.rput f).1 ∧ ∀ g, v'.ownBlock = some g → v.ownBlock = some g ∨ W.heap.size ≤ g) ∧ Ch r v.ownBlock W w'
theorem rput_any {W : World} {r : Nat} {K : Nat → Prop} {v : Value} {t : Qs} (h : HasR W r K v t) (hK : ∀ g, K g → g < W.heap.size) (hl : t.lost < 1000000) (f : Fv) (hf : f.Ok) (hr : Rd W W.heap.size f.A f.d) :
    Calls Try.prog 13 #[at_ r, frm f.id f.r (.slice f.A f.d.length f.c)] W (RPutEnds W r K v t f.fr) := by
  obtain ⟨fs, hq, e⟩ := h
  unfold RPutEnds Qs.rput
  by_cases he : Frm.err f.id f.r f.d.length = 0
  · have he' : f.fr.err = 0 := he
    have hlen : t.l.length = fs.length := by rw [← e]; simp
    rw [if_pos he', hlen]
    by_cases hroom : fs.length = t.room
    · rw [if_pos hroom]
      exact (rput_full hq hl f hf he hroom).mono fun e' w' h => ⟨h.1, ⟨v, ⟨fs, h.2.1, e⟩, fun g hg => .inl hg⟩, h.2.2.wide⟩
    · rw [if_neg hroom]
      refine (rput_in hq hK f hf hr he (by have := hq.len; omega)).mono fun e' w' h => ?_
      obtain ⟨h1, ⟨v', f', h2, h3, h4⟩, h5⟩ := h
      exact ⟨h1, ⟨v', ⟨_, h2, by simp [h3, e]⟩, h4⟩, h5⟩
  · have he' : ¬ f.fr.err = 0 := he
    rw [if_neg he']
    exact (rput_err hq f hf he).mono fun e' w' h => ⟨h.1, ⟨v, ⟨fs, h.2.1, e⟩, fun g hg => .inl hg⟩, h.2.2.wide⟩
end Txq
end Go.Proofs.Yticlncdkcfdimaa
