/-
  Take of a queue.
-/
import Derived.Test.YtlojomeofgnfjaaTxqPut

namespace Go.Proofs.Ytlojomeofgnfjaa

namespace Txq
open Go.RowKit Mem Frm
set_option linter.unusedVariables false
set_option linter.unusedSimpArgs false
set_option maxRecDepth 100000

theorem own_row0 (w : World) (t : TypeId) : (w.alloc (.cells #[] t)).ownsRow w.heap.size t 3 (.slice (some ⟨w.heap.size, 0, none⟩) 0 0) 0 [] :=
  ⟨by simp, .inr ⟨w.heap.size, 0, #[], rfl, Nat.le_refl _, heap_alloc_new w _, Nat.le_refl _, by simp, by simp, by simp⟩⟩

set_option maxHeartbeats 1000000 in
theorem clones_any (g off c : Nat) (fs : List Fv) (w : World) (hc : ∀ W, Below w.heap.size w W → ∀ j u, (flatF fs)[j]? = some u → W.cell? ((⟨g, off, none⟩ : Addr).add j) = some u) (hn : fs.length ≤ 64) :
    Calls Try.prog 39 #[.slice (some ⟨g, off, none⟩) fs.length c] w (RowEnds w fs) := by
  obtain ⟨i0, hi, hz0, hz1, hz2⟩ := info_parts info_frm'
  have B1 := Lib.hid ((Below.refl w.heap.size w).alloc (Nat.le_refl _) (.cells #[] 29))
  have o1 := own_row0 w 29
  have HC := Lib.hid hc
  have HO := Lib.hid (flat_one fs)
  have HL := Lib.hid (flatF_len fs)
  have q : ∀ (w : World) (a : Option Addr) (n c n' c' : Nat), (binOp .eql 22 (.slice a n c) (.slice none n' c')).run Try.prog w = .ok (.bool a.isNone) w := fun w a n c n' c' => Lib.run_eql_slice_nil w _ _ a n c n' c' Try.underlying22
  clear hc
  go_enter Try.func39, Try.ntmps39
  go_wp2_with (at_builtin; refine wpList_appX _ rfl (.tmp 5) (.tmp 6) 22 rfl w.heap.size 29 i0 (.agg #[.int .i64 0, .bool false, .slice none 0 0]) 3 40 Try.underlying22 hi hz0 hz1 hz2 rfl (by decide) _ 0 [] rfl o1 (some ⟨g, off, none⟩) fs.length c (flatF fs) rfl HL.out (.inr ⟨_, rfl, HC.out _ B1.out⟩) HO.out (by unfold maxLen; omega) (by omega) B1.out.size ?_; intro v2 w2 o2 g2 t2)
  go_ret
  rw [Nat.zero_add] at o2
  exact ⟨v2, rfl, o2, B1.out.grown g2 B1.out.size (fun q hq => (o1.lt q hq).1)⟩

/-- What Take ends with. -/
def TakeEnds (W : World) (p : Nat) (N : Nat → Prop) (s : Qs) (e : Ending) (w' : World) : Prop :=
  ∃ v, e = .returned (.tuple #[frm s.take.2.1.id s.take.2.1.r v, .bool s.take.2.2]) ∧ Own w' W.heap.size ET v s.take.2.1.d ∧ HasQ w' p N s.take.1 ∧ Ch p none W w'

section
variable {W W' : World} {p : Nat} {N : Nat → Prop} {A : Option Addr} {c : Nat} {fs : List Fv} {room lost : Nat} {sp : Bool}

set_option maxHeartbeats 1000000 in
theorem take_none (hq : IsQ W p N A c [] room lost sp) :
    Calls Try.prog 11 #[at_ p] W fun e w' => e = .returned (.tuple #[zeroF, .bool false]) ∧ Below W.heap.size W w' := by
  have O1 := Lib.hid (One.start W (.int .i64 0) (.bool false) (.slice none 0 0))
  have H1 := Lib.hid (len_any (O1.out.q hq))
  go_enter Try.func11, Try.ntmps11
  go_wp2_with fail
  refine H1.out.mono ?_
  rintro e w' ⟨rfl, rfl⟩
  obtain ⟨x0, x1, x2, xf⟩ := cell3 O1.out.box
  go_wp2_with fail
  (try simp only [Exit.inBlock, Exit.then])
  refine bodyPost_ret (results_row2 rfl _ _ W.heap.size _ _ _ _ rfl O1.out.box Try.underlying29 rfl size_frm) rfl ⟨rfl, O1.out.b⟩

/-- What Take ends with when there is one. -/
def Out (W : World) (p : Nat) (N : Nat → Prop) (fs : List Fv) (room lost : Nat) (sp : Bool) (f : Fv) (e : Ending) (w' : World) : Prop :=
  ∃ v, e = .returned (.tuple #[frm f.id f.r v, .bool true]) ∧ Own w' W.heap.size ET v f.d ∧ (∃ A c, IsQ w' p N A c fs room lost sp) ∧ Ch p none W w'

set_option maxHeartbeats 4000000 in
theorem take_one {f : Fv} (hq : IsQ W p N A c (f :: fs) room lost sp) (hN : ∀ g, N g → g < W.heap.size) :
    Calls Try.prog 11 #[at_ p] W (Out W p N fs room lost sp f) := by
  have HQ := Lib.hid hq
  obtain ⟨g, off, hA, hg, e0, e1, e2, hrd⟩ := hq.rdf.three (j := 0) (by simp) (f := f) (by simp)
  obtain rfl : A = some ⟨g, 0, none⟩ := by
    rcases hq.at0 with ⟨h, _⟩ | ⟨g', h⟩
    · rw [h] at hA; cases hA
    · rw [h] at hA; cases hA; exact h
  cases hA
  have d8 := (err_ok (hq.ok f (by simp))).2.2.1
  have n64 : fs.length + 1 ≤ 64 := by have h1 := hq.len; have := hq.r64; rw [List.length_cons] at h1; omega
  have HL := Lib.hid (show fs.length ≤ room by have h1 := hq.len; rw [List.length_cons] at h1; omega)
  have O1 := Lib.hid (One.start W (.int .i64 0) (.bool false) (.slice none 0 0))
  have H1 := Lib.hid (len_any (O1.out.q hq))
  have OW_ := Lib.hid (fun W' (b : Below W.heap.size W W') => own_any f.id f.r f.A f.d.length f.c f.d W' ((hrd.below b).mono b.size) rfl (by omega))
  have CW := Lib.hid (fun W' (b : Below W.heap.size W W') => cells_later hq.rdf b)
  have c0 := (O1.out.q hq).c0
  have y0 := (O1.out.b.cell (p := ⟨g, 0 + 0 * 3, none⟩) hg).trans e0
  have y1 := (O1.out.b.cell (p := ⟨g, 0 + 0 * 3 + 1, none⟩) hg).trans e1
  have y2 := (O1.out.b.cell (p := ⟨g, 0 + 0 * 3 + 2, none⟩) hg).trans e2
  simp only [Nat.zero_mul, Nat.zero_add] at y0 y1 y2
  have l1 : (0 : Int) < ((fs.length + 1 : Nat) : Int) := by omega
  have ln : (((fs.length + 1 : Nat) : Int) == 0) = false := beq_eq_false_iff_ne.2 (by omega)
  have hcap : fs.length + 1 ≤ c := hq.cap
  have hcm := hq.capm
  unfold maxLen at hcm
  have lc : (1 : Int) ≤ (c : Int) := by omega
  have l2 : (1 : Int) ≤ ((fs.length + 1 : Nat) : Int) := by omega
  simp only [List.length_cons] at c0
  have HS := Lib.hid hq.lt
  clear hq e0 e1 e2 hrd
  simp only [List.length_cons] at H1
  have KEEP := Lib.hid (fun W' (b : Below W.heap.size W W') => HQ.out.below b)
  have CL := Lib.hid (show ∀ W', Below W.heap.size W W' → (1 < c → Calls Try.prog 39 #[.slice (some ⟨g, 3, none⟩) fs.length (c - 1)] W' (RowEnds W' fs)) ∧ (c = 1 → Calls Try.prog 39 #[.slice (some ⟨g, 0, none⟩) fs.length 0] W' (RowEnds W' fs)) from fun W' b => by
    refine ⟨fun _ => clones_any g 3 (c - 1) fs W' (fun W2 b2 => cells_drop0 (CW.out W2 (b.trans (b2.mono b.size))) (k := 1) (by simp)) (by omega), fun h => ?_⟩
    obtain rfl : fs = [] := List.eq_nil_of_length_eq_zero (by omega)
    exact clones_any g 0 0 [] W' (fun W2 b2 j u hu => by simp [flatF] at hu) (by simp))
  go_enter Try.func11, Try.ntmps11
  go_wp2_with fail
  refine H1.out.mono ?_
  rintro e w' ⟨rfl, rfl⟩
  go_wp2_with fail
  refine (OW_.out _ O1.out.b).mono ?_
  rintro e w1 ⟨v, rfl, o1, b1⟩
  obtain ⟨A1, c1, rfl, _⟩ := o1.form
  have O2 := Lib.hid (O1.out.next b1)
  have S2 := One.start w1 (.int .i64 f.id) (.bool f.r) (.slice A1 f.d.length c1)
  have O3 := Lib.hid (O2.out.next S2.b)
  have V := Lib.hid ((o1.below S2.b (Nat.le_refl _)).lower (b := W.heap.size + 1) (by simp))
  have c0 := (KEEP.out _ O3.out.b).c0
  simp only [List.length_cons] at c0
  have T3 := Lib.hid S2.box
  have L3 := Lib.hid (show W.heap.size < w1.heap.size from lt_of O2.out.box)
  clear o1 b1 S2 O1 O2 y0 y1 y2 H1
  have HC : 1 < c ∨ c = 1 := by omega
  rcases HC with HC | HC
  all_goals
    go_wp2_with fail
    first | refine ((CL.out _ O3.out.b).1 HC).mono ?_ | refine ((CL.out _ O3.out.b).2 rfl).mono ?_ | refine ((CL.out _ O3.out.b).2 HC).mono ?_
    rintro e w3 ⟨v3, rfl, o3, b3⟩
    obtain ⟨A3, c3, rfl⟩ := row_form o3 rfl
    have O4 := Lib.hid (O3.out.next b3)
    have hf := (KEEP.out _ O4.out.b).free 0
    have cp := (KEEP.out _ O4.out.b).c0
    have Q4 := Lib.hid ((HQ.out.other (N' := fun g => N g ∨ g = W.heap.size) (fun g hg h => h.elim id (fun e => by omega)) (.inl HQ.out.np)).renew (M := W.heap.size + 1) (fun g h => h.elim (fun h => by have := hN g h; omega) (fun h => by omega)) O4.out.b o3 (lt_of O3.out.box) (fun x hx => .inl (by simp [hx])) HL.out)
    have T4 := Lib.hid ((b3.block _ (lt_of T3.out)).trans T3.out)
    have V4 := Lib.hid (V.out.below b3 (Nat.le_refl _))
    have hpn : p ≠ w1.heap.size := by have := L3.out; have := HS.out; omega
    have hpw : p ≠ W.heap.size := by have := HS.out; omega
    have T5 := Lib.hid ((Below.heap_setCell w3 ⟨p, 0, none⟩ (.slice A3 fs.length c3) w1.heap.size hpn.symm).trans T4.out)
    have R5 := Lib.hid ((Below.heap_setCell w3 ⟨p, 0, none⟩ (.slice A3 fs.length c3) W.heap.size hpw.symm).trans O4.out.box)
    have V5 := Lib.hid (own_apart (j := 0) (u := .slice A3 fs.length c3) V4.out (g := p) (by have := HS.out; omega))
    have C5 := Lib.hid (((Ch.refl p none W).next O4.out.b).set 0 (.slice A3 fs.length c3))
    clear o3 b3 c0 T3 V T4 V4 CL O4
    obtain ⟨z0, z1, z2, _⟩ := cell3 T5.out
    obtain ⟨u0, u1, u2, uf⟩ := cell3 R5.out
    have R := Lib.hid (set3 R5.out (.int .i64 f.id) (.bool f.r) (.slice A1 f.d.length c1))
    have VF := Lib.hid (own_apart (g := W.heap.size) (j := 2) (u := .slice A1 f.d.length c1) (own_apart (g := W.heap.size) (j := 1) (u := .bool f.r) (own_apart (g := W.heap.size) (j := 0) (u := .int .i64 f.id) V5.out (by omega)) (by omega)) (by omega))
    have X3 := fun (w : World) (x y z : Value) => (Ch.set (Ch.set (Ch.set (Ch.refl W.heap.size none w) 0 x) 1 y) 2 z : Ch W.heap.size none w _)
    have X := Lib.hid (X3 (w3.setCell ⟨p, 0, none⟩ (.slice A3 fs.length c3)) (.int .i64 f.id) (.bool f.r) (.slice A1 f.d.length c1))
    have QF := Lib.hid (Q4.out.keep (N' := N) X.out.size (X.out.block p Q4.out.lt hpw (by simp)) (fun g hg hn => X.out.block g hg (fun e => hn (.inr e)) (by simp)) (fun _ _ h => .inl h) HQ.out.np)
    clear X3
    go_wp2_with fail
    (try simp only [Exit.inBlock, Exit.then])
    refine bodyPost_ret (results_row2 rfl _ _ W.heap.size _ _ _ _ rfl R.out Try.underlying29 rfl size_frm) rfl ⟨_, rfl, VF.out.lower (by omega), ⟨_, _, QF.out⟩, ?_⟩
    have h1 := C5.out
    have h2 := X.out
    exact ⟨h2.os.trans h1.os, h2.tape.trans h1.tape, h2.output.trans h1.output, Nat.le_trans h1.size h2.size, fun k hk h3 h4 => (h2.block k (Nat.lt_of_lt_of_le hk h1.size) (by omega) (by simp)).trans (h1.block k hk h3 h4)⟩

end

theorem take_any {W : World} {p : Nat} {N : Nat → Prop} {s : Qs} (h : HasQ W p N s) (hN : ∀ g, N g → g < W.heap.size) :
    Calls Try.prog 11 #[at_ p] W (TakeEnds W p N s) := by
  obtain ⟨A, c, fs, hq, e⟩ := h
  unfold TakeEnds Qs.take
  cases fs with
  | nil =>
    rw [← e]
    refine (take_none hq).mono fun e' w' h => ⟨.slice none 0 0, h.1, Own.nil _ _ _, ⟨A, c, [], hq.below h.2, ?_⟩, .of_below h.2⟩
    show List.map Fv.fr [] = s.l
    exact e
  | cons f fs =>
    rw [← e]
    refine (take_one hq hN).mono fun e' w' h => ?_
    obtain ⟨v, h1, h2, ⟨A', c', h3⟩, h4⟩ := h
    exact ⟨v, h1, h2, ⟨A', c', fs, h3, rfl⟩, h4⟩

end Txq

end Go.Proofs.Ytlojomeofgnfjaa
