/-
  The row of a place, or why it is refused; what can be set there; Get, Peek, May, Set, Poke.
-/
import Derived.Test.YtpdnfdpoebhjoaaDoorDicFind
import Derived.Test.YtpdnfdpoebhjoaaDoorEntRight
namespace Go.Proofs.YtpdnfdpoebhjoaaDoor
namespace Dic
open Go.RowKit Mem Ent
set_option linter.unusedVariables false
set_option linter.unusedSimpArgs false
set_option maxRecDepth 100000

section
variable {W X : World} {p : Nat} {v : Value} {N : Nat → Prop} {rs : List Rv}

theorem toRead_any (r : Rv) (W : World) : Calls Tryd.prog 45 #[.agg r.arr] W fun e w' => e = .returned (.int .u32 (readN r.e.ac)) ∧ Below W.heap.size W w' := by
  have B := Lib.hid (one_b W (.cells r.arr 66))
  have K := Lib.hid (fun X => readable_any r.e.ix r.e.sub r.e.nm r.e.ty r.e.ac r.e.mp r.e.st r.e.mx r.e.lo r.e.hi (.slice r.A r.e.d.length r.cA) X)
  go_enter Tryd.func45, Tryd.ntmps45
  go_wp2_with fail
  refine (K.out _).mono ?_
  rintro e w' ⟨rfl, b⟩
  have T := Lib.hid (B.out.trans (b.mono B.out.size))
  clear b
  go_wp2_with fail
  go_ret
  exact ⟨rfl, T.out⟩

theorem toWrite_any (r : Rv) (W : World) : Calls Tryd.prog 43 #[.agg r.arr] W fun e w' => e = .returned (.int .u32 (writeN r.e.ac)) ∧ Below W.heap.size W w' := by
  have B := Lib.hid (one_b W (.cells r.arr 66))
  have K := Lib.hid (fun X => writable_any r.e.ix r.e.sub r.e.nm r.e.ty r.e.ac r.e.mp r.e.st r.e.mx r.e.lo r.e.hi (.slice r.A r.e.d.length r.cA) X)
  go_enter Tryd.func43, Tryd.ntmps43
  go_wp2_with fail
  refine (K.out _).mono ?_
  rintro e w' ⟨rfl, b⟩
  have T := Lib.hid (B.out.trans (b.mono B.out.size))
  clear b
  go_wp2_with fail
  go_ret
  exact ⟨rfl, T.out⟩

theorem anyhow_any (r : Rv) (W : World) : Calls Tryd.prog 58 #[.agg r.arr] W fun e w' => e = .returned (.int .u32 0) ∧ Below W.heap.size W w' := by
  have B := Lib.hid (one_b W (.cells r.arr 66))
  go_enter Tryd.func58, Tryd.ntmps58
  go_wp2_with fail
  go_ret
  exact ⟨rfl, B.out⟩

set_option maxHeartbeats 1000000 in
/-- A place that is not there. -/
theorem look_no (h : IsD W p v N rs) (hi : Fine (evs rs) rs.length) (ix sub : Int) (fv : Value) (hf : fnd (evs rs) ix sub < 0) :
    Calls Tryd.prog 44 #[ptr p, .int .i64 ix, .int .i64 sub, fv] W fun e w' => e = .returned (.tuple #[.pointer none, .int .u32 (miss (fnd (evs rs) ix sub))]) ∧ Below W.heap.size W w' := by
  have HN := none_any h
  have HF := find_any h hi ix sub
  have e1 : findA (evs rs) ix sub = (0, false) := if_pos hf
  rw [e1] at HF
  have HF := Lib.hid HF
  have HH := Lib.hid (fun X (b : Below W.heap.size W X) => has_any (h.below b) ix)
  have HM := Lib.hid (miss_has hf)
  generalize miss (fnd (evs rs) ix sub) = M at *
  generalize hasB (evs rs) ix = B at *
  clear h hi hf e1
  go_enter Tryd.func44, Tryd.ntmps44
  go_wp2_with fail
  refine HN.mono ?_
  rintro e w' ⟨rfl, rfl⟩
  go_wp2_with fail
  refine HF.out.mono ?_
  rintro e w1 ⟨rfl, b⟩
  have T := Lib.hid b
  clear b
  go_wp2_with fail
  refine (HH.out w1 T.out).mono ?_
  rintro e w2 ⟨rfl, b⟩
  have T2 := Lib.hid (T.out.trans (b.mono T.out.size))
  clear b HH HF HN T
  cases B with
  | true =>
    go_wp2_with fail
    go_ret2
    exact ⟨by rw [HM.out]; rfl, T2.out⟩
  | false =>
    go_wp2_with fail
    go_ret2
    exact ⟨by rw [HM.out]; rfl, T2.out⟩

set_option maxHeartbeats 1000000 in
theorem look_toRead {g c : Nat} (h : IsD W p (.slice (some ⟨g, 0, none⟩) rs.length c) N rs) (hi : Fine (evs rs) rs.length) (ix sub : Int) {k : Nat} (hf : fnd (evs rs) ix sub = (k : Int)) (hk : k < rs.length) {r : Rv} (hr : rs.getD k Rv.zero = r) :
    Calls Tryd.prog 44 #[ptr p, .int .i64 ix, .int .i64 sub, .func (.func 45) #[] #[]] W fun e w' => e = .returned (.tuple #[.pointer (some ⟨g, k * 12, none⟩), .int .u32 (readN r.e.ac)]) ∧ Below W.heap.size W w' := by
  have HN := none_any h
  have HF := find_any h hi ix sub
  have e1 : findA (evs rs) ix sub = ((k : Int), true) := by
    unfold findA
    rw [hf, if_neg (by omega)]
  rw [e1] at HF
  have HF := Lib.hid HF
  have AT := Lib.hid (fun X (b : Below W.heap.size W X) => (h.below b).at hk hr)
  have C0 := Lib.hid (fun X (b : Below W.heap.size W X) => (h.below b).c0)
  have K := Lib.hid (fun X => toRead_any r X)
  have j1 : (0 : Int) ≤ (k : Int) := by omega
  have j2 : (k : Int) < (rs.length : Int) := by omega
  clear h hi hf e1 hk hr
  generalize rs.length = n at *
  go_enter Tryd.func44, Tryd.ntmps44
  go_wp2_with fail
  refine HN.mono ?_
  rintro e w' ⟨rfl, rfl⟩
  go_wp2_with fail
  refine HF.out.mono ?_
  rintro e w1 ⟨rfl, b⟩
  have T := Lib.hid b
  clear b
  obtain ⟨g', c', e1, hg, z1, z2, ⟨q0, q1, q2, q3, q4, q5, q6, q7, q8, q9, q10, q11⟩, z3⟩ := AT.out w1 T.out
  injection e1 with e1 e2 e3
  injection e1 with e1
  injection e1 with e1
  subst e1
  clear e2 e3 z1 z2 z3 hg
  have c0 := C0.out w1 T.out
  clear AT C0 HF HN
  go_wp2_with fail
  refine (K.out w1).mono ?_
  rintro e w2 ⟨rfl, b⟩
  have T2 := Lib.hid (T.out.trans (b.mono T.out.size))
  clear b T q0 q1 q2 q3 q4 q5 q6 q7 q8 q9 q10 q11 c0
  go_wp2_with fail
  go_ret2
  exact ⟨rfl, T2.out⟩

set_option maxHeartbeats 1000000 in
theorem look_toWrite {g c : Nat} (h : IsD W p (.slice (some ⟨g, 0, none⟩) rs.length c) N rs) (hi : Fine (evs rs) rs.length) (ix sub : Int) {k : Nat} (hf : fnd (evs rs) ix sub = (k : Int)) (hk : k < rs.length) {r : Rv} (hr : rs.getD k Rv.zero = r) :
    Calls Tryd.prog 44 #[ptr p, .int .i64 ix, .int .i64 sub, .func (.func 43) #[] #[]] W fun e w' => e = .returned (.tuple #[.pointer (some ⟨g, k * 12, none⟩), .int .u32 (writeN r.e.ac)]) ∧ Below W.heap.size W w' := by
  have HN := none_any h
  have HF := find_any h hi ix sub
  have e1 : findA (evs rs) ix sub = ((k : Int), true) := by
    unfold findA
    rw [hf, if_neg (by omega)]
  rw [e1] at HF
  have HF := Lib.hid HF
  have AT := Lib.hid (fun X (b : Below W.heap.size W X) => (h.below b).at hk hr)
  have C0 := Lib.hid (fun X (b : Below W.heap.size W X) => (h.below b).c0)
  have K := Lib.hid (fun X => toWrite_any r X)
  have j1 : (0 : Int) ≤ (k : Int) := by omega
  have j2 : (k : Int) < (rs.length : Int) := by omega
  clear h hi hf e1 hk hr
  generalize rs.length = n at *
  go_enter Tryd.func44, Tryd.ntmps44
  go_wp2_with fail
  refine HN.mono ?_
  rintro e w' ⟨rfl, rfl⟩
  go_wp2_with fail
  refine HF.out.mono ?_
  rintro e w1 ⟨rfl, b⟩
  have T := Lib.hid b
  clear b
  obtain ⟨g', c', e1, hg, z1, z2, ⟨q0, q1, q2, q3, q4, q5, q6, q7, q8, q9, q10, q11⟩, z3⟩ := AT.out w1 T.out
  injection e1 with e1 e2 e3
  injection e1 with e1
  injection e1 with e1
  subst e1
  clear e2 e3 z1 z2 z3 hg
  have c0 := C0.out w1 T.out
  clear AT C0 HF HN
  go_wp2_with fail
  refine (K.out w1).mono ?_
  rintro e w2 ⟨rfl, b⟩
  have T2 := Lib.hid (T.out.trans (b.mono T.out.size))
  clear b T q0 q1 q2 q3 q4 q5 q6 q7 q8 q9 q10 q11 c0
  go_wp2_with fail
  go_ret2
  exact ⟨rfl, T2.out⟩

set_option maxHeartbeats 1000000 in
theorem look_anyhow {g c : Nat} (h : IsD W p (.slice (some ⟨g, 0, none⟩) rs.length c) N rs) (hi : Fine (evs rs) rs.length) (ix sub : Int) {k : Nat} (hf : fnd (evs rs) ix sub = (k : Int)) (hk : k < rs.length) {r : Rv} (hr : rs.getD k Rv.zero = r) :
    Calls Tryd.prog 44 #[ptr p, .int .i64 ix, .int .i64 sub, .func (.func 58) #[] #[]] W fun e w' => e = .returned (.tuple #[.pointer (some ⟨g, k * 12, none⟩), .int .u32 (0)]) ∧ Below W.heap.size W w' := by
  have HN := none_any h
  have HF := find_any h hi ix sub
  have e1 : findA (evs rs) ix sub = ((k : Int), true) := by
    unfold findA
    rw [hf, if_neg (by omega)]
  rw [e1] at HF
  have HF := Lib.hid HF
  have AT := Lib.hid (fun X (b : Below W.heap.size W X) => (h.below b).at hk hr)
  have C0 := Lib.hid (fun X (b : Below W.heap.size W X) => (h.below b).c0)
  have K := Lib.hid (fun X => anyhow_any r X)
  have j1 : (0 : Int) ≤ (k : Int) := by omega
  have j2 : (k : Int) < (rs.length : Int) := by omega
  clear h hi hf e1 hk hr
  generalize rs.length = n at *
  go_enter Tryd.func44, Tryd.ntmps44
  go_wp2_with fail
  refine HN.mono ?_
  rintro e w' ⟨rfl, rfl⟩
  go_wp2_with fail
  refine HF.out.mono ?_
  rintro e w1 ⟨rfl, b⟩
  have T := Lib.hid b
  clear b
  obtain ⟨g', c', e1, hg, z1, z2, ⟨q0, q1, q2, q3, q4, q5, q6, q7, q8, q9, q10, q11⟩, z3⟩ := AT.out w1 T.out
  injection e1 with e1 e2 e3
  injection e1 with e1
  injection e1 with e1
  subst e1
  clear e2 e3 z1 z2 z3 hg
  have c0 := C0.out w1 T.out
  clear AT C0 HF HN
  go_wp2_with fail
  refine (K.out w1).mono ?_
  rintro e w2 ⟨rfl, b⟩
  have T2 := Lib.hid (T.out.trans (b.mono T.out.size))
  clear b T q0 q1 q2 q3 q4 q5 q6 q7 q8 q9 q10 q11 c0
  go_wp2_with fail
  go_ret2
  exact ⟨rfl, T2.out⟩

set_option maxHeartbeats 1000000 in
/-- What is refused ahead of its value. -/
theorem fit_bad {fv pv : Value} {ix sub c : Int} {b : Value} (LK : Calls Tryd.prog 44 #[ptr p, .int .i64 ix, .int .i64 sub, fv] W fun e w' => e = .returned (.tuple #[pv, .int .u32 c]) ∧ Below W.heap.size W w') (hc : c ≠ 0) :
    Calls Tryd.prog 59 #[ptr p, .int .i64 ix, .int .i64 sub, b, fv] W fun e w' => e = .returned (.tuple #[.pointer none, .int .u32 c]) ∧ Below W.heap.size W w' := by
  have hd : (c != 0) = true := by simpa using hc
  clear hc
  have LK := Lib.hid LK
  go_enter Tryd.func59, Tryd.ntmps59
  go_wp2_with fail
  refine LK.out.mono ?_
  rintro e w' ⟨rfl, b⟩
  have T := Lib.hid b
  clear b LK
  go_wp2_with fail
  go_ret2
  exact ⟨rfl, T.out⟩

set_option maxHeartbeats 2000000 in
theorem fit_good {g c : Nat} (h : IsD W p (.slice (some ⟨g, 0, none⟩) rs.length c) N rs) {fv : Value} {ix sub : Int} {k : Nat} (hk : k < rs.length) {r : Rv} (hr : rs.getD k Rv.zero = r)
    (LK : Calls Tryd.prog 44 #[ptr p, .int .i64 ix, .int .i64 sub, fv] W fun e w' => e = .returned (.tuple #[.pointer (some ⟨g, k * 12, none⟩), .int .u32 0]) ∧ Below W.heap.size W w')
    {A : Option Addr} {cb : Nat} {bs : List UInt8} (hb : Rd W W.heap.size A bs) (hl : bs.length ≤ 1000) (hg : TG W) :
    Calls Tryd.prog 59 #[ptr p, .int .i64 ix, .int .i64 sub, .slice A bs.length cb, fv] W fun e w' => e = .returned (.tuple #[.pointer (some ⟨g, k * 12, none⟩), .int .u32 (r.e.val bs)]) ∧ Below W.heap.size W w' := by
  have LK := Lib.hid LK
  have AT := Lib.hid (fun X (b : Below W.heap.size W X) => (h.below b).at hk hr)
  have ok := (h.ok r (by rw [← hr]; exact getD_mem hk)).1
  have V := Lib.hid (fun X (b : Below W.heap.size W X) => value_any r.e.ix r.e.sub r.e.nm r.e.ty r.e.ac r.e.mp r.e.st r.e.mx r.e.lo r.e.hi (.slice r.A r.e.d.length r.cA) A bs.length cb bs X ok.mx.1 ok.mx.2 ((hb.below b).mono b.size) rfl (by omega) (hg.below b (Nat.le_refl _)))
  clear h hr ok hb hg
  go_enter Tryd.func59, Tryd.ntmps59
  go_wp2_with fail
  refine LK.out.mono ?_
  rintro e w1 ⟨rfl, b⟩
  have T := Lib.hid b
  clear b LK
  obtain ⟨g', c', e1, hg, z1, z2, ⟨q0, q1, q2, q3, q4, q5, q6, q7, q8, q9, q10, q11⟩, z3⟩ := AT.out w1 T.out
  injection e1 with e1 e2 e3
  injection e1 with e1
  injection e1 with e1
  subst e1
  clear e2 e3 z1 z2 z3 hg AT
  go_wp2_with fail
  refine (V.out w1 T.out).mono ?_
  rintro e w2 ⟨rfl, b⟩
  have T2 := Lib.hid (T.out.trans (b.mono T.out.size))
  clear b T V q0 q1 q2 q3 q4 q5 q6 q7 q8 q9 q10 q11
  go_wp2_with fail
  go_ret2
  exact ⟨rfl, T2.out⟩

set_option maxHeartbeats 1000000 in
theorem put_bad {fv pv : Value} {ix sub c : Int} {b : Value} (FT : Calls Tryd.prog 59 #[ptr p, .int .i64 ix, .int .i64 sub, b, fv] W fun e w' => e = .returned (.tuple #[pv, .int .u32 c]) ∧ Below W.heap.size W w') (hc : c ≠ 0) :
    Calls Tryd.prog 42 #[ptr p, .int .i64 ix, .int .i64 sub, b, fv] W fun e w' => e = .returned (.int .u32 c) ∧ Below W.heap.size W w' := by
  have hd : (c == 0) = false := by simpa using hc
  clear hc
  have FT := Lib.hid FT
  go_enter Tryd.func42, Tryd.ntmps42
  go_wp2_with fail
  refine FT.out.mono ?_
  rintro e w' ⟨rfl, b⟩
  have T := Lib.hid b
  clear b FT
  go_wp2_with fail
  go_ret
  exact ⟨rfl, T.out⟩

/-- A value is another one. -/
theorem IsD.put {g c : Nat} (h : IsD W p (.slice (some ⟨g, 0, none⟩) rs.length c) N rs) (hN : ∀ q, N q → q < W.heap.size) {k : Nat} (hk : k < rs.length) {r : Rv} (hr : rs.getD k Rv.zero = r) {w1 w2 : World} (b1 : Below W.heap.size W w1) (b : Below w1.heap.size w1 w2)
    {A2 : Option Addr} {c2 : Nat} {bs : List UInt8} (o : Own w2 w1.heap.size YT (.slice A2 bs.length c2) bs) (hl : bs.length ≤ 1000) :
    IsD (w2.setCell ⟨g, k * 12 + 11, none⟩ (.slice A2 bs.length c2)) p (.slice (some ⟨g, 0, none⟩) rs.length c) N (rs.set k { r with V := A2, v := bs, cV := c2 }) := by
  have h1 := h.below b1
  have h2 := h1.below b
  have hgp : g ≠ p := fun e => h.ne (by rw [← e]; rfl)
  have hgN : ¬ N g := h.nk g rfl
  have hs := Nat.le_trans b1.size b.size
  have stay : ∀ q, q ≠ g → (w2.setCell ⟨g, k * 12 + 11, none⟩ (.slice A2 bs.length c2)).heap[q]? = w2.heap[q]? := fun q hq => Below.heap_setCell w2 ⟨g, k * 12 + 11, none⟩ _ q hq
  have sz : (w2.setCell ⟨g, k * 12 + 11, none⟩ (.slice A2 bs.length c2)).heap.size = w2.heap.size := by simp [World.setCell]
  refine ⟨(stay p (Ne.symm hgp)).trans h2.blk, ?_, h2.np, h2.ne, h2.nk, ?_, ?_, by simpa using h2.few⟩
  · have o1 := (World.ownsRow.stored h2.own (k * 12 + 11) (.slice A2 bs.length c2)).1
    rw [flat_set rv_len Rv.zero rs k 11 _ { r with V := A2, v := bs, cV := c2 } hk (by omega) (by rw [hr]; rfl)] at o1
    simpa using o1
  · have old : ∀ x ∈ rs, RdB (Clear (w2.setCell ⟨g, k * 12 + 11, none⟩ (.slice A2 bs.length c2)) (DN N (.slice (some ⟨g, 0, none⟩) rs.length c))) (w2.setCell ⟨g, k * 12 + 11, none⟩ (.slice A2 bs.length c2)) x.A x.e.d ∧ RdB (Clear (w2.setCell ⟨g, k * 12 + 11, none⟩ (.slice A2 bs.length c2)) (DN N (.slice (some ⟨g, 0, none⟩) rs.length c))) (w2.setCell ⟨g, k * 12 + 11, none⟩ (.slice A2 bs.length c2)) x.V x.v := fun x hx =>
      ⟨((h2.data x hx).1.keep fun q hq => stay q fun e => hq.2 (.inr (by rw [e]; rfl))).mono fun q hq => ⟨by rw [sz]; exact hq.1, hq.2⟩, ((h2.data x hx).2.keep fun q hq => stay q fun e => hq.2 (.inr (by rw [e]; rfl))).mono fun q hq => ⟨by rw [sz]; exact hq.1, hq.2⟩⟩
    intro x hx
    rcases List.mem_or_eq_of_mem_set hx with hx | rfl
    · exact old x hx
    · refine ⟨(old r (by rw [← hr]; exact getD_mem hk)).1, ?_⟩
      have rb := rdB_own o rfl
      have hgl : g < W.heap.size := h.vlt rfl
      have hb1 := b1.size
      refine ((rb.keep fun q hq => stay q (by omega)).mono fun q hq => ⟨by rw [sz]; exact hq.2, fun n => ?_⟩)
      rcases n with n | n
      · have := hN q n; have := b1.size; omega
      · have e : g = q := by simpa [Value.ownBlock] using n
        have := b1.size
        omega
  · intro x hx
    rcases List.mem_or_eq_of_mem_set hx with hx | rfl
    · exact h2.ok x hx
    · exact ⟨(h2.ok r (by rw [← hr]; exact getD_mem hk)).1, hl⟩

/-- What a call ends with that sets a value. -/
def PutEnds (W : World) (p : Nat) (v : Value) (N : Nat → Prop) (rs : List Rv) (k : Nat) (r : Rv) (bs : List UInt8) (e : Ending) (w' : World) : Prop :=
  e = .returned (.int .u32 0) ∧ (∃ A2 c2, IsD w' p v N (rs.set k { r with V := A2, v := bs, cV := c2 })) ∧ Upd (fun q => v.ownBlock = some q) W w'

set_option maxHeartbeats 2000000 in
theorem put_good {g c : Nat} (h : IsD W p (.slice (some ⟨g, 0, none⟩) rs.length c) N rs) (hN : ∀ q, N q → q < W.heap.size) {fv : Value} {ix sub : Int} {k : Nat} (hk : k < rs.length) {r : Rv} (hr : rs.getD k Rv.zero = r)
    {A : Option Addr} {cb : Nat} {bs : List UInt8} (hb : Rd W W.heap.size A bs) (hl : bs.length ≤ 1000)
    (FT : Calls Tryd.prog 59 #[ptr p, .int .i64 ix, .int .i64 sub, .slice A bs.length cb, fv] W fun e w' => e = .returned (.tuple #[.pointer (some ⟨g, k * 12, none⟩), .int .u32 0]) ∧ Below W.heap.size W w') :
    Calls Tryd.prog 42 #[ptr p, .int .i64 ix, .int .i64 sub, .slice A bs.length cb, fv] W (PutEnds W p (.slice (some ⟨g, 0, none⟩) rs.length c) N rs k r bs) := by
  have FT := Lib.hid FT
  have AT := Lib.hid (fun X (b : Below W.heap.size W X) => (h.below b).at hk hr)
  have CL := Lib.hid (fun X (b : Below W.heap.size W X) => Byt.clone_any A bs.length cb bs X ((hb.below b).mono b.size) rfl (by omega))
  have PUT := Lib.hid (fun w1 w2 A2 c2 b1 b o => h.put hN hk hr (w1 := w1) (w2 := w2) b1 b (A2 := A2) (c2 := c2) (bs := bs) o hl)
  have hgl : g < W.heap.size := h.vlt rfl
  clear h hr hb hl
  go_enter Tryd.func42, Tryd.ntmps42
  go_wp2_with fail
  refine FT.out.mono ?_
  rintro e w1 ⟨rfl, b⟩
  have T := Lib.hid b
  clear b FT
  go_wp2_with fail
  refine (CL.out w1 T.out).mono ?_
  rintro e w2 ⟨u, rfl, o, b⟩
  obtain ⟨A2, c2, rfl, _⟩ := o.form
  have D2 := Lib.hid (PUT.out w1 w2 A2 c2 T.out b o)
  have T2 := Lib.hid (T.out.trans (b.mono T.out.size))
  clear b T PUT CL o
  obtain ⟨g', c', e1, hg, z1, z2, ⟨q0, q1, q2, q3, q4, q5, q6, q7, q8, q9, q10, q11⟩, z3⟩ := AT.out w2 T2.out
  injection e1 with e1 e2 e3
  injection e1 with e1
  injection e1 with e1
  subst e1
  have f11 := z3 (k * 12 + 11)
  clear e2 e3 z1 z2 z3 hg AT q0 q1 q2 q3 q4 q5 q6 q7 q8 q9 q10
  go_wp2_with fail
  go_ret
  exact ⟨rfl, ⟨A2, c2, D2.out⟩, Upd.set (S := fun q => (Value.slice (some ⟨g, 0, none⟩) rs.length c).ownBlock = some q) (Upd.of_below T2.out) (.inl rfl) _ _⟩
end
end Dic
end Go.Proofs.YtpdnfdpoebhjoaaDoor
