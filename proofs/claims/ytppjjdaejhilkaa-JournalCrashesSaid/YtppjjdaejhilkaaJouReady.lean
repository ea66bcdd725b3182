/-
  Where a record goes: ready.
-/
import Derived.Test.YtppjjdaejhilkaaJouFound
namespace Go.Proofs.Ytppjjdaejhilkaa
namespace Jou
open Go.RowKit Mem Fla Rec Sec
set_option linter.unusedVariables false
set_option linter.unusedSimpArgs false
set_option maxRecDepth 100000

/-- A journal on a flash, as both stand, nothing being out of date. -/
structure IsJ (W : World) (q L p D c : Nat) (s : Fl) : Prop where
  fd : IsFd W q L (nsec s.bs) (lk s.bs) (fun i => clean (secOf s.bs i))
  row : W.heap[q]? = some (.cells #[.slice (some ⟨L, 0, none⟩) (nsec s.bs) (nsec s.bs), at_ p, .bool false] TJ (0, 0))
  fl : IsF W p D c s
  pq : p < q
  Dq : D < q
section
variable {w W W' : World} {q L p D c : Nat} {s : Fl}
theorem IsJ.c1 (h : IsJ W q L p D c s) : W.cell? ⟨q, 1, none⟩ = some (at_ p) := cell_of h.row 1
theorem IsJ.c2 (h : IsJ W q L p D c s) : W.cell? ⟨q, 2, none⟩ = some (.bool false) := cell_of h.row 2
theorem IsJ.lt (h : IsJ W q L p D c s) : q < W.heap.size := (Array.getElem?_eq_some_iff.1 h.row).1
theorem IsJ.below (h : IsJ W q L p D c s) {B : Nat} (hb : Below B W W') (hB : W.heap.size ≤ B) : IsJ W' q L p D c s :=
  ⟨h.fd.below hb hB, (hb.block q (Nat.lt_of_lt_of_le h.lt hB)).trans h.row, h.fl.below hb hB, h.pq, h.Dq⟩
theorem IsJ.alloc (h : IsJ W q L p D c s) (o : Obj) : IsJ (W.alloc o) q L p D c s := h.below ((Below.refl _ _).alloc (Nat.le_refl _) o) (Nat.le_refl _)
/-- What the flash's doings leave. -/
theorem IsFd.far {N : Nat} {f : Nat → Lk} {cl : Nat → Bool} (h : IsFd W q L N f cl) (hf : Far p D W W') (hp : p < q) (hD : D < q) : IsFd W' q L N f cl :=
  h.keep fun k h1 h2 => hf.block k h1 (by omega) (by omega)
theorem nsec8 (h : s.Ok) : nsec s.bs ≤ 8 := by have := h.len1; unfold nsec; omega
theorem room_eq (bs : List UInt8) (a n : Nat) : roomB (clean (secOf bs a)) ((lk bs a).e : Int) (n : Int) = room bs a n := by
  unfold roomB room
  rw [Bool.eq_iff_iff]
  simp only [Bool.and_eq_true, decide_eq_true_eq]
  constructor
  · rintro ⟨h1, h2, h3, h4, h5, h6⟩
    exact ⟨h1, by omega, by omega, by omega⟩
  · rintro ⟨h1, h2, h3, h4⟩
    exact ⟨h1, by omega, by omega, by omega, by omega, by omega⟩
/-- What ready answers. -/
def rdy (s : Fl) (n : Nat) : Nat × Nat × Int × Fl :=
  match place s n with
  | none => (0, 0, 10, s)
  | some x => if x.er then (x.t, 0, s.eraseC x.t, s.erase x.t) else (x.t, x.e, 0, s)
def RdyTo (p D c : Nat) (w : World) (r : Nat × Nat × Int × Fl) (e : Ending) (w' : World) : Prop :=
  e = .returned (.tuple #[.int .i64 (r.1 : Int), .int .i64 (r.2.1 : Int), .int .i64 r.2.2.1]) ∧ IsF w' p D c r.2.2.2 ∧ Far p D w w'
theorem rdy_room {a n : Nat} (h : newest s.bs = some a) (hr : room s.bs a n = true) : rdy s n = (a, (lk s.bs a).e, 0, s) := by
  unfold rdy place
  simp only [h, if_pos hr]
  rfl
theorem rdy_next {n : Nat} (h : ∀ a, newest s.bs = some a → room s.bs a n = false) : rdy s n = match nxtF (can s) s.wearAt (nsec s.bs) with
    | none => (0, 0, 10, s)
    | some t => if !unused s.bs t then (t, 0, s.eraseC t, s.erase t) else (t, 0, 0, s) := by
  have e : place s n = begin_ s := by
    unfold place
    cases hn : newest s.bs with
    | none => rfl
    | some a => simp only [h a hn]; rfl
  unfold rdy
  rw [e]
  unfold begin_
  cases nxtF (can s) s.wearAt (nsec s.bs) with
  | none => rfl
  | some t => rfl
def wornL (s : Fl) : List Int := (List.range (nsec s.bs)).map fun (k : Nat) => s.worn (k : Int)
def leftL (s : Fl) : List Int := (List.range (nsec s.bs)).map fun (k : Nat) => s.left (k : Int)
theorem wornL_len (s : Fl) : (wornL s).length = nsec s.bs := by simp [wornL]
theorem leftL_len (s : Fl) : (leftL s).length = nsec s.bs := by simp [leftL]
theorem wornL_get {i : Nat} (hi : i < nsec s.bs) : (wornL s).getD i 0 = s.worn (i : Int) := by
  unfold wornL
  simp [List.getD_eq_getElem?_getD, List.getElem?_map, List.getElem?_range, hi]
theorem leftL_get {i : Nat} (hi : i < nsec s.bs) : (leftL s).getD i 0 = s.left (i : Int) := by
  unfold leftL
  simp [List.getD_eq_getElem?_getD, List.getElem?_map, List.getElem?_range, hi]
theorem jworn_any (h : IsJ w q L p D c s) {W : World} (b : Below w.heap.size w W) :
    Calls Try.prog 71 #[at_ q, .func (.func 25) #[at_ p] #[]] W fun e w' => ∃ g, e = .returned (.slice (some ⟨g, 0, none⟩) (nsec s.bs) (nsec s.bs)) ∧
      OwnI .i64 w' W.heap.size 3 (.slice (some ⟨g, 0, none⟩) (nsec s.bs) (nsec s.bs)) (wornL s) ∧ Below W.heap.size W w' :=
  fdeach_worn (h.fd.below b (Nat.le_refl _)) p (fun k => s.worn (k : Int)) (Lib.hid fun W' k b' _ => (fworn_any (k : Int) ((h.fl.below b (Nat.le_refl _)).below b' (Nat.le_refl _))).mono (by rintro e w' ⟨rfl, rfl⟩; exact ⟨rfl, Below.refl _ _⟩))
theorem jleft_any (h : IsJ w q L p D c s) {W : World} (b : Below w.heap.size w W) :
    Calls Try.prog 71 #[at_ q, .func (.func 72) #[at_ p] #[]] W fun e w' => ∃ g, e = .returned (.slice (some ⟨g, 0, none⟩) (nsec s.bs) (nsec s.bs)) ∧
      OwnI .i64 w' W.heap.size 3 (.slice (some ⟨g, 0, none⟩) (nsec s.bs) (nsec s.bs)) (leftL s) ∧ Below W.heap.size W w' :=
  fdeach_left (h.fd.below b (Nat.le_refl _)) p (fun k => s.left (k : Int)) (Lib.hid fun W' k b' _ => fleft_any (k : Int) ((h.fl.below b (Nat.le_refl _)).below b' (Nat.le_refl _)))
theorem worn_at {i : Nat} (hi : i < nsec s.bs) : s.worn (i : Int) = s.wearAt i := by
  unfold Fl.worn
  have : s.has (i : Int) = true := by
    unfold Fl.has
    unfold nsec at hi
    simp
    omega
  rw [this]
  simp
theorem jnext_any (h : IsJ w q L p D c s) {W : World} (b : Below w.heap.size w W) (g1 g2 : Nat) (r1 : RdI .i64 W W.heap.size (some ⟨g1, 0, none⟩) (wornL s))
    (r2 : RdI .i64 W W.heap.size (some ⟨g2, 0, none⟩) (leftL s)) :
    Calls Try.prog 70 #[.slice (some ⟨L, 0, none⟩) (nsec s.bs) (nsec s.bs), .slice (some ⟨g1, 0, none⟩) (nsec s.bs) (nsec s.bs), .slice (some ⟨g2, 0, none⟩) (nsec s.bs) (nsec s.bs)] W fun e w' =>
      e = .returned (.tuple #[.int .i64 (((nxtF (can s) s.wearAt (nsec s.bs)).getD 0 : Nat) : Int), .bool (nxtF (can s) s.wearAt (nsec s.bs)).isSome]) ∧ Below W.heap.size W w' := by
  have h8 := nsec8 h.fl.ok
  have h' := h.below b (Nat.le_refl _)
  obtain ⟨ls, hl, hr, hs⟩ := h'.fd.l.list (B := W.heap.size) h'.fd.l.lt
  have H := Sec.next_any (some ⟨L, 0, none⟩) (some ⟨g1, 0, none⟩) (some ⟨g2, 0, none⟩) (nsec s.bs) (nsec s.bs) (nsec s.bs) ls _ _ W hr (by omega) r1 r2 (by rw [wornL_len]; omega) (by rw [leftL_len]; omega)
  rw [hl, wornL_len, leftL_len, nst_nstF (f := lk s.bs) _ fun i hi => ⟨(hs i hi).1, (hs i hi).2.1⟩] at H
  rw [nxt_nxtF (can := can s) (w := s.wearAt) _ fun i hi => ?_] at H
  · exact H
  · refine ⟨?_, ?_⟩
    · unfold Sec.Can can unused
      have e1 : (leftL s).getD i 0 = s.left (i : Int) := leftL_get hi
      rw [e1, (hs i hi).2.1, (hs i hi).2.2.2.1]
      simp only [Bool.and_eq_true, Bool.or_eq_true, decide_eq_true_eq]
      constructor
      · rintro ⟨a1, a2 | a2⟩
        · exact ⟨a1, .inl ⟨by omega, a2.2⟩⟩
        · exact ⟨a1, .inr a2⟩
      · rintro ⟨a1, a2 | a2⟩
        · exact ⟨a1, .inl ⟨by omega, a2.2⟩⟩
        · exact ⟨a1, .inr a2⟩
    · rw [← worn_at hi]
      exact wornL_get hi

set_option maxHeartbeats 1000000 in
theorem ready_room (n a : Nat) (hn : n ≤ 960) (h : IsJ w q L p D c s) (hnw : newest s.bs = some a) (hrm : room s.bs a n = true) :
    Calls Try.prog 51 #[at_ q, .int .i64 (n : Int)] w (RdyTo p D c w (rdy s n)) := by
  have h8 := nsec8 h.fl.ok
  have HN := Lib.hid (fdnewest_any h.fd)
  have en : nstF (lk s.bs) (nsec s.bs) = newest s.bs := rfl
  rw [en, hnw] at HN
  clear en
  simp only [Option.getD_some, Option.isSome_some] at HN
  have ha : a < nsec s.bs := by
    have := newest_spec s.bs
    rw [hnw] at this
    exact this.1
  have HI := Lib.hid h
  rw [rdy_room hnw hrm]
  obtain ⟨v, o, hc⟩ := h.fd.l.at_ a ha
  obtain ⟨A1, c1, rfl, _⟩ := o.form
  have re := Lib.hid ((room_eq s.bs a n).trans hrm)
  have HC := Lib.hid (fun j hj => hc j hj)
  have hLlt := h.fd.l.lt
  have he : (lk s.bs a).e ≤ 1024 := by
    unfold room at hrm
    simp only [Bool.and_eq_true, decide_eq_true_eq] at hrm
    exact hrm.2.1
  have HR := Lib.hid (fun W => Sec.room_any ⟨(lk s.bs a).k, (lk s.bs a).n, A1, (lk s.bs a).d.length, c1, (lk s.bs a).cnt, (lk s.bs a).e, clean (secOf s.bs a)⟩ n W (by omega) (by omega) (by show _ ≤ ((lk s.bs a).e : Int); omega) (by show ((lk s.bs a).e : Int) ≤ _; omega))
  simp only [re.out, Lv.vals] at HR
  simp only [lkv] at HC
  generalize lk s.bs a = x at *
  generalize clean (secOf s.bs a) = y at *
  clear hrm hnw re hc o h
  go_enter Try.func51, Try.ntmps51
  go_wp2_with fail
  refine HN.out.mono ?_
  rintro e w1 ⟨rfl, b1⟩
  have c0 := (HI.out.fd.below b1 (Nat.le_refl _)).c0
  have k0 := (b1.cell (p := ⟨L, a * 6 + 0, none⟩) hLlt).trans (HC.out 0 (by omega))
  have k1 := (b1.cell (p := ⟨L, a * 6 + 1, none⟩) hLlt).trans (HC.out 1 (by omega))
  have k2 := (b1.cell (p := ⟨L, a * 6 + 2, none⟩) hLlt).trans (HC.out 2 (by omega))
  have k3 := (b1.cell (p := ⟨L, a * 6 + 3, none⟩) hLlt).trans (HC.out 3 (by omega))
  have k4 := (b1.cell (p := ⟨L, a * 6 + 4, none⟩) hLlt).trans (HC.out 4 (by omega))
  have k5 := (b1.cell (p := ⟨L, a * 6 + 5, none⟩) hLlt).trans (HC.out 5 (by omega))
  simp only [List.getElem?_cons_zero, List.getElem?_cons_succ, Nat.add_zero] at k0 k1 k2 k3 k4 k5
  go_wp2_with fail
  refine (HR.out _).mono ?_
  rintro e w2 ⟨rfl, b2⟩
  have k4' := (b2.cell (p := ⟨L, a * 6 + 4, none⟩) (Nat.lt_of_lt_of_le hLlt b1.size)).trans k4
  have c0' := (HI.out.fd.below (b1.trans (b2.mono b1.size)) (Nat.le_refl _)).c0
  have B2 := Lib.hid (b1.trans (b2.mono b1.size))
  clear k0 k1 k2 k3 k4 k5 c0 b2
  go_wp2_with fail
  have k4 := k4'
  have c0 := c0'
  go_quiet (fail)
  go_wp2_with fail
  go_ret3
  exact ⟨rfl, (HI.out.fl.below B2.out (Nat.le_refl _)).below (below_drewN (Below.refl _ _) _) (Nat.le_refl _), Far.of_below (below_drewN B2.out _) (Nat.le_refl _)⟩
end
end Jou
end Go.Proofs.Ytppjjdaejhilkaa
