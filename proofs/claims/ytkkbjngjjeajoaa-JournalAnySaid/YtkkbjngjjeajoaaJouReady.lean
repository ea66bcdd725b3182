/-
  Where a record goes: ready.
  Where a record goes, if its sector has no room.
  An Append as a value, in the words of what ready answers. No program is named here.
  A new flash, and the first Append. No program is named here.
  lay and Append.
  Open, Last, At.
-/
import Derived.Test.YtkkbjngjjeajoaaJouInts
import Derived.Test.YtkkbjngjjeajoaaFlaKnown
import Derived.Test.YtkkbjngjjeajoaaClone
namespace Go.Proofs.Ytkkbjngjjeajoaa
namespace Jou
open Go.RowKit Mem Fla Rec Sec
set_option linter.unusedVariables false
set_option linter.unusedSimpArgs false
set_option maxRecDepth 100000

/-- A journal on a flash, as both stand, nothing being out of date. -/
structure IsJ (W : World) (q L p D c : Nat) (s : Fl) : Prop where
  fd : IsFd W q L (nsec s.bs) (lk s.bs) (fun i => clean (secOf s.bs i))
  row : W.heap[q]? = some (.cells #[.slice (some ⟨L, 0, none⟩) (nsec s.bs) (nsec s.bs), at_ p, .bool false] TJ (0, 0))
  fl : IsF W p D c s
  pq : p < q
  Dq : D < q
section
variable {w W W' : World} {q L p D c : Nat} {s : Fl}
theorem IsJ.c1 (h : IsJ W q L p D c s) : W.cell? ⟨q, 1, none⟩ = some (at_ p) := cell_of h.row 1
theorem IsJ.c2 (h : IsJ W q L p D c s) : W.cell? ⟨q, 2, none⟩ = some (.bool false) := cell_of h.row 2
theorem IsJ.lt (h : IsJ W q L p D c s) : q < W.heap.size := (Array.getElem?_eq_some_iff.1 h.row).1
theorem IsJ.below (h : IsJ W q L p D c s) {B : Nat} (hb : Below B W W') (hB : W.heap.size ≤ B) : IsJ W' q L p D c s :=
  ⟨h.fd.below hb hB, (hb.block q (Nat.lt_of_lt_of_le h.lt hB)).trans h.row, h.fl.below hb hB, h.pq, h.Dq⟩
theorem IsJ.alloc (h : IsJ W q L p D c s) (o : Obj) : IsJ (W.alloc o) q L p D c s := h.below ((Below.refl _ _).alloc (Nat.le_refl _) o) (Nat.le_refl _)
/-- What the flash's doings leave. -/
theorem IsFd.far {N : Nat} {f : Nat → Lk} {cl : Nat → Bool} (h : IsFd W q L N f cl) (hf : Far p D W W') (hp : p < q) (hD : D < q) : IsFd W' q L N f cl :=
  h.keep fun k h1 h2 => hf.block k h1 (by omega) (by omega)
theorem nsec8 (h : s.Ok) : nsec s.bs ≤ 8 := by have := h.len1; unfold nsec; omega
theorem room_eq (bs : List UInt8) (a n : Nat) : roomB (clean (secOf bs a)) ((lk bs a).e : Int) (n : Int) = room bs a n := by
  unfold roomB room
  rw [Bool.eq_iff_iff]
  simp only [Bool.and_eq_true, decide_eq_true_eq]
  constructor
  · rintro ⟨h1, h2, h3, h4, h5, h6⟩
    exact ⟨h1, by omega, by omega, by omega⟩
  · rintro ⟨h1, h2, h3, h4⟩
    exact ⟨h1, by omega, by omega, by omega, by omega, by omega⟩
/-- What ready answers. -/
def rdy (s : Fl) (n : Nat) : Nat × Nat × Int × Fl :=
  match place s n with
  | none => (0, 0, 10, s)
  | some x => if x.er then (x.t, 0, s.eraseC x.t, s.erase x.t) else (x.t, x.e, 0, s)
def RdyTo (p D c : Nat) (w : World) (r : Nat × Nat × Int × Fl) (e : Ending) (w' : World) : Prop :=
  e = .returned (.tuple #[.int .i64 (r.1 : Int), .int .i64 (r.2.1 : Int), .int .i64 r.2.2.1]) ∧ IsF w' p D c r.2.2.2 ∧ Far p D w w'
theorem rdy_room {a n : Nat} (h : newest s.bs = some a) (hr : room s.bs a n = true) : rdy s n = (a, (lk s.bs a).e, 0, s) := by
  unfold rdy place
  simp only [h, if_pos hr]
  rfl
theorem rdy_next {n : Nat} (h : ∀ a, newest s.bs = some a → room s.bs a n = false) : rdy s n = match nxtF (can s) s.wearAt (nsec s.bs) with
    | none => (0, 0, 10, s)
    | some t => if !unused s.bs t then (t, 0, s.eraseC t, s.erase t) else (t, 0, 0, s) := by
  have e : place s n = begin_ s := by
    unfold place
    cases hn : newest s.bs with
    | none => rfl
    | some a => simp only [h a hn]; rfl
  unfold rdy
  rw [e]
  unfold begin_
  cases nxtF (can s) s.wearAt (nsec s.bs) with
  | none => rfl
  | some t => rfl
def wornL (s : Fl) : List Int := (List.range (nsec s.bs)).map fun (k : Nat) => s.worn (k : Int)
def leftL (s : Fl) : List Int := (List.range (nsec s.bs)).map fun (k : Nat) => s.left (k : Int)
theorem wornL_len (s : Fl) : (wornL s).length = nsec s.bs := by simp [wornL]
theorem leftL_len (s : Fl) : (leftL s).length = nsec s.bs := by simp [leftL]
theorem wornL_get {i : Nat} (hi : i < nsec s.bs) : (wornL s).getD i 0 = s.worn (i : Int) := by
  unfold wornL
  simp [List.getD_eq_getElem?_getD, List.getElem?_map, List.getElem?_range, hi]
theorem leftL_get {i : Nat} (hi : i < nsec s.bs) : (leftL s).getD i 0 = s.left (i : Int) := by
  unfold leftL
  simp [List.getD_eq_getElem?_getD, List.getElem?_map, List.getElem?_range, hi]
theorem jworn_any (h : IsJ w q L p D c s) {W : World} (b : Below w.heap.size w W) :
    Calls Try.prog 100 #[at_ q, .func (.func 48) #[at_ p] #[]] W fun e w' => ∃ g, e = .returned (.slice (some ⟨g, 0, none⟩) (nsec s.bs) (nsec s.bs)) ∧
      OwnI .i64 w' W.heap.size 3 (.slice (some ⟨g, 0, none⟩) (nsec s.bs) (nsec s.bs)) (wornL s) ∧ Below W.heap.size W w' :=
  fdeach_worn (h.fd.below b (Nat.le_refl _)) p (fun k => s.worn (k : Int)) (Lib.hid fun W' k b' _ => (fworn_any (k : Int) ((h.fl.below b (Nat.le_refl _)).below b' (Nat.le_refl _))).mono (by rintro e w' ⟨rfl, rfl⟩; exact ⟨rfl, Below.refl _ _⟩))
theorem jleft_any (h : IsJ w q L p D c s) {W : World} (b : Below w.heap.size w W) :
    Calls Try.prog 100 #[at_ q, .func (.func 101) #[at_ p] #[]] W fun e w' => ∃ g, e = .returned (.slice (some ⟨g, 0, none⟩) (nsec s.bs) (nsec s.bs)) ∧
      OwnI .i64 w' W.heap.size 3 (.slice (some ⟨g, 0, none⟩) (nsec s.bs) (nsec s.bs)) (leftL s) ∧ Below W.heap.size W w' :=
  fdeach_left (h.fd.below b (Nat.le_refl _)) p (fun k => s.left (k : Int)) (Lib.hid fun W' k b' _ => fleft_any (k : Int) ((h.fl.below b (Nat.le_refl _)).below b' (Nat.le_refl _)))
theorem worn_at {i : Nat} (hi : i < nsec s.bs) : s.worn (i : Int) = s.wearAt i := by
  unfold Fl.worn
  have : s.has (i : Int) = true := by
    unfold Fl.has
    unfold nsec at hi
    simp
    omega
  rw [this]
  simp
theorem jnext_any (h : IsJ w q L p D c s) {W : World} (b : Below w.heap.size w W) (g1 g2 : Nat) (r1 : RdI .i64 W W.heap.size (some ⟨g1, 0, none⟩) (wornL s))
    (r2 : RdI .i64 W W.heap.size (some ⟨g2, 0, none⟩) (leftL s)) :
    Calls Try.prog 99 #[.slice (some ⟨L, 0, none⟩) (nsec s.bs) (nsec s.bs), .slice (some ⟨g1, 0, none⟩) (nsec s.bs) (nsec s.bs), .slice (some ⟨g2, 0, none⟩) (nsec s.bs) (nsec s.bs)] W fun e w' =>
      e = .returned (.tuple #[.int .i64 (((nxtF (can s) s.wearAt (nsec s.bs)).getD 0 : Nat) : Int), .bool (nxtF (can s) s.wearAt (nsec s.bs)).isSome]) ∧ Below W.heap.size W w' := by
  have h8 := nsec8 h.fl.ok
  have h' := h.below b (Nat.le_refl _)
  obtain ⟨ls, hl, hr, hs⟩ := h'.fd.l.list (B := W.heap.size) h'.fd.l.lt
  have H := Sec.next_any (some ⟨L, 0, none⟩) (some ⟨g1, 0, none⟩) (some ⟨g2, 0, none⟩) (nsec s.bs) (nsec s.bs) (nsec s.bs) ls _ _ W hr (by omega) r1 r2 (by rw [wornL_len]; omega) (by rw [leftL_len]; omega)
  rw [hl, wornL_len, leftL_len, nst_nstF (f := lk s.bs) _ fun i hi => ⟨(hs i hi).1, (hs i hi).2.1⟩] at H
  rw [nxt_nxtF (can := can s) (w := s.wearAt) _ fun i hi => ?_] at H
  · exact H
  · refine ⟨?_, ?_⟩
    · unfold Sec.Can can unused
      have e1 : (leftL s).getD i 0 = s.left (i : Int) := leftL_get hi
      rw [e1, (hs i hi).2.1, (hs i hi).2.2.2.1]
      simp only [Bool.and_eq_true, Bool.or_eq_true, decide_eq_true_eq]
      constructor
      · rintro ⟨a1, a2 | a2⟩
        · exact ⟨a1, .inl ⟨by omega, a2.2⟩⟩
        · exact ⟨a1, .inr a2⟩
      · rintro ⟨a1, a2 | a2⟩
        · exact ⟨a1, .inl ⟨by omega, a2.2⟩⟩
        · exact ⟨a1, .inr a2⟩
    · rw [← worn_at hi]
      exact wornL_get hi

set_option maxHeartbeats 1000000 in
theorem ready_room (n a : Nat) (hn : n ≤ 960) (h : IsJ w q L p D c s) (hnw : newest s.bs = some a) (hrm : room s.bs a n = true) :
    Calls Try.prog 75 #[at_ q, .int .i64 (n : Int)] w (RdyTo p D c w (rdy s n)) := by
  have h8 := nsec8 h.fl.ok
  have HN := Lib.hid (fdnewest_any h.fd)
  have en : nstF (lk s.bs) (nsec s.bs) = newest s.bs := rfl
  rw [en, hnw] at HN
  clear en
  simp only [Option.getD_some, Option.isSome_some] at HN
  have ha : a < nsec s.bs := by
    have := newest_spec s.bs
    rw [hnw] at this
    exact this.1
  have HI := Lib.hid h
  rw [rdy_room hnw hrm]
  obtain ⟨v, o, hc⟩ := h.fd.l.at_ a ha
  obtain ⟨A1, c1, rfl, _⟩ := o.form
  have re := Lib.hid ((room_eq s.bs a n).trans hrm)
  have HC := Lib.hid (fun j hj => hc j hj)
  have hLlt := h.fd.l.lt
  have he : (lk s.bs a).e ≤ 1024 := by
    unfold room at hrm
    simp only [Bool.and_eq_true, decide_eq_true_eq] at hrm
    exact hrm.2.1
  have HR := Lib.hid (fun W => Sec.room_any ⟨(lk s.bs a).k, (lk s.bs a).n, A1, (lk s.bs a).d.length, c1, (lk s.bs a).cnt, (lk s.bs a).e, clean (secOf s.bs a)⟩ n W (by omega) (by omega) (by show _ ≤ ((lk s.bs a).e : Int); omega) (by show ((lk s.bs a).e : Int) ≤ _; omega))
  simp only [re.out, Lv.vals] at HR
  simp only [lkv] at HC
  generalize lk s.bs a = x at *
  generalize clean (secOf s.bs a) = y at *
  clear hrm hnw re hc o h
  go_enter Try.func75, Try.ntmps75
  go_wp2_with fail
  refine HN.out.mono ?_
  rintro e w1 ⟨rfl, b1⟩
  have c0 := (HI.out.fd.below b1 (Nat.le_refl _)).c0
  have k0 := (b1.cell (p := ⟨L, a * 6 + 0, none⟩) hLlt).trans (HC.out 0 (by omega))
  have k1 := (b1.cell (p := ⟨L, a * 6 + 1, none⟩) hLlt).trans (HC.out 1 (by omega))
  have k2 := (b1.cell (p := ⟨L, a * 6 + 2, none⟩) hLlt).trans (HC.out 2 (by omega))
  have k3 := (b1.cell (p := ⟨L, a * 6 + 3, none⟩) hLlt).trans (HC.out 3 (by omega))
  have k4 := (b1.cell (p := ⟨L, a * 6 + 4, none⟩) hLlt).trans (HC.out 4 (by omega))
  have k5 := (b1.cell (p := ⟨L, a * 6 + 5, none⟩) hLlt).trans (HC.out 5 (by omega))
  simp only [List.getElem?_cons_zero, List.getElem?_cons_succ, Nat.add_zero] at k0 k1 k2 k3 k4 k5
  go_wp2_with fail
  refine (HR.out _).mono ?_
  rintro e w2 ⟨rfl, b2⟩
  have k4' := (b2.cell (p := ⟨L, a * 6 + 4, none⟩) (Nat.lt_of_lt_of_le hLlt b1.size)).trans k4
  have c0' := (HI.out.fd.below (b1.trans (b2.mono b1.size)) (Nat.le_refl _)).c0
  have B2 := Lib.hid (b1.trans (b2.mono b1.size))
  clear k0 k1 k2 k3 k4 k5 c0 b2
  go_wp2_with fail
  have k4 := k4'
  have c0 := c0'
  go_quiet (fail)
  go_wp2_with fail
  go_ret3
  exact ⟨rfl, (HI.out.fl.below B2.out (Nat.le_refl _)).below (below_drewN (Below.refl _ _) _) (Nat.le_refl _), Far.of_below (below_drewN B2.out _) (Nat.le_refl _)⟩
end
end Jou
end Go.Proofs.Ytkkbjngjjeajoaa

namespace Go.Proofs.Ytkkbjngjjeajoaa
namespace Jou
open Go.RowKit Mem Fla Rec Sec
set_option linter.unusedVariables false
set_option linter.unusedSimpArgs false
set_option maxRecDepth 100000
section
variable {w W W' : World} {q L p D c : Nat} {s : Fl}
set_option maxHeartbeats 4000000 in
theorem ready_none (n : Nat) (hn : n ≤ 960) (h : IsJ w q L p D c s) (hon : s.on = true) (ho : s.ops < 4611686018427387904) (hnw : newest s.bs = none) :
    Calls Try.prog 75 #[at_ q, .int .i64 (n : Int)] w (RdyTo p D c w (rdy s n)) := by
  have h8 := nsec8 h.fl.ok
  have HN := Lib.hid (fdnewest_any h.fd)
  have en : nstF (lk s.bs) (nsec s.bs) = newest s.bs := rfl
  rw [en] at HN
  clear en
  rw [rdy_next (fun a e => by rw [hnw] at e; cases e)]
  rw [hnw] at HN
  simp only [Option.getD_none, Option.isSome_none] at HN
  have HI := Lib.hid h
  have hlt := (nxtF_spec (can s) s.wearAt (nsec s.bs)).2
  have HU := Lib.hid (fun W (b : Below w.heap.size w W) t (ht : t < nsec s.bs) => fdunused_any (HI.out.fd.below b (Nat.le_refl _)) t ht)
  have HE := Lib.hid (fun W (b : Below w.heap.size w W) (t : Nat) (ht : t < nsec s.bs) => erase_any (t : Int) (by omega) (by omega) (HI.out.fl.below b (Nat.le_refl _)) ho)
  have EN := Lib.hid (fun W (b : Below w.heap.size w W) => jnext_any HI.out b)
  generalize nxtF (can s) s.wearAt (nsec s.bs) = r at hlt EN ⊢
  have hlt := Lib.hid hlt
  clear h
  go_enter Try.func75, Try.ntmps75
  go_wp2_with fail
  refine HN.out.mono ?_
  rintro e w1 ⟨rfl, b1⟩
  have c0 := (HI.out.fd.below b1 (Nat.le_refl _)).c0
  have k1 := (HI.out.below b1 (Nat.le_refl _)).c1
  have EW := Lib.hid (fun W (b : Below w.heap.size w W) => jworn_any HI.out b)
  have EL := Lib.hid (fun W (b : Below w.heap.size w W) => jleft_any HI.out b)
  have LW := Lib.hid (wornL_len s)
  have LL := Lib.hid (leftL_len s)
  generalize wornL s = zw at *
  generalize leftL s = zl at *
  have BD := Lib.hid (below_drewN b1 1)
  go_wp2_with fail
  clear HN b1 hnw
  go_region_held (fun W => W.cell? ⟨q, 0, none⟩ = some (.slice (some ⟨L, 0, none⟩) (nsec s.bs) (nsec s.bs)) ∧ W.cell? ⟨q, 1, none⟩ = some (at_ p)) (first | exact ⟨c0, k1⟩ | exact ⟨c2, k2⟩ | exact ⟨c3, k3⟩ | exact ⟨c4, k4⟩) (first
    | (go_at_call 99; refine (EN.out _ B3.out _ _ O1'.out.rdi O2.out.rdi).mono ?_; rintro e w4 ⟨rfl, b4⟩; have B4 := Lib.hid (B3.out.trans (b4.mono B3.out.size)); have c4 := (HI.out.fd.below B4.out (Nat.le_refl _)).c0; have k4 := (HI.out.below B4.out (Nat.le_refl _)).c1; clear b4)
    | (go_at_call 100; refine (EL.out _ B2.out).mono ?_; rintro e w3 ⟨g2, rfl, o2, b3⟩; have B3 := Lib.hid (B2.out.trans (b3.mono B2.out.size)); have O2 := Lib.hid o2; have O1' := Lib.hid (O1.out.keep (b3.block _ O1.out.lt.2)); have c3 := (HI.out.fd.below B3.out (Nat.le_refl _)).c0; have k3 := (HI.out.below B3.out (Nat.le_refl _)).c1; clear b3 o2)
    | (go_at_call 100; refine (EW.out _ BD.out).mono ?_; rintro e w2 ⟨g1, rfl, o1, b2⟩; have B2 := Lib.hid (BD.out.trans (b2.mono BD.out.size)); have O1 := Lib.hid o1; have c2 := (HI.out.fd.below B2.out (Nat.le_refl _)).c0; have k2 := (HI.out.below B2.out (Nat.le_refl _)).c1; clear b2 o1))
  all_goals
    clear c0 k1 c2 k2 c3 k3 c4 k4 O1 O2 O1' B2 B3 EW EL EN BD LW LL
    cases r with
    | none =>
      go_wp2_with fail
      go_ret3
      exact ⟨rfl, HI.out.fl.below B4.out (Nat.le_refl _), Far.of_below B4.out (Nat.le_refl _)⟩
    | some t =>
      have ht := (hlt.out t rfl).1
      have hU : (decide ((lk s.bs t).cnt = 0) && clean (secOf s.bs t)) = unused s.bs t := rfl
      have HUt := Lib.hid (HU.out _ B4.out t ht)
      rw [hU] at HUt
      have HEt := Lib.hid (HE.out _ B4.out t ht)
      clear hU HU HE hlt
      simp only [Option.getD_some, Option.isSome_some]
      cases hu : unused s.bs t with
      | true =>
        rw [hu] at HUt
        go_wp2_with fail
        refine HUt.out.mono ?_
        rintro e w5 ⟨rfl, rfl⟩
        go_wp2_with fail
        go_ret3
        exact ⟨rfl, HI.out.fl.below B4.out (Nat.le_refl _), Far.of_below B4.out (Nat.le_refl _)⟩
      | false =>
        rw [hu] at HUt
        have k5 := (HI.out.below B4.out (Nat.le_refl _)).c1
        go_wp2_with fail
        refine HUt.out.mono ?_
        rintro e w5 ⟨rfl, rfl⟩
        go_wp2_with fail
        refine HEt.out.mono ?_
        rintro e w6 ⟨rfl, i6, f6⟩
        have F6 := Lib.hid ((Far.of_below (p := p) (D := D) B4.out (Nat.le_refl _)).trans f6)
        have I6 := Lib.hid i6
        clear i6 f6
        go_wp2_with fail
        go_ret3
        exact ⟨rfl, I6.out, F6.out⟩
set_option maxHeartbeats 4000000 in
theorem ready_full (n a : Nat) (hn : n ≤ 960) (h : IsJ w q L p D c s) (hon : s.on = true) (ho : s.ops < 4611686018427387904) (hnw : newest s.bs = some a) (hrm : room s.bs a n = false) :
    Calls Try.prog 75 #[at_ q, .int .i64 (n : Int)] w (RdyTo p D c w (rdy s n)) := by
  have h8 := nsec8 h.fl.ok
  have HN := Lib.hid (fdnewest_any h.fd)
  have en : nstF (lk s.bs) (nsec s.bs) = newest s.bs := rfl
  rw [en] at HN
  clear en
  rw [rdy_next (fun b e => by rw [hnw] at e; cases e; exact hrm)]
  rw [hnw] at HN
  simp only [Option.getD_some, Option.isSome_some] at HN
  have ha : a < nsec s.bs := by
    have := newest_spec s.bs
    rw [hnw] at this
    exact this.1
  obtain ⟨v, o, hc⟩ := h.fd.l.at_ a ha
  obtain ⟨A1, c1, rfl, _⟩ := o.form
  have re := Lib.hid ((room_eq s.bs a n).trans hrm)
  have HC := Lib.hid (fun j hj => hc j hj)
  have hLlt := h.fd.l.lt
  have he : (lk s.bs a).e ≤ 1024 := by
    have h1 := (look_e (secOf s.bs a)).1
    have h2 : (secOf s.bs a).length = 1024 := secOf_len (by unfold nsec at ha; omega)
    unfold lk
    omega
  have HR := Lib.hid (fun W => Sec.room_any ⟨(lk s.bs a).k, (lk s.bs a).n, A1, (lk s.bs a).d.length, c1, (lk s.bs a).cnt, (lk s.bs a).e, clean (secOf s.bs a)⟩ n W (by omega) (by omega) (by show _ ≤ ((lk s.bs a).e : Int); omega) (by show ((lk s.bs a).e : Int) ≤ _; omega))
  simp only [re.out, Lv.vals] at HR
  simp only [lkv] at HC
  generalize hx0 : lk s.bs a = x at HR HC he re
  generalize hy0 : clean (secOf s.bs a) = y at HR HC re
  clear hrm re hc o hx0 hy0
  have HI := Lib.hid h
  have hlt := (nxtF_spec (can s) s.wearAt (nsec s.bs)).2
  have HU := Lib.hid (fun W (b : Below w.heap.size w W) t (ht : t < nsec s.bs) => fdunused_any (HI.out.fd.below b (Nat.le_refl _)) t ht)
  have HE := Lib.hid (fun W (b : Below w.heap.size w W) (t : Nat) (ht : t < nsec s.bs) => erase_any (t : Int) (by omega) (by omega) (HI.out.fl.below b (Nat.le_refl _)) ho)
  have EN := Lib.hid (fun W (b : Below w.heap.size w W) => jnext_any HI.out b)
  generalize nxtF (can s) s.wearAt (nsec s.bs) = r at hlt EN ⊢
  have hlt := Lib.hid hlt
  clear h
  go_enter Try.func75, Try.ntmps75
  go_wp2_with fail
  refine HN.out.mono ?_
  rintro e w0 ⟨rfl, b0⟩
  have c0 := (HI.out.fd.below b0 (Nat.le_refl _)).c0
  have k0 := (b0.cell (p := ⟨L, a * 6 + 0, none⟩) hLlt).trans (HC.out 0 (by omega))
  have k1 := (b0.cell (p := ⟨L, a * 6 + 1, none⟩) hLlt).trans (HC.out 1 (by omega))
  have k2 := (b0.cell (p := ⟨L, a * 6 + 2, none⟩) hLlt).trans (HC.out 2 (by omega))
  have k3 := (b0.cell (p := ⟨L, a * 6 + 3, none⟩) hLlt).trans (HC.out 3 (by omega))
  have k4 := (b0.cell (p := ⟨L, a * 6 + 4, none⟩) hLlt).trans (HC.out 4 (by omega))
  have k5 := (b0.cell (p := ⟨L, a * 6 + 5, none⟩) hLlt).trans (HC.out 5 (by omega))
  simp only [List.getElem?_cons_zero, List.getElem?_cons_succ, Nat.add_zero] at k0 k1 k2 k3 k4 k5
  go_wp2_with fail
  refine (HR.out _).mono ?_
  rintro e w1 ⟨rfl, b1⟩
  have b1 := b0.trans (b1.mono b0.size)
  clear k0 k1 k2 k3 k4 k5 c0 HR HC
  have c0 := (HI.out.fd.below b1 (Nat.le_refl _)).c0
  have k1 := (HI.out.below b1 (Nat.le_refl _)).c1
  have EW := Lib.hid (fun W (b : Below w.heap.size w W) => jworn_any HI.out b)
  have EL := Lib.hid (fun W (b : Below w.heap.size w W) => jleft_any HI.out b)
  have LW := Lib.hid (wornL_len s)
  have LL := Lib.hid (leftL_len s)
  generalize wornL s = zw at *
  generalize leftL s = zl at *
  have BD := Lib.hid (below_drewN b1 1)
  go_wp2_with fail
  clear HN b1 hnw
  go_region_held (fun W => W.cell? ⟨q, 0, none⟩ = some (.slice (some ⟨L, 0, none⟩) (nsec s.bs) (nsec s.bs)) ∧ W.cell? ⟨q, 1, none⟩ = some (at_ p)) (first | exact ⟨c0, k1⟩ | exact ⟨c2, k2⟩ | exact ⟨c3, k3⟩ | exact ⟨c4, k4⟩) (first
    | (go_at_call 99; refine (EN.out _ B3.out _ _ O1'.out.rdi O2.out.rdi).mono ?_; rintro e w4 ⟨rfl, b4⟩; have B4 := Lib.hid (B3.out.trans (b4.mono B3.out.size)); have c4 := (HI.out.fd.below B4.out (Nat.le_refl _)).c0; have k4 := (HI.out.below B4.out (Nat.le_refl _)).c1; clear b4)
    | (go_at_call 100; refine (EL.out _ B2.out).mono ?_; rintro e w3 ⟨g2, rfl, o2, b3⟩; have B3 := Lib.hid (B2.out.trans (b3.mono B2.out.size)); have O2 := Lib.hid o2; have O1' := Lib.hid (O1.out.keep (b3.block _ O1.out.lt.2)); have c3 := (HI.out.fd.below B3.out (Nat.le_refl _)).c0; have k3 := (HI.out.below B3.out (Nat.le_refl _)).c1; clear b3 o2)
    | (go_at_call 100; refine (EW.out _ BD.out).mono ?_; rintro e w2 ⟨g1, rfl, o1, b2⟩; have B2 := Lib.hid (BD.out.trans (b2.mono BD.out.size)); have O1 := Lib.hid o1; have c2 := (HI.out.fd.below B2.out (Nat.le_refl _)).c0; have k2 := (HI.out.below B2.out (Nat.le_refl _)).c1; clear b2 o1))
  all_goals
    clear c0 k1 c2 k2 c3 k3 c4 k4 O1 O2 O1' B2 B3 EW EL EN BD LW LL
    cases r with
    | none =>
      go_wp2_with fail
      go_ret3
      exact ⟨rfl, HI.out.fl.below B4.out (Nat.le_refl _), Far.of_below B4.out (Nat.le_refl _)⟩
    | some t =>
      have ht := (hlt.out t rfl).1
      have hU : (decide ((lk s.bs t).cnt = 0) && clean (secOf s.bs t)) = unused s.bs t := rfl
      have HUt := Lib.hid (HU.out _ B4.out t ht)
      rw [hU] at HUt
      have HEt := Lib.hid (HE.out _ B4.out t ht)
      clear hU HU HE hlt
      simp only [Option.getD_some, Option.isSome_some]
      cases hu : unused s.bs t with
      | true =>
        rw [hu] at HUt
        go_wp2_with fail
        refine HUt.out.mono ?_
        rintro e w5 ⟨rfl, rfl⟩
        go_wp2_with fail
        go_ret3
        exact ⟨rfl, HI.out.fl.below B4.out (Nat.le_refl _), Far.of_below B4.out (Nat.le_refl _)⟩
      | false =>
        rw [hu] at HUt
        have k5 := (HI.out.below B4.out (Nat.le_refl _)).c1
        go_wp2_with fail
        refine HUt.out.mono ?_
        rintro e w5 ⟨rfl, rfl⟩
        go_wp2_with fail
        refine HEt.out.mono ?_
        rintro e w6 ⟨rfl, i6, f6⟩
        have F6 := Lib.hid ((Far.of_below (p := p) (D := D) B4.out (Nat.le_refl _)).trans f6)
        have I6 := Lib.hid i6
        clear i6 f6
        go_wp2_with fail
        go_ret3
        exact ⟨rfl, I6.out, F6.out⟩
theorem ready_any (n : Nat) (hn : n ≤ 960) (h : IsJ w q L p D c s) (hon : s.on = true) (ho : s.ops < 4611686018427387904) :
    Calls Try.prog 75 #[at_ q, .int .i64 (n : Int)] w (RdyTo p D c w (rdy s n)) := by
  cases hnw : newest s.bs with
  | none => exact ready_none n hn h hon ho hnw
  | some a =>
    cases hrm : room s.bs a n with
    | true => exact ready_room n a hn h hnw hrm
    | false => exact ready_full n a hn h hon ho hnw hrm
end
end Jou
end Go.Proofs.Ytkkbjngjjeajoaa

namespace Go.Proofs.Ytkkbjngjjeajoaa
namespace Jou
open Go.RowKit Mem Fla Rec Sec
set_option linter.unusedVariables false
set_option linter.unusedSimpArgs false
set_option maxRecDepth 100000

theorem prog_ops {x : List UInt8} : ∀ {s : Fl} {k : Nat}, (s.prog k x).1.ops ≤ s.ops + x.length := by
  induction x with
  | nil => intro s k; simp [Fl.prog]
  | cons b r ih =>
    intro s k
    unfold Fl.prog
    by_cases hc : s.cuts = true
    · rw [if_pos hc]
      have : (s.put1 k b).ops = s.ops := by unfold Fl.put1; rw [if_pos hc]; rfl
      simp only [this, List.length_cons]
      omega
    · rw [if_neg hc]
      have h1 := put1_ops (s := s) k b (by simpa using hc)
      have := @ih (s.put1 k b) (k + 1)
      simp only [List.length_cons]
      omega
theorem prog_most {x : List UInt8} : ∀ {s : Fl} {k : Nat}, (s.prog k x).1.most = s.most ∧ (s.prog k x).1.bs.length = s.bs.length := by
  induction x with
  | nil => intro s k; simp [Fl.prog]
  | cons b r ih =>
    intro s k
    unfold Fl.prog
    have h1 : (s.put1 k b).most = s.most := by unfold Fl.put1; split <;> rfl
    by_cases hc : s.cuts = true
    · rw [if_pos hc]
      exact ⟨h1, put1_len k b⟩
    · rw [if_neg hc]
      have := @ih (s.put1 k b) (k + 1)
      exact ⟨this.1.trans h1, this.2.trans (put1_len k b)⟩
theorem erase_ops (s : Fl) (n : Int) : (s.erase n).ops ≤ s.ops + 1 := by
  unfold Fl.erase
  split
  · omega
  · split
    · omega
    · split
      · omega
      · split
        · show s.ops ≤ _; omega
        · show s.ops + 1 ≤ _; omega
theorem erase_on {s : Fl} {n : Int} (h : s.eraseC n = 0) : (s.erase n).on = true := by
  unfold Fl.eraseC at h
  unfold Fl.erase
  cases ho : s.on with
  | false => rw [ho] at h; simp at h
  | true =>
    rw [ho] at h
    simp only [Bool.not_true, Bool.false_eq_true, if_false] at h ⊢
    split
    · exact ho
    · split
      · exact ho
      · split
        · rename_i h1 h2 h3
          rw [if_neg h1, if_neg h2, if_pos h3] at h
          cases h
        · exact ho
theorem erase_len {s : Fl} {n : Nat} (ok : s.Ok) : (s.erase n).bs.length = s.bs.length := by
  unfold Fl.erase
  split
  · rfl
  · split
    · rfl
    · split
      · rfl
      · rename_i h1 h2 h3
        have hh : s.has (n : Int) = true := by simpa using h2
        have := ok.has_lt hh
        split
        · show (ones _ _ _).length = _
          rw [ones_length (by omega)]
        · show (ones _ _ _).length = _
          rw [ones_length (by omega)]
section
variable {s : Fl} {k : Int} {d : List UInt8}
theorem app_off (h : s.on = false) : app s k d = (s, 7) := by unfold app; rw [h]; rfl
theorem app_pre (h : s.on = true) (hp : pre (tell s.bs) k d.length ≠ 0) : app s k d = (s, pre (tell s.bs) k d.length) := by
  unfold app
  unfold pre at *
  rw [h]
  simp only [Bool.not_true, Bool.false_eq_true, if_false]
  by_cases hm : (tell s.bs).n = 4294967295
  · rw [if_pos hm, if_pos hm]
  · rw [if_neg hm] at hp ⊢
    rw [if_pos hp, if_neg hm]
theorem pre_ok (hp : pre (tell s.bs) k d.length = 0) : (tell s.bs).n ≠ 4294967295 ∧ err k ((tell s.bs).n + 1) d.length = 0 ∧ d.length ≤ 960 := by
  unfold pre at hp
  by_cases hm : (tell s.bs).n = 4294967295
  · rw [if_pos hm] at hp; cases hp
  · rw [if_neg hm] at hp
    exact ⟨hm, hp, (err_ok hp).2.2⟩
theorem app_in (h : s.on = true) (hp : pre (tell s.bs) k d.length = 0) : app s k d = match place s d.length with
    | none => (s, 10)
    | some p => lay s p (build k ((tell s.bs).n + 1) d) := by
  obtain ⟨h1, h2, h3⟩ := pre_ok hp
  unfold app
  rw [h]
  simp only [Bool.not_true, Bool.false_eq_true, if_false]
  rw [if_neg h1, if_neg (fun q => q h2)]
  cases place s d.length <;> rfl
theorem app_ready (h : s.on = true) (hp : pre (tell s.bs) k d.length = 0) (hr : (rdy s d.length).2.2.1 ≠ 0) : app s k d = ((rdy s d.length).2.2.2, (rdy s d.length).2.2.1) := by
  rw [app_in h hp]
  unfold rdy at *
  cases e : place s d.length with
  | none => rfl
  | some x =>
    rw [e] at hr
    simp only at hr ⊢
    unfold lay
    by_cases he : x.er = true
    · rw [if_pos he] at hr ⊢
      rw [if_pos he, if_pos hr]
    · rw [if_neg he] at hr
      exact absurd rfl hr
theorem rdy_bad (h : s.on = true) {n : Nat} (h0 : (rdy s n).2.2.1 ≠ 0) (h7 : (rdy s n).2.2.1 ≠ 7) : (rdy s n).2.2.2 = s := by
  unfold rdy at *
  cases e : place s n with
  | none => rfl
  | some x =>
    rw [e] at h0 h7
    simp only at h0 h7 ⊢
    by_cases he : x.er = true
    · exfalso
      rw [if_pos he] at h0 h7
      simp only at h0 h7
      have hp := place_spec e
      have hl : s.left (x.t : Int) ≠ 0 := by
        rcases hp.way with ⟨_, _, w3, _⟩ | ⟨_, _, _, w4, _⟩
        · rw [w3] at he; cases he
        · have := w4 he
          omega
      have hh : s.has (x.t : Int) = true := by
        have := hp.lt
        unfold nsec at this
        unfold Fl.has
        simp
        omega
      unfold Fl.eraseC at h0 h7
      rw [if_neg (by simp [h]), if_neg (by simp [hh]), if_neg hl] at h0 h7
      by_cases hc : s.cuts = true
      · rw [if_pos hc] at h7; exact h7 rfl
      · rw [if_neg hc] at h0; exact h0 rfl
    · rw [if_neg he]
theorem plc_fit {n : Nat} {x : Pl} (h : Plc s n x) (hn : n ≤ 960) : x.e + (13 + n) ≤ 1024 := by
  rcases h.way with ⟨_, h2, _, _, h5⟩ | ⟨_, h2, _⟩
  · omega
  · omega
theorem app_go (ok : s.Ok) (h : s.on = true) (hp : pre (tell s.bs) k d.length = 0) (hr : (rdy s d.length).2.2.1 = 0) :
    ∃ x : Pl, Plc s d.length x ∧ (rdy s d.length).1 = x.t ∧ (rdy s d.length).2.2.2.on = true ∧ (rdy s d.length).2.2.2.bs.length = s.bs.length ∧ (rdy s d.length).2.2.2.ops ≤ s.ops + 1 ∧
      app s k d = (rdy s d.length).2.2.2.program ((((rdy s d.length).1 : Nat) : Int) * 1024 + (((rdy s d.length).2.1 : Nat) : Int)) (build k ((tell s.bs).n + 1) d) ∧ Step s (app s k d).1 (app s k d).2 x k d ∧ (rdy s d.length).2.1 ≤ 1024 := by
  obtain ⟨h1, h2, h3⟩ := pre_ok hp
  have happ := app_in h hp
  have hst : ∀ x, place s d.length = some x → Step s (app s k d).1 (app s k d).2 x k d := fun x hx => by
    rw [happ, hx]
    exact lay_step (place_spec hx) h ok.a0 h1 h2
  unfold rdy at *
  cases e : place s d.length with
  | none => rw [e] at hr; cases hr
  | some x =>
    have hplc := place_spec e
    have hfit := plc_fit hplc h3
    have hlt := hplc.lt
    have hlen : (build k ((tell s.bs).n + 1) d).length = 13 + d.length := by rw [build_length]; omega
    have hst := hst x e
    rw [e] at hr happ
    simp only at hr happ ⊢
    have key : ∀ s1 : Fl, s1.on = true → s1.bs.length = s.bs.length → s1.program ((x.t : Int) * 1024 + (x.e : Int)) (build k ((tell s.bs).n + 1) d) = s1.prog (x.t * 1024 + x.e) (build k ((tell s.bs).n + 1) d) := by
      intro s1 o1 l1
      unfold Fl.program
      have hin : s1.inside ((x.t : Int) * 1024 + (x.e : Int)) ((build k ((tell s.bs).n + 1) d).length : Int) = true := by
        unfold Fl.inside
        rw [hlen, l1]
        unfold nsec at hlt
        simp
        omega
      have : s1.reachC ((x.t : Int) * 1024 + (x.e : Int)) ((build k ((tell s.bs).n + 1) d).length : Int) = 0 := by
        rw [reach_on _ _ o1, hin]
        rfl
      rw [if_pos this]
      congr 1
    by_cases he : x.er = true
    · rw [if_pos he] at hr ⊢
      have h0 : x.e = 0 := by
        rcases hplc.way with ⟨_, _, w3, _⟩ | ⟨_, w2, _⟩
        · rw [w3] at he; cases he
        · exact w2
      simp only at hr ⊢
      have o1 := erase_on hr
      have l1 : (s.erase (x.t : Int)).bs.length = s.bs.length := erase_len ok
      refine ⟨x, hplc, rfl, o1, l1, erase_ops _ _, ?_, hst, by omega⟩
      rw [happ]
      unfold lay
      rw [if_pos he, if_neg (fun q => q hr)]
      have := key _ o1 l1
      rw [h0] at this
      rw [h0]
      exact this.symm
    · rw [if_neg he] at hr ⊢
      refine ⟨x, hplc, rfl, h, rfl, by show s.ops ≤ _; omega, ?_, hst, by show x.e ≤ _; omega⟩
      rw [happ]
      unfold lay
      rw [if_neg he]
      exact (key _ h rfl).symm
theorem app_ops (ok : s.Ok) : (app s k d).1.ops ≤ s.ops + 1000 := by
  cases h : s.on with
  | false => rw [app_off h]; show s.ops ≤ _; omega
  | true =>
    by_cases hp : pre (tell s.bs) k d.length = 0
    · have h3 := (pre_ok hp).2.2
      by_cases hr : (rdy s d.length).2.2.1 = 0
      · obtain ⟨x, h1, h2, h3', h4, h5, h6, h7, h8⟩ := app_go ok h hp hr
        rw [h6]
        unfold Fl.program
        split
        · have := prog_ops (s := (rdy s d.length).2.2.2) (k := ((((rdy s d.length).1 : Nat) : Int) * 1024 + (((rdy s d.length).2.1 : Nat) : Int)).toNat) (x := build k ((tell s.bs).n + 1) d)
          rw [build_length] at this
          omega
        · show (rdy s d.length).2.2.2.ops ≤ _
          omega
      · rw [app_ready h hp hr]
        unfold rdy
        split
        · show s.ops ≤ _; omega
        · split
          · have := erase_ops s ((‹Pl›.t : Nat) : Int)
            show (s.erase _).ops ≤ _
            omega
          · show s.ops ≤ _; omega
    · rw [app_pre h hp]; show s.ops ≤ _; omega
end
end Jou
end Go.Proofs.Ytkkbjngjjeajoaa

namespace Go.Proofs.Ytkkbjngjjeajoaa
namespace Jou
open Go.RowKit Mem Fla Rec Sec
set_option linter.unusedVariables false
set_option linter.unusedSimpArgs false
set_option maxRecDepth 100000

def blankN (n : Nat) : List UInt8 := List.replicate (n * 1024) 255
theorem blankN_len (n : Nat) : (blankN n).length = n * 1024 := List.length_replicate
theorem nsec_blank (n : Nat) : nsec (blankN n) = n := by unfold nsec; rw [blankN_len]; omega
theorem lk_blank (n i : Nat) : lk (blankN n) i = Lk.zero := by
  unfold lk
  refine look_ones ?_
  by_cases h : (secOf (blankN n) i) = []
  · exact .inr h
  · left
    have hl : 0 < (secOf (blankN n) i).length := List.length_pos_iff.2 h
    have hm : (secOf (blankN n) i)[0] ∈ blankN n := by
      have : (secOf (blankN n) i)[0] ∈ secOf (blankN n) i := List.getElem_mem hl
      exact List.mem_of_mem_drop (List.mem_of_mem_take this)
    have he : (secOf (blankN n) i)[0] = 255 := List.eq_of_mem_replicate hm
    unfold byt
    simp [hl, he]
theorem clean_blankN (n i : Nat) : clean (secOf (blankN n) i) = true := by
  unfold clean
  simp only [decide_eq_true_eq]
  intro y hy
  exact List.eq_of_mem_replicate (List.mem_of_mem_drop (List.mem_of_mem_take (List.mem_of_mem_drop hy)))
theorem unused_blank (n i : Nat) : unused (blankN n) i = true := by
  unfold unused
  rw [lk_blank, clean_blankN]
  rfl
theorem newest_blank (n : Nat) : newest (blankN n) = none := by
  refine newest_eq ?_
  intro i _
  rw [lk_blank]
  rfl
theorem tell_blank (n : Nat) : tell (blankN n) = Lk.zero := by unfold tell; rw [newest_blank]
theorem new_ok (n : Nat) (m : Int) (h0 : 1 ≤ n) (h1 : n ≤ 8) (m0 : 0 ≤ m) (m1 : m ≤ 9223372036854775807) : (Fl.new (blankN n) m).Ok :=
  Fl.Ok.new (by rw [blankN_len]; omega) (by rw [blankN_len]; omega) (by rw [blankN_len]; omega) m0 m1
/-- Where the first record goes. -/
theorem first_nxt (can : Nat → Bool) (w : Nat → Int) (hc : can 0 = true) (hw : ∀ i, ¬ w i < w 0) : ∀ n, 1 ≤ n → nxtF can w n = some 0 := by
  intro n
  induction n with
  | zero => intro h; omega
  | succ k ih =>
    intro _
    unfold nxtF
    rcases Nat.eq_zero_or_pos k with rfl | hk
    · simp [nxtF, hc]
    · rw [ih hk]
      simp [hw k]
theorem first_place (n : Nat) (m : Int) (hn : 1 ≤ n) (l : Nat) : place (Fl.new (blankN n) m) l = some ⟨0, 0, false⟩ := by
  unfold place
  have e : newest (Fl.new (blankN n) m).bs = none := newest_blank n
  rw [e]
  unfold begin_
  have e2 : nsec (Fl.new (blankN n) m).bs = n := nsec_blank n
  have hw : ∀ i, (Fl.new (blankN n) m).wearAt i = 0 := by
    intro i
    unfold Fl.wearAt Fl.new
    simp only [List.getD_eq_getElem?_getD]
    by_cases hi : i < 8
    · rw [List.getElem?_replicate, if_pos hi]; rfl
    · rw [List.getElem?_replicate, if_neg hi]; rfl
  rw [e2, first_nxt (can (Fl.new (blankN n) m)) _ ?_ ?_ n hn]
  · have : unused (Fl.new (blankN n) m).bs 0 = true := unused_blank n 0
    simp only [this]
    rfl
  · unfold can
    rw [e]
    have : unused (Fl.new (blankN n) m).bs 0 = true := unused_blank n 0
    rw [this]
    rfl
  · intro i
    rw [hw, hw]
    omega
def one (n : Nat) (m : Int) (d : List UInt8) : Fl := (app (Fl.new (blankN n) m) 1 d).1
/-- The first Append of a snapshot. -/
theorem app_first (n : Nat) (m : Int) (d : List UInt8) (hn : 1 ≤ n) (h8 : n ≤ 8) (m0 : 0 ≤ m) (m1 : m ≤ 9223372036854775807) (hd : d.length ≤ 960) : (app (Fl.new (blankN n) m) 1 d).2 = 0 ∧ newest (one n m d).bs = some 0 ∧ (tell (one n m d).bs).k = 1 ∧ (tell (one n m d).bs).n = 1 ∧ (tell (one n m d).bs).d = d ∧
    (one n m d).on = true ∧ (one n m d).bs = splice (blankN n) 0 (build 1 1 d) := by
  have ok := new_ok n m hn h8 m0 m1
  have hon : (Fl.new (blankN n) m).on = true := rfl
  have ht : tell (Fl.new (blankN n) m).bs = Lk.zero := tell_blank n
  have hp : pre (tell (Fl.new (blankN n) m).bs) 1 d.length = 0 := by
    rw [ht]
    unfold pre err Lk.zero
    simp
    omega
  obtain ⟨h1, h2, h3⟩ := pre_ok hp
  have ha := app_in hon hp
  rw [first_place n m hn] at ha
  have hst : Step (Fl.new (blankN n) m) (app (Fl.new (blankN n) m) 1 d).1 (app (Fl.new (blankN n) m) 1 d).2 ⟨0, 0, false⟩ 1 d := by
    rw [ha]
    exact lay_step (place_spec (first_place n m hn _)) hon ok.a0 h1 h2
  have hc : (app (Fl.new (blankN n) m) 1 d).2 = 0 := by
    rcases hst.out with ⟨o, _⟩ | ⟨_, o, _⟩
    · exact o
    · cases o
  have hT := hst.tells (place_spec (first_place n m hn _))
  have hon1 : (one n m d).on = true := by
    rcases hst.out with ⟨_, o, _⟩ | ⟨_, o, _⟩
    · exact o
    · cases o
  refine ⟨hc, hT.2.1 hc, ?_⟩
  rcases hT.2.2 with ⟨t1, t2, t3, _⟩ | ⟨t1, _⟩
  · refine ⟨t1, ?_, t3, hon1, ?_⟩
    · have : (tell (one n m d).bs).n = (tell (Fl.new (blankN n) m).bs).n + 1 := t2
      rw [this, ht]
      rfl
    · unfold one
      rw [ha, ht]
      show (lay (Fl.new (blankN n) m) ⟨0, 0, false⟩ (build 1 (Lk.zero.n + 1) d)).1.bs = _
      unfold lay
      rw [if_neg (by decide), prog_plain _ _ _ rfl]
      show zipA (blankN n) (0 * 1024 + 0) (build 1 (Lk.zero.n + 1) d) = _
      refine zipA_ones (build 1 1 d) (blankN n) 0 ?_ ?_
      · rw [build_length, blankN_len]; omega
      · intro i _ hi
        rw [build_length] at hi
        have hi' : i < n * 1024 := by omega
        unfold blankN
        simp [hi']
  · rw [hc] at t1; cases t1
theorem read2 {s : Fl} {d : List UInt8} {n : Nat} (hon : s.on = true) (hb : s.bs = splice (blankN n) 0 (build 1 1 d)) (hn : 1 ≤ n) (hd : d.length ≤ 960) : s.read 0 2 = ([87, 1], 0) := by
  have hl : s.bs.length = n * 1024 := by rw [hb, splice_len (by rw [build_length, blankN_len]; omega), blankN_len]
  unfold Fl.read
  have hin : s.inside 0 2 = true := by unfold Fl.inside; simp; omega
  have : s.reachC 0 2 = 0 := by rw [reach_on _ _ hon, hin]; rfl
  rw [if_pos this, hb]
  have e : ((splice (blankN n) 0 (build 1 1 d)).drop (0 : Int).toNat).take (2 : Int).toNat = [87, 1] := by
    show ((splice (blankN n) 0 (build 1 1 d)).drop 0).take 2 = _
    unfold splice build Sum.seal_ head
    simp [Oct.bytes]
  rw [e]
theorem app_bad (s : Fl) (h : s.on = true) (hn : (tell s.bs).n ≠ 4294967295) : app s 3 [] = (s, 1) := by
  have hp : pre (tell s.bs) 3 ([] : List UInt8).length = 1 := by
    unfold pre err
    rw [if_neg hn, if_neg (by omega)]
  rw [app_pre h (by rw [hp]; decide), hp]
end Jou
end Go.Proofs.Ytkkbjngjjeajoaa

namespace Go.Proofs.Ytkkbjngjjeajoaa
namespace Jou
open Go.RowKit Mem Fla Rec Sec
set_option linter.unusedVariables false
set_option linter.unusedSimpArgs false
set_option maxRecDepth 100000
section
variable {w W W' : World} {q L p D c : Nat} {s s' : Fl}
/-- The blocks that a journal's calls write to. -/
def JX (q L p D : Nat) (k : Nat) : Prop := k = p ∨ k = D ∨ k = q ∨ k = L
def JY (L p D : Nat) (k : Nat) : Prop := k = p ∨ k = D ∨ k = L
/-- What an Append ends in: whatever the power does, the flash; the journal, as long as it is on. -/
structure LayTo (X : Nat → Prop) (q L p D c : Nat) (w : World) (r : Fl × Int) (e : Ending) (w' : World) : Prop where
  ret : e = .returned (.int .i64 r.2)
  fl : IsF w' p D c r.1
  far : FarS X w w'
  j : r.2 ≠ 7 → IsJ w' q L p D c r.1
theorem IsJ.fsize (h : IsJ W q L p D c s) : L < W.heap.size := h.fd.l.lt
/-- The journal behind a look at the sector that was written. -/
theorem isJ_after {x : Pl} {k : Int} {d : List UInt8} {code : Int} (h : IsJ w q L p D c s) (st : Step s s' code x k d) (hf : IsF W p D c s') (row : W.heap[q]? = w.heap[q]?)
    (hl : IsL W L (nsec s.bs) (up1 (lk s.bs) x.t (lk s'.bs x.t)) (up1 (fun i => clean (secOf s.bs i)) x.t (clean (secOf s'.bs x.t)))) : IsJ W q L p D c s' := by
  have hn := st.nsec
  have hrow := row.trans h.row
  refine ⟨?_, by rw [hn]; exact hrow, hf, h.pq, h.Dq⟩
  refine ⟨by rw [hn]; exact cell_of hrow 0, ?_, by rw [hn]; exact h.fd.n8, h.fd.qL⟩
  rw [hn]
  refine hl.congr fun i hi => ?_
  by_cases e : i = x.t
  · subst e
    unfold up1
    simp
  · unfold up1
    rw [if_neg e, if_neg e]
    exact ⟨(st.lk i e).symm, by rw [st.oth i e]⟩
theorem pre_ne7 {t : Lk} {k : Int} {n : Nat} : pre t k n ≠ 7 := by
  unfold pre err
  split
  · decide
  · repeat' split
    all_goals decide
set_option maxHeartbeats 4000000 in
theorem lay_any (k : Int) (A : Option Addr) (cc : Nat) (d : List UInt8) (k1 : -9223372036854775808 ≤ k) (k2 : k ≤ 9223372036854775807) (h : IsJ w q L p D c s) (hr : Rd w w.heap.size A d) (hl : d.length ≤ 140737488355328) (ho : s.ops + 2000 ≤ 4611686018427387904) :
    Calls Try.prog 52 #[at_ q, .int .i64 k, .slice A d.length cc] w (LayTo (JY L p D) q L p D c w (app s k d)) := by
  have HI := Lib.hid h
  have c1 := h.c1
  have c2 := h.c2
  have HO := Lib.hid (fon_any h.fl)
  cases hon : s.on with
  | false =>
    rw [app_off hon]
    rw [hon] at HO
    clear hon h
    go_enter Try.func52, Try.ntmps52
    go_wp2_with fail
    refine HO.out.mono ?_
    rintro e w1 ⟨rfl, rfl⟩
    go_wp2_with fail
    go_ret
    exact ⟨rfl, HI.out.fl, FarS.refl _ _, fun q => absurd rfl q⟩
  | true =>
    rw [hon] at HO
    have HF := Lib.hid (fdfollow_any h.fd k A cc d k1 k2 hr hl (tell_bd s.bs).1)
    have et : tellF (lk s.bs) (nsec s.bs) = tell s.bs := rfl
    rw [et] at HF
    by_cases hp : pre (tell s.bs) k d.length = 0
    · have h3 := (pre_ok hp).2.2
      have HR := Lib.hid (fun W (b : Below w.heap.size w W) => ready_any d.length h3 (h.below b (Nat.le_refl _)) hon (by omega))
      rw [if_pos hp, hp] at HF
      by_cases hz : (rdy s d.length).2.2.1 = 0
      · obtain ⟨x, x1, x2, x3, x4, x5, x6, x7, x8⟩ := app_go h.fl.ok hon hp hz
        have hlt := x1.lt
        have h8 := nsec8 h.fl.ok
        have hbl : (build k ((tell s.bs).n + 1) d).length = 13 + d.length := by rw [build_length]; omega
        have h8t : x.t < 8 := by omega
        have HA := Lib.hid x6
        have HS := Lib.hid x7
        have h9 : ((rdy s d.length).1 : Nat) < nsec s.bs := by omega
        have X2 := Lib.hid x2
        have X3 := Lib.hid x3
        have X4 := Lib.hid x4
        generalize hx : build k ((tell s.bs).n + 1) d = bs at *
        have HP := Lib.hid (fun W A' c' (hi : IsF W p D c (rdy s d.length).2.2.2) hx' => program_any (A := A') bs.length c' (((rdy s d.length).1 : Int) * 1024 + ((rdy s d.length).2.1 : Int)) bs (by omega) (by omega) hx' rfl (by omega) hi (by omega))
        rw [← x6] at HP
        have hdl : (d.length : Int) ≤ 960 := by omega
        generalize hr : rdy s d.length = r at *
        generalize hap : app s k d = ap at *
        obtain ⟨s1, C⟩ := ap
        have Hz := Lib.hid hz
        have HX2 := Lib.hid x8
        clear h et hx hr hap x2 x3 x4 x5 x6 x7 x8 hbl
        obtain ⟨T, En, C1, s0⟩ := r
        simp only at *
        subst hz
        have hTi : (T : Int) ≤ 8 := by omega
        have hT0 : (0 : Int) ≤ (T : Int) := by omega
        have hEi : (En : Int) ≤ 1024 := by have := HX2.out; omega
        have hE0 : (0 : Int) ≤ (En : Int) := by omega
        go_enter Try.func52, Try.ntmps52
        go_wp2_with fail
        refine HO.out.mono ?_
        rintro e w1 ⟨rfl, rfl⟩
        go_wp2_with fail
        refine HF.out.mono ?_
        rintro e w1 ⟨v, rfl, o, b⟩
        obtain ⟨A1, cc1, rfl, RN⟩ := rdN_own (p := p) (D := D) o HI.out.fl.lt HI.out.fl.ltD
        clear o
        have HRb := Lib.hid (HR.out _ b)
        go_wp2_with fail
        refine HRb.out.mono ?_
        rintro e w2 ⟨rfl, i2, f2⟩
        have FF := Lib.hid (Far.trans (p := p) (D := D) (.of_below b (Nat.le_refl _)) f2)
        have hrow2 := (FF.out.block q HI.out.lt (by have := HI.out.pq; omega) (by have := HI.out.Dq; omega)).trans HI.out.row
        have c1 := cell_of hrow2 1
        have RN2 := Lib.hid (RN.far f2)
        have I2 := Lib.hid i2
        clear i2 f2 RN
        go_wp2_with fail
        with_reducible refine (HP.out _ _ _ I2.out RN2.out).mono ?_
        rintro e w3 ⟨rfl, i3, f3⟩
        have F3 := Lib.hid (FF.out.trans f3)
        have hrow3 := Lib.hid ((F3.out.block q HI.out.lt (by have := HI.out.pq; omega) (by have := HI.out.Dq; omega)).trans HI.out.row)
        have I3 := Lib.hid i3
        clear i3 f3 hrow2 c1
        by_cases hC : C = 0
        · subst hC
          have HSo := Lib.hid HS.out
          have ho1 : s1.on = true := by
            rcases HS.out.out with ⟨_, o2, _⟩ | ⟨o1, _⟩
            · exact o2
            · cases o1
          have HN1 : Hid (nsec s1.bs = nsec s.bs) := Lib.hid HS.out.nsec
          have fd3 := Lib.hid (HI.out.fd.far F3.out HI.out.pq HI.out.Dq)
          have HL := Lib.hid (jlook_any T fd3.out (cell_of hrow3.out 1) I3.out ho1 h9 HN1.out.symm)
          clear fd3 HP HR HF HO
          go_wp2_with fail
          refine HL.out.mono ?_
          rintro e w4 ⟨rfl, l4, f4⟩
          have L4 := Lib.hid l4
          have F4 := Lib.hid f4
          clear l4 f4
          go_wp2_with fail
          go_ret
          have hX2 : T = x.t := X2.out
          subst hX2
          have hqL := HI.out.fd.qL
          have hpq := HI.out.pq
          have hDq := HI.out.Dq
          have i4 := I3.out.keep (F4.out.block _ I3.out.lt (by omega)) (F4.out.block _ I3.out.ltD (by omega))
          have FA : FarS (JY L p D) w w4 := (FarS.of_far F3.out (.inl rfl) (.inr (.inl rfl))).trans (F4.out.mono fun k e => .inr (.inr e))
          refine ⟨rfl, i4, FA, fun _ => isJ_after HI.out HS.out i4 ?_ L4.out⟩
          rw [F4.out.block q (Nat.lt_of_lt_of_le HI.out.lt F3.out.size) (by omega)]
          exact F3.out.block q HI.out.lt (by omega) (by omega)
        · have hCb : (C != 0) = true := by simpa using hC
          obtain rfl : C = 7 := by
            rcases HS.out.out with ⟨o1, _⟩ | ⟨o1, _⟩
            · exact absurd o1 hC
            · exact o1
          clear HP HR HF HO
          go_wp2_with fail
          go_ret
          exact ⟨rfl, I3.out, .of_far F3.out (.inl rfl) (.inr (.inl rfl)), fun q => absurd rfl q⟩
      · rw [app_ready hon hp hz]
        have hzb : ((rdy s d.length).2.2.1 != 0) = true := by simpa using hz
        have HB := Lib.hid (rdy_bad hon (n := d.length) hz)
        have hdl : (d.length : Int) ≤ 960 := by omega
        generalize rdy s d.length = r at *
        clear h et
        obtain ⟨T, En, C1, s0⟩ := r
        simp only at *
        go_enter Try.func52, Try.ntmps52
        go_wp2_with fail
        refine HO.out.mono ?_
        rintro e w1 ⟨rfl, rfl⟩
        go_wp2_with fail
        refine HF.out.mono ?_
        rintro e w1 ⟨v, rfl, o, b⟩
        obtain ⟨A1, cc1, rfl, _⟩ := o.form
        have HRb := Lib.hid (HR.out _ b)
        go_wp2_with fail
        refine HRb.out.mono ?_
        rintro e w2 ⟨rfl, i2, f2⟩
        go_wp2_with fail
        go_ret
        have FF := Far.trans (p := p) (D := D) (.of_below b (Nat.le_refl _)) f2
        refine ⟨rfl, i2, .of_far FF (.inl rfl) (.inr (.inl rfl)), fun q => ?_⟩
        have e := HB.out q
        rw [e] at i2 ⊢
        exact ⟨HI.out.fd.far FF HI.out.pq HI.out.Dq, (FF.block _ HI.out.lt (by have := HI.out.pq; omega) (by have := HI.out.Dq; omega)).trans HI.out.row, i2, HI.out.pq, HI.out.Dq⟩
    · rw [app_pre hon hp]
      have hpb : (pre (tell s.bs) k d.length != 0) = true := by simpa using hp
      have h7 : pre (tell s.bs) k d.length ≠ 7 := pre_ne7
      rw [if_neg hp] at HF
      generalize pre (tell s.bs) k d.length = E at *
      clear h et
      go_enter Try.func52, Try.ntmps52
      go_wp2_with fail
      refine HO.out.mono ?_
      rintro e w1 ⟨rfl, rfl⟩
      go_wp2_with fail
      refine HF.out.mono ?_
      rintro e w1 ⟨v, rfl, o, b⟩
      obtain ⟨A1, cc1, rfl, _⟩ := o.form
      go_wp2_with fail
      go_ret
      exact ⟨rfl, HI.out.fl.below b (Nat.le_refl _), .of_below b (Nat.le_refl _), fun _ => HI.out.below b (Nat.le_refl _)⟩
set_option maxHeartbeats 1000000 in
theorem jnone_any (h : IsJ w q L p D c s) : Calls Try.prog 50 #[at_ q] w fun e w' => e = .returned (.bool false) ∧ w = w' := by
  have c1 := h.c1
  clear h
  go_enter Try.func50, Try.ntmps50
  go_wp2_with fail
  go_ret
  exact ⟨rfl, rfl⟩
theorem IsJ.set2 (h : IsJ w q L p D c s) : IsJ (w.setCell ⟨q, 2, none⟩ (.bool false)) q L p D c s := by
  have hr := set_of (l := [.slice (some ⟨L, 0, none⟩) (nsec s.bs) (nsec s.bs), at_ p, .bool false]) (j := 2) (v := .bool false) (p := q) h.row rfl
  have hk : ∀ k, k ≠ q → (w.setCell ⟨q, 2, none⟩ (.bool false)).heap[k]? = w.heap[k]? := fun k hk => Below.heap_setCell w ⟨q, 2, none⟩ _ k hk
  have hpq := h.pq
  have hDq := h.Dq
  have hqL := h.fd.qL
  exact ⟨⟨cell_of hr 0, h.fd.l.keep fun k _ h2 => hk k (by omega), h.fd.n8, hqL⟩, hr, h.fl.keep (hk p (by omega)) (hk D (by omega)), hpq, hDq⟩
/-- Append. -/
theorem append_any (k : Int) (A : Option Addr) (cc : Nat) (d : List UInt8) (k1 : -9223372036854775808 ≤ k) (k2 : k ≤ 9223372036854775807) (h : IsJ w q L p D c s) (hr : Rd w w.heap.size A d) (hl : d.length ≤ 140737488355328) (ho : s.ops + 2000 ≤ 4611686018427387904) :
    Calls Try.prog 16 #[at_ q, .int .i64 k, .slice A d.length cc] w (LayTo (JX q L p D) q L p D c w (app s k d)) := by
  have HN := Lib.hid (jnone_any h)
  have HL := Lib.hid (lay_any k A cc d k1 k2 h hr hl ho)
  have HI := Lib.hid h
  generalize app s k d = r at *
  obtain ⟨s1, C⟩ := r
  clear h
  go_enter Try.func16, Try.ntmps16
  go_wp2_with fail
  refine HN.out.mono ?_
  rintro e w1 ⟨rfl, rfl⟩
  go_wp2_with fail
  refine HL.out.mono ?_
  intro e w1 T
  obtain ⟨ret, i1, f1, j1⟩ := T
  subst ret
  have hqL := HI.out.fd.qL
  have hpq := HI.out.pq
  have hDq := HI.out.Dq
  have F1 : Hid (FarS (JX q L p D) w w1) := Lib.hid (f1.mono fun k e => e.elim .inl fun e => e.elim (fun e => .inr (.inl e)) fun e => .inr (.inr (.inr e)))
  have hrow := (f1.block q HI.out.lt (by unfold JY; omega)).trans HI.out.row
  have I1 := Lib.hid i1
  by_cases hC : C = 7
  · subst hC
    have d2 := cell_of hrow 2
    have z2 := frozen_of_row _ _ 2 _ _ hrow
    clear f1 i1 j1
    simp only
    go_wp2_with fail
    go_ret
    have hk : ∀ k, k ≠ q → (w1.setCell ⟨q, 2, none⟩ (.bool true)).heap[k]? = w1.heap[k]? := fun k hk => Below.heap_setCell w1 ⟨q, 2, none⟩ _ k hk
    exact ⟨rfl, I1.out.keep (hk p (by omega)) (hk D (by omega)), F1.out.set _ (.inr (.inr (.inl rfl))) _, fun q => absurd rfl q⟩
  · have hCb : (C == 7) = false := by simpa using hC
    have J1 := Lib.hid (j1 hC)
    simp only
    have d2 := J1.out.c2
    have z2 := frozen_of_row _ _ 2 _ _ J1.out.row
    clear f1 i1 j1
    go_wp2_with fail
    go_ret
    have J2 := J1.out.set2
    exact ⟨rfl, J2.fl, F1.out.set _ (.inr (.inr (.inl rfl))) _, fun _ => J2⟩
end
end Jou
end Go.Proofs.Ytkkbjngjjeajoaa

namespace Go.Proofs.Ytkkbjngjjeajoaa
namespace Jou
open Go.RowKit Mem Fla Rec Sec
set_option linter.unusedVariables false
set_option linter.unusedSimpArgs false
set_option maxRecDepth 100000
section
variable {w W W' : World} {q L p D c : Nat} {s s' : Fl}
theorem info_look : ∃ i, Try.prog.info? 118 = some i ∧ i.zero = some (.agg #[.int .i64 0, .int .u32 0, .slice none 0 0, .int .i64 0, .int .i64 0, .bool false]) ∧ i.size = 6 ∧ i.bytes ≤ 1024 := by
  refine ⟨_, rfl, rfl, rfl, by decide⟩
def fillF (bs : List UInt8) (k i : Nat) : Lk := if i < k then lk bs i else Lk.zero
def fillC (bs : List UInt8) (k i : Nat) : Bool := if i < k then clean (secOf bs i) else false
theorem fillF_up (bs : List UInt8) (k : Nat) : up1 (fillF bs k) k (lk bs k) = fillF bs (k + 1) := by
  funext i
  unfold up1 fillF
  by_cases e : i = k
  · subst e; simp
  · rw [if_neg e]
    by_cases h : i < k
    · rw [if_pos h, if_pos (by omega)]
    · rw [if_neg h, if_neg (by omega)]
theorem fillC_up (bs : List UInt8) (k : Nat) : up1 (fillC bs k) k (clean (secOf bs k)) = fillC bs (k + 1) := by
  funext i
  unfold up1 fillC
  by_cases e : i = k
  · subst e; simp
  · rw [if_neg e]
    by_cases h : i < k
    · rw [if_pos h, if_pos (by omega)]
    · rw [if_neg h, if_neg (by omega)]
theorem made_get (z : Array Value) (n i j : Nat) (hz : z.size = 6) (hj : j < 6) (hi : i < n) : (madeCells z (n * 6))[i * 6 + j]? = z[j]? := by
  unfold madeCells
  have h1 : i * 6 + j < n * 6 := by omega
  have h2 : (i * 6 + j) % z.size = j := by rw [hz]; omega
  have h3 : j < z.size := by omega
  simp [h1, h2, h3, getElem!_pos]
theorem isL_new (w : World) (N : Nat) (bs : List UInt8) : IsL (w.alloc (.cells (madeCells #[.int .i64 0, .int .u32 0, .slice none 0 0, .int .i64 0, .int .i64 0, .bool false] (N * 6)) TL)) w.heap.size N (fillF bs 0) (fillC bs 0) := by
  have hb := heap_alloc_new w (.cells (madeCells #[.int .i64 0, .int .u32 0, .slice none 0 0, .int .i64 0, .int .i64 0, .bool false] (N * 6)) TL)
  refine ⟨⟨_, hb⟩, fun i hi => ⟨.slice none 0 0, Own.nil _ _ _, fun j hj => ?_⟩⟩
  have e : fillF bs 0 i = Lk.zero := by unfold fillF; rw [if_neg (by omega)]
  have e2 : fillC bs 0 i = false := by unfold fillC; rw [if_neg (by omega)]
  rw [e, e2]
  have h1 := made_get #[.int .i64 0, .int .u32 0, .slice none 0 0, .int .i64 0, .int .i64 0, .bool false] N i j rfl hj hi
  rw [cell_of hb (i * 6 + j), h1]
  rcases (by omega : j = 0 ∨ j = 1 ∨ j = 2 ∨ j = 3 ∨ j = 4 ∨ j = 5) with rfl | rfl | rfl | rfl | rfl | rfl <;> rfl
/-- While Open looks: the journal's struct in block q, the looks behind it. -/
structure OpS (w W : World) (p D c : Nat) (s : Fl) (k : Nat) : Prop where
  row : W.heap[w.heap.size]? = some (.cells #[.slice (some ⟨w.heap.size + 1, 0, none⟩) (nsec s.bs) (nsec s.bs), at_ p, .bool false] TJ (0, 0))
  l : IsL W (w.heap.size + 1) (nsec s.bs) (fillF s.bs k) (fillC s.bs k)
  b : Below w.heap.size w W
set_option maxHeartbeats 2000000 in
theorem open_ok (h : IsF w p D c s) (hon : s.on = true) (h3 : 3 ≤ nsec s.bs) :
    Calls Try.prog 18 #[at_ p] w fun e w' => e = .returned (.tuple #[at_ w.heap.size, .int .i64 0]) ∧ IsJ w' w.heap.size (w.heap.size + 1) p D c s ∧ Below w.heap.size w w' := by
  have HO := Lib.hid (fon_any h)
  rw [hon] at HO
  have HS := Lib.hid (fun W (b : Below w.heap.size w W) => fsectors_any (h.below b (Nat.le_refl _)))
  have en : s.bs.length / 1024 = nsec s.bs := rfl
  rw [en] at HS
  have h8 := nsec8 h.ok
  have H := Lib.hid h
  obtain ⟨i0, hi, hz0, hz1, hz2⟩ := info_look
  have h3' : ((nsec s.bs : Nat) : Int) ≥ 3 := by omega
  generalize hN : nsec s.bs = N at *
  have HN := Lib.hid hN
  clear h en
  go_enter Try.func18, Try.ntmps18
  go_wp2_with fail
  refine HO.out.mono ?_
  rintro e w1 ⟨rfl, rfl⟩
  go_wp2_with fail
  refine (HS.out _ (Below.refl _ _)).mono ?_
  rintro e w1 ⟨rfl, rfl⟩
  go_wp2_with fail
  have hA : Below w.heap.size w (w.alloc (.cells #[.slice none 0 0, at_ p, .bool false] 87)) := (Below.refl _ _).alloc (Nat.le_refl _) _
  refine (HS.out _ hA).mono ?_
  rintro e w1 ⟨rfl, rfl⟩
  have rq := heap_alloc_new w (.cells #[.slice none 0 0, at_ p, .bool false] 87)
  go_wp2_with (refine wpList_makeS _ rfl (.tmp 22) (.tmp 22) 83 rfl 118 i0 _ Try.underlying83 hi hz0 hz2 .i64 .i64 (N : Int) (N : Int) N rfl rfl rfl rfl (by omega) ?_)
  have S0 : OpS w ((w.alloc (.cells #[.slice (some ⟨w.heap.size + 1, 0, none⟩) N N, at_ p, .bool false] 87)).alloc (.cells (madeCells #[.int .i64 0, .int .u32 0, .slice none 0 0, .int .i64 0, .int .i64 0, .bool false] (N * 6)) 118)) p D c s 0 := by
    have hl := isL_new (w.alloc (.cells #[.slice (some ⟨w.heap.size + 1, 0, none⟩) N N, at_ p, .bool false] 87)) N s.bs
    rw [World.size_alloc] at hl
    refine ⟨?_, by rw [HN.out]; exact hl, below2 _ _ _⟩
    rw [HN.out]
    exact heap_alloc2_old _ _ _
  go_loopw [33] (fun i wr => ∃ k : Nat, k ≤ N ∧ i = .int .i64 (k : Int) ∧ OpS w wr p D c s k) (fun i _ => N - (intOf i).toNat)
  case atStart => exact ⟨0, by omega, rfl, S0⟩
  case round =>
    obtain ⟨k, hk, rfl, S⟩ := hrel
    by_cases hlt : k < N
    · have fd : IsFd wr w.heap.size (w.heap.size + 1) (nsec s.bs) (fillF s.bs k) (fillC s.bs k) := ⟨cell_of S.row 0, S.l, by rw [HN.out]; exact h8, Nat.lt_succ_self _⟩
      have HL := Lib.hid (jlook_any k fd (cell_of S.row 1) (H.out.below S.b (Nat.le_refl _)) hon (by rw [HN.out]; exact hlt) rfl)
      have HS' := Lib.hid S
      clear S fd S0
      go_wp2_with fail
      refine HL.out.mono ?_
      rintro e w2 ⟨rfl, l2, f2⟩
      rw [fillF_up, fillC_up] at l2
      have S2 : Hid (OpS w w2 p D c s (k + 1)) := Lib.hid ⟨(f2.block _ (Array.getElem?_eq_some_iff.1 HS'.out.row).1 (by omega)).trans HS'.out.row, l2, HS'.out.b.trans (f2.below HS'.out.b.size (fun k e => by omega))⟩
      clear l2 f2
      go_wp2_with fail
      go_roundw
      case rel => exact ⟨k + 1, by omega, by go_num, S2.out⟩
      case measure => simp [intOf]; omega
    · obtain rfl : k = N := by omega
      have HS' := Lib.hid S
      clear S S0
      go_wp2_with fail
      go_ret2
      have S := HS'.out
      refine ⟨rfl, ⟨⟨cell_of S.row 0, S.l.congr fun i hi => ?_, by rw [HN.out]; exact h8, Nat.lt_succ_self _⟩, S.row, H.out.below S.b (Nat.le_refl _), H.out.lt, H.out.ltD⟩, S.b⟩
      have hi' : i < k := by rw [HN.out] at hi; exact hi
      unfold fillF fillC
      rw [if_pos hi', if_pos hi']
      exact ⟨rfl, rfl⟩
theorem open_few (h : IsF w p D c s) (hon : s.on = true) (h3 : nsec s.bs < 3) :
    Calls Try.prog 18 #[at_ p] w fun e w' => e = .returned (.tuple #[.pointer none, .int .i64 9]) ∧ w = w' := by
  have HO := Lib.hid (fon_any h)
  rw [hon] at HO
  have HS := Lib.hid (fsectors_any h)
  have en : s.bs.length / 1024 = nsec s.bs := rfl
  rw [en] at HS
  have h3' : ((nsec s.bs : Nat) : Int) < 3 := by omega
  generalize nsec s.bs = N at *
  clear h en
  go_enter Try.func18, Try.ntmps18
  go_wp2_with fail
  refine HO.out.mono ?_
  rintro e w1 ⟨rfl, rfl⟩
  go_wp2_with fail
  refine HS.out.mono ?_
  rintro e w1 ⟨rfl, rfl⟩
  go_wp2_with fail
  go_ret2
  exact ⟨rfl, rfl⟩
theorem open_nil (w : World) : Calls Try.prog 18 #[.pointer none] w fun e w' => e = .returned (.tuple #[.pointer none, .int .i64 17]) ∧ w = w' := by
  go_enter Try.func18, Try.ntmps18
  go_wp2_with fail
  go_ret2
  exact ⟨rfl, rfl⟩

/-- What Last answers: in new memory. -/
def LastOwn (w : World) (t : Lk) (is : Bool) (e : Ending) (w' : World) : Prop := ∃ v, e = .returned (.tuple #[rec_ t.k t.n v, .bool is]) ∧ Own w' w.heap.size E v t.d ∧ Below w.heap.size w w'
theorem last_any (h : IsJ w q L p D c s) : Calls Try.prog 14 #[at_ q] w (LastOwn w (tell s.bs) (newest s.bs).isSome) := by
  have HN := Lib.hid (fun W (b : Below w.heap.size w W) => jnone_any (h.below b (Nat.le_refl _)))
  have HL := Lib.hid (fun W (b : Below w.heap.size w W) => fdlast_any (h.below b (Nat.le_refl _)).fd)
  have et : tellF (lk s.bs) (nsec s.bs) = tell s.bs := rfl
  have en : nstF (lk s.bs) (nsec s.bs) = newest s.bs := rfl
  rw [et, en] at HL
  have htd := (tell_bd s.bs).2.2
  generalize tell s.bs = t at *
  generalize (newest s.bs).isSome = is at *
  have HI := Lib.hid h
  clear h et en
  go_enter Try.func14, Try.ntmps14
  go_wp2_with fail
  have hb1 := below1 w (.cells #[.int .i64 0, .int .u32 0, .slice none 0 0] 39)
  have R0 := Lib.hid (heap_alloc_new w (.cells #[.int .i64 0, .int .u32 0, .slice none 0 0] 39))
  refine (HN.out _ hb1).mono ?_
  rintro e w1 ⟨rfl, rfl⟩
  go_wp2_with fail
  refine (HL.out _ hb1).mono ?_
  rintro e w1 ⟨v, rfl, o, b⟩
  have B1 := hb1.trans (b.mono hb1.size)
  obtain ⟨A1, c1, rfl, r1⟩ := o.form
  have R1 := Lib.hid ((b.block _ (by simp)).trans R0.out)
  have hb2 := below1 w1 (.cells #[.int .i64 t.k, .int .u32 t.n, .slice A1 t.d.length c1] 39)
  have Q0 := heap_alloc_new w1 (.cells #[.int .i64 t.k, .int .u32 t.n, .slice A1 t.d.length c1] 39)
  have HC := Lib.hid (Byt.clone_any A1 t.d.length c1 t.d _ ((r1.below hb2).mono hb2.size) rfl (by omega))
  have hg1 : w.heap.size < w1.heap.size := by have := b.size; simp only [World.size_alloc] at this; omega
  go_wp2_with fail
  refine HC.out.mono ?_
  rintro e w2 ⟨v2, rfl, o2, b2⟩
  obtain ⟨A2, c2, rfl, _⟩ := o2.form
  have Q2 := (b2.block w1.heap.size (by simp)).trans Q0
  have B12 := hb2.trans (b2.mono hb2.size)
  have R2 := (B12.block _ hg1).trans R1.out
  have q0 := cell_of Q2 0
  have q1 := cell_of Q2 1
  have q2 := cell_of Q2 2
  have z2 := frozen_of_row _ _ 2 _ _ Q2
  have p0 := cell_of R2 0
  have p1 := cell_of R2 1
  have p2 := cell_of R2 2
  have y0 := frozen_of_row _ _ 0 _ _ R2
  have y1 := frozen_of_row _ _ 1 _ _ R2
  have y2 := frozen_of_row _ _ 2 _ _ R2
  have O2 := Lib.hid o2
  clear o2 o r1 Q0
  unfold id
  go_wp2_with fail
  have R3 : (w2.setCell ⟨w1.heap.size, 2, none⟩ (.slice A2 t.d.length c2)).heap[w.heap.size]? = _ := (Below.heap_setCell w2 ⟨w1.heap.size, 2, none⟩ _ w.heap.size (by show _ ≠ w1.heap.size; omega)).trans R2
  refine bodyPost_ret (results_row2 rfl _ _ w.heap.size _ _ _ _ rfl (row3_set R3 _ _ _) Try.underlying39 rfl size_rec) rfl ?_
  have F1 : FarS (fun k => k = w1.heap.size ∨ k = w.heap.size) w2 ((((w2.setCell ⟨w1.heap.size, 2, none⟩ (.slice A2 t.d.length c2)).setCell ⟨w.heap.size, 0, none⟩ (.int .i64 t.k)).setCell ⟨w.heap.size, 1, none⟩ (.int .u32 t.n)).setCell ⟨w.heap.size, 2, none⟩ (.slice A2 t.d.length c2)) :=
    ((((FarS.refl (fun k => k = w1.heap.size ∨ k = w.heap.size) w2).set ⟨w1.heap.size, 2, none⟩ (.inl rfl) _).set ⟨w.heap.size, 0, none⟩ (.inr rfl) _).set ⟨w.heap.size, 1, none⟩ (.inr rfl) _).set ⟨w.heap.size, 2, none⟩ (.inr rfl) _
  have BW : Below w.heap.size w w2 := B1.trans (B12.mono (by omega))
  have BF := BW.trans (F1.below BW.size fun k e => by rcases e with rfl | rfl <;> omega)
  refine ⟨_, rfl, (own_keep O2.out fun g h1 h2 => F1.block g h1 ?_).lower (by simp only [World.size_alloc]; omega), BF⟩
  simp only [World.size_alloc] at h2
  omega
theorem at_any (h : IsJ w q L p D c s) : Calls Try.prog 41 #[at_ q] w fun e w' => e = .returned (.int .i64 (((newest s.bs).getD 0 : Nat) : Int)) ∧ Below w.heap.size w w' := by
  have HN := Lib.hid (jnone_any h)
  have HL := Lib.hid (fdnewest_any h.fd)
  have en : nstF (lk s.bs) (nsec s.bs) = newest s.bs := rfl
  rw [en] at HL
  generalize newest s.bs = t at *
  clear h en
  go_enter Try.func41, Try.ntmps41
  go_wp2_with fail
  refine HN.out.mono ?_
  rintro e w1 ⟨rfl, rfl⟩
  go_wp2_with fail
  refine HL.out.mono ?_
  rintro e w1 ⟨rfl, b⟩
  go_wp2_with fail
  go_ret
  exact ⟨rfl, b⟩
end
end Jou
end Go.Proofs.Ytkkbjngjjeajoaa
