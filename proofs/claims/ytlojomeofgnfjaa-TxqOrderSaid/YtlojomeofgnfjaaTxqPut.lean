/-
  Put of a queue.
-/
import Derived.Test.YtlojomeofgnfjaaTxqOpen
import Derived.Deep.RegionLaw

namespace Go.Proofs.Ytlojomeofgnfjaa

namespace Txq
open Go.RowKit Mem Frm
set_option linter.unusedVariables false
set_option linter.unusedSimpArgs false
set_option maxRecDepth 100000

section
variable {W W' : World} {g p : Nat} {x y z : Value} {N : Nat → Prop} {A : Option Addr} {c : Nat} {fs : List Fv} {room lost : Nat} {sp : Bool}

theorem One.q (h : One W g x y z W') (q : IsQ W p N A c fs room lost sp) : IsQ W' p N A c fs room lost sp := q.below h.b

/-- The four cells that Put's statements read. -/
theorem One.four (h : One W g x y z W') (q : IsQ W p N A c fs room lost sp) : W'.cell? ⟨p, 0, none⟩ = some (.slice A fs.length c) ∧ W'.cell? ⟨g, 0, none⟩ = some x ∧ W'.cell? ⟨g, 1, none⟩ = some y ∧ W'.cell? ⟨g, 2, none⟩ = some z :=
  ⟨(h.q q).c0, h.c.1, h.c.2.1, h.c.2.2⟩

def AsIs (W : World) (p : Nat) (N : Nat → Prop) (A : Option Addr) (c : Nat) (fs : List Fv) (room lost : Nat) (sp : Bool) (z : Int) (e : Ending) (w' : World) : Prop :=
  e = .returned (.int .i64 z) ∧ IsQ w' p N A c fs room lost sp ∧ Ch p none W w'

set_option maxHeartbeats 1000000 in
theorem put_err (hq : IsQ W p N A c fs room lost sp) (f : Fv) (hf : f.Ok) (he : Frm.err f.id f.r f.d.length ≠ 0) :
    Calls Try.prog 10 #[at_ p, frm f.id f.r (.slice f.A f.d.length f.c)] W (AsIs W p N A c fs room lost sp (Frm.err f.id f.r f.d.length)) := by
  have HQ := Lib.hid hq
  have O1 := Lib.hid (One.start W (.int .i64 f.id) (.bool f.r) (.slice f.A f.d.length f.c))
  have hm := hf.l
  unfold maxLen at hm
  have H1 := Lib.hid (none_any (O1.out.q hq))
  have H2 := Lib.hid (fun W' => check_any f.id f.r f.A f.d.length f.c W' hf.k0 hf.k1 (by omega))
  have he' : (Frm.err f.id f.r f.d.length != 0) = true := by simpa using he
  obtain ⟨x0, x1, x2⟩ := O1.out.c
  clear hq he
  generalize Frm.err f.id f.r f.d.length = E at *
  go_enter Try.func10, Try.ntmps10
  go_wp2_with fail
  refine H1.out.mono ?_
  rintro e w1 ⟨rfl, rfl⟩
  go_wp2_with fail
  refine (H2.out _).mono ?_
  rintro e w2 ⟨rfl, b2⟩
  have O2 := Lib.hid (O1.out.next b2)
  clear b2 O1 x0 x1 x2
  go_wp2_with fail
  go_ret
  exact ⟨rfl, O2.out.q HQ.out, (Ch.refl _ _ _).next O2.out.b⟩

set_option maxHeartbeats 1000000 in
theorem put_full (hq : IsQ W p N A c fs room lost sp) (hl : lost < 1000000) (f : Fv) (hf : f.Ok) (he : Frm.err f.id f.r f.d.length = 0) (hroom : fs.length = room) :
    Calls Try.prog 10 #[at_ p, frm f.id f.r (.slice f.A f.d.length f.c)] W (AsIs W p N A c fs room (lost + 1) true 6) := by
  have HQ := Lib.hid hq
  have O1 := Lib.hid (One.start W (.int .i64 f.id) (.bool f.r) (.slice f.A f.d.length f.c))
  have hm := hf.l
  unfold maxLen at hm
  have H1 := Lib.hid (none_any (O1.out.q hq))
  have H2 := Lib.hid (fun W' => check_any f.id f.r f.A f.d.length f.c W' hf.k0 hf.k1 (by omega))
  rw [he] at H2
  have r64 := hq.r64
  subst hroom
  obtain ⟨x0, x1, x2⟩ := O1.out.c
  clear hq he
  go_enter Try.func10, Try.ntmps10
  go_wp2_with fail
  refine H1.out.mono ?_
  rintro e w1 ⟨rfl, rfl⟩
  go_wp2_with fail
  refine (H2.out _).mono ?_
  rintro e w2 ⟨rfl, b2⟩
  have O2 := Lib.hid (O1.out.next b2)
  have Q2 := O2.out.q HQ.out
  have c0 := Q2.c0
  have c1 := Q2.c1
  clear b2 O1 x0 x1 x2
  go_wp2_with fail
  go_quiet (fail)
  have Q3 : IsQ (w2.drewN nq) p N A c fs fs.length lost sp := Q2.below (below_drewN (Below.refl _ _) nq)
  have O3 := Lib.hid (show Below W.heap.size W (w2.drewN nq) from below_drewN O2.out.b nq)
  clear c0 c1
  generalize w2.drewN nq = w3 at *
  have c2 := Q3.c2
  have f2 := Q3.free 2
  have Q4 := Lib.hid (Q3.set 2 (.int .i64 ((lost : Int) + 1)) (lost' := lost + 1) (sp' := sp) (by simp [qcells]))
  have c3 := Q4.out.c3
  have f3 := Q4.out.free 3
  have Q5 := Lib.hid (Q4.out.set 3 (.bool true) (lost' := lost + 1) (sp' := true) rfl)
  clear Q2 Q3
  go_wp2_with fail
  go_ret
  exact ⟨rfl, Q5.out, (((Ch.refl _ _ _).next O3.out).set _ _).set _ _⟩

theorem row_form {W : World} {base n m : Nat} {e : TypeId} {size : Nat} {v : Value} {xs : List Value} (h : W.ownsRow base e size v n xs) (hm : n = m) : ∃ A c, v = .slice A m c := by
  subst hm
  rcases h.2 with ⟨rfl, rfl⟩ | ⟨g, cap, cur, rfl, _⟩
  · exact ⟨_, _, rfl⟩
  · exact ⟨_, _, rfl⟩

theorem getD_mem {fs : List Fv} {j : Nat} (h : j < fs.length) : fs.getD j Fv.zero ∈ fs := by
  simp [List.getD_eq_getElem?_getD, h]

theorem mem_getD {fs : List Fv} {f : Fv} (h : f ∈ fs) : ∃ j, j < fs.length ∧ fs.getD j Fv.zero = f := by
  obtain ⟨j, hj, rfl⟩ := List.getElem_of_mem h
  exact ⟨j, hj, by simp [List.getD_eq_getElem?_getD, hj]⟩

theorem RdG.mem {G : Nat → Prop} {W : World} {A : Option Addr} {fs : List Fv} (h : RdG G W A fs) {f : Fv} (hf : f ∈ fs) : RdB G W f.A f.d := by
  obtain ⟨j, hj, rfl⟩ := mem_getD hf
  exact h.2 j hj

/-- The queue's row is a new one, which holds frames that were there, and such as are new. -/
theorem IsQ.renew {w : World} (hq : IsQ W p N A c fs room lost sp) {M : Nat} (hN : ∀ g, N g → g < M) (b : Below W.heap.size W w) {B m c6 : Nat} {A6 : Option Addr} {fs' : List Fv} (o : w.ownsRow B 29 3 (.slice A6 m c6) fs'.length (flatF fs')) (hB : M ≤ B)
    (hd : ∀ f ∈ fs', f ∈ fs ∨ (Frm.err f.id f.r f.d.length = 0 ∧ RdB (fun g => M ≤ g ∧ g < w.heap.size) w f.A f.d)) (len : fs'.length ≤ room) : IsQ (w.setCell ⟨p, 0, none⟩ (.slice A6 m c6)) p N A6 c6 fs' room lost sp := by
  have hin : ∀ g, M ≤ g → g < w.heap.size → Clear w N g := fun g h1 h2 => ⟨h2, fun n => by have := hN g n; omega⟩
  obtain ⟨A', c', hv, h1, h2, h3, h4⟩ := rdG_of (G := Clear w N) o (fun j hj => by
    rcases hd _ (getD_mem hj) with h | ⟨_, h⟩
    · exact ((hq.rd.mem h).keep fun g hg => b.block g hg.1).mono fun g hg => ⟨Nat.lt_of_lt_of_le hg.1 b.size, hg.2⟩
    · exact h.mono fun g hg => hin g hg.1 hg.2) (fun g h1 h2 => hin g (by omega) h2)
  injection hv with e1 e2 e3
  subst e1
  subst e2
  subst e3
  exact (hq.below b).row h4 (fun f hf => by
    rcases hd f hf with h | ⟨h, _⟩
    · exact hq.ok f h
    · exact h) len h1 h2 h3

theorem rdB_own {w : World} {base B : Nat} {e : TypeId} {v : Value} {A : Option Addr} {n c : Nat} {d : List UInt8} (o : Own w base e v d) (hv : v = .slice A n c) (hB : B ≤ base) : RdB (fun g => B ≤ g ∧ g < w.heap.size) w A d := by
  subst hv
  rcases o.2 with ⟨hv, hn⟩ | ⟨g, cap, cur, hv, hb, hh, hnc, hcm, hcs, ht⟩
  · exact .inl (List.eq_nil_of_length_eq_zero hn)
  · have o' := o
    injection hv with e1 e2 e3
    subst e1
    subst e2
    refine .inr ⟨g, 0, rfl, ⟨by omega, (Array.getElem?_eq_some_iff.1 hh).1⟩, fun j hj => ?_⟩
    rw [Nat.zero_add]
    exact Own.cell o' rfl hj

/-- What Put ends with when there is room. -/
def In (W : World) (p : Nat) (N : Nat → Prop) (fs : List Fv) (room lost : Nat) (sp : Bool) (f : Fv) (e : Ending) (w' : World) : Prop :=
  e = .returned (.int .i64 0) ∧ (∃ A c f', IsQ w' p N A c (fs.take (plc f.id f.r fs) ++ f' :: fs.drop (plc f.id f.r fs)) room lost sp ∧ f'.fr = f.fr) ∧ Ch p none W w'

set_option maxHeartbeats 4000000 in
theorem put_in (hq : IsQ W p N A c fs room lost sp) (hN : ∀ g, N g → g < W.heap.size) (f : Fv) (hf : f.Ok) (hr : Rd W W.heap.size f.A f.d) (he : Frm.err f.id f.r f.d.length = 0) (hroom : fs.length < room) :
    Calls Try.prog 10 #[at_ p, frm f.id f.r (.slice f.A f.d.length f.c)] W (In W p N fs room lost sp f) := by
  have HQ := Lib.hid hq
  have HE := Lib.hid he
  have O1 := Lib.hid (One.start W (.int .i64 f.id) (.bool f.r) (.slice f.A f.d.length f.c))
  have hm := hf.l
  unfold maxLen at hm
  have H1 := Lib.hid (none_any (O1.out.q hq))
  have H2 := Lib.hid (fun W' => check_any f.id f.r f.A f.d.length f.c W' hf.k0 hf.k1 (by omega))
  rw [he] at H2
  have r64 := hq.r64
  have d8 := (err_ok he).2.2.1
  have FOUR := Lib.hid (fun W' (o : One W W.heap.size (.int .i64 f.id) (.bool f.r) (.slice f.A f.d.length f.c) W') => o.four hq)
  have PL := Lib.hid (fun W' (o : One W W.heap.size (.int .i64 f.id) (.bool f.r) (.slice f.A f.d.length f.c) W') => place_any A c fs f.id f.r (.slice f.A f.d.length f.c) W' (o.q hq).rdf (by omega) ⟨_, _, _, rfl⟩)
  have OW_ := Lib.hid (fun W' (o : One W W.heap.size (.int .i64 f.id) (.bool f.r) (.slice f.A f.d.length f.c) W') => own_any f.id f.r f.A f.d.length f.c f.d W' ((hr.below o.b).mono o.b.size) rfl (by omega))
  have PLE := Lib.hid (plc_le f.id f.r fs)
  have OP := Lib.hid (fun W' (o : One W W.heap.size (.int .i64 f.id) (.bool f.r) (.slice f.A f.d.length f.c) W') A4 c4 => opened_any A c fs (plc f.id f.r fs) PLE.out ⟨f.id, f.r, A4, f.d, c4⟩ W' (o.q hq).rdf hq.at0 (by omega) hq.cap hq.capm)
  unfold In
  generalize plc f.id f.r fs = k at *
  obtain ⟨x0, x1, x2⟩ := O1.out.c
  have hlt : ¬ fs.length = room := by omega
  have hne : ((fs.length : Int) == (room : Int)) = false := beq_eq_false_iff_ne.2 (by omega)
  clear hq he hr
  go_enter Try.func10, Try.ntmps10
  go_wp2_with fail
  refine H1.out.mono ?_
  rintro e w1 ⟨rfl, rfl⟩
  go_wp2_with fail
  refine (H2.out _).mono ?_
  rintro e w2 ⟨rfl, b2⟩
  have O2 := Lib.hid (O1.out.next b2)
  have Q2 := O2.out.q HQ.out
  have c0 := Q2.c0
  have c1 := Q2.c1
  clear b2 O1 x0 x1 x2 Q2
  go_wp2_with fail
  go_quiet (fail)
  have O3 := Lib.hid (show One W W.heap.size (.int .i64 f.id) (.bool f.r) (.slice f.A f.d.length f.c) (w2.drewN nq) from ⟨below_drewN O2.out.b nq, O2.out.box, O2.out.ge⟩)
  clear c0 c1 O2
  generalize w2.drewN nq = w3 at *
  have y := FOUR.out _ O3.out
  obtain ⟨y0, y1, y2, y3⟩ := y
  go_wp2_with fail
  go_region_held3 (fun w' => w'.cell? ⟨p, 0, none⟩ = some (.slice A fs.length c) ∧ w'.cell? ⟨W.heap.size, 0, none⟩ = some (.int .i64 f.id) ∧ w'.cell? ⟨W.heap.size, 1, none⟩ = some (.bool f.r) ∧ w'.cell? ⟨W.heap.size, 2, none⟩ = some (.slice f.A f.d.length f.c))
    (first | go_keep | exact FOUR.out _ O4.out)
    (first | (go_at_call 35; refine (PL.out _ O3.out.drew).mono ?_; rintro e w4 ⟨rfl, b4⟩; have O4 := Lib.hid (O3.out.drew.next b4); clear b4))
  clear PL y0 y1 y2 y3 O3
  have FR := Lib.hid (fun W' (o : One W W.heap.size (.int .i64 f.id) (.bool f.r) (.slice f.A f.d.length f.c) W') => (o.q HQ.out).free 0)
  obtain ⟨y0, y1, y2, y3⟩ := FOUR.out _ O4.out
  go_wp2_with fail
  go_region_law (first
    | (go_simp; go_at_call 38; refine (OW_.out _ O4.out.drew).mono ?_; rintro e w5 ⟨v5, rfl, o5, b5⟩; have R5 := Lib.hid (fun A5 c5 (e : _ = Value.slice A5 f.d.length c5) => rdB_own (B := W.heap.size) o5 e O4.out.b.size); obtain ⟨A5, c5, rfl, _⟩ := o5.form; have O5 := Lib.hid (O4.out.drew.next b5); obtain ⟨z0, z1, z2, z3⟩ := FOUR.out _ O5.out; clear b5)
    | (go_simp; go_at_call 37; refine (OP.out _ O5.out A5 c5).mono ?_; rintro e w6 ⟨v6, rfl, o6, b6⟩; obtain ⟨A6, c6, rfl⟩ := row_form (m := fs.length + 1) o6 (by simp; omega); have O6 := Lib.hid (O5.out.next b6); have O6s := Lib.hid b6; obtain ⟨u0, u1, u2, u3⟩ := FOUR.out _ O6.out; have uf := FR.out _ O6.out))
  all_goals
    have Q6 := Lib.hid (HQ.out.renew hN O6.out.b o6 O5.out.b.size (fun x hx => by
      rcases List.mem_append.1 hx with h | h
      · exact .inl (List.mem_of_mem_take h)
      · rcases List.mem_cons.1 h with rfl | h
        · exact .inr ⟨HE.out, ((R5.out A5 c5 rfl).keep fun g hg => O6s.out.block g hg.2).mono fun g hg => ⟨hg.1, Nat.lt_of_lt_of_le hg.2 O6s.out.size⟩⟩
        · exact .inl (List.mem_of_mem_drop h)) (by have := PLE.out; simp; omega))
    have C6 := Lib.hid (((Ch.refl p none W).next O6.out.b).set 0 (.slice A6 (fs.length + 1) c6))
    clear y0 y1 y2 y3 z0 z1 z2 z3 u0 u1 u2 u3 uf o5 o6
    go_wp2_with fail
    go_ret
    exact ⟨rfl, ⟨A6, c6, _, Q6.out, rfl⟩, C6.out⟩

end

theorem key_before (f g : Fv) : before f.id f.r g.id g.r = decide (key f.fr < key g.fr) := rank_before f.id f.r g.id g.r

theorem ins_plc (fs : List Fv) (f f' : Fv) (h : f'.fr = f.fr) : (fs.take (plc f.id f.r fs) ++ f' :: fs.drop (plc f.id f.r fs)).map Fv.fr = ins key f.fr (fs.map Fv.fr) := by
  rw [ins_at key f.fr (fs.map Fv.fr) (plc f.id f.r fs) (by simpa using plc_le f.id f.r fs) (fun j hj hp => by
    obtain ⟨hj', hb⟩ := plc_no hp
    rw [key_before] at hb
    simpa using hb) (fun hp => by
    have hp' : plc f.id f.r fs < fs.length := by simpa using hp
    have hb := plc_yes hp'
    rw [key_before] at hb
    simpa using hb)]
  simp [h]

/-- What Put ends with. -/
def PutEnds (W : World) (p : Nat) (N : Nat → Prop) (s : Qs) (f : Fr) (e : Ending) (w' : World) : Prop :=
  e = .returned (.int .i64 (s.put f).2) ∧ HasQ w' p N (s.put f).1 ∧ Ch p none W w'

theorem put_any {W : World} {p : Nat} {N : Nat → Prop} {s : Qs} (h : HasQ W p N s) (hN : ∀ g, N g → g < W.heap.size) (hl : s.lost < 1000000) (f : Fv) (hf : f.Ok) (hr : Rd W W.heap.size f.A f.d) :
    Calls Try.prog 10 #[at_ p, frm f.id f.r (.slice f.A f.d.length f.c)] W (PutEnds W p N s f.fr) := by
  obtain ⟨A, c, fs, hq, e⟩ := h
  unfold PutEnds Qs.put
  by_cases he : Frm.err f.id f.r f.d.length = 0
  · have he' : f.fr.err = 0 := he
    have hlen : s.l.length = fs.length := by rw [← e]; simp
    rw [if_pos he', hlen]
    by_cases hroom : fs.length = s.room
    · rw [if_pos hroom]
      exact (put_full hq hl f hf he hroom).mono fun e' w' h => ⟨h.1, ⟨A, c, fs, h.2.1, e⟩, h.2.2⟩
    · rw [if_neg hroom]
      refine (put_in hq hN f hf hr he (by have := hq.len; omega)).mono fun e' w' h => ?_
      obtain ⟨h1, ⟨A', c', f', h2, h3⟩, h4⟩ := h
      exact ⟨h1, ⟨A', c', _, h2, by rw [ins_plc fs f f' h3, e]⟩, h4⟩
  · have he' : ¬ f.fr.err = 0 := he
    rw [if_neg he']
    exact (put_err hq f hf he).mono fun e' w' h => ⟨h.1, ⟨A, c, fs, h.2.1, e⟩, h.2.2⟩

end Txq

end Go.Proofs.Ytlojomeofgnfjaa
