/-
  Append after Append without a failure of the power: its work. No program is named here.
  An Append that the power may fail in, and opening anew. No program is named here.
-/
import Derived.Test.YtppjjdaejhilkaaJouApp
namespace Go.Proofs.Ytppjjdaejhilkaa
namespace Jou
open Go.RowKit Mem Fla Rec Sec
set_option linter.unusedVariables false
set_option linter.unusedSimpArgs false
set_option maxRecDepth 100000

/-- Behind i Appends on a new flash of N sectors. -/
structure WI (N : Nat) (s : Fl) (i : Nat) : Prop where
  ok : s.Ok
  on : s.on = true
  pl : s.pl = false
  n : nsec s.bs = N
  most : s.most = 1000
  wb : ∀ j, s.wearAt j ≤ i
  tn : (tell s.bs).n = i
  ops : s.ops ≤ 1000 * i
theorem wearAt_new (bs : List UInt8) (m : Int) (i : Nat) : (Fl.new bs m).wearAt i = 0 := by
  unfold Fl.wearAt Fl.new
  simp only [List.getD_eq_getElem?_getD]
  by_cases hi : i < 8
  · rw [List.getElem?_replicate, if_pos hi]; rfl
  · rw [List.getElem?_replicate, if_neg hi]; rfl
theorem WI.start (N : Nat) (h1 : 1 ≤ N) (h8 : N ≤ 8) : WI N (Fl.new (blankN N) 1000) 0 := by
  refine ⟨new_ok N 1000 h1 h8 (by omega) (by omega), rfl, rfl, nsec_blank N, rfl, fun j => ?_, ?_, Int.le_refl _⟩
  · rw [wearAt_new]; omega
  · show (tell (blankN N)).n = _
    rw [tell_blank]
    rfl
theorem left_at {s : Fl} {i : Nat} (hi : i < nsec s.bs) : s.left (i : Int) = s.most - s.wearAt i := by
  unfold Fl.left
  have : s.has (i : Int) = true := by
    unfold Fl.has
    unfold nsec at hi
    simp
    omega
  rw [this]
  simp
theorem WI.step {N : Nat} {s : Fl} {i : Nat} (h : WI N s i) (hi : i < 100) (hN : 2 ≤ N) (h8 : N ≤ 8) {d : List UInt8} (hd : d.length ≤ 960) (ok' : (app s 1 d).1.Ok) :
    (app s 1 d).2 = 0 ∧ WI N (app s 1 d).1 (i + 1) ∧ (newest (app s 1 d).1.bs).isSome = true ∧ (tell (app s 1 d).1.bs).n = ((i + 1 : Nat) : Int) ∧ (tell (app s 1 d).1.bs).d = d ∧
      ∃ x : Int, (x = 0 ∨ x = 1) ∧ (app s 1 d).1.ops = s.ops + (13 + d.length) + x ∧ wsum (app s 1 d).1.wearAt N = wsum s.wearAt N + x := by
  obtain ⟨ok, on, pl, n, most, wb, tn, ops⟩ := h
  have hp : pre (tell s.bs) 1 d.length = 0 := by
    unfold pre err
    rw [if_neg (by omega), if_pos ⟨.inl rfl, by omega⟩, if_neg (by omega)]
  obtain ⟨h1, h2, h3⟩ := pre_ok hp
  obtain ⟨p, hpl⟩ := place_some (s := s) d.length (by omega) fun j hj => by
    rw [left_at hj, most]
    have := wb j
    omega
  have hP := place_spec hpl
  have ha := app_in on hp
  rw [hpl] at ha
  have st : Step s (app s 1 d).1 (app s 1 d).2 p 1 d := by
    rw [ha]
    exact lay_step hP on ok.a0 h1 h2
  have hops := app_ops (s := s) (k := 1) (d := d) ok
  generalize app s 1 d = r at *
  obtain ⟨s', c⟩ := r
  simp only at *
  have hT := st.tells hP
  have hw := st.wears ok.w8 (by have := hP.lt; omega)
  have hc : c = 0 := by
    rcases st.out with ⟨o, _⟩ | ⟨_, o, _⟩
    · exact o
    · rw [pl] at o; cases o
  subst hc
  rcases st.out with ⟨_, o2, o3, o4, o5⟩ | ⟨o, _⟩
  · have hnew := hT.2.1 rfl
    have htl : (tell s'.bs).n = (tell s.bs).n + 1 ∧ (tell s'.bs).d = d := by
      rcases hT.2.2 with ⟨_, t2, t3, _⟩ | ⟨t1, _⟩
      · exact ⟨t2, t3⟩
      · cases t1
    refine ⟨rfl, ⟨ok', o2, o3.trans pl, st.nsec.trans n, st.most.trans most, fun j => ?_, ?_, by omega⟩, by rw [hnew]; rfl, by rw [htl.1, tn]; omega, htl.2, (if p.er then 1 else 0), ?_, by rw [o4], ?_⟩
    · rw [hw]
      have := wb j
      split
      · unfold up
        split
        · subst_vars
          have := wb p.t
          omega
        · omega
      · omega
    · rw [htl.1, tn]; omega
    · split
      · exact .inr rfl
      · exact .inl rfl
    · rw [hw]
      by_cases he : p.er = true
      · rw [if_pos he, if_pos he]
        exact wsum_up (by have := hP.lt; omega)
      · rw [if_neg he, if_neg he]
        omega
  · cases o
theorem WI.worn {s : Fl} {i : Nat} (h : WI 4 s i) (hi : i ≤ 100) : (0 ≤ s.worn 0 ∧ s.worn 0 ≤ 1000) ∧ (0 ≤ s.worn 1 ∧ s.worn 1 ≤ 1000) ∧ (0 ≤ s.worn 2 ∧ s.worn 2 ≤ 1000) ∧ (0 ≤ s.worn 3 ∧ s.worn 3 ≤ 1000) ∧
    s.worn 0 + s.worn 1 + s.worn 2 + s.worn 3 = wsum s.wearAt 4 := by
  have hn := h.n
  have e0 : s.worn 0 = s.wearAt 0 := worn_at (i := 0) (by omega)
  have e1 : s.worn 1 = s.wearAt 1 := worn_at (i := 1) (by omega)
  have e2 : s.worn 2 = s.wearAt 2 := worn_at (i := 2) (by omega)
  have e3 : s.worn 3 = s.wearAt 3 := worn_at (i := 3) (by omega)
  have b0 := h.ok.wear_bd 0 (by omega)
  have b1 := h.ok.wear_bd 1 (by omega)
  have b2 := h.ok.wear_bd 2 (by omega)
  have b3 := h.ok.wear_bd 3 (by omega)
  have hm := h.most
  rw [e0, e1, e2, e3]
  refine ⟨⟨b0.1, by omega⟩, ⟨b1.1, by omega⟩, ⟨b2.1, by omega⟩, ⟨b3.1, by omega⟩, ?_⟩
  simp only [wsum]
  omega
end Jou
end Go.Proofs.Ytppjjdaejhilkaa

namespace Go.Proofs.Ytppjjdaejhilkaa
namespace Jou
open Go.RowKit Mem Fla Rec Sec
set_option linter.unusedVariables false
set_option linter.unusedSimpArgs false
set_option maxRecDepth 100000

/-- Behind i Appends on a new flash of N sectors, whatever the power did. -/
structure WC (N : Nat) (m : Int) (s : Fl) (i : Nat) : Prop where
  ok : s.Ok
  on : s.on = true
  n : nsec s.bs = N
  most : s.most = m
  wb : ∀ j, s.wearAt j ≤ i
  tn : (tell s.bs).n ≤ i
  ops : s.ops ≤ 1000 * i
theorem WC.start (N : Nat) (m : Int) (h1 : 1 ≤ N) (h8 : N ≤ 8) (m0 : 0 ≤ m) (m1 : m ≤ 9223372036854775807) : WC N m (Fl.new (blankN N) m) 0 := by
  refine ⟨new_ok N m h1 h8 m0 m1, rfl, nsec_blank N, rfl, fun j => ?_, ?_, Int.le_refl _⟩
  · rw [wearAt_new]; omega
  · show (tell (blankN N)).n ≤ _
    rw [tell_blank]
    exact Int.le_refl _
/-- A planned cut changes nothing that stands. -/
theorem WC.cut {N : Nat} {m : Int} {s : Fl} {i : Nat} (h : WC N m s i) (n k : Int) (hn : 0 ≤ n) (n1 : n ≤ 9223372036854775807) (k0 : 0 ≤ k) (k1 : k ≤ 4294967295) : WC N m (s.cut n k) i ∧ (s.cut n k).bs = s.bs ∧ (s.cut n k).wear = s.wear := by
  have e : s.cut n k = { s with pl := true, ahead := n, mask := k } := by unfold Fl.cut; rw [if_neg (by omega)]
  rw [e]
  obtain ⟨a, b, c, d, f, g, o⟩ := h
  exact ⟨⟨⟨a.len0, a.len1, a.secs, a.w8, a.wb, a.m1, hn, n1, k0, k1, a.o0, a.o1⟩, b, c, d, f, g, o⟩, rfl, rfl⟩
theorem ok_start {s : Fl} (a : s.Ok) : s.start.Ok := ⟨a.len0, a.len1, a.secs, a.w8, a.wb, a.m1, a.a0, a.a1, a.k0, a.k1, a.o0, a.o1⟩
/-- An Append, and a start behind it. -/
theorem WC.step {N : Nat} {m : Int} {s : Fl} {i : Nat} (h : WC N m s i) (hi : i < 100) (hm : 200 ≤ m) (hN : 2 ≤ N) (h8 : N ≤ 8) {d : List UInt8} (hd : d.length ≤ 960) (ok' : (app s 1 d).1.Ok) :
    ((app s 1 d).2 = 0 ∧ (app s 1 d).1.on = true ∨ (app s 1 d).2 = 7 ∧ (app s 1 d).1.on = false) ∧ WC N m (app s 1 d).1.start (i + 1) ∧
      (((tell (app s 1 d).1.bs).k = 1 ∧ (tell (app s 1 d).1.bs).n = (tell s.bs).n + 1 ∧ (tell (app s 1 d).1.bs).d = d ∧ (newest (app s 1 d).1.bs).isSome = true) ∨
        (app s 1 d).2 = 7 ∧ tell (app s 1 d).1.bs = tell s.bs ∧ newest (app s 1 d).1.bs = newest s.bs) ∧ ∃ p, Plc s d.length p ∧ Step s (app s 1 d).1 (app s 1 d).2 p 1 d := by
  obtain ⟨ok, on, n, most, wb, tn, ops⟩ := h
  have ht0 := (tell_bd s.bs).1.1
  have hp : pre (tell s.bs) 1 d.length = 0 := by
    unfold pre err
    rw [if_neg (by omega), if_pos ⟨.inl rfl, by omega⟩, if_neg (by omega)]
  obtain ⟨h1, h2, h3⟩ := pre_ok hp
  obtain ⟨p, hpl⟩ := place_some (s := s) d.length (by omega) fun j hj => by
    rw [left_at hj, most]
    have := wb j
    omega
  have hP := place_spec hpl
  have ha := app_in on hp
  rw [hpl] at ha
  have st : Step s (app s 1 d).1 (app s 1 d).2 p 1 d := by
    rw [ha]
    exact lay_step hP on ok.a0 h1 h2
  have hops := app_ops (s := s) (k := 1) (d := d) ok
  generalize app s 1 d = r at *
  obtain ⟨s', c⟩ := r
  simp only at *
  have hT := st.tells hP
  have hw := st.wears ok.w8 (by have := hP.lt; omega)
  have htl : (tell s'.bs).n ≤ ((i + 1 : Nat) : Int) := by
    rcases hT.2.2 with ⟨_, t2, _⟩ | ⟨_, t2, _⟩
    · rw [t2]; omega
    · rw [t2]; omega
  refine ⟨?_, ⟨ok_start ok', rfl, st.nsec.trans n, st.most.trans most, fun j => ?_, htl, by show s'.ops ≤ _; omega⟩, ?_, p, hP, st⟩
  · rcases st.out with ⟨o1, o2, _⟩ | ⟨o1, _, o3, _⟩
    · exact .inl ⟨o1, o2⟩
    · exact .inr ⟨o1, o3⟩
  · show s'.wearAt j ≤ _
    rw [hw]
    have := wb j
    split
    · unfold up
      split
      · subst_vars
        have := wb p.t
        omega
      · omega
    · omega
  · rcases hT.2.2 with ⟨t1, t2, t3, t4⟩ | t
    · exact .inl ⟨t1, t2, t3, by rw [t4]; rfl⟩
    · exact .inr t
end Jou
end Go.Proofs.Ytppjjdaejhilkaa
