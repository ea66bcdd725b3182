/-
  A queue among what a law made; the laws' known.
-/
import Derived.Test.YtlojomeofgnfjaaTxqTake
import Derived.Test.YtlojomeofgnfjaaFrmLift

namespace Go.Proofs.Ytlojomeofgnfjaa

namespace Txq
open Go.RowKit Mem Frm
set_option linter.unusedVariables false
set_option linter.unusedSimpArgs false
set_option maxRecDepth 100000

/-- A queue that the law made, in block p; nothing that was there was touched. -/
structure KQ (w W : World) (p : Nat) (s : Qs) : Prop where
  b : Below w.heap.size w W
  q : HasQ W p (· = p) s
  ge : w.heap.size ≤ p

section
variable {w W W' : World} {p : Nat} {s : Qs}

theorem KQ.next (h : KQ w W p s) (b : Below W.heap.size W W') : KQ w W' p s := ⟨h.b.trans (b.mono h.b.size), h.q.below b, h.ge⟩

theorem KQ.new (h : KQ w W p s) (o : Obj) : KQ w (W.alloc o) p s := h.next ((Below.refl _ _).alloc (Nat.le_refl _) o)

theorem KQ.drew (h : KQ w W p s) : KQ w W.drew p s := h.next ((Below.refl _ _).drew)

theorem KQ.ch (h : KQ w W p s) {s' : Qs} (q : HasQ W' p (· = p) s') (c : Ch p none W W') : KQ w W' p s' := ⟨h.b.trans (c.below h.b.size h.ge (by simp)), q, h.ge⟩

theorem KQ.nlt (h : KQ w W p s) : ∀ g, g = p → g < W.heap.size := fun g e => e ▸ h.q.lt

theorem KQ.put (h : KQ w W p s) (hl : s.lost < 1000000) (f : Fv) (hf : f.Ok) (hr : Rd W W.heap.size f.A f.d) :
    Calls Try.prog 10 #[at_ p, frm f.id f.r (.slice f.A f.d.length f.c)] W fun e w' => e = .returned (.int .i64 (s.put f.fr).2) ∧ KQ w w' p (s.put f.fr).1 :=
  (put_any h.q h.nlt hl f hf hr).mono fun e w' ⟨h1, h2, h3⟩ => ⟨h1, h.ch h2 h3⟩

theorem KQ.len (h : KQ w W p s) : Calls Try.prog 14 #[at_ p] W fun e w' => e = .returned (.int .i64 (s.l.length : Int)) ∧ W = w' := by
  obtain ⟨A, c, fs, hq, e⟩ := h.q
  rw [← e, List.length_map]
  exact len_any hq

theorem KQ.lost (h : KQ w W p s) : Calls Try.prog 31 #[at_ p] W fun e w' => e = .returned (.int .i64 (s.lost : Int)) ∧ W = w' := by
  obtain ⟨A, c, fs, hq, e⟩ := h.q
  exact lost_any hq

theorem KQ.spilt (h : KQ w W p s) : Calls Try.prog 32 #[at_ p] W fun e w' => e = .returned (.bool s.sp) ∧ KQ w w' p { s with sp := false } := by
  obtain ⟨A, c, fs, hq, e⟩ := h.q
  exact (spilt_any hq).mono fun e' w' ⟨h1, h2, h3⟩ => ⟨h1, h.ch ⟨A, c, fs, h2, e⟩ h3⟩

/-- What Take ends with in a law: a frame whose bytes are new. -/
def TakeK (w W : World) (p : Nat) (s : Qs) (e : Ending) (w' : World) : Prop :=
  ∃ A c, e = .returned (.tuple #[frm s.take.2.1.id s.take.2.1.r (.slice A s.take.2.1.d.length c), .bool s.take.2.2]) ∧ Rd w' w'.heap.size A s.take.2.1.d ∧ KQ w w' p s.take.1

theorem KQ.take (h : KQ w W p s) : Calls Try.prog 11 #[at_ p] W (TakeK w W p s) :=
  (take_any h.q h.nlt).mono fun e w' ⟨v, h1, h2, h3, h4⟩ => by
    obtain ⟨A, c, rfl, hr⟩ := h2.form
    exact ⟨A, c, h1, hr, h.ch h3 h4⟩

end

theorem new_K (room : Nat) (k1 : 1 ≤ room) (k2 : room ≤ 64) (w W : World) (b : Below w.heap.size w W) :
    Calls Try.prog 8 #[.int .i64 (room : Int)] W fun e w' => e = .returned (.tuple #[at_ W.heap.size, .int .i64 0]) ∧ KQ w w' W.heap.size ⟨[], room, 0, false⟩ :=
  (new_any room k1 k2 W (· = W.heap.size) rfl).mono fun e w' ⟨h1, h2, h3⟩ => ⟨h1, b.trans (h3.mono b.size), ⟨none, 0, [], h2, rfl⟩, b.size⟩

theorem ok_fr (id : Int) (h0 : -9223372036854775808 ≤ id) (h1 : id ≤ 9223372036854775807) : (⟨id, false, none, [], 0⟩ : Fv).Ok := ⟨h0, h1, by simp⟩

set_option maxHeartbeats 4000000 in
theorem known_any (w : World) : Calls Try.prog 9 #[] w fun e w' => e = .returned (.bool true) ∧ Below w.heap.size w w' := by
  have K0 := Lib.hid (new_K 2 (by omega) (by omega) w w (Below.refl _ _))
  have K1 := Lib.hid (fun W p (k : KQ w W p ⟨[], 2, 0, false⟩) => (k.put (by decide) ⟨385, false, none, [], 0⟩ (ok_fr _ (by decide) (by decide)) .nil : Calls _ _ _ _ fun e w' => e = .returned (.int .i64 0) ∧ KQ w w' p ⟨[⟨385, false, []⟩], 2, 0, false⟩))
  have K2 := Lib.hid (fun W p (k : KQ w W p ⟨[⟨385, false, []⟩], 2, 0, false⟩) => (k.put (by decide) ⟨129, false, none, [], 0⟩ (ok_fr _ (by decide) (by decide)) .nil : Calls _ _ _ _ fun e w' => e = .returned (.int .i64 0) ∧ KQ w w' p ⟨[⟨129, false, []⟩, ⟨385, false, []⟩], 2, 0, false⟩))
  have K3 := Lib.hid (fun W p (k : KQ w W p ⟨[⟨129, false, []⟩, ⟨385, false, []⟩], 2, 0, false⟩) => (k.put (by decide) ⟨0, false, none, [], 0⟩ (ok_fr _ (by decide) (by decide)) .nil : Calls _ _ _ _ fun e w' => e = .returned (.int .i64 6) ∧ KQ w w' p ⟨[⟨129, false, []⟩, ⟨385, false, []⟩], 2, 1, true⟩))
  have K4 := Lib.hid (fun W p (k : KQ w W p ⟨[⟨129, false, []⟩, ⟨385, false, []⟩], 2, 1, true⟩) => k.take)
  have K5 := Lib.hid (fun W p (k : KQ w W p ⟨[⟨385, false, []⟩], 2, 1, true⟩) => k.len)
  have K6 := Lib.hid (fun W p (k : KQ w W p ⟨[⟨385, false, []⟩], 2, 1, true⟩) => k.lost)
  have K7 := Lib.hid (fun W p (k : KQ w W p ⟨[⟨385, false, []⟩], 2, 1, true⟩) => k.spilt)
  have K8 := Lib.hid (fun W p (k : KQ w W p ⟨[⟨385, false, []⟩], 2, 1, false⟩) => k.spilt)
  go_enter Try.func9, Try.ntmps9
  go_wp2_with fail
  refine K0.out.mono ?_
  rintro e w1 ⟨rfl, q1⟩
  have Q1 := Lib.hid q1
  clear q1
  generalize w.heap.size = p at *
  go_wp2_with fail
  refine (K1.out _ _ Q1.out).mono ?_
  rintro e w2 ⟨rfl, q2⟩
  have Q2 := Lib.hid q2
  clear q2 Q1
  go_wp2_with fail
  refine (K2.out _ _ Q2.out).mono ?_
  rintro e w3 ⟨rfl, q3⟩
  have Q3 := Lib.hid q3
  clear q3 Q2
  go_wp2_with fail
  refine (K3.out _ _ Q3.out).mono ?_
  rintro e w4 ⟨rfl, q4⟩
  have Q4 := Lib.hid q4
  clear q4 Q3
  go_wp2_with fail
  refine (K4.out _ _ Q4.out).mono ?_
  rintro e w5 ⟨A, c, rfl, _, q5⟩
  have Q5 := Lib.hid (show KQ w w5 p ⟨[⟨385, false, []⟩], 2, 1, true⟩ from q5)
  clear q5 Q4
  have X := Lib.hid (fun o => Q5.out.new o)
  go_wp2_with (first
    | (go_at_call 14; refine (K5.out _ _ (X.out _)).mono ?_; rintro e w6 ⟨rfl, rfl⟩)
    | (go_at_call 31; refine (K6.out _ _ (X.out _)).mono ?_; rintro e w7 ⟨rfl, rfl⟩)
    | (go_at_call 32; refine (K7.out _ _ (X.out _)).mono ?_; rintro e w8 ⟨rfl, q8⟩; have Q8 := Lib.hid q8; clear q8)
    | (go_at_call 32; refine (K8.out _ _ Q8.out).mono ?_; rintro e w9 ⟨rfl, q9⟩; have Q9 := Lib.hid q9; clear q9))
  go_ret
  exact ⟨rfl, Q9.out.b⟩

end Txq

end Go.Proofs.Ytlojomeofgnfjaa
