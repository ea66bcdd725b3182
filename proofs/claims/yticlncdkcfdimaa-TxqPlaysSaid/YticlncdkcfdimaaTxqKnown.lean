/-
  A queue among what a law made; the laws' known; light.
-/
import Derived.Test.YticlncdkcfdimaaTxqList
import Derived.Test.YticlncdkcfdimaaTxqOps
namespace Go.Proofs.Yticlncdkcfdimaa
namespace Txq
open Go.RowKit Mem Frm
set_option linter.unusedVariables false
set_option linter.unusedSimpArgs false
set_option maxRecDepth 100000

/-- A queue that the law made, in block p; nothing that was there was touched. -/
structure KQ (w W : World) (p : Nat) (s : Qs) : Prop where
  b : Below w.heap.size w W
  q : HasQ W p (· = p) s
  ge : w.heap.size ≤ p
section
variable {w W W' : World} {p : Nat} {s : Qs}
theorem KQ.next (h : KQ w W p s) (b : Below W.heap.size W W') : KQ w W' p s := ⟨h.b.trans (b.mono h.b.size), h.q.below b, h.ge⟩
theorem KQ.new (h : KQ w W p s) (o : Obj) : KQ w (W.alloc o) p s := h.next ((Below.refl _ _).alloc (Nat.le_refl _) o)
theorem KQ.drew (h : KQ w W p s) : KQ w W.drew p s := h.next ((Below.refl _ _).drew)
theorem KQ.ch (h : KQ w W p s) {s' : Qs} (q : HasQ W' p (· = p) s') (c : Ch p none W W') : KQ w W' p s' := ⟨h.b.trans (c.below h.b.size h.ge (by simp)), q, h.ge⟩
theorem KQ.nlt (h : KQ w W p s) : ∀ g, g = p → g < W.heap.size := fun g e => e ▸ h.q.lt
theorem KQ.put (h : KQ w W p s) (hl : s.lost < 1000000) (f : Fv) (hf : f.Ok) (hr : Rd W W.heap.size f.A f.d) :
    Calls Try.prog 12 #[at_ p, frm f.id f.r (.slice f.A f.d.length f.c)] W fun e w' => e = .returned (.int .i64 (s.put f.fr).2) ∧ KQ w w' p (s.put f.fr).1 :=
  (put_any h.q h.nlt hl f hf hr).mono fun e w' ⟨h1, h2, h3⟩ => ⟨h1, h.ch h2 h3⟩
theorem KQ.len (h : KQ w W p s) : Calls Try.prog 26 #[at_ p] W fun e w' => e = .returned (.int .i64 (s.l.length : Int)) ∧ W = w' := by
  obtain ⟨A, c, fs, hq, e⟩ := h.q
  rw [← e, List.length_map]
  exact len_any hq
theorem KQ.lost (h : KQ w W p s) : Calls Try.prog 27 #[at_ p] W fun e w' => e = .returned (.int .i64 (s.lost : Int)) ∧ W = w' := by
  obtain ⟨A, c, fs, hq, e⟩ := h.q
  exact lost_any hq
theorem KQ.spilt (h : KQ w W p s) : Calls Try.prog 19 #[at_ p] W fun e w' => e = .returned (.bool s.sp) ∧ KQ w w' p { s with sp := false } := by
  obtain ⟨A, c, fs, hq, e⟩ := h.q
  exact (spilt_any hq).mono fun e' w' ⟨h1, h2, h3⟩ => ⟨h1, h.ch ⟨A, c, fs, h2, e⟩ h3⟩
theorem KQ.clear (h : KQ w W p s) : Calls Try.prog 21 #[at_ p] W fun e w' => e = .returned (.tuple #[]) ∧ KQ w w' p { s with l := [] } := by
  obtain ⟨A, c, fs, hq, e⟩ := h.q
  exact (clear_any hq).mono fun e' w' ⟨h1, h2, h3⟩ => ⟨h1, h.ch ⟨none, 0, [], h2, rfl⟩ h3⟩
/-- What Take ends with in a law: a frame whose bytes are new. -/
def TakeK (w W : World) (p : Nat) (s : Qs) (e : Ending) (w' : World) : Prop :=
  ∃ A c, e = .returned (.tuple #[frm s.take.2.1.id s.take.2.1.r (.slice A s.take.2.1.d.length c), .bool s.take.2.2]) ∧ Rd w' w'.heap.size A s.take.2.1.d ∧ KQ w w' p s.take.1
theorem KQ.take (h : KQ w W p s) : Calls Try.prog 16 #[at_ p] W (TakeK w W p s) :=
  (take_any h.q h.nlt).mono fun e w' ⟨v, h1, h2, h3, h4⟩ => by
    obtain ⟨A, c, rfl, hr⟩ := h2.form
    exact ⟨A, c, h1, hr, h.ch h3 h4⟩
end
theorem new_K (room : Nat) (k1 : 1 ≤ room) (k2 : room ≤ 64) (w W : World) (b : Below w.heap.size w W) :
    Calls Try.prog 9 #[.int .i64 (room : Int)] W fun e w' => e = .returned (.tuple #[at_ W.heap.size, .int .i64 0]) ∧ KQ w w' W.heap.size ⟨[], room, 0, false⟩ :=
  (new_any room k1 k2 W (· = W.heap.size) rfl).mono fun e w' ⟨h1, h2, h3⟩ => ⟨h1, b.trans (h3.mono b.size), ⟨none, 0, [], h2, rfl⟩, b.size⟩

theorem ok_fr (id : Int) (h0 : -9223372036854775808 ≤ id) (h1 : id ≤ 9223372036854775807) : (⟨id, false, none, [], 0⟩ : Fv).Ok := ⟨h0, h1, by simp⟩

set_option maxHeartbeats 4000000 in
theorem known_any (w : World) : Calls Try.prog 8 #[] w fun e w' => e = .returned (.bool true) ∧ Below w.heap.size w w' := by
  have K0 := Lib.hid (new_K 2 (by omega) (by omega) w w (Below.refl _ _))
  have K1 := Lib.hid (fun W p (k : KQ w W p ⟨[], 2, 0, false⟩) => (k.put (by decide) ⟨385, false, none, [], 0⟩ (ok_fr _ (by decide) (by decide)) .nil : Calls _ _ _ _ fun e w' => e = .returned (.int .i64 0) ∧ KQ w w' p ⟨[⟨385, false, []⟩], 2, 0, false⟩))
  have K2 := Lib.hid (fun W p (k : KQ w W p ⟨[⟨385, false, []⟩], 2, 0, false⟩) => (k.put (by decide) ⟨129, false, none, [], 0⟩ (ok_fr _ (by decide) (by decide)) .nil : Calls _ _ _ _ fun e w' => e = .returned (.int .i64 0) ∧ KQ w w' p ⟨[⟨129, false, []⟩, ⟨385, false, []⟩], 2, 0, false⟩))
  have K3 := Lib.hid (fun W p (k : KQ w W p ⟨[⟨129, false, []⟩, ⟨385, false, []⟩], 2, 0, false⟩) => (k.put (by decide) ⟨0, false, none, [], 0⟩ (ok_fr _ (by decide) (by decide)) .nil : Calls _ _ _ _ fun e w' => e = .returned (.int .i64 6) ∧ KQ w w' p ⟨[⟨129, false, []⟩, ⟨385, false, []⟩], 2, 1, true⟩))
  have K4 := Lib.hid (fun W p (k : KQ w W p ⟨[⟨129, false, []⟩, ⟨385, false, []⟩], 2, 1, true⟩) => k.take)
  have K5 := Lib.hid (fun W p (k : KQ w W p ⟨[⟨385, false, []⟩], 2, 1, true⟩) => k.len)
  have K6 := Lib.hid (fun W p (k : KQ w W p ⟨[⟨385, false, []⟩], 2, 1, true⟩) => k.lost)
  have K7 := Lib.hid (fun W p (k : KQ w W p ⟨[⟨385, false, []⟩], 2, 1, true⟩) => k.spilt)
  have K8 := Lib.hid (fun W p (k : KQ w W p ⟨[⟨385, false, []⟩], 2, 1, false⟩) => k.spilt)
  go_enter Try.func8, Try.ntmps8
  go_wp2_with fail
  refine K0.out.mono ?_
  rintro e w1 ⟨rfl, q1⟩
  have Q1 := Lib.hid q1
  clear q1
  generalize w.heap.size = p at *
  go_wp2_with fail
  refine (K1.out _ _ Q1.out).mono ?_
  rintro e w2 ⟨rfl, q2⟩
  have Q2 := Lib.hid q2
  clear q2 Q1
  go_wp2_with fail
  refine (K2.out _ _ Q2.out).mono ?_
  rintro e w3 ⟨rfl, q3⟩
  have Q3 := Lib.hid q3
  clear q3 Q2
  go_wp2_with fail
  refine (K3.out _ _ Q3.out).mono ?_
  rintro e w4 ⟨rfl, q4⟩
  have Q4 := Lib.hid q4
  clear q4 Q3
  go_wp2_with fail
  refine (K4.out _ _ Q4.out).mono ?_
  rintro e w5 ⟨A, c, rfl, _, q5⟩
  have Q5 := Lib.hid (show KQ w w5 p ⟨[⟨385, false, []⟩], 2, 1, true⟩ from q5)
  clear q5 Q4
  have X := Lib.hid (fun o => Q5.out.new o)
  go_wp2_with (first
    | (go_at_call 26; refine (K5.out _ _ (X.out _)).mono ?_; rintro e w6 ⟨rfl, rfl⟩)
    | (go_at_call 27; refine (K6.out _ _ (X.out _)).mono ?_; rintro e w7 ⟨rfl, rfl⟩)
    | (go_at_call 19; refine (K7.out _ _ (X.out _)).mono ?_; rintro e w8 ⟨rfl, q8⟩; have Q8 := Lib.hid q8; clear q8)
    | (go_at_call 19; refine (K8.out _ _ Q8.out).mono ?_; rintro e w9 ⟨rfl, q9⟩; have Q9 := Lib.hid q9; clear q9))
  go_ret
  exact ⟨rfl, Q9.out.b⟩

/-- What light ends with. -/
def LightEnds (w : World) (os : List Ov) (e : Ending) (w' : World) : Prop :=
  ∃ b, e = .returned (.bool b) ∧ (b = true → ∀ j, j < os.length → j < 80 → (os.getD j Ov.zero).f.d.length ≤ 1000) ∧ w = w'

set_option maxHeartbeats 1000000 in
theorem light_any (A : Option Addr) (c : Nat) (os : List Ov) (w : World) (hr : RdT w w.heap.size A os) (hm : os.length ≤ 9223372036854775807) (ho : ∀ j, j < os.length → (os.getD j Ov.zero).Ok) :
    Calls Try.prog 7 #[.slice A os.length c] w (LightEnds w os) := by
  go_enter Try.func7, Try.ntmps7
  go_wp2_with fail
  go_loop [3] (fun iv => ∃ k : Nat, k ≤ os.length ∧ k ≤ 80 ∧ iv = .int .i64 (k : Int) ∧ Hid (∀ j, j < k → (os.getD j Ov.zero).f.d.length ≤ 1000)) (fun iv => os.length - (intOf iv).toNat)
  case atStart => exact ⟨0, by omega, by omega, rfl, Lib.hid (fun j hj => by omega)⟩
  case round =>
    obtain ⟨k, hk, hk8, rfl, hq⟩ := hrel
    by_cases hlt : k < os.length
    · by_cases h80 : k < 80
      · obtain ⟨g, off, rfl, hg, q0, q1, q2, q3, hrd⟩ := hr.four hlt rfl
        have ok := (ho k hlt).f.l
        unfold maxLen at ok
        have i0 : (0 : Int) ≤ (k : Int) := by omega
        have i1 : (k : Int) < (os.length : Int) := by omega
        clear q0 q1 q2 hrd
        by_cases h1 : (os.getD k Ov.zero).f.d.length ≤ 1000
        · have R := Lib.hid (show ∀ j, j < k + 1 → (os.getD j Ov.zero).f.d.length ≤ 1000 from fun j hj => by
            by_cases e : j = k
            · subst e; exact h1
            · exact hq.out j (by omega))
          have d2 : decide (1000 < (os.getD k Ov.zero).f.d.length) = false := by simp at h1 ⊢; omega
          generalize (os.getD k Ov.zero).f = F at q3 ok h1 d2
          go_wp2_with fail
          go_round
          case rel => exact ⟨k + 1, by omega, by omega, by go_num, R⟩
          case measure => simp [intOf]; omega
        · have d2 : 1000 < (os.getD k Ov.zero).f.d.length := by omega
          generalize (os.getD k Ov.zero).f = F at q3 ok h1 d2
          clear h1
          go_wp2_with fail
          go_ret
          exact ⟨false, rfl, (fun h => by cases h), rfl⟩
      · obtain rfl : k = 80 := by omega
        have d1 : decide (((80 : Nat) : Int) < (os.length : Int)) = true := by simp; omega
        go_wp2_with fail
        go_ret
        exact ⟨true, rfl, fun _ j _ hj => hq.out j hj, rfl⟩
    · obtain rfl : k = os.length := by omega
      go_wp2_with fail
      go_ret
      exact ⟨true, rfl, fun _ j hj _ => hq.out j hj, rfl⟩
end Txq
end Go.Proofs.Yticlncdkcfdimaa
