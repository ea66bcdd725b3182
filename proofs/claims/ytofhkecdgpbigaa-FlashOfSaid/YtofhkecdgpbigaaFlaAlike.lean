/-
  Is all that is seen of a flash as the document says? (of one that was just taken)
-/
import Derived.Test.YtofhkecdgpbigaaFlaRef
import Derived.Test.YtofhkecdgpbigaaOctAux
namespace Go.Proofs.Ytofhkecdgpbigaa
namespace Fla
open Go.RowKit Mem
set_option linter.unusedVariables false

/-- A flash of bytes, and the document's. -/
structure AL (w W : World) (p D c : Nat) (bs : List UInt8) (m : Int) (r n : Nat) (AB : Option Addr) (cB : Nat) (AW : Option Addr) (cW : Nat) : Prop where
  b : Below w.heap.size w W
  i : IsF W p D c (Fl.new bs m)
  r : IsR W r bs n m AB cB AW cW
section
variable {w W W' : World} {p D c : Nat} {bs : List UInt8} {m : Int} {r n : Nat} {AB : Option Addr} {cB : Nat} {AW : Option Addr} {cW : Nat} {f : Nat} {args : Array Value} {v : Value}
theorem AL.next (S : AL w W p D c bs m r n AB cB AW cW) (h : Below W.heap.size W W') : AL w W' p D c bs m r n AB cB AW cW := ⟨S.b.trans (h.mono S.b.size), S.i.below h (Nat.le_refl _), S.r.below h⟩
theorem AL.drew (S : AL w W p D c bs m r n AB cB AW cW) : AL w W.drew p D c bs m r n AB cB AW cW := ⟨S.b.drew, S.i.drew, S.r.drew⟩
theorem AL.same (S : AL w W p D c bs m r n AB cB AW cW) (h : Calls Try.prog f args W fun e w' => e = .returned v ∧ W = w') : Calls Try.prog f args W fun e w' => e = .returned v ∧ AL w w' p D c bs m r n AB cB AW cW :=
  h.mono (by rintro e w' ⟨rfl, rfl⟩; exact ⟨rfl, S⟩)
theorem AL.call (S : AL w W p D c bs m r n AB cB AW cW) (h : Calls Try.prog f args W fun e w' => e = .returned v ∧ Below W.heap.size W w') : Calls Try.prog f args W fun e w' => e = .returned v ∧ AL w w' p D c bs m r n AB cB AW cW :=
  h.mono (by rintro e w' ⟨rfl, b⟩; exact ⟨rfl, S.next b⟩)
end
theorem new_worn (bs : List UInt8) (m i : Int) : (Fl.new bs m).worn i = 0 := by
  unfold Fl.worn
  split
  · unfold Fl.wearAt Fl.new
    simp only [List.getD_eq_getElem?_getD, List.getElem?_replicate]
    split <;> rfl
  · rfl
theorem new_left (bs : List UInt8) (m i : Int) : (Fl.new bs m).left i = rleftV (bs.length / 1024) m i := by
  have hw : ∀ j, (Fl.new bs m).wearAt j = 0 := fun j => by
    unfold Fl.wearAt Fl.new
    simp only [List.getD_eq_getElem?_getD, List.getElem?_replicate]
    split <;> rfl
  unfold Fl.left rleftV
  have hh : (Fl.new bs m).has i = decide (0 ≤ i ∧ i < ((bs.length / 1024 : Nat) : Int)) := by
    unfold Fl.has
    have hl : (Fl.new bs m).bs.length = bs.length := rfl
    rw [hl, Bool.decide_and]
  rw [hh, hw]
  by_cases h : 0 ≤ i ∧ i < ((bs.length / 1024 : Nat) : Int)
  · rw [decide_eq_true h, if_pos rfl, if_pos h]
    show m - 0 = m
    omega
  · rw [decide_eq_false h, if_neg (by decide), if_neg h]

theorem own_rd {W : World} {base : Nat} {e : TypeId} {A : Option Addr} {bs : List UInt8} {n c : Nat} (h : Own W base e (.slice A n c) bs) : Rd W W.heap.size A bs := by
  obtain ⟨A', c', e', hr⟩ := h.form
  cases e'
  exact hr

set_option maxRecDepth 100000 in
set_option maxHeartbeats 4000000 in
theorem alike_any (p D c : Nat) (bs : List UInt8) (m : Int) (r : Nat) (AB : Option Addr) (cB : Nat) (AW : Option Addr) (cW : Nat) (w : World)
    (i : IsF w p D c (Fl.new bs m)) (h : IsR w r bs (bs.length / 1024) m AB cB AW cW) (hb : bs.length ≤ 8192) (m0 : 0 ≤ m) (m1 : m ≤ 9223372036854775807) :
    Calls Try.prog 13 #[at_ p, at_ r] w fun e w' => e = .returned (.bool true) ∧ Below w.heap.size w w' := by
  have HI : Hid (∀ W, Below w.heap.size w W → AL w W p D c bs m r (bs.length / 1024) AB cB AW cW) := Lib.hid (fun W b => ⟨b, i.below b (Nat.le_refl _), h.below b⟩)
  clear i h
  obtain ⟨n, hn⟩ : ∃ n, bs.length / 1024 = n := ⟨_, rfl⟩
  have hnw := fun j => new_worn bs m j
  have hnl := fun j => new_left bs m j
  rw [hn] at HI hnl
  have hn8 : (n : Int) ≤ 8 := by omega
  have KB := Lib.hid (fun W (b : Below w.heap.size w W) => bytes_any (HI.out W b).i)
  have KL := Lib.hid (fun W (b : Below w.heap.size w W) => flen_any (HI.out W b).i)
  have KS := Lib.hid (fun W (b : Below w.heap.size w W) => fsectors_any (HI.out W b).i)
  have KO := Lib.hid (fun W (b : Below w.heap.size w W) => fon_any (HI.out W b).i)
  have KP := Lib.hid (fun W (b : Below w.heap.size w W) => fops_any (HI.out W b).i)
  have KW := Lib.hid (fun W j (b : Below w.heap.size w W) => fworn_any j (HI.out W b).i)
  have KF := Lib.hid (fun W j (b : Below w.heap.size w W) => fleft_any j (HI.out W b).i)
  simp only [hnw] at KW
  simp only [hnl] at KF
  have RW := Lib.hid (fun W j (b : Below w.heap.size w W) => rworn_any j (HI.out W b).r hn8)
  have RF := Lib.hid (fun W j (b : Below w.heap.size w W) => rleft_any j (HI.out W b).r hn8 m0 m1)
  have hbs : (Fl.new bs m).bs = bs := rfl
  have hon : (Fl.new bs m).on = true := rfl
  have hop : (Fl.new bs m).ops = 0 := rfl
  rw [hbs, hn] at KS
  rw [hbs] at KB KL
  rw [hon] at KO
  rw [hop] at KP
  clear hbs hon hop hnw hnl
  go_enter Try.func13, Try.ntmps13
  go_wp2_with fail
  refine (KB.out _ (Below.refl _ _)).mono ?_
  rintro e w1 ⟨v, rfl, o1, b1⟩
  obtain ⟨A1, c1, rfl, r1⟩ := o1.form
  have O1 := Lib.hid o1
  have B1 := Lib.hid b1
  clear o1 b1 r1
  simp only [id]
  go_wp2_with fail
  refine Txt.wp_region_textN 48 (fun W => Below w.heap.size w W ∧ Own W w.heap.size E (.slice A1 bs.length c1) bs) (by kernel_rfl) (by kernel_rfl) (by kernel_rfl) (by kernel_rfl) (fun _ _ _ _ _ h => h) ⟨B1.out.drew, O1.out⟩ ?_
  clear O1 B1
  repeat (
    apply Txt.step rfl
    · intro W hS K hK
      have a := HI.out _ hS.1
      have q0 := a.r.c0
      have q1 := a.r.c1
      have q3 := a.r.c3
      have q6 := a.r.c6
      have s1 := run_str (own_rd hS.2) bs.length c1 rfl 22 5 9 Try.underlying22 Try.underlying5 Try.underlying9
      have s2 := run_str a.r.rb bs.length cB rfl 22 5 9 Try.underlying22 Try.underlying5 Try.underlying9
      have HS := Lib.hid hS
      clear hS a
      go_simp
      try (go_wp2_with (first
        | (go_at_call 26; refine (KL.out _ HS.out.1).mono ?_; rintro e w' ⟨rfl, rfl⟩)
        | (go_at_call 27; refine (KS.out _ HS.out.1).mono ?_; rintro e w' ⟨rfl, rfl⟩)
        | (go_at_call 21; refine (KO.out _ HS.out.1).mono ?_; rintro e w' ⟨rfl, rfl⟩)
        | (go_at_call 28; refine (KP.out _ HS.out.1).mono ?_; rintro e w' ⟨rfl, rfl⟩)))
      exact hK.out _ HS.out
    · first | exact ⟨_, rfl⟩ | exact ⟨undef, rfl⟩)
  refine Txt.last fun W hS => ?_
  have S := Lib.hid hS
  clear hS
  go_wp2_with fail
  go_loopw [6, 7] (fun ok i wr => ∃ k : Nat, ok = .bool true ∧ i = .int .i64 ((k : Int) - 1) ∧ k ≤ n + 2 ∧ Below w.heap.size w wr ∧ Own wr w.heap.size E (.slice A1 bs.length c1) bs) (fun _ i _ => n + 2 - (intOf i + 1).toNat)
  case atStart => exact ⟨0, rfl, rfl, by omega, S.out.1, S.out.2⟩
  case round =>
    clear S
    obtain ⟨k, rfl, rfl, hk, hb1, ho1⟩ := hrel
    have q1 := (HI.out _ hb1).r.c1
    by_cases hlt : k < n + 2
    · have hle : (k : Int) - 1 ≤ (n : Int) := by omega
      have HB := Lib.hid hb1
      have HO := Lib.hid ho1
      clear hb1 ho1
      go_wp2_with fail
      refine (KW.out _ _ HB.out).mono ?_
      rintro e w2 ⟨rfl, rfl⟩
      go_wp2_with fail
      refine (RW.out _ _ HB.out).mono ?_
      rintro e w2 ⟨rfl, rfl⟩
      go_wp2_with fail
      refine (KF.out _ _ HB.out).mono ?_
      rintro e w2 ⟨rfl, b2⟩
      have HB2 := Lib.hid (HB.out.trans (b2.mono HB.out.size))
      have HO2 := Lib.hid (HO.out.below b2 (Nat.le_refl _))
      clear b2 HB HO q1
      go_wp2_with fail
      refine (RF.out _ _ HB2.out).mono ?_
      rintro e w3 ⟨rfl, b3⟩
      have HB := Lib.hid (HB2.out.trans (b3.mono HB2.out.size))
      have HO := Lib.hid (HO2.out.below b3 (Nat.le_refl _))
      clear b3 HB2 HO2
      go_wp2_with fail
      refine ⟨⟨k + 1, rfl, by go_num, by omega, HB.out, HO.out⟩, ?_⟩
      show n + 2 - ((k : Int) + 1).toNat < n + 2 - ((k : Int) - 1 + 1).toNat
      omega
    · have hgt : (n : Int) < (k : Int) - 1 := by omega
      have HB := Lib.hid hb1
      have HO := Lib.hid ho1
      clear hb1 ho1
      go_wp2_with fail
      refine (spoil_any _ _ _ _ HO.out HB.out.size (by omega)).mono ?_
      rintro e w2 ⟨rfl, b2, _⟩
      have HB2 := Lib.hid (HB.out.trans b2)
      clear b2 HB HO q1
      have a2 := HI.out _ HB2.out
      have q0 := a2.r.drew.c0
      have s2 := run_str a2.r.drew.rb bs.length cB rfl 22 5 9 Try.underlying22 Try.underlying5 Try.underlying9
      have RB := Lib.hid a2.r
      clear a2
      go_wp2_with fail
      go_region_held (fun W => W.cell? ⟨r, 0, none⟩ = some (.slice AB bs.length cB) ∧ (convert 22 9 (.slice AB bs.length cB)).run Try.prog W = .ok (.string ⟨bs.toArray⟩) W) (first | exact ⟨q0, s2⟩ | exact ⟨t0, t2⟩) (first | (go_at_call 16; refine (KB.out _ (HB2.out.drew)).mono ?_; rintro e w5 ⟨v5, rfl, o5, b5⟩; obtain ⟨A5, c5, rfl, r5⟩ := o5.form; have s5 := run_str r5 _ c5 rfl 22 5 9 Try.underlying22 Try.underlying5 Try.underlying9; have R5 := RB.out.drew.below b5; have t0 := R5.c0; have t2 := run_str R5.rb bs.length cB rfl 22 5 9 Try.underlying22 Try.underlying5 Try.underlying9))
      all_goals
        have B5 := Lib.hid (HB2.out.trans (Below.mono ⟨b5.os, b5.tape, b5.output, b5.size, b5.block⟩ HB2.out.size))
        clear b5 o5 r5 s5 R5 t0 t2 s2 q0
        go_wp2_with fail
        go_ret
        exact ⟨rfl, B5.out⟩
end Fla
end Go.Proofs.Ytofhkecdgpbigaa
