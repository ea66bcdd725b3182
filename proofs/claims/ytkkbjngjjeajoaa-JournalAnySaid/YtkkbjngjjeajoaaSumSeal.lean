/-
  What Sum, Seal, Open of package sum32 and bytes.Clone do.
-/
import Derived.Test.YtkkbjngjjeajoaaProg
import Derived.Test.YtkkbjngjjeajoaaSumOn
namespace Go.Proofs.Ytkkbjngjjeajoaa
open Go.RowKit Mem
set_option linter.unusedVariables false

set_option maxHeartbeats 400000 in
theorem sum_any (A : Option Addr) (n c : Nat) (bs : List UInt8) (w : World) (hr : Rd w w.heap.size A bs) (hn : n = bs.length) (hle : n ≤ 1099511627776) :
    Calls Try.prog 131 #[.slice A n c] w fun e w' => e = .returned (.int .u32 (Sum.on 0 bs : Nat)) ∧ Below w.heap.size w w' := by
  have hN := Lib.hid hn
  clear hn
  go_enter Try.func131, Try.ntmps131
  go_wp2_with fail
  refine (on_any A n c bs 0 w (by decide) hr hN.out hle).mono ?_
  rintro e w1 ⟨rfl, b1⟩
  go_wp2_with fail
  go_ret
  exact ⟨rfl, b1⟩

set_option maxHeartbeats 400000 in
theorem seal_any (A : Option Addr) (n c : Nat) (bs : List UInt8) (w : World) (hr : Rd w w.heap.size A bs) (hn : n = bs.length) (hle : n ≤ 1099511627776) :
    Calls Try.prog 120 #[.slice A n c] w (Made 5 w (Sum.seal_ bs) id) := by
  have hN := Lib.hid hn
  clear hn
  have hSl := Sum.on_lt (s := 0) bs (by decide)
  go_enter Try.func120, Try.ntmps120
  go_wp2_with fail
  refine (sum_any A n c bs w hr hN.out hle).mono ?_
  rintro e w1 ⟨rfl, b1⟩
  go_wp2_with fail
  refine (put_ok A n c bs 4 _ w1 ((hr.below b1).mono b1.size) hN.out hle (by omega) (by omega) (by omega) (show ((Sum.on 0 bs : Nat) : Int) < 256 ^ 4 by omega)).mono ?_
  rintro e w2 ⟨v2, rfl, o2, b2⟩
  replace o2 := o2.lower b1.size
  replace b1 := b1.trans (b2.mono b1.size)
  clear b2
  unfold pairOk
  go_wp2_with fail
  go_ret
  exact ⟨v2, rfl, o2, b1⟩

/-- 'append' onto an empty slice of the call's own that is not nil. -/
theorem own_empty (w : World) (e : TypeId) : Own (w.alloc (.cells #[] e)) w.heap.size e (.slice (some ⟨w.heap.size, 0, none⟩) 0 0) [] :=
  ⟨rfl, .inr ⟨w.heap.size, 0, #[], rfl, Nat.le_refl _, heap_alloc_new w _, Nat.le_refl _, by simp [maxLen], rfl, rfl⟩⟩

set_option maxHeartbeats 400000 in
theorem clone_any (A : Option Addr) (n c : Nat) (bs : List UInt8) (w : World) (hr : Rd w w.heap.size A bs) (hn : n = bs.length) (hle : n ≤ 1099511627776) :
    Calls Try.prog 44 #[.slice A n c] w (Made 5 w bs id) := by
  obtain ⟨i0, hi, hz0, hz1, hz2⟩ := info_parts info_u8
  have q : ∀ (w : World) (a : Option Addr) (n c n' c' : Nat), (binOp .eql 22 (.slice a n c) (.slice none n' c')).run Try.prog w = .ok (.bool a.isNone) w := fun w a n c n' c' => Lib.run_eql_slice_nil w _ _ a n c n' c' Try.underlying22
  cases A with
  | none =>
    obtain rfl : bs = [] := by
      rcases hr with h | ⟨g, off, h, _⟩
      · exact h
      · cases h
    go_enter Try.func44, Try.ntmps44
    go_wp2_with fail
    go_ret
    exact ⟨_, rfl, Own.nil _ _ _, Below.refl _ _⟩
  | some ad =>
    subst hn
    have b1 : Below w.heap.size w (w.alloc (.cells #[] 5)) := (Below.refl _ _).alloc (Nat.le_refl _) _
    have r1 := hr.below b1
    have o1 := own_empty w 5
    have B1 := Lib.hid b1
    clear b1 hr
    go_enter Try.func44, Try.ntmps44
    go_wp2_with (at_builtin; refine wpList_app _ rfl (.tmp 5) (.tmp 6) 22 rfl w.heap.size 5 i0 Try.underlying22 hi hz0 hz1 hz2 (.slice (some ⟨w.heap.size, 0, none⟩) 0 0) [] rfl o1 (some ad) bs.length c bs rfl rfl w.heap.size r1 (by simp; omega) B1.out.size ?_; intro v2 w2 o2 g2 t2; simp only [List.nil_append] at o2)
    go_ret
    exact ⟨v2, rfl, o2, B1.out.grown g2 B1.out.size (by simp [Value.ownBlock])⟩

end Go.Proofs.Ytkkbjngjjeajoaa
