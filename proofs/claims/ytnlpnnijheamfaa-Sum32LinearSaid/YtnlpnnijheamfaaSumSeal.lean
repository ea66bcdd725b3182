/-
  What Sum, Seal, Open of package sum32 and bytes.Clone do.
-/
import Derived.Test.YtnlpnnijheamfaaProg
import Derived.Test.YtnlpnnijheamfaaSumOn
namespace Go.Proofs.Ytnlpnnijheamfaa
open Go.RowKit Mem
set_option linter.unusedVariables false

set_option maxHeartbeats 400000 in
theorem sum_any (A : Option Addr) (n c : Nat) (bs : List UInt8) (w : World) (hr : Rd w w.heap.size A bs) (hn : n = bs.length) (hle : n ≤ 1099511627776) :
    Calls Try.prog 12 #[.slice A n c] w fun e w' => e = .returned (.int .u32 (Sum.on 0 bs : Nat)) ∧ Below w.heap.size w w' := by
  have hN := Lib.hid hn
  clear hn
  go_enter Try.func12, Try.ntmps12
  go_wp2_with fail
  refine (on_any A n c bs 0 w (by decide) hr hN.out hle).mono ?_
  rintro e w1 ⟨rfl, b1⟩
  go_wp2_with fail
  go_ret
  exact ⟨rfl, b1⟩

set_option maxHeartbeats 400000 in
theorem seal_any (A : Option Addr) (n c : Nat) (bs : List UInt8) (w : World) (hr : Rd w w.heap.size A bs) (hn : n = bs.length) (hle : n ≤ 1099511627776) :
    Calls Try.prog 15 #[.slice A n c] w (Made 5 w (Sum.seal_ bs) id) := by
  have hN := Lib.hid hn
  clear hn
  have hSl := Sum.on_lt (s := 0) bs (by decide)
  go_enter Try.func15, Try.ntmps15
  go_wp2_with fail
  refine (sum_any A n c bs w hr hN.out hle).mono ?_
  rintro e w1 ⟨rfl, b1⟩
  go_wp2_with fail
  refine (put_ok A n c bs 4 _ w1 ((hr.below b1).mono b1.size) hN.out hle (by omega) (by omega) (by omega) (show ((Sum.on 0 bs : Nat) : Int) < 256 ^ 4 by omega)).mono ?_
  rintro e w2 ⟨v2, rfl, o2, b2⟩
  replace o2 := o2.lower b1.size
  replace b1 := b1.trans (b2.mono b1.size)
  clear b2
  unfold pairOk
  go_wp2_with fail
  go_ret
  exact ⟨v2, rfl, o2, b1⟩

/-- 'append' onto an empty slice of the call's own that is not nil. -/
theorem own_empty (w : World) (e : TypeId) : Own (w.alloc (.cells #[] e)) w.heap.size e (.slice (some ⟨w.heap.size, 0, none⟩) 0 0) [] :=
  ⟨rfl, .inr ⟨w.heap.size, 0, #[], rfl, Nat.le_refl _, heap_alloc_new w _, Nat.le_refl _, by simp [maxLen], rfl, rfl⟩⟩

set_option maxHeartbeats 400000 in
theorem clone_any (A : Option Addr) (n c : Nat) (bs : List UInt8) (w : World) (hr : Rd w w.heap.size A bs) (hn : n = bs.length) (hle : n ≤ 1099511627776) :
    Calls Try.prog 25 #[.slice A n c] w (Made 5 w bs id) := by
  obtain ⟨i0, hi, hz0, hz1, hz2⟩ := info_parts info_u8
  have q : ∀ (w : World) (a : Option Addr) (n c n' c' : Nat), (binOp .eql 23 (.slice a n c) (.slice none n' c')).run Try.prog w = .ok (.bool a.isNone) w := fun w a n c n' c' => Lib.run_eql_slice_nil w _ _ a n c n' c' Try.underlying23
  cases A with
  | none =>
    obtain rfl : bs = [] := by
      rcases hr with h | ⟨g, off, h, _⟩
      · exact h
      · cases h
    go_enter Try.func25, Try.ntmps25
    go_wp2_with fail
    go_ret
    exact ⟨_, rfl, Own.nil _ _ _, Below.refl _ _⟩
  | some ad =>
    subst hn
    have b1 : Below w.heap.size w (w.alloc (.cells #[] 5)) := (Below.refl _ _).alloc (Nat.le_refl _) _
    have r1 := hr.below b1
    have o1 := own_empty w 5
    have B1 := Lib.hid b1
    clear b1 hr
    go_enter Try.func25, Try.ntmps25
    go_wp2_with (at_builtin; refine wpList_app _ rfl (.tmp 5) (.tmp 6) 23 rfl w.heap.size 5 i0 Try.underlying23 hi hz0 hz1 hz2 (.slice (some ⟨w.heap.size, 0, none⟩) 0 0) [] rfl o1 (some ad) bs.length c bs rfl rfl w.heap.size r1 (by simp; omega) B1.out.size ?_; intro v2 w2 o2 g2 t2; simp only [List.nil_append] at o2)
    go_ret
    exact ⟨v2, rfl, o2, B1.out.grown g2 B1.out.size (by simp [Value.ownBlock])⟩

set_option maxHeartbeats 400000 in
theorem open_short (A : Option Addr) (n c : Nat) (w : World) (h : n < 4) :
    Calls Try.prog 16 #[.slice A n c] w fun e w' => e = .returned (.tuple #[.slice none 0 0, .int .i64 2]) ∧ w = w' := by
  go_enter Try.func16, Try.ntmps16
  go_wp2_with fail
  go_ret2
  exact ⟨rfl, rfl⟩

set_option maxHeartbeats 400000 in
theorem open_long (A : Option Addr) (n c : Nat) (bs : List UInt8) (w : World) (hr : Rd w w.heap.size A bs) (hn : n = bs.length) (hle : n ≤ 1099511627776) (hcap : n ≤ c) (hc : c ≤ maxLen) (h4 : 4 ≤ n) :
    Calls Try.prog 16 #[.slice A n c] w (Ans 5 w (Sum.openA bs)) := by
  subst hn
  obtain ⟨g, off, rfl, _, _⟩ := hr.at_ (k := 0) (by omega)
  have hrt : Rd w w.heap.size (some ⟨g, off, none⟩) (bs.take (bs.length - 4)) := hr.take _
  have hl := Lib.hid (show bs.length - 4 = (bs.take (bs.length - 4)).length by simp)
  have hnv : Oct.num bs ((bs.length - 4 : Nat) : Int).toNat (4 : Int).toNat = ((Sum.val (bs.drop (bs.length - 4)) : Nat) : Int) := by
    rw [Int.toNat_natCast, show (4 : Int).toNat = 4 from rfl, Sum.num_val bs (bs.length - 4) 4 (by omega), List.take_of_length_le (by simp; omega)]
  have hv := Lib.hid hnv
  have hSl := Sum.on_lt (s := 0) (bs.take (bs.length - 4)) (by decide)
  have hO : Sum.openA bs = if Sum.val (bs.drop (bs.length - 4)) = Sum.on 0 (bs.take (bs.length - 4)) then (bs.take (bs.length - 4), 0) else ([], 5) := by
    unfold Sum.openA
    rw [if_neg (by omega)]
  rw [hO]
  clear hnv hO
  generalize bs.take (bs.length - 4) = xs at hrt hl hSl ⊢
  generalize Sum.val (bs.drop (bs.length - 4)) = V at hv ⊢
  unfold maxLen at hc
  by_cases hVS : V = Sum.on 0 xs
  · rw [if_pos hVS]
    have hq : (((V : Nat) : Int) != ((Sum.on 0 xs : Nat) : Int)) = false := by rw [hVS]; simp
    clear hVS
    go_enter Try.func16, Try.ntmps16
    go_wp2_with fail
    refine (get_ok _ _ _ _ bs _ 4 w hr rfl hle (by omega) (by omega) (by omega) (by omega)).mono ?_
    rintro e w' ⟨rfl, rfl⟩
    rw [hv.out]
    go_wp2_with fail
    refine (sum_any _ _ _ xs w hrt hl.out (by omega)).mono ?_
    rintro e w1 ⟨rfl, b1⟩
    go_wp2_with fail
    refine (clone_any _ _ _ xs w1 ((hrt.below b1).mono b1.size) hl.out (by omega)).mono ?_
    rintro e w2 ⟨v2, rfl, o2, b2⟩
    replace o2 := o2.lower b1.size
    replace b1 := b1.trans (b2.mono b1.size)
    clear b2
    unfold id
    go_wp2_with fail
    go_ret2
    exact ⟨v2, rfl, o2, b1⟩
  · rw [if_neg hVS]
    have hq : (((V : Nat) : Int) != ((Sum.on 0 xs : Nat) : Int)) = true := by simp; omega
    clear hVS
    go_enter Try.func16, Try.ntmps16
    go_wp2_with fail
    refine (get_ok _ _ _ _ bs _ 4 w hr rfl hle (by omega) (by omega) (by omega) (by omega)).mono ?_
    rintro e w' ⟨rfl, rfl⟩
    rw [hv.out]
    go_wp2_with fail
    refine (sum_any _ _ _ xs w hrt hl.out (by omega)).mono ?_
    rintro e w1 ⟨rfl, b1⟩
    go_wp2_with fail
    go_ret2
    exact ⟨_, rfl, Own.nil _ _ _, b1⟩

theorem open_any (A : Option Addr) (n c : Nat) (bs : List UInt8) (w : World) (hr : Rd w w.heap.size A bs) (hn : n = bs.length) (hle : n ≤ 1099511627776) (hcap : n ≤ c) (hc : c ≤ maxLen) :
    Calls Try.prog 16 #[.slice A n c] w (Ans 5 w (Sum.openA bs)) := by
  by_cases h : n < 4
  · refine (open_short A n c w h).mono fun e w' ⟨he, hw⟩ => ?_
    subst hw
    have : Sum.openA bs = ([], 2) := by unfold Sum.openA; rw [if_pos (by omega)]
    rw [this]
    exact ⟨_, he, Own.nil _ _ _, Below.refl _ _⟩
  · exact open_long A n c bs w hr hn hle hcap hc (by omega)

end Go.Proofs.Ytnlpnnijheamfaa
