/-
  Of, and the laws' rows.
-/
import Derived.Test.YtkkbjngjjeajoaaFlaKnown
import Derived.Test.YtkkbjngjjeajoaaOctMath
namespace Go.Proofs.Ytkkbjngjjeajoaa
namespace Fla
open Go.RowKit Mem
set_option linter.unusedVariables false

/-- Can there be a flash of these bytes? -/
def ofB (n : Nat) (m : Int) : Bool := decide (n % 1024 = 0) && canB ((n / 1024 : Nat) : Int) m
def OfEnds (w : World) (s : Fl) (e : Ending) (w' : World) : Prop := ∃ p D c, e = .returned (at_ p) ∧ LS w w' p D c s
set_option maxHeartbeats 1000000 in
theorem of_yes (A : Option Addr) (n c : Nat) (m : Int) (bs : List UInt8) (w : World) (hr : Rd w w.heap.size A bs) (hn : n = bs.length) (hle : n ≤ 1099511627776) (m1 : m ≤ 9223372036854775807) (hok : ofB bs.length m = true) :
    Calls Try.prog 10 #[.slice A n c, .int .i64 m] w (OfEnds w (Fl.new bs m)) := by
  subst hn
  have hb : bs.length % 1024 = 0 ∧ 1 ≤ bs.length / 1024 ∧ bs.length / 1024 ≤ 8 ∧ 1 ≤ m := by
    simp [ofB, canB] at hok; omega
  have hcb : canB ((bs.length / 1024 : Nat) : Int) m = true := by simp only [ofB, Bool.and_eq_true] at hok; exact hok.2
  obtain ⟨q, hq⟩ : ∃ q, bs.length / 1024 = q := ⟨_, rfl⟩
  rw [hq] at hcb
  have H0 := Lib.hid (canbe_any (q : Int) m w)
  rw [hcb] at H0
  have H1 := Lib.hid (Byt.clone_any A bs.length c bs w hr rfl hle)
  have H2 := Lib.hid (fun W v (ho : Own W w.heap.size E v bs) => ho.some_ (by omega))
  have H3 := Lib.hid (fun W D cc (ho : Own W w.heap.size E (.slice (some ⟨D, 0, none⟩) bs.length cc) bs) => made_any (w := W) (D := D) (c := cc) (bs := bs) m (by omega) m1 w.heap.size ho (by omega) (by omega) (by omega))
  have e1 : ((bs.length : Int) % 1024) = 0 := by omega
  have e2 : ((bs.length : Int) / 1024) = (q : Int) := by omega
  clear hr hok hb hcb hq
  go_enter Try.func10, Try.ntmps10
  go_wp2_with fail
  refine H0.out.mono ?_
  rintro e w1 ⟨rfl, rfl⟩
  go_wp2_with fail
  refine H1.out.mono ?_
  rintro e w1 ⟨v, rfl, o1, b1⟩
  obtain ⟨D, cc, rfl, hD, hDs, _, _⟩ := H2.out _ _ o1
  have O1 := Lib.hid o1
  have B1 := Lib.hid b1
  have HD := Lib.hid hD
  clear o1 b1 hDs hD
  go_wp2_with fail
  refine (H3.out _ _ _ O1.out).mono ?_
  rintro e w2 ⟨p, rfl, i2, hp, b2⟩
  have I2 := Lib.hid i2
  have B2 := Lib.hid (B1.out.trans (b2.mono B1.out.size))
  have HP : Hid (w.heap.size ≤ p) := Lib.hid (Nat.le_trans B1.out.size hp)
  clear i2 b2 hp
  go_wp2_with fail
  go_ret
  exact ⟨p, D, cc, rfl, B2.out, I2.out, HP.out, HD.out⟩
theorem of_no (A : Option Addr) (n c : Nat) (m : Int) (w : World) (hle : (n : Int) ≤ 9223372036854775807) (hok : ofB n m = false) :
    Calls Try.prog 10 #[.slice A n c, .int .i64 m] w fun e w' => e = .returned (.pointer none) ∧ w = w' := by
  by_cases h : n % 1024 = 0
  · have hcb : canB ((n / 1024 : Nat) : Int) m = false := by
      unfold ofB at hok
      rw [decide_eq_true h, Bool.true_and] at hok
      exact hok
    obtain ⟨q, hq⟩ : ∃ q, n / 1024 = q := ⟨_, rfl⟩
    rw [hq] at hcb
    have H0 := Lib.hid (canbe_any (q : Int) m w)
    rw [hcb] at H0
    have e1 : ((n : Int) % 1024) = 0 := by omega
    have e2 : ((n : Int) / 1024) = (q : Int) := by omega
    clear hok h hcb hq
    go_enter Try.func10, Try.ntmps10
    go_wp2_with fail
    refine H0.out.mono ?_
    rintro e w1 ⟨rfl, rfl⟩
    go_wp2_with fail
    go_ret
    exact ⟨rfl, rfl⟩
  · have e1 : ((n : Int) % 1024 != 0) = true := by simp; omega
    clear hok h
    go_enter Try.func10, Try.ntmps10
    go_wp2_with fail
    go_ret
    exact ⟨rfl, rfl⟩

/-- The laws' bytes that repeat. -/
def rowB (l : List UInt8) (i : Nat) : UInt8 :=
  if l.length = 0 then UInt8.ofNat (bits .xor .u8 ((i : Int) * 37 % 256) ((i : Int) / 256 % 256)).toNat else l.getD (i % l.length) 0
def rowL (l : List UInt8) (k : Nat) : List UInt8 := (List.range k).map (rowB l)
theorem rowL_len (l : List UInt8) (k : Nat) : (rowL l k).length = k := by simp [rowL]
theorem rowL_succ (l : List UInt8) (k : Nat) : rowL l (k + 1) = rowL l k ++ [rowB l k] := by simp [rowL, List.range_succ]
theorem rowB_nil {l : List UInt8} (h : l.length = 0) (i : Nat) (hi : i < 2048) : bits .xor .u8 ((i : Int) * 37 % 256) ((i : Int) / 256) = ((rowB l i).toNat : Int) := by
  obtain ⟨y, hy⟩ := Oct.xor_byte ((i : Int) * 37 % 256) ((i : Int) / 256 % 256) (by omega) (by omega) (by omega) (by omega)
  unfold rowB
  rw [if_pos h, hy, Int.toNat_natCast, UInt8.ofNat_toNat, ← hy]
  congr 1
  omega

end Fla
end Go.Proofs.Ytkkbjngjjeajoaa
