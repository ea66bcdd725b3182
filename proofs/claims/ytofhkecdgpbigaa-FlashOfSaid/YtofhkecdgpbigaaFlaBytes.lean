/-
  Of, and the laws' rows.
-/
import Derived.Test.YtofhkecdgpbigaaFlaKnown
import Derived.Test.YtofhkecdgpbigaaOctMath
namespace Go.Proofs.Ytofhkecdgpbigaa
namespace Fla
open Go.RowKit Mem
set_option linter.unusedVariables false

/-- Can there be a flash of these bytes? -/
def ofB (n : Nat) (m : Int) : Bool := decide (n % 1024 = 0) && canB ((n / 1024 : Nat) : Int) m
def OfEnds (w : World) (s : Fl) (e : Ending) (w' : World) : Prop := ∃ p D c, e = .returned (at_ p) ∧ LS w w' p D c s
set_option maxHeartbeats 1000000 in
theorem of_yes (A : Option Addr) (n c : Nat) (m : Int) (bs : List UInt8) (w : World) (hr : Rd w w.heap.size A bs) (hn : n = bs.length) (hle : n ≤ 1099511627776) (m1 : m ≤ 9223372036854775807) (hok : ofB bs.length m = true) :
    Calls Try.prog 10 #[.slice A n c, .int .i64 m] w (OfEnds w (Fl.new bs m)) := by
  subst hn
  have hb : bs.length % 1024 = 0 ∧ 1 ≤ bs.length / 1024 ∧ bs.length / 1024 ≤ 8 ∧ 1 ≤ m := by
    simp [ofB, canB] at hok; omega
  have hcb : canB ((bs.length / 1024 : Nat) : Int) m = true := by simp only [ofB, Bool.and_eq_true] at hok; exact hok.2
  obtain ⟨q, hq⟩ : ∃ q, bs.length / 1024 = q := ⟨_, rfl⟩
  rw [hq] at hcb
  have H0 := Lib.hid (canbe_any (q : Int) m w)
  rw [hcb] at H0
  have H1 := Lib.hid (Byt.clone_any A bs.length c bs w hr rfl hle)
  have H2 := Lib.hid (fun W v (ho : Own W w.heap.size E v bs) => ho.some_ (by omega))
  have H3 := Lib.hid (fun W D cc (ho : Own W w.heap.size E (.slice (some ⟨D, 0, none⟩) bs.length cc) bs) => made_any (w := W) (D := D) (c := cc) (bs := bs) m (by omega) m1 w.heap.size ho (by omega) (by omega) (by omega))
  have e1 : ((bs.length : Int) % 1024) = 0 := by omega
  have e2 : ((bs.length : Int) / 1024) = (q : Int) := by omega
  clear hr hok hb hcb hq
  go_enter Try.func10, Try.ntmps10
  go_wp2_with fail
  refine H0.out.mono ?_
  rintro e w1 ⟨rfl, rfl⟩
  go_wp2_with fail
  refine H1.out.mono ?_
  rintro e w1 ⟨v, rfl, o1, b1⟩
  obtain ⟨D, cc, rfl, hD, hDs, _, _⟩ := H2.out _ _ o1
  have O1 := Lib.hid o1
  have B1 := Lib.hid b1
  have HD := Lib.hid hD
  clear o1 b1 hDs hD
  go_wp2_with fail
  refine (H3.out _ _ _ O1.out).mono ?_
  rintro e w2 ⟨p, rfl, i2, hp, b2⟩
  have I2 := Lib.hid i2
  have B2 := Lib.hid (B1.out.trans (b2.mono B1.out.size))
  have HP : Hid (w.heap.size ≤ p) := Lib.hid (Nat.le_trans B1.out.size hp)
  clear i2 b2 hp
  go_wp2_with fail
  go_ret
  exact ⟨p, D, cc, rfl, B2.out, I2.out, HP.out, HD.out⟩
theorem of_no (A : Option Addr) (n c : Nat) (m : Int) (w : World) (hle : (n : Int) ≤ 9223372036854775807) (hok : ofB n m = false) :
    Calls Try.prog 10 #[.slice A n c, .int .i64 m] w fun e w' => e = .returned (.pointer none) ∧ w = w' := by
  by_cases h : n % 1024 = 0
  · have hcb : canB ((n / 1024 : Nat) : Int) m = false := by
      unfold ofB at hok
      rw [decide_eq_true h, Bool.true_and] at hok
      exact hok
    obtain ⟨q, hq⟩ : ∃ q, n / 1024 = q := ⟨_, rfl⟩
    rw [hq] at hcb
    have H0 := Lib.hid (canbe_any (q : Int) m w)
    rw [hcb] at H0
    have e1 : ((n : Int) % 1024) = 0 := by omega
    have e2 : ((n : Int) / 1024) = (q : Int) := by omega
    clear hok h hcb hq
    go_enter Try.func10, Try.ntmps10
    go_wp2_with fail
    refine H0.out.mono ?_
    rintro e w1 ⟨rfl, rfl⟩
    go_wp2_with fail
    go_ret
    exact ⟨rfl, rfl⟩
  · have e1 : ((n : Int) % 1024 != 0) = true := by simp; omega
    clear hok h
    go_enter Try.func10, Try.ntmps10
    go_wp2_with fail
    go_ret
    exact ⟨rfl, rfl⟩

/-- The laws' bytes that repeat. -/
def rowB (l : List UInt8) (i : Nat) : UInt8 :=
  if l.length = 0 then UInt8.ofNat (bits .xor .u8 ((i : Int) * 37 % 256) ((i : Int) / 256 % 256)).toNat else l.getD (i % l.length) 0
def rowL (l : List UInt8) (k : Nat) : List UInt8 := (List.range k).map (rowB l)
theorem rowL_len (l : List UInt8) (k : Nat) : (rowL l k).length = k := by simp [rowL]
theorem rowL_succ (l : List UInt8) (k : Nat) : rowL l (k + 1) = rowL l k ++ [rowB l k] := by simp [rowL, List.range_succ]
theorem rowB_nil {l : List UInt8} (h : l.length = 0) (i : Nat) (hi : i < 2048) : bits .xor .u8 ((i : Int) * 37 % 256) ((i : Int) / 256) = ((rowB l i).toNat : Int) := by
  obtain ⟨y, hy⟩ := Oct.xor_byte ((i : Int) * 37 % 256) ((i : Int) / 256 % 256) (by omega) (by omega) (by omega) (by omega)
  unfold rowB
  rw [if_pos h, hy, Int.toNat_natCast, UInt8.ofNat_toNat, ← hy]
  congr 1
  omega

set_option maxRecDepth 100000 in
set_option maxHeartbeats 4000000 in
theorem rows_any (A : Option Addr) (c : Nat) (l : List UInt8) (w : World) (hr : Rd w w.heap.size A l) (hm : l.length ≤ maxLen) :
    Calls Try.prog 14 #[.slice A l.length c] w (OfEnds w (Fl.new (rowL l 2048) 5)) := by
  unfold maxLen at hm
  obtain ⟨i0, hi, hz0, hz1, hz2⟩ := info_parts Byt.info_u8
  have hi := Lib.hid hi
  have hz0 := Lib.hid hz0
  have hz1 := Lib.hid hz1
  have hz2 := Lib.hid hz2
  have HR := Lib.hid hr
  have HO := Lib.hid (fun W A c (h : Rd W W.heap.size A (rowL l 2048)) => of_yes A 2048 c 5 (rowL l 2048) W h (rowL_len _ _).symm (by omega) (by omega) (by rw [rowL_len]; rfl))
  clear hr
  go_enter Try.func14, Try.ntmps14
  go_wp2_with fail
  go_loopw [3, 4] (fun v i wr => ∃ k : Nat, k ≤ 2048 ∧ i = .int .i64 (k : Int) ∧ Own wr w.heap.size E v (rowL l k) ∧ Below w.heap.size w wr) (fun _ i _ => 2048 - (intOf i).toNat)
  case atStart => exact ⟨0, Nat.zero_le _, rfl, Own.nil _ _ _, Below.refl _ _⟩
  case round =>
    obtain ⟨k, hk, rfl, hown, hb⟩ := hrel
    have hlen := rowL_len l k
    by_cases hlt : k < 2048
    · have HS := Lib.hid (rowL_succ l k)
      have hbs := hb.size
      by_cases h0 : l.length = 0
      · have HX := Lib.hid (rowB_nil h0 k hlt)
        have hx := HX.out
        obtain ⟨y, hy⟩ : ∃ y, rowB l k = y := ⟨_, rfl⟩
        rw [hy] at HX hx HS
        have h0' : (l.length : Int) ≤ 0 := by omega
        clear hy h0
        go_wp2_with (at_builtin; refine wpList_app _ rfl (.tmp 27) (.tmp 29) 22 rfl w.heap.size 5 i0 Try.underlying22 hi.out hz0.out hz1.out hz2.out _ (rowL l k) rfl (hown.alloc _) (some ⟨wr.heap.size, 0, none⟩) 1 1 [y] rfl rfl (wr.heap.size + 1) (Rd.new1 _ _ rfl) (by rw [hlen]; simp; omega) (alloc_le hbs _) ?_; intro v1 w1 o1 g1 t1; have b1 : Below w.heap.size w w1 := (hb.alloc hbs _).grown g1 (alloc_le hbs _) (fun g hg => (hown.lt g hg).1); have O1 := Lib.hid o1; have B1 := Lib.hid b1; clear o1 b1 g1 t1)
        go_roundw
        case rel => exact ⟨k + 1, by omega, by go_num, by rw [HS.out]; exact O1.out, B1.out⟩
        case measure => simp [intOf]; omega
      · obtain ⟨j, hj⟩ : ∃ j, k % l.length = j := ⟨_, rfl⟩
        have hjl : j < l.length := by rw [← hj]; exact Nat.mod_lt _ (by omega)
        have hji : (k : Int) % (l.length : Int) = (j : Int) := by rw [← hj]; rfl
        obtain ⟨g, off, rfl, hgB, hcx⟩ := (HR.out.below hb).at_ hjl
        have HX : Hid (byt l j = ((rowB l k).toNat : Int)) := Lib.hid (by unfold rowB byt; rw [if_neg h0, hj])
        obtain ⟨y, hy⟩ : ∃ y, rowB l k = y := ⟨_, rfl⟩
        rw [hy] at HX HS
        have hpos : (0 : Int) < (l.length : Int) := by omega
        have hjl' : (j : Int) < (l.length : Int) := by omega
        clear hy hj
        go_wp2_with (at_builtin; refine wpList_app _ rfl (.tmp 27) (.tmp 29) 22 rfl w.heap.size 5 i0 Try.underlying22 hi.out hz0.out hz1.out hz2.out _ (rowL l k) rfl (hown.alloc _) (some ⟨wr.heap.size, 0, none⟩) 1 1 [y] rfl rfl (wr.heap.size + 1) (Rd.new1 _ _ HX.out) (by rw [hlen]; simp; omega) (alloc_le hbs _) ?_; intro v1 w1 o1 g1 t1; have b1 : Below w.heap.size w w1 := (hb.alloc hbs _).grown g1 (alloc_le hbs _) (fun g hg => (hown.lt g hg).1); have O1 := Lib.hid o1; have B1 := Lib.hid b1; clear o1 b1 g1 t1)
        go_roundw
        case rel => exact ⟨k + 1, by omega, by go_num, by rw [HS.out]; exact O1.out, B1.out⟩
        case measure => simp [intOf]; omega
    · obtain rfl : k = 2048 := by omega
      obtain ⟨A1, c1, rfl, r1⟩ := hown.form_n hlen
      have R1 := Lib.hid r1
      have B1 := Lib.hid hb
      clear hown hb hlen r1
      go_wp2_with fail
      refine (HO.out _ _ _ R1.out).mono ?_
      rintro e w2 ⟨p, D, cc, rfl, S⟩
      have S := Lib.hid S
      have HB := Lib.hid B1.out.size
      go_wp2_with fail
      go_ret
      exact ⟨p, D, cc, rfl, B1.out.trans (S.out.b.mono HB.out), S.out.i, Nat.le_trans HB.out S.out.hp, Nat.le_trans HB.out S.out.hD⟩
end Fla
end Go.Proofs.Ytofhkecdgpbigaa
