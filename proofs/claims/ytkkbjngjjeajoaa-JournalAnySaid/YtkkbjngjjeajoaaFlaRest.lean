/-
  Read, Bytes, Cut, Start, New, Of.
-/
import Derived.Test.YtkkbjngjjeajoaaFlaPut
import Derived.Laws.MakeOwn
namespace Go.Proofs.Ytkkbjngjjeajoaa
namespace Fla
open Go.RowKit Mem
set_option linter.unusedVariables false

section
variable {w w' W : World} {p D c : Nat} {s : Fl} {A : Option Addr} {bs : List UInt8}
/-- A call that answers bytes of its own. -/
theorem bytes_any (h : IsF w p D c s) :
    Calls Try.prog 46 #[at_ p] w (Made E w s.bs id) := by
  have H0 := Lib.hid (fnone_any h)
  have h0 := h.c0
  have hl := h.ok.len1
  have HC := Lib.hid (Byt.clone_any (some ⟨D, 0, none⟩) s.bs.length c s.bs w h.rd rfl (by omega))
  clear h
  go_enter Try.func46, Try.ntmps46
  go_wp2_with fail
  refine H0.out.mono ?_
  rintro e w1 ⟨rfl, rfl⟩
  go_wp2_with fail
  refine HC.out.mono ?_
  rintro e w1 ⟨v, rfl, o1, b1⟩
  have O1 := Lib.hid o1
  have B1 := Lib.hid b1
  clear o1 b1
  go_wp2_with fail
  go_ret
  exact ⟨v, rfl, O1.out, B1.out⟩

def Fl.read (s : Fl) (a n : Int) : List UInt8 × Int := if s.reachC a n = 0 then ((s.bs.drop a.toNat).take n.toNat, 0) else ([], s.reachC a n)
theorem rd_part {B : Nat} (h : Rd w B (some ⟨D, 0, none⟩) bs) {k n : Nat} (hkn : k + n ≤ bs.length) : Rd w B (some ⟨D, k, none⟩) ((bs.drop k).take n) := by
  rcases h with rfl | ⟨g, off, e, hg, hc⟩
  · exact .inl (by simp)
  · cases e
    refine .inr ⟨D, k, rfl, hg, fun j hj => ?_⟩
    have hj' : j < n := by simp at hj; omega
    have := hc (k + j) (by omega)
    rw [Nat.zero_add] at this
    rw [this]
    simp [byt, hj']
set_option maxHeartbeats 1000000 in
theorem read_any (a n : Int) (a0 : -9223372036854775808 ≤ a) (a1 : a ≤ 9223372036854775807) (n0 : -9223372036854775808 ≤ n) (n1 : n ≤ 9223372036854775807) (h : IsF w p D c s) :
    Calls Try.prog 40 #[at_ p, .int .i64 a, .int .i64 n] w (Ans E w (s.read a n)) := by
  have H0 := Lib.hid (reach_any a n a0 a1 n0 n1 h)
  unfold Fl.read
  by_cases hr : s.reachC a n = 0
  · rw [if_pos hr]
    rw [hr] at H0
    have hin : 0 ≤ a ∧ 0 ≤ n ∧ n ≤ (s.bs.length : Int) - a := by
      cases hon : s.on with
      | false => rw [reach_off a _ hon] at hr; cases hr
      | true =>
        rw [reach_on a _ hon] at hr
        cases hi : s.inside a n with
        | false => rw [hi] at hr; cases hr
        | true => simp [Fl.inside] at hi; omega
    obtain ⟨k, rfl⟩ : ∃ k : Nat, a = (k : Int) := ⟨a.toNat, by omega⟩
    obtain ⟨m, rfl⟩ : ∃ m : Nat, n = (m : Int) := ⟨n.toNat, by omega⟩
    rw [Int.toNat_natCast, Int.toNat_natCast]
    have hkm : k + m ≤ s.bs.length := by omega
    have h0 := h.c0
    have hl := h.ok.len1
    have hcap := h.cap
    have hge := h.ge
    have hr0 := rd_part h.rd hkm
    have hlen : ((s.bs.drop k).take m).length = m := by simp; omega
    have HL := Lib.hid hlen
    have hC : k < c ∨ (k = c ∧ m = 0) := by omega
    rcases hC with hC | ⟨hC, rfl⟩
    · have HC := Lib.hid (fun cc => Byt.clone_any (some ⟨D, k, none⟩) m cc ((s.bs.drop k).take m) w hr0 hlen.symm (by omega))
      clear hr hin h a0 a1 n0 n1 hr0 hlen
      unfold maxLen at hcap
      generalize (s.bs.drop k).take m = out at *
      have hk0 : (0 : Int) ≤ (k : Int) := by omega
      have hm0 : (0 : Int) ≤ (m : Int) := by omega
      go_enter Try.func40, Try.ntmps40
      go_wp2_with fail
      refine H0.out.mono ?_
      rintro e w1 ⟨rfl, rfl⟩
      go_wp2_with fail
      refine (HC.out _).mono ?_
      rintro e w1 ⟨v, rfl, o1, b1⟩
      have O1 := Lib.hid o1
      have B1 := Lib.hid b1
      clear o1 b1
      go_wp2_with fail
      go_ret2
      exact ⟨v, rfl, O1.out, B1.out⟩
    · have HC := Lib.hid (fun A cc => Byt.clone_any A 0 cc [] w (.inl rfl) rfl (by omega))
      rw [List.take_zero]
      clear hr hin h a0 a1 n0 n1 hr0 hlen HL
      unfold maxLen at hcap
      subst hC
      have hk0 : (0 : Int) ≤ (k : Int) := by omega
      go_enter Try.func40, Try.ntmps40
      go_wp2_with fail
      refine H0.out.mono ?_
      rintro e w1 ⟨rfl, rfl⟩
      go_wp2_with fail
      refine (HC.out _ _).mono ?_
      rintro e w1 ⟨v, rfl, o1, b1⟩
      have O1 := Lib.hid o1
      have B1 := Lib.hid b1
      clear o1 b1
      go_wp2_with fail
      go_ret2
      exact ⟨v, rfl, O1.out, B1.out⟩
  · rw [if_neg hr]
    have hb : (s.reachC a n != 0) = true := by simpa using hr
    generalize s.reachC a n = r at *
    clear hr h a0 a1 n0 n1
    go_enter Try.func40, Try.ntmps40
    go_wp2_with fail
    refine H0.out.mono ?_
    rintro e w1 ⟨rfl, rfl⟩
    go_wp2_with fail
    go_ret2
    exact ⟨_, rfl, Own.nil _ _ _, Below.refl _ _⟩

def Fl.cutC (n : Int) : Int := if n < 0 then 1 else 0
def Fl.cut (s : Fl) (n m : Int) : Fl := if n < 0 then s else { s with pl := true, ahead := n, mask := m }

def Fl.start (s : Fl) : Fl := { s with on := true }
def Ends0 (p D c : Nat) (w : World) (s' : Fl) (e : Ending) (w' : World) : Prop := e = .returned (.tuple #[]) ∧ IsF w' p D c s' ∧ Far p D w w'


def canB (n m : Int) : Bool := decide (1 ≤ n) && decide (n ≤ 8) && decide (1 ≤ m)
theorem canbe_any (n m : Int) (w : World) :
    Calls Try.prog 42 #[.int .i64 n, .int .i64 m] w fun e w' => e = .returned (.bool (canB n m)) ∧ w = w' := by
  by_cases h1 : 1 ≤ n
  · by_cases h2 : n ≤ 8
    · have e : canB n m = decide (1 ≤ m) := by unfold canB; simp [h1, h2]
      have E := Lib.hid e
      clear e
      go_enter Try.func42, Try.ntmps42
      go_wp2_with fail
      go_ret
      exact ⟨by rw [E.out]; rfl, rfl⟩
    · have e : canB n m = false := by unfold canB; simp; omega
      have E := Lib.hid e
      have hd : decide (n ≤ 8) = false := by simpa using h2
      clear e
      go_enter Try.func42, Try.ntmps42
      go_wp2_with fail
      go_ret
      exact ⟨by rw [E.out]; rfl, rfl⟩
  · have e : canB n m = false := by unfold canB; simp; omega
    have E := Lib.hid e
    have hd : decide (1 ≤ n) = false := by simpa using h1
    clear e
    go_enter Try.func42, Try.ntmps42
    go_wp2_with fail
    go_ret
    exact ⟨by rw [E.out]; rfl, rfl⟩

/-- A flash that a call has made: in new blocks. -/
def MadeF (w : World) (D c : Nat) (s : Fl) (e : Ending) (w' : World) : Prop :=
  ∃ p, e = .returned (at_ p) ∧ IsF w' p D c s ∧ w.heap.size ≤ p ∧ Below w.heap.size w w'
theorem made_any (m : Int) (m0 : 0 ≤ m) (m1 : m ≤ 9223372036854775807) (base : Nat) (ho : Own w base E (.slice (some ⟨D, 0, none⟩) bs.length c) bs) (h0 : 0 < bs.length) (h1 : bs.length ≤ 8192) (h2 : bs.length % 1024 = 0) :
    Calls Try.prog 43 #[.slice (some ⟨D, 0, none⟩) bs.length c, .int .i64 m] w (MadeF w D c (Fl.new bs m)) := by
  have HO := Lib.hid (ho.lower (Nat.zero_le _))
  obtain ⟨g, cap, hv, hb, hg, hc, hm⟩ := ho.some_ h0
  injection hv with e1 e2 e3
  injection e1 with e1
  injection e1 with e1
  subst e1
  subst e3
  have HG := Lib.hid hg
  have HC := Lib.hid hc
  have HM := Lib.hid hm
  clear ho e2 hb hg hc hm
  go_enter Try.func43, Try.ntmps43
  go_wp2_with fail
  go_ret
  refine ⟨w.heap.size, rfl, ⟨heap_alloc_new w _, HO.out.alloc _, ?_, HM.out, HC.out, Fl.Ok.new h0 h1 h2 m0 m1⟩, Nat.le_refl _, (Below.refl _ _).alloc (Nat.le_refl _) _⟩
  have := HG.out
  omega

set_option maxHeartbeats 1000000 in
theorem new_yes (n : Nat) (m : Int) (n0 : 1 ≤ n) (n1 : n ≤ 8) (m0 : 1 ≤ m) (m1 : m ≤ 9223372036854775807) (w : World) :
    Calls Try.prog 39 #[.int .i64 (n : Int), .int .i64 m] w (MadeF w w.heap.size (n * 1024) (Fl.new (List.replicate (n * 1024) 255) m)) := by
  have H0 := Lib.hid (canbe_any n m w)
  rw [show canB n m = true by unfold canB; simp; omega] at H0
  obtain ⟨i0, hi, hz0, hz1, hz2⟩ := info_parts Byt.info_u8
  have hN0 : (1 : Int) ≤ (n : Int) := by omega
  have hN1 : (n : Int) ≤ 8 := by omega
  have HE := Lib.hid (fun W h => ewhole_any (D := w.heap.size) (c := n * 1024) (n * 1024) 0 (n * 1024) (n * 1024) (List.replicate (n * 1024) 0) W h (by simp) (by omega) (by omega))
  have e1 : ones (List.replicate (n * 1024) 0) 0 (n * 1024) = List.replicate (n * 1024) (255 : UInt8) := by simp [ones]
  rw [e1] at HE
  have HM := Lib.hid (fun W h => made_any (w := W) (D := w.heap.size) (c := n * 1024) (bs := List.replicate (n * 1024) 255) m (by omega) m1 0 h (by simp; omega) (by simp; omega) (by simp))
  rw [List.length_replicate] at HM
  have hi := Lib.hid hi
  have hz0 := Lib.hid hz0
  have hz1 := Lib.hid hz1
  have hz2 := Lib.hid hz2
  clear e1
  generalize List.replicate (n * 1024) (255 : UInt8) = R at *
  go_enter Try.func39, Try.ntmps39
  go_wp2_with fail
  refine H0.out.mono ?_
  rintro e w1 ⟨rfl, rfl⟩
  go_wp2_with (refine wpList_make_part _ rfl (.tmp 11) (.tmp 11) 22 rfl 0 5 i0 Try.underlying22 hi.out hz0.out hz1.out hz2.out .i64 .i64 ((n : Int) * 1024) ((n : Int) * 1024) (n * 1024) (n * 1024) rfl rfl (by omega) (by omega) (Nat.le_refl _) (by omega) (Nat.zero_le _) ?_; intro w2 o2 g2 s2)
  have O2 := Lib.hid o2
  have G2 := Lib.hid g2
  have S2 := Lib.hid s2
  clear o2 g2 s2
  refine (HE.out _ O2.out).mono ?_
  rintro e w3 ⟨rfl, o3, g3⟩
  have O3 := Lib.hid o3
  have B3 : Hid (Below w.heap.size w w3) := Lib.hid (((Below.refl w.heap.size w).grown G2.out (Nat.le_refl _) (by simp)).grown g3 G2.out.size (fun k e => by cases e; exact Nat.le_refl _))
  clear o3 g3 O2 G2 S2
  go_wp2_with fail
  refine (HM.out _ O3.out).mono ?_
  rintro e w4 ⟨p, rfl, i4, hp, b4⟩
  have I4 := Lib.hid i4
  have B4 := Lib.hid b4
  have hs := B3.out.size
  clear i4 b4
  go_wp2_with fail
  go_ret
  exact ⟨p, rfl, I4.out, by omega, B3.out.trans (B4.out.mono hs)⟩
theorem new_no (n m : Int) (h : canB n m = false) (w : World) :
    Calls Try.prog 39 #[.int .i64 n, .int .i64 m] w fun e w' => e = .returned (.pointer none) ∧ w = w' := by
  have H0 := Lib.hid (canbe_any n m w)
  rw [h] at H0
  clear h
  go_enter Try.func39, Try.ntmps39
  go_wp2_with fail
  refine H0.out.mono ?_
  rintro e w1 ⟨rfl, rfl⟩
  go_wp2_with fail
  go_ret
  exact ⟨rfl, rfl⟩
end

end Fla
end Go.Proofs.Ytkkbjngjjeajoaa
