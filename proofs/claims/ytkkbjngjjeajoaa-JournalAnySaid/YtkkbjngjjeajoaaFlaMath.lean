/-
  A flash as a plain value: what each operation makes of it. No program is named here.
-/
import Derived.Test.YtkkbjngjjeajoaaMem
namespace Go.Proofs.Ytkkbjngjjeajoaa
namespace Fla

/-- A flash: its bytes, how often each of eight sectors was erased, what they bear, the power, the planned cut, the operations that were done. -/
structure Fl where
  bs : List UInt8
  wear : List Int
  most : Int
  on : Bool
  pl : Bool
  ahead : Int
  mask : Int
  ops : Int

structure Fl.Ok (s : Fl) : Prop where
  len0 : 0 < s.bs.length
  len1 : s.bs.length ≤ 8192
  secs : s.bs.length % 1024 = 0
  w8 : s.wear.length = 8
  wb : ∀ x ∈ s.wear, 0 ≤ x ∧ x ≤ s.most
  m1 : s.most ≤ 9223372036854775807
  a0 : 0 ≤ s.ahead
  a1 : s.ahead ≤ 9223372036854775807
  k0 : 0 ≤ s.mask
  k1 : s.mask ≤ 4294967295
  o0 : 0 ≤ s.ops
  o1 : s.ops ≤ 4611686018427387904

def Fl.new (bs : List UInt8) (most : Int) : Fl := ⟨bs, List.replicate 8 0, most, true, false, 0, 0, 0⟩
def Fl.cuts (s : Fl) : Bool := s.pl && s.ahead == 0
/-- An operation was done; one was torn. -/
def Fl.past (s : Fl) : Fl := { s with ahead := if s.pl then s.ahead - 1 else s.ahead, ops := s.ops + 1 }
def Fl.fell (s : Fl) : Fl := { s with on := false, pl := false, ahead := 0, mask := 0 }
def Fl.with_ (s : Fl) (bs : List UInt8) : Fl := { s with bs := bs }
def Fl.wearAt (s : Fl) (n : Nat) : Int := s.wear.getD n 0
/-- Is there such a sector? -/
def Fl.has (s : Fl) (n : Int) : Bool := decide (0 ≤ n) && decide (n < ((s.bs.length / 1024 : Nat) : Int))
def Fl.worn (s : Fl) (n : Int) : Int := if s.has n then s.wearAt n.toNat else 0
def Fl.left (s : Fl) (n : Int) : Int := if s.has n then s.most - s.wearAt n.toNat else 0
/-- The bytes from a to a + n are ones. -/
def ones (bs : List UInt8) (a n : Nat) : List UInt8 := bs.take a ++ List.replicate n 255 ++ bs.drop (a + n)
def Fl.eraseC (s : Fl) (n : Int) : Int := if !s.on then 7 else if !s.has n then 9 else if s.left n = 0 then 10 else if s.cuts then 7 else 0
def Fl.wearUp (s : Fl) (n : Nat) : Fl := { s with wear := s.wear.set n (s.wearAt n + 1) }
def Fl.erase (s : Fl) (n : Int) : Fl :=
  if !s.on then s else if !s.has n then s else if s.left n = 0 then s
  else if s.cuts then ((s.wearUp n.toNat).with_ (ones s.bs (n.toNat * 1024) (s.mask.toNat % 1025))).fell
  else ((s.wearUp n.toNat).with_ (ones s.bs (n.toNat * 1024) 1024)).past
/-- What a torn programming leaves of a byte. -/
def tornB (x b : UInt8) (m : Int) : UInt8 := x &&& (b ||| ~~~ (UInt8.ofNat m.toNat))
def Fl.put1 (s : Fl) (k : Nat) (b : UInt8) : Fl :=
  if s.cuts then (s.with_ (s.bs.set k (tornB (s.bs.getD k 0) b s.mask))).fell else (s.with_ (s.bs.set k (s.bs.getD k 0 &&& b))).past
def Fl.prog (s : Fl) (k : Nat) : List UInt8 → Fl × Int
  | [] => (s, 0)
  | b :: r => if s.cuts then (s.put1 k b, 7) else (s.put1 k b).prog (k + 1) r
def Fl.inside (s : Fl) (a n : Int) : Bool := decide (0 ≤ a) && decide (0 ≤ n) && decide (n ≤ (s.bs.length : Int) - a)
def Fl.reachC (s : Fl) (a n : Int) : Int := if !s.on then 7 else if s.inside a n then 0 else 9
def Fl.program (s : Fl) (a : Int) (x : List UInt8) : Fl × Int := if s.reachC a x.length = 0 then s.prog a.toNat x else (s, s.reachC a x.length)

theorem ones_length {bs : List UInt8} {a n : Nat} (h : a + n ≤ bs.length) : (ones bs a n).length = bs.length := by
  simp [ones]; omega
theorem with_length (s : Fl) (b : List UInt8) : (s.with_ b).bs = b := rfl
section
variable {s : Fl}
theorem Fl.Ok.past (h : s.Ok) (hc : s.cuts = false) (ho : s.ops < 4611686018427387904) : s.past.Ok := by
  refine ⟨h.len0, h.len1, h.secs, h.w8, h.wb, h.m1, ?_, ?_, h.k0, h.k1, ?_, ?_⟩
  · show 0 ≤ (if s.pl then s.ahead - 1 else s.ahead)
    have := h.a0
    split
    · rename_i hp
      have : s.ahead ≠ 0 := by simpa [Fl.cuts, hp] using hc
      omega
    · exact h.a0
  · show (if s.pl then s.ahead - 1 else s.ahead) ≤ _
    have := h.a1
    split <;> omega
  · have := h.o0; show 0 ≤ s.ops + 1; omega
  · show s.ops + 1 ≤ _; omega
theorem Fl.Ok.fell (h : s.Ok) : s.fell.Ok :=
  ⟨h.len0, h.len1, h.secs, h.w8, h.wb, h.m1, Int.le_refl 0, by show (0 : Int) ≤ _; omega, Int.le_refl 0, by show (0 : Int) ≤ _; omega, h.o0, h.o1⟩
theorem Fl.Ok.with_ (h : s.Ok) {b : List UInt8} (hb : b.length = s.bs.length) : (s.with_ b).Ok :=
  ⟨by rw [with_length, hb]; exact h.len0, by rw [with_length, hb]; exact h.len1, by rw [with_length, hb]; exact h.secs, h.w8, h.wb, h.m1, h.a0, h.a1, h.k0, h.k1, h.o0, h.o1⟩
theorem Fl.Ok.has_lt (h : s.Ok) {n : Int} (hn : s.has n = true) : 0 ≤ n ∧ n.toNat < 8 ∧ n.toNat * 1024 + 1024 ≤ s.bs.length := by
  have h1 : 0 ≤ n ∧ n < ((s.bs.length / 1024 : Nat) : Int) := by simpa [Fl.has] using hn
  have := h.len1
  omega
theorem Fl.Ok.wear_bd (h : s.Ok) (n : Nat) (hn : n < 8) : 0 ≤ s.wearAt n ∧ s.wearAt n ≤ s.most := by
  have hw := h.w8
  unfold Fl.wearAt
  rw [List.getD_eq_getElem?_getD, List.getElem?_eq_getElem (by omega)]
  exact h.wb _ (List.getElem_mem _)
theorem Fl.Ok.wearUp (h : s.Ok) {n : Nat} (hn : n < 8) (hl : s.wearAt n < s.most) : (s.wearUp n).Ok := by
  refine ⟨h.len0, h.len1, h.secs, by show (s.wear.set n _).length = 8; rw [List.length_set]; exact h.w8, ?_, h.m1, h.a0, h.a1, h.k0, h.k1, h.o0, h.o1⟩
  intro x hx
  have hb := h.wear_bd n hn
  rcases List.mem_or_eq_of_mem_set hx with h1 | h1
  · exact h.wb x h1
  · subst h1; exact ⟨by omega, by show _ ≤ s.most; omega⟩
theorem Fl.Ok.new {bs : List UInt8} {most : Int} (h0 : 0 < bs.length) (h1 : bs.length ≤ 8192) (h2 : bs.length % 1024 = 0) (m0 : 0 ≤ most) (m1 : most ≤ 9223372036854775807) : (Fl.new bs most).Ok :=
  ⟨h0, h1, h2, by simp [Fl.new], fun x hx => by have : x = 0 := by simpa [Fl.new] using hx
                                                subst this; exact ⟨Int.le_refl _, m0⟩, m1, by simp [Fl.new], by simp [Fl.new], by simp [Fl.new], by simp [Fl.new], by simp [Fl.new], by simp [Fl.new]⟩
theorem Fl.Ok.put1 (h : s.Ok) (k : Nat) (b : UInt8) (ho : s.ops < 4611686018427387904) : (s.put1 k b).Ok := by
  unfold Fl.put1
  by_cases hc : s.cuts = true
  · rw [if_pos hc]; exact (h.with_ (by simp)).fell
  · rw [if_neg hc]; exact (h.with_ (by simp)).past (by show s.cuts = false; simpa using hc) ho
theorem put1_ops (k : Nat) (b : UInt8) (hc : s.cuts = false) : (s.put1 k b).ops = s.ops + 1 := by
  unfold Fl.put1; rw [if_neg (by simp [hc])]; rfl
theorem put1_len (k : Nat) (b : UInt8) : (s.put1 k b).bs.length = s.bs.length := by
  unfold Fl.put1; split <;> simp [Fl.with_, Fl.fell, Fl.past]
theorem cuts_no (h : s.pl = false) : s.cuts = false := by unfold Fl.cuts; rw [h]; rfl
theorem past_no (h : s.pl = false) : s.past = { s with ops := s.ops + 1 } := by unfold Fl.past; rw [h]; rfl
end
end Fla
end Go.Proofs.Ytkkbjngjjeajoaa
