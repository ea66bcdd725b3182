/-
  Plain arithmetic for package octet: the lowest bits of a number, with a sign or without. No program is named here.
-/
import Derived.Test.YtpdnfdpoebhjoaaDoorMem
import Derived.WalkKit
import Derived.Lib.EndianBits
namespace Go.Proofs.YtpdnfdpoebhjoaaDoor
namespace Oct
open Go.RowKit

/-- The lowest b bits of n. -/
def low (n b : Int) : Int := n % 2 ^ b.toNat
/-- The lowest b bits of n, read with a sign. -/
def sgn (n b : Int) : Int := if 2 * low n b < 2 ^ b.toNat then low n b else low n b - 2 ^ b.toNat

theorem pow_pos (b : Nat) : (0 : Int) < 2 ^ b := Int.pow_pos (by decide)
theorem pow_le {a b : Nat} (h : a ≤ b) : (2 : Int) ^ a ≤ 2 ^ b := by exact_mod_cast Nat.pow_le_pow_right (by decide) h
theorem pow_64 {b : Int} (h : b ≤ 64) : (2 : Int) ^ b.toNat ≤ 18446744073709551616 := by
  have := pow_le (a := b.toNat) (b := 64) (by omega)
  exact this
theorem low_bd (n b : Int) : 0 ≤ low n b ∧ low n b < 2 ^ b.toNat := by
  have := pow_pos b.toNat
  exact ⟨Int.emod_nonneg _ (by omega), Int.emod_lt_of_pos _ this⟩
theorem low_u64 (n b : Int) (h : b ≤ 64) : 0 ≤ low n b ∧ low n b ≤ 18446744073709551615 := by
  have := low_bd n b
  have := pow_64 h
  omega
theorem mask_eq (b : Int) (h : b ≤ 64) : IntKind.u64.wrap (IntKind.u64.wrap (2 ^ b.toNat) - 1) = 2 ^ b.toNat - 1 := by
  have h1 := pow_pos b.toNat
  have h2 := pow_64 h
  rw [IntKind.wrap_u64, IntKind.wrap_u64]
  omega
theorem wraps64 (n : Int) (h0 : 0 ≤ n) (h1 : n < 2 ^ 64) : IntKind.u64.wrap n = n := by rw [IntKind.wrap_u64]; omega
theorem and_mask (n b : Int) (h0 : 0 ≤ n) (h1 : n ≤ 18446744073709551615) (h : b ≤ 64) : bits .and .u64 n (2 ^ b.toNat - 1) = low n b :=
  bits_mask .u64 64 (by decide) wraps64 b.toNat (by omega) n h0 (by omega)
theorem pow_half {b : Int} (h : 1 ≤ b) : (2 : Int) ^ b.toNat = 2 * 2 ^ (b.toNat - 1) := by
  obtain ⟨k, hk⟩ : ∃ k, b.toNat = k + 1 := ⟨b.toNat - 1, by omega⟩
  rw [hk, Int.pow_succ]
  simp [Int.mul_comm]
theorem top_no (n b : Int) (h : 1 ≤ b) (hs : 2 * low n b < 2 ^ b.toNat) : (low n b / 2 ^ (b.toNat - 1) == 1) = false := by
  have h1 := low_bd n b
  have h2 := pow_half h
  have h3 : low n b / 2 ^ (b.toNat - 1) = 0 := Int.ediv_eq_zero_of_lt h1.1 (by omega)
  rw [h3]; rfl
theorem top_yes (n b : Int) (h : 1 ≤ b) (hs : ¬ 2 * low n b < 2 ^ b.toNat) : (low n b / 2 ^ (b.toNat - 1) == 1) = true := by
  have h1 := low_bd n b
  have h2 := pow_half h
  have h0 := pow_pos (b.toNat - 1)
  have h3 : low n b / 2 ^ (b.toNat - 1) = 1 := by
    have a1 : 1 ≤ low n b / 2 ^ (b.toNat - 1) := (Int.le_ediv_iff_mul_le h0).2 (by omega)
    have a2 : low n b / 2 ^ (b.toNat - 1) < 2 := (Int.ediv_lt_iff_lt_mul h0).2 (by omega)
    omega
  rw [h3]; rfl
theorem sgn_no (n b : Int) (h : b ≤ 64) (hs : 2 * low n b < 2 ^ b.toNat) : wrap64 (low n b) = sgn n b := by
  have h1 := low_bd n b
  have h2 := pow_64 h
  unfold sgn
  rw [if_pos hs]
  unfold wrap64
  omega
theorem not_u64 (a : Nat) (ha : a < 18446744073709551616) : bits .xor .u64 IntKind.u64.max (a : Int) = 18446744073709551615 - (a : Int) := by
  have hm : IntKind.u64.max = ((18446744073709551615 : Nat) : Int) := by decide
  rw [hm, u64_xor_nat _ _ (by decide) ha]
  have h1 : (18446744073709551615 ^^^ a) = 18446744073709551615 - a := by
    have h2 : (BitVec.allOnes 64 ^^^ BitVec.ofNat 64 a).toNat = 2 ^ 64 - 1 - a := by
      rw [BitVec.allOnes_xor, BitVec.toNat_not, BitVec.toNat_ofNat, Nat.mod_eq_of_lt (by omega)]
    rw [BitVec.toNat_xor, BitVec.toNat_ofNat, Nat.mod_eq_of_lt (by omega)] at h2
    simpa using h2
  rw [h1]
  omega
theorem or_high (x b : Int) (h : b ≤ 64) (h0 : 0 ≤ x) (h1 : x < 2 ^ b.toNat) : bits .or .u64 x (bits .xor .u64 IntKind.u64.max (2 ^ b.toNat - 1)) = x + (18446744073709551616 - 2 ^ b.toNat) := by
  have h2 := pow_64 h
  have h3 := pow_pos b.toNat
  have hp : ((2 : Int) ^ b.toNat - 1) = ((2 ^ b.toNat - 1 : Nat) : Int) := by
    rw [Int.natCast_sub (Nat.two_pow_pos _)]; simp
  have hn := not_u64 (2 ^ b.toNat - 1) (by omega)
  rw [← hp] at hn
  rw [hn]
  have he : (18446744073709551615 - ((2 : Int) ^ b.toNat - 1)) = 18446744073709551616 - 2 ^ b.toNat := by omega
  rw [he]
  refine bits_join_low .u64 64 (by decide) wraps64 b.toNat x _ h0 h1 (by omega) (by omega) ?_ (by omega)
  have hd : ((2 : Int) ^ b.toNat) ∣ 18446744073709551616 := ⟨2 ^ (64 - b.toNat), by
    rw [← Int.pow_add, show b.toNat + (64 - b.toNat) = 64 by omega]; rfl⟩
  have := Int.dvd_sub hd (Int.dvd_refl ((2 : Int) ^ b.toNat))
  exact Int.emod_eq_zero_of_dvd this
theorem sgn_yes (n b : Int) (h : b ≤ 64) (hs : 2 ^ b.toNat ≤ 2 * low n b) :
    wrap64 (bits .or .u64 (low n b) (bits .xor .u64 IntKind.u64.max (2 ^ b.toNat - 1))) = sgn n b := by
  have h1 := low_bd n b
  have h2 := pow_64 h
  rw [or_high _ b h h1.1 h1.2]
  unfold sgn
  rw [if_neg (by omega)]
  unfold wrap64
  omega
theorem ret2i {k k' : IntKind} {a b c : Int} (h : a = b) : Ending.returned (.tuple #[.int k a, .int k' c]) = .returned (.tuple #[.int k b, .int k' c]) := by rw [h]
theorem reti {k : IntKind} {a b : Int} (h : a = b) : Ending.returned (.int k a) = .returned (.int k b) := by rw [h]
/-- What the document's loop keeps: n without its k lowest bits; its k lowest bits; 2^k as an unsigned number of 64 bits. -/
def shr (n : Int) (k : Nat) : Int := n / 2 ^ k
def lowN (n : Int) (k : Nat) : Int := n % 2 ^ k
def pw (k : Nat) : Int := 2 ^ k % 18446744073709551616
theorem shr_bd (n : Int) (k : Nat) (h0 : 0 ≤ n) (h1 : n ≤ 18446744073709551615) : 0 ≤ shr n k ∧ shr n k ≤ 18446744073709551615 := by
  have hp := pow_pos k
  refine ⟨Int.ediv_nonneg h0 (by omega), ?_⟩
  have := Int.ediv_le_self (2 ^ k) h0
  unfold shr
  omega
theorem shr_zero (n : Int) : shr n 0 = n := by simp [shr]
theorem shr_succ (n : Int) (k : Nat) : shr n k / 2 = shr n (k + 1) := by
  unfold shr
  rw [Int.ediv_ediv_of_nonneg (by have := pow_pos k; omega), Int.pow_succ]
theorem pow_63 {k : Nat} (h : k < 64) : (2 : Int) ^ k ≤ 9223372036854775808 := by
  have := pow_le (a := k) (b := 63) (by omega)
  exact this
theorem pw_lt (k : Nat) (h : k < 64) : pw k = 2 ^ k := by
  have h1 := pow_63 h
  have h2 := pow_pos k
  unfold pw
  omega
theorem pw_bd (k : Nat) : 0 ≤ pw k ∧ pw k ≤ 18446744073709551615 := by unfold pw; omega
theorem pw_succ (k : Nat) : IntKind.u64.wrap (pw k * 2) = pw (k + 1) := by
  rw [IntKind.wrap_u64]
  unfold pw
  rw [Int.pow_succ]
  omega
theorem lowN_bd (n : Int) (k : Nat) : 0 ≤ lowN n k ∧ lowN n k < 2 ^ k := by
  have := pow_pos k
  exact ⟨Int.emod_nonneg _ (by omega), Int.emod_lt_of_pos _ this⟩
theorem lowN_succ (n : Int) (k : Nat) : lowN n (k + 1) = lowN n k + (shr n k % 2) * 2 ^ k := by
  unfold lowN shr
  have h1 := Int.mul_ediv_add_emod n (2 ^ k)
  have h2 := Int.mul_ediv_add_emod n (2 ^ (k + 1))
  have h3 : n / 2 ^ (k + 1) = n / 2 ^ k / 2 := by
    rw [Int.ediv_ediv_of_nonneg (by have := pow_pos k; omega), Int.pow_succ]
  have h4 := Int.mul_ediv_add_emod (n / 2 ^ k) 2
  rw [h3, Int.pow_succ] at h2
  rw [Int.pow_succ]
  generalize n / 2 ^ k / 2 = q at *
  generalize n / 2 ^ k % 2 = r at *
  rw [← h4] at h1
  have h5 : (2 : Int) ^ k * (2 * q + r) = 2 ^ k * 2 * q + r * 2 ^ k := by
    rw [Int.mul_add, Int.mul_assoc, Int.mul_comm r]
  rw [h5] at h1
  omega
theorem vi {k : IntKind} {a b : Int} (h : a = b) : Value.int k a = Value.int k b := by rw [h]
theorem lowN_one (n : Int) (k : Nat) (hk : k < 64) (h : (shr n k % 2 == 1) = true) : IntKind.u64.wrap (lowN n k + pw k) = lowN n (k + 1) := by
  have h1 : shr n k % 2 = 1 := by simpa using h
  have h2 := lowN_bd n k
  have h3 := pow_63 hk
  rw [lowN_succ, h1, pw_lt k hk, IntKind.wrap_u64]
  omega
theorem lowN_nil (n : Int) (k : Nat) (h : (shr n k % 2 == 1) = false) : lowN n k = lowN n (k + 1) := by
  have h1 : shr n k % 2 = 0 := by
    have : ¬ shr n k % 2 = 1 := by simpa using h
    omega
  rw [lowN_succ, h1]
  simp
theorem low_of_lowN (n b : Int) (k : Nat) (h : b.toNat = k) : lowN n k = low n b := by subst h; rfl
theorem rsgn_no (n b : Int) (k : Nat) (h : b ≤ 64) (hk : b = (k : Int) + 1) (hs : low n b < pw k) : wrap64 (low n b) = sgn n b := by
  have h2 := pow_half (b := b) (by omega)
  rw [pw_lt k (by omega), show k = b.toNat - 1 by omega] at hs
  exact sgn_no n b h (by omega)
theorem rsgn_yes (n b : Int) (k : Nat) (h : b ≤ 64) (hk : b = (k : Int) + 1) (hs : pw k ≤ low n b) :
    wrap64 (IntKind.u64.wrap (low n b - pw k - pw k)) = sgn n b := by
  have h1 := low_bd n b
  have h2 := pow_half (b := b) (by omega)
  have h3 := pow_64 h
  rw [pw_lt k (by omega), show k = b.toNat - 1 by omega] at hs ⊢
  unfold sgn
  rw [if_neg (by omega), IntKind.wrap_u64]
  unfold wrap64
  omega
/-- The k lowest bytes of n, the lowest first. -/
def bytes (n : Int) (k : Nat) : List UInt8 := (List.range k).map fun j => UInt8.ofNat (n / 256 ^ j % 256).toNat
theorem bytes_length (n : Int) (k : Nat) : (bytes n k).length = k := by simp [bytes]
theorem bytes_succ (n : Int) (k : Nat) : bytes n (k + 1) = bytes n k ++ [UInt8.ofNat (n / 256 ^ k % 256).toNat] := by simp [bytes, List.range_succ]
theorem pow_256 (k : Nat) : (256 : Int) ^ k = 2 ^ (8 * k) := by rw [Int.pow_mul]; rfl
theorem byte_at (n : Int) (k : Nat) : n / 2 ^ (8 * k) % 256 = ((UInt8.ofNat (n / 256 ^ k % 256).toNat).toNat : Int) := by
  rw [← pow_256]
  have h0 := Int.emod_nonneg (n / 256 ^ k) (show (256 : Int) ≠ 0 by decide)
  have h1 := Int.emod_lt_of_pos (n / 256 ^ k) (show (0 : Int) < 256 by decide)
  generalize n / 256 ^ k % 256 = x at *
  rw [UInt8.toNat_ofNat', Nat.mod_eq_of_lt (by omega)]
  omega
theorem low_same (n wd : Int) (h1 : 1 ≤ wd) (h2 : wd ≤ 8) (h3 : 0 ≤ n) (h4 : n < 256 ^ wd.toNat) : low n (8 * wd) = n ∧ n ≤ 18446744073709551615 := by
  rw [pow_256, show 8 * wd.toNat = (8 * wd).toNat by omega] at h4
  have := pow_64 (b := 8 * wd) (by omega)
  exact ⟨Int.emod_eq_of_lt h3 h4, by omega⟩
theorem low_other (n wd : Int) (h1 : 1 ≤ wd) (h5 : 256 ^ wd.toNat ≤ n) : (low n (8 * wd) != n) = true := by
  rw [pow_256, show 8 * wd.toNat = (8 * wd).toNat by omega] at h5
  have := low_bd n (8 * wd)
  rw [bne_iff_ne]
  omega
/-- A digit's letter, and bytes in digits. -/
def hexd (n : Nat) : UInt8 := if n < 10 then UInt8.ofNat (48 + n) else UInt8.ofNat (87 + n)
def hex : List UInt8 → List UInt8
  | [] => []
  | x :: r => hexd (x.toNat / 16) :: hexd (x.toNat % 16) :: hex r
theorem hexd_at (n : Nat) (h : n < 16) (hs : n < (⟨#[48, 49, 50, 51, 52, 53, 54, 55, 56, 57, 97, 98, 99, 100, 101, 102]⟩ : ByteArray).size) :
    ((⟨#[48, 49, 50, 51, 52, 53, 54, 55, 56, 57, 97, 98, 99, 100, 101, 102]⟩ : ByteArray)[n]'hs).toNat = (hexd n).toNat := by
  have : ∀ n : Fin 16, ((⟨#[48, 49, 50, 51, 52, 53, 54, 55, 56, 57, 97, 98, 99, 100, 101, 102]⟩ : ByteArray)[n.val]'(n.isLt)).toNat = (hexd n.val).toNat := by decide +kernel
  exact this ⟨n, h⟩
theorem hex_append (a b : List UInt8) : hex (a ++ b) = hex a ++ hex b := by
  induction a with
  | nil => rfl
  | cons x a ih => simp [hex, ih]
theorem hex_length (a : List UInt8) : (hex a).length = 2 * a.length := by
  induction a with
  | nil => rfl
  | cons x a ih => simp [hex, ih]; omega
theorem byt_get {bs : List UInt8} {k : Nat} (h : k < bs.length) : Mem.byt bs k = ((bs[k].toNat : Nat) : Int) := by simp [Mem.byt, h]
theorem hex_take {bs : List UInt8} {k : Nat} (h : k < bs.length) : hex (bs.take (k + 1)) = hex (bs.take k) ++ [hexd (Mem.byt bs k / 16).toNat, hexd (Mem.byt bs k % 16).toNat] := by
  rw [List.take_succ_eq_append_getElem h, hex_append, byt_get h]
  simp only [hex]
  have e1 : ((bs[k].toNat : Int) / 16).toNat = bs[k].toNat / 16 := by omega
  have e2 : ((bs[k].toNat : Int) % 16).toNat = bs[k].toNat % 16 := by omega
  rw [e1, e2]
/-- Is a letter a digit, and which? -/
def digB (x : Int) : Bool := decide (48 ≤ x ∧ x ≤ 57) || decide (97 ≤ x ∧ x ≤ 102)
def digV (x : Int) : Int := if x ≤ 57 then x - 48 else x - 87
theorem digB_yes {x : Int} (h : digB x = true) : (48 ≤ x ∧ x ≤ 57 ∧ digV x = x - 48) ∨ (97 ≤ x ∧ x ≤ 102 ∧ digV x = x - 97 + 10) := by
  simp only [digB, Bool.or_eq_true, decide_eq_true_eq] at h
  unfold digV
  rcases h with h | h
  · exact .inl ⟨h.1, h.2, by rw [if_pos h.2]⟩
  · exact .inr ⟨h.1, h.2, by rw [if_neg (by omega)]; omega⟩
theorem digB_no {x : Int} (h : digB x = false) : ¬ (48 ≤ x ∧ x ≤ 57) ∧ ¬ (97 ≤ x ∧ x ≤ 102) := by
  simpa [digB] using h
/-- Digits as bytes: none if one is none, or if one is left over. -/
def unhex : List UInt8 → Option (List UInt8)
  | [] => some []
  | [_] => none
  | h :: l :: r => if digB h.toNat && digB l.toNat then (unhex r).map (UInt8.ofNat (16 * digV h.toNat + digV l.toNat).toNat :: ·) else none
theorem digV_bd {x : Int} (h : digB x = true) : 0 ≤ digV x ∧ digV x ≤ 15 := by
  rcases digB_yes h with ⟨h1, h2, h3⟩ | ⟨h1, h2, h3⟩ <;> omega
theorem unhex_append : ∀ (a b : List UInt8), a.length % 2 = 0 → unhex (a ++ b) = (unhex a).bind fun x => (unhex b).map (x ++ ·)
  | [], b, _ => by simp [unhex]
  | [_], _, h => by simp at h
  | p :: q :: r, b, h => by
    have ih := unhex_append r b (by simp at h; omega)
    simp only [List.cons_append, unhex, ih]
    split
    · cases unhex r <;> cases unhex b <;> simp
    · simp
theorem unhex_odd : ∀ (l : List UInt8), l.length % 2 = 1 → unhex l = none
  | [], h => by simp at h
  | [_], _ => rfl
  | p :: q :: r, h => by
    have ih := unhex_odd r (by simp at h; omega)
    simp [unhex, ih]
theorem unhex_split {l : List UInt8} {k : Nat} {bs : List UInt8} (hlt : 2 * k < l.length) (he : l.length % 2 = 0) (_hu : unhex (l.take (2 * k)) = some bs) :
    ∃ p q r, l.drop (2 * k) = p :: q :: r ∧ Mem.byt l (2 * k) = (p.toNat : Int) ∧ Mem.byt l (2 * k + 1) = (q.toNat : Int) ∧ l.take (2 * (k + 1)) = l.take (2 * k) ++ [p, q] := by
  have h1 : 2 * k + 1 < l.length := by omega
  refine ⟨l[2 * k], l[2 * k + 1], l.drop (2 * k + 2), ?_, byt_get hlt, byt_get h1, ?_⟩
  · rw [List.drop_eq_getElem_cons hlt, List.drop_eq_getElem_cons h1]
  · rw [show 2 * (k + 1) = 2 * k + 1 + 1 by omega, List.take_succ_eq_append_getElem h1, List.take_succ_eq_append_getElem hlt, List.append_assoc]
    rfl
theorem unhex_step {l : List UInt8} {k : Nat} {bs : List UInt8} (hlt : 2 * k < l.length) (he : l.length % 2 = 0) (hu : unhex (l.take (2 * k)) = some bs)
    (h1 : digB (Mem.byt l (2 * k)) = true) (h2 : digB (Mem.byt l (2 * k + 1)) = true) :
    unhex (l.take (2 * (k + 1))) = some (bs ++ [UInt8.ofNat (16 * digV (Mem.byt l (2 * k)) + digV (Mem.byt l (2 * k + 1))).toNat]) := by
  obtain ⟨p, q, r, hd, hp, hq, ht⟩ := unhex_split hlt he hu
  rw [hp] at h1 ⊢
  rw [hq] at h2 ⊢
  rw [ht, unhex_append _ _ (by rw [List.length_take]; omega), hu]
  simp [unhex, h1, h2]
theorem unhex_stop {l : List UInt8} {k : Nat} {bs : List UInt8} (hlt : 2 * k < l.length) (he : l.length % 2 = 0) (hu : unhex (l.take (2 * k)) = some bs)
    (h : digB (Mem.byt l (2 * k)) = false ∨ digB (Mem.byt l (2 * k + 1)) = false) : unhex l = none := by
  obtain ⟨p, q, r, hd, hp, hq, ht⟩ := unhex_split hlt he hu
  rw [hp, hq] at h
  have hl : unhex l = unhex (l.take (2 * k) ++ l.drop (2 * k)) := by rw [List.take_append_drop]
  rw [hl, unhex_append _ _ (by rw [List.length_take]; omega), hu, hd]
  have : unhex (p :: q :: r) = none := by
    simp only [unhex]
    rw [if_neg]
    rcases h with h | h <;> simp [h]
  rw [this]
  rfl
theorem or_nib {a b : Int} (h1 : 0 ≤ a) (h2 : a ≤ 15) (h3 : 0 ≤ b) (h4 : b ≤ 15) : bits .or .u8 (a * 16) b = ((UInt8.ofNat (16 * a + b).toNat).toNat : Int) := by
  rw [bits_join .u8 8 (by decide) wraps_u8 4 (a * 16) b (by omega) (by omega) (by omega) h3 (by omega) (by omega)]
  rw [UInt8.toNat_ofNat', Nat.mod_eq_of_lt (by omega)]
  omega
/-- A number with a sign that wd bytes hold. -/
def fits (n wd : Int) : Prop := -(256 ^ wd.toNat) ≤ 2 * n ∧ 2 * n < 256 ^ wd.toNat
theorem low_wrap (n wd : Int) (h2 : wd ≤ 8) : low (n % 18446744073709551616) (8 * wd) = n % 2 ^ (8 * wd).toNat := by
  have hd : ((2 : Int) ^ (8 * wd).toNat) ∣ 18446744073709551616 := ⟨2 ^ (64 - (8 * wd).toNat), by
    rw [← Int.pow_add, show (8 * wd).toNat + (64 - (8 * wd).toNat) = 64 by omega]; rfl⟩
  exact Int.emod_emod_of_dvd n hd
theorem sgn_same (n wd : Int) (h1 : 1 ≤ wd) (h2 : wd ≤ 8) (h : fits n wd) : sgn (n % 18446744073709551616) (8 * wd) = n := by
  obtain ⟨ha, hb⟩ := h
  rw [pow_256, show 8 * wd.toNat = (8 * wd).toNat by omega] at ha hb
  unfold sgn
  rw [low_wrap n wd h2]
  have hp := pow_pos (8 * wd).toNat
  rcases Int.lt_or_le n 0 with h0 | h0
  · have e : n % 2 ^ (8 * wd).toNat = n + 2 ^ (8 * wd).toNat := by
      rw [← Int.add_emod_right, Int.emod_eq_of_lt (by omega) (by omega)]
    rw [e, if_neg (by omega)]
    omega
  · rw [Int.emod_eq_of_lt h0 (by omega), if_pos (by omega)]
theorem sgn_bd (n b : Int) : -(2 ^ b.toNat) ≤ 2 * sgn n b ∧ 2 * sgn n b < 2 ^ b.toNat := by
  have h := low_bd n b
  unfold sgn
  split <;> omega
theorem sgn_other (n wd : Int) (h1 : 1 ≤ wd) (h2 : wd ≤ 8) (h : ¬ fits n wd) : (sgn (n % 18446744073709551616) (8 * wd) != n) = true := by
  have hb := sgn_bd (n % 18446744073709551616) (8 * wd)
  rw [bne_iff_ne]
  intro e
  rw [e] at hb
  apply h
  unfold fits
  rw [pow_256, show 8 * wd.toNat = (8 * wd).toNat by omega]
  exact hb
theorem byte_wrap (n : Int) (j : Nat) (hj : j < 8) : n % 18446744073709551616 / 256 ^ j % 256 = n / 256 ^ j % 256 := by
  have h : ∀ P : Int, (0 < P) → ∀ q, 18446744073709551616 = 256 * P * q → n % 18446744073709551616 / P % 256 = n / P % 256 := by
    intro P hP q hq
    have e1 : n = n % 18446744073709551616 + P * (256 * q * (n / 18446744073709551616)) := by
      have := Int.mul_ediv_add_emod n 18446744073709551616
      have e2 : P * (256 * q * (n / 18446744073709551616)) = 18446744073709551616 * (n / 18446744073709551616) := by
        rw [hq]
        simp only [Int.mul_assoc, Int.mul_comm, Int.mul_left_comm]
      omega
    have e3 : n / P = n % 18446744073709551616 / P + 256 * q * (n / 18446744073709551616) := by
      conv => lhs; rw [e1]
      exact Int.add_mul_ediv_left _ _ (by omega)
    rw [e3, Int.mul_assoc, Int.add_mul_emod_self_left]
  refine h (256 ^ j) (Int.pow_pos (by decide)) (256 ^ (7 - j)) ?_
  rw [Int.mul_comm 256, ← Int.pow_succ, ← Int.pow_add, show j + 1 + (7 - j) = 8 by omega]
  rfl
theorem bytes_wrap (n : Int) (k : Nat) (hk : k ≤ 8) : bytes (n % 18446744073709551616) k = bytes n k := by
  unfold bytes
  apply List.map_congr_left
  intro j hj
  rw [byte_wrap n j (by have := List.mem_range.1 hj; omega)]
theorem wrap_bd (n : Int) : 0 ≤ IntKind.u64.wrap n ∧ IntKind.u64.wrap n ≤ 18446744073709551615 := by rw [IntKind.wrap_u64]; omega
theorem sgn_same' (n wd : Int) (h1 : 1 ≤ wd) (h2 : wd ≤ 8) (h : fits n wd) : sgn (IntKind.u64.wrap n) (8 * wd) = n := by rw [IntKind.wrap_u64]; exact sgn_same n wd h1 h2 h
theorem sgn_other' (n wd : Int) (h1 : 1 ≤ wd) (h2 : wd ≤ 8) (h : ¬ fits n wd) : (sgn (IntKind.u64.wrap n) (8 * wd) != n) = true := by rw [IntKind.wrap_u64]; exact sgn_other n wd h1 h2 h
theorem bytes_wrap' (n : Int) (k : Nat) (hk : k ≤ 8) : bytes (IntKind.u64.wrap n) k = bytes n k := by rw [IntKind.wrap_u64]; exact bytes_wrap n k hk
/-- The number whose bytes, the lowest first, stand at place a: k of them. -/
def num (bs : List UInt8) (a : Nat) : Nat → Int
  | 0 => 0
  | k + 1 => num bs a k + Mem.byt bs (a + k) * 2 ^ (8 * k)
theorem num_bd (bs : List UInt8) (a k : Nat) : 0 ≤ num bs a k ∧ num bs a k < 2 ^ (8 * k) := by
  induction k with
  | zero => simp [num]
  | succ k ih =>
    have hb := Mem.byt_bd bs (a + k)
    have hp := pow_pos (8 * k)
    have e : (2 : Int) ^ (8 * (k + 1)) = 256 * 2 ^ (8 * k) := by
      rw [show 8 * (k + 1) = 8 + 8 * k by omega, Int.pow_add]; rfl
    simp only [num]
    rw [e]
    have h1 : Mem.byt bs (a + k) * 2 ^ (8 * k) ≤ 255 * 2 ^ (8 * k) := Int.mul_le_mul_of_nonneg_right hb.2 (by omega)
    have h2 : 0 ≤ Mem.byt bs (a + k) * 2 ^ (8 * k) := Int.mul_nonneg hb.1 (by omega)
    omega
theorem pow_8 {k : Nat} (h : k < 8) : (2 : Int) ^ (8 * k) ≤ 72057594037927936 := by
  have := pow_le (a := 8 * k) (b := 56) (by omega)
  exact this
theorem num_step (bs : List UInt8) (a k : Nat) (hk : k < 8) : bits .or .u64 (num bs a k) (IntKind.u64.wrap (Mem.byt bs (a + k) * 2 ^ (8 * k))) = num bs a (k + 1) := by
  have hb := Mem.byt_bd bs (a + k)
  have hn := num_bd bs a k
  have hp := pow_pos (8 * k)
  have h8 := pow_8 hk
  have h1 : Mem.byt bs (a + k) * 2 ^ (8 * k) ≤ 255 * 2 ^ (8 * k) := Int.mul_le_mul_of_nonneg_right hb.2 (by omega)
  have h2 : 0 ≤ Mem.byt bs (a + k) * 2 ^ (8 * k) := Int.mul_nonneg hb.1 (by omega)
  rw [wraps64 _ h2 (by omega)]
  exact bits_join_low .u64 64 (by decide) wraps64 (8 * k) _ _ hn.1 hn.2 (by omega) h2 (Int.mul_emod_left _ _) (by omega)
theorem num_u64 (bs : List UInt8) (a k : Nat) (hk : k ≤ 8) : 0 ≤ num bs a k ∧ num bs a k ≤ 18446744073709551615 := by
  have hn := num_bd bs a k
  have := pow_le (a := 8 * k) (b := 64) (by omega)
  omega
theorem low_low (n b : Int) : low (low n b) b = low n b := Int.emod_emod_of_dvd n (Int.dvd_refl _)
theorem sgn_low (n b : Int) : sgn (low n b) b = sgn n b := by unfold sgn; rw [low_low]
theorem low_sgn (n b : Int) (h : b ≤ 64) : low (IntKind.u64.wrap (sgn n b)) b = low n b := by
  rw [IntKind.wrap_u64]
  have hd : ((2 : Int) ^ b.toNat) ∣ 18446744073709551616 := ⟨2 ^ (64 - b.toNat), by
    rw [← Int.pow_add, show b.toNat + (64 - b.toNat) = 64 by omega]; rfl⟩
  have h1 : low (sgn n b % 18446744073709551616) b = sgn n b % 2 ^ b.toNat := Int.emod_emod_of_dvd _ hd
  rw [h1]
  unfold sgn
  split
  · exact low_low n b
  · rw [Int.sub_emod_right]; exact low_low n b
theorem byte_mod (n : Int) (j k : Nat) (hj : j < k) : n % 256 ^ k / 256 ^ j % 256 = n / 256 ^ j % 256 := by
  have hP : (0 : Int) < 256 ^ j := Int.pow_pos (by decide)
  have hq : (256 : Int) ^ k = 256 * 256 ^ j * 256 ^ (k - 1 - j) := by
    rw [Int.mul_comm 256, ← Int.pow_succ, ← Int.pow_add, show j + 1 + (k - 1 - j) = k by omega]
  generalize hM : (256 : Int) ^ k = M at *
  generalize (256 : Int) ^ j = P at *
  generalize (256 : Int) ^ (k - 1 - j) = q at *
  have e1 : n = n % M + P * (256 * q * (n / M)) := by
    have := Int.mul_ediv_add_emod n M
    have e2 : P * (256 * q * (n / M)) = M * (n / M) := by
      rw [hq]
      simp only [Int.mul_assoc, Int.mul_comm, Int.mul_left_comm]
    omega
  have e3 : n / P = n % M / P + 256 * q * (n / M) := by
    conv => lhs; rw [e1]
    exact Int.add_mul_ediv_left _ _ (by omega)
  rw [e3, Int.mul_assoc, Int.add_mul_emod_self_left]
theorem bytes_mod (n : Int) (k : Nat) : bytes (n % 256 ^ k) k = bytes n k := by
  unfold bytes
  apply List.map_congr_left
  intro j hj
  rw [byte_mod n j k (List.mem_range.1 hj)]
theorem sgn_mod (n b : Int) : sgn n b % 2 ^ b.toNat = low n b := by
  unfold sgn
  split
  · exact low_low n b
  · rw [Int.sub_emod_right]; exact low_low n b
theorem bytes_sgn (n : Int) (k : Nat) : bytes (sgn n (8 * (k : Int))) k = bytes (low n (8 * (k : Int))) k := by
  rw [← bytes_mod (sgn n _), pow_256, show 8 * k = (8 * (k : Int)).toNat by omega, sgn_mod]
theorem fits_sgn (n : Int) (k : Nat) : fits (sgn n (8 * (k : Int))) k := by
  have := sgn_bd n (8 * (k : Int))
  unfold fits
  rw [pow_256, Int.toNat_natCast, show 8 * k = (8 * (k : Int)).toNat by omega]
  exact this
theorem fits_i64 {n : Int} {k : Nat} (h : fits n k) (hk : k ≤ 8) : -9223372036854775808 ≤ n ∧ n ≤ 9223372036854775807 := by
  obtain ⟨h1, h2⟩ := h
  rw [pow_256, Int.toNat_natCast] at h1 h2
  have := pow_le (a := 8 * k) (b := 64) (by omega)
  omega
theorem low_lt (n : Int) (k : Nat) : low n (8 * (k : Int)) < 256 ^ ((k : Int)).toNat := by
  have := low_bd n (8 * (k : Int))
  rw [pow_256, Int.toNat_natCast, show 8 * k = (8 * (k : Int)).toNat by omega]
  exact this.2
theorem byt_bytes (n : Int) (pre post : List UInt8) (k j : Nat) (hj : j < k) : Mem.byt (pre ++ bytes n k ++ post) (pre.length + j) = n / 256 ^ j % 256 := by
  have hl := bytes_length n k
  have e : (pre ++ bytes n k ++ post).getD (pre.length + j) 0 = UInt8.ofNat (n / 256 ^ j % 256).toNat := by
    rw [List.getD_eq_getElem?_getD, List.append_assoc, List.getElem?_append_right (by omega), List.getElem?_append_left (by omega)]
    simp [bytes, hj]
  unfold Mem.byt
  rw [e, ← byte_at, ← pow_256]
theorem num_bytes (n : Int) (pre post : List UInt8) (k j : Nat) (hj : j ≤ k) : num (pre ++ bytes n k ++ post) pre.length j = n % 2 ^ (8 * j) := by
  induction j with
  | zero => simp [num, Int.emod_one]
  | succ j ih =>
    simp only [num]
    rw [ih (by omega), byt_bytes n pre post k j (by omega), pow_256]
    have e : (2 : Int) ^ (8 * (j + 1)) = 2 ^ (8 * j) * 256 := by
      rw [show 8 * (j + 1) = 8 * j + 8 by omega, Int.pow_add]; rfl
    rw [e]
    have h1 := Int.mul_ediv_add_emod n (2 ^ (8 * j))
    have h2 := Int.mul_ediv_add_emod n (2 ^ (8 * j) * 256)
    have h3 : n / (2 ^ (8 * j) * 256) = n / 2 ^ (8 * j) / 256 := by
      rw [Int.ediv_ediv_of_nonneg (by have := pow_pos (8 * j); omega)]
    have h4 := Int.mul_ediv_add_emod (n / 2 ^ (8 * j)) 256
    rw [h3] at h2
    generalize n / 2 ^ (8 * j) / 256 = q at *
    generalize n / 2 ^ (8 * j) % 256 = r at *
    rw [← h4] at h1
    have h5 : (2 : Int) ^ (8 * j) * (256 * q + r) = 2 ^ (8 * j) * 256 * q + r * 2 ^ (8 * j) := by
      rw [Int.mul_add, Int.mul_assoc, Int.mul_comm r]
    rw [h5] at h1
    omega
theorem num_fits {n : Int} {k : Nat} (hk : 1 ≤ k) (h8 : k ≤ 8) (h : fits n k) : sgn (num (bytes n k) 0 k) (8 * (k : Int)) = n := by
  have e := num_bytes n [] [] k k (Nat.le_refl _)
  simp only [List.nil_append, List.append_nil, List.length_nil] at e
  rw [e, show 8 * k = (8 * (k : Int)).toNat by omega]
  have e2 : n % 2 ^ (8 * (k : Int)).toNat = low n (8 * (k : Int)) := rfl
  rw [e2, sgn_low]
  have e3 := sgn_same n k (by omega) (by omega) h
  have e4 : sgn (n % 18446744073709551616) (8 * (k : Int)) = sgn n (8 * (k : Int)) := by
    unfold sgn
    rw [low_wrap n k (by omega)]
    rfl
  rw [← e4]; exact e3
theorem top_byte {n : Int} {k : Nat} (hk : 1 ≤ k) (h : fits n k) : (n < 0 ∧ 128 ≤ Mem.byt (bytes n k) (k - 1)) ∨ (0 ≤ n ∧ Mem.byt (bytes n k) (k - 1) < 128) := by
  have e := byt_bytes n [] [] k (k - 1) (by omega)
  simp only [List.nil_append, List.append_nil, List.length_nil, Nat.zero_add] at e
  rw [e]
  obtain ⟨h1, h2⟩ := h
  have hp : (0 : Int) < 256 ^ (k - 1) := Int.pow_pos (by decide)
  have e2 : (256 : Int) ^ (k : Int).toNat = 256 * 256 ^ (k - 1) := by
    rw [Int.toNat_natCast, Int.mul_comm, ← Int.pow_succ, show (k - 1).succ = k by omega]
  rw [e2] at h1 h2
  generalize (256 : Int) ^ (k - 1) = P at *
  have a1 : n / P < 128 := (Int.ediv_lt_iff_lt_mul hp).2 (by omega)
  have a2 : -128 ≤ n / P := (Int.le_ediv_iff_mul_le hp).2 (by omega)
  rcases Int.lt_or_le n 0 with h0 | h0
  · have a3 : n / P < 0 := Int.ediv_neg_of_neg_of_pos h0 hp
    exact .inl ⟨h0, by omega⟩
  · have a3 : 0 ≤ n / P := Int.ediv_nonneg h0 (by omega)
    exact .inr ⟨h0, by omega⟩
/-- What is left of a number when k bytes are taken. -/
def dsh (n : Int) (k : Nat) : Int := n / 256 ^ k
theorem dsh_bd (n : Int) (k : Nat) (h0 : 0 ≤ n) (h1 : n ≤ 18446744073709551615) : 0 ≤ dsh n k ∧ dsh n k ≤ 18446744073709551615 := by
  have hp : (0 : Int) < 256 ^ k := Int.pow_pos (by decide)
  refine ⟨Int.ediv_nonneg h0 (by omega), ?_⟩
  have := Int.ediv_le_self (256 ^ k) h0
  unfold dsh
  omega
theorem dsh_byte (n : Int) (k : Nat) : dsh n k % 256 = ((UInt8.ofNat (n / 256 ^ k % 256).toNat).toNat : Int) := by
  have := byte_at n k
  rw [← pow_256] at this
  exact this
theorem dsh_succ (n : Int) (k : Nat) : dsh n k / 256 = dsh n (k + 1) := by
  unfold dsh
  rw [Int.ediv_ediv_of_nonneg (Int.le_of_lt (Int.pow_pos (by decide))), Int.pow_succ]
theorem dsh_zero {n : Int} {k : Nat} (h0 : 0 ≤ n) (h : n < 256 ^ k) : dsh n k = 0 := Int.ediv_eq_zero_of_lt h0 h
theorem dsh_pos {n : Int} {k : Nat} (h : 256 ^ k ≤ n) : (dsh n k != 0) = true := by
  have hp : (0 : Int) < 256 ^ k := Int.pow_pos (by decide)
  have : 1 ≤ n / 256 ^ k := (Int.le_ediv_iff_mul_le hp).2 (by omega)
  rw [bne_iff_ne]
  unfold dsh
  omega
def p2 (k : Nat) : Int := 2 ^ k
theorem p2_bd (k : Nat) (h : k < 62) : 1 ≤ p2 k ∧ p2 k ≤ 2305843009213693952 := by
  have h1 := pow_pos k
  have h2 := pow_le (a := k) (b := 61) (by omega)
  unfold p2
  exact ⟨h1, h2⟩
theorem p2_succ (k : Nat) : 2 * p2 k = p2 (k + 1) := by unfold p2; rw [Int.pow_succ, Int.mul_comm]
theorem fits_p2 {n wd : Int} (h : 1 ≤ wd) : fits n wd ↔ -p2 (8 * wd.toNat - 1) ≤ n ∧ n < p2 (8 * wd.toNat - 1) := by
  unfold fits p2
  have e : (256 : Int) ^ wd.toNat = 2 * 2 ^ (8 * wd.toNat - 1) := by
    rw [pow_256, Int.mul_comm, ← Int.pow_succ, show (8 * wd.toNat - 1).succ = 8 * wd.toNat by omega]
  rw [e]
  omega
theorem num_front (bs : List UInt8) (a m : Nat) : num bs a (m + 1) = 256 * num bs (a + 1) m + Mem.byt bs a := by
  induction m with
  | zero => simp [num]
  | succ m ih =>
    rw [show num bs a (m + 1 + 1) = num bs a (m + 1) + Mem.byt bs (a + (m + 1)) * 2 ^ (8 * (m + 1)) from rfl, ih,
      show num bs (a + 1) (m + 1) = num bs (a + 1) m + Mem.byt bs (a + 1 + m) * 2 ^ (8 * m) from rfl, show a + (m + 1) = a + 1 + m by omega,
      show (2 : Int) ^ (8 * (m + 1)) = 256 * 2 ^ (8 * m) by rw [show 8 * (m + 1) = 8 + 8 * m by omega, Int.pow_add]; rfl]
    rw [Int.mul_add, Int.mul_left_comm]
    omega
theorem num_56 (bs : List UInt8) (a k : Nat) (hk : k < 8) : 0 ≤ num bs a k ∧ num bs a k ≤ 72057594037927935 := by
  have hn := num_bd bs a k
  have := pow_8 hk
  omega
theorem sgn_8 {n : Int} (h0 : 0 ≤ n) (h1 : n ≤ 18446744073709551615) : wrap64 n = sgn n (8 * 8) := by
  have e : low n (8 * 8) = n := Int.emod_eq_of_lt h0 (by rw [show (2 : Int) ^ (8 * 8 : Int).toNat = 18446744073709551616 by decide]; omega)
  unfold sgn
  rw [e, show (2 : Int) ^ (8 * 8 : Int).toNat = 18446744073709551616 by decide]
  unfold wrap64
  split <;> omega
theorem sgn_p2 {n wd : Int} (h1 : 1 ≤ wd) (h2 : wd ≤ 8) (h0 : 0 ≤ n) (h : n < 2 ^ (8 * wd.toNat)) : sgn n (8 * wd) = if n < p2 (8 * wd.toNat - 1) then n else n - p2 (8 * wd.toNat - 1) - p2 (8 * wd.toNat - 1) := by
  have e : (2 : Int) ^ (8 * wd).toNat = 2 * p2 (8 * wd.toNat - 1) := by
    unfold p2
    rw [Int.mul_comm 2, ← Int.pow_succ, show (8 * wd.toNat - 1).succ = (8 * wd).toNat by omega]
  have el : low n (8 * wd) = n := Int.emod_eq_of_lt h0 (by rw [show (8 * wd).toNat = 8 * wd.toNat by omega]; exact h)
  unfold sgn
  rw [el, e]
  split <;> split <;> omega
theorem xor_byte (a b : Int) (h1 : 0 ≤ a) (h2 : a ≤ 255) (h3 : 0 ≤ b) (h4 : b ≤ 255) : ∃ y : UInt8, bits .xor .u8 a b = (y.toNat : Int) := by
  refine ⟨UInt8.ofNat (a.toNat ^^^ b.toNat), ?_⟩
  rw [u8_xor a b h1 (by omega) h3 (by omega), UInt8.toNat_ofNat', Nat.mod_eq_of_lt]
  exact Nat.xor_lt_two_pow (by omega) (by omega)
theorem num_low (n : Int) (pre post : List UInt8) (k : Nat) : num (pre ++ bytes (low n (8 * (k : Int))) k ++ post) pre.length k = low n (8 * (k : Int)) := by
  rw [num_bytes _ pre post k k (Nat.le_refl _), show 8 * k = (8 * (k : Int)).toNat by omega]
  exact low_low n _
/-- A digit's value; -1: it is none. -/
def digI (x : Int) : Int := if digB x then digV x else -1
def NoDig (x : Int) (k : Nat) : Prop := ∀ j, j < k → ¬ (((hexd j).toNat : Nat) : Int) = x
theorem NoDig.succ {x : Int} {k : Nat} (h : NoDig x k) (hk : ¬ (((hexd k).toNat : Nat) : Int) = x) : NoDig x (k + 1) := by
  intro j hj
  by_cases e : j = k
  · subst e; exact hk
  · exact h j (by omega)
theorem dig_hexd (j : Nat) (h : j < 16) : digB (((hexd j).toNat : Nat) : Int) = true ∧ digV (((hexd j).toNat : Nat) : Int) = j := by
  have : ∀ j : Fin 16, digB (((hexd j.val).toNat : Nat) : Int) = true ∧ digV (((hexd j.val).toNat : Nat) : Int) = (j.val : Int) := by decide +kernel
  exact this ⟨j, h⟩
theorem hexd_dig {x : Int} (h : digB x = true) : (((hexd (digV x).toNat).toNat : Nat) : Int) = x := by
  rcases digB_yes h with ⟨h1, h2, h3⟩ | ⟨h1, h2, h3⟩
  · rw [h3]
    unfold hexd
    rw [if_pos (by omega), UInt8.toNat_ofNat', Nat.mod_eq_of_lt (by omega)]
    omega
  · rw [h3]
    unfold hexd
    rw [if_neg (by omega), UInt8.toNat_ofNat', Nat.mod_eq_of_lt (by omega)]
    omega
theorem digI_at {x : Int} {k : Nat} (hk : k < 16) (h : (((hexd k).toNat : Nat) : Int) = x) : digI x = k := by
  subst h
  unfold digI
  rw [if_pos (dig_hexd k hk).1, (dig_hexd k hk).2]
theorem digI_no {x : Int} (h : NoDig x 16) : digI x = -1 := by
  unfold digI
  split
  · rename_i hd
    have hv := digV_bd hd
    exact absurd (hexd_dig hd) (h _ (by omega))
  · rfl
def hexS (bs : List UInt8) : ByteArray := ⟨(hex bs).toArray⟩
def digS (n : Nat) : ByteArray := ⟨#[hexd n]⟩
theorem digS_size (n : Nat) : (digS n).size = 1 := rfl
theorem hexS_size (bs : List UInt8) : (hexS bs).size = 2 * bs.length := by simp [hexS, ByteArray.size, hex_length]
theorem digS_at (n : Nat) (h : n < 16) : (⟨#[48, 49, 50, 51, 52, 53, 54, 55, 56, 57, 97, 98, 99, 100, 101, 102]⟩ : ByteArray).extract n (n + 1) = digS n := by
  have : ∀ n : Fin 16, (⟨#[48, 49, 50, 51, 52, 53, 54, 55, 56, 57, 97, 98, 99, 100, 101, 102]⟩ : ByteArray).extract n.val (n.val + 1) = digS n.val := by decide +kernel
  exact this ⟨n, h⟩
theorem slice_hex {P : Program} {w : World} {n : Nat} (t : TypeId) (ht : P.underlying t = some .string) (h : n < 16) :
    (Instr.slice t (.string ⟨#[48, 49, 50, 51, 52, 53, 54, 55, 56, 57, 97, 98, 99, 100, 101, 102]⟩) (some (.int .u8 (n : Int))) (some (.int .u8 ((n : Int) + 1))) none).run P w = .ok (.string (digS n)) w := by
  rw [run_slice_string w t _ .u8 .u8 (n : Int) ((n : Int) + 1) ht (by omega) (by omega) (by show (n : Int) + 1 ≤ (16 : Nat); omega)]
  rw [Int.toNat_natCast, show ((n : Int) + 1).toNat = n + 1 by omega, digS_at n h]
theorem hex_round {bs : List UInt8} {k : Nat} (h : k < bs.length) : ∃ q r : Nat, q < 16 ∧ r < 16 ∧ IntKind.u8.wrap ((Mem.byt bs k).tdiv 16) = (q : Int) ∧ IntKind.u8.wrap ((q : Int) + 1) = (q : Int) + 1 ∧
    (Mem.byt bs k).tmod 16 = (r : Int) ∧ IntKind.u8.wrap ((r : Int) + 1) = (r : Int) + 1 ∧ hexS (bs.take (k + 1)) = hexS (bs.take k) ++ digS q ++ digS r := by
  have hx := Mem.byt_bd bs k
  refine ⟨(Mem.byt bs k / 16).toNat, (Mem.byt bs k % 16).toNat, by omega, by omega, ?_, ?_, ?_, ?_, ?_⟩
  · rw [Int.tdiv_eq_ediv_of_nonneg hx.1, IntKind.wrap_u8]; omega
  · rw [IntKind.wrap_u8]; omega
  · rw [Int.tmod_eq_emod_of_nonneg hx.1]; omega
  · rw [IntKind.wrap_u8]; omega
  · unfold hexS digS
    rw [hex_take h]
    apply ByteArray.ext
    simp [ByteArray.data_append]
theorem digI_yes {x : Int} (h : digB x = true) : digI x = digV x := by unfold digI; rw [if_pos h]
theorem digI_nil {x : Int} (h : digB x = false) : digI x = -1 := by unfold digI; rw [if_neg (by simp [h])]
theorem nib_byte {a b : Int} (h1 : 0 ≤ a) (h2 : a ≤ 15) (h3 : 0 ≤ b) (h4 : b ≤ 15) : 16 * a + b = ((UInt8.ofNat (16 * a + b).toNat).toNat : Int) := by
  rw [UInt8.toNat_ofNat', Nat.mod_eq_of_lt (by omega)]
  omega
def unhexA (l : List UInt8) : List UInt8 × Int := match unhex l with | some bs => (bs, 0) | none => ([], 4)
theorem unhex_hex (bs : List UInt8) : unhex (hex bs) = some bs := by
  induction bs with
  | nil => rfl
  | cons x r ih =>
    have h1 := dig_hexd (x.toNat / 16) (by have := x.toNat_lt; omega)
    have h2 := dig_hexd (x.toNat % 16) (by omega)
    simp only [hex, unhex, h1.1, h2.1, h1.2, h2.2, ih, Bool.and_self, if_true, Option.map_some]
    have e : (16 * ((x.toNat / 16 : Nat) : Int) + ((x.toNat % 16 : Nat) : Int)).toNat = x.toNat := by omega
    rw [e]
    simp
theorem hex_unhex : ∀ (l bs : List UInt8), unhex l = some bs → hex bs = l
  | [], bs, h => by simp [unhex] at h; subst h; rfl
  | [_], _, h => by simp [unhex] at h
  | p :: q :: r, bs, h => by
    simp only [unhex] at h
    split at h
    · rename_i hd
      simp only [Bool.and_eq_true] at hd
      obtain ⟨x, hx, rfl⟩ := Option.map_eq_some_iff.1 h
      have ih := hex_unhex r x hx
      have v1 := digV_bd hd.1
      have v2 := digV_bd hd.2
      have e : (UInt8.ofNat (16 * digV (p.toNat : Int) + digV (q.toNat : Int)).toNat).toNat = (16 * digV (p.toNat : Int) + digV (q.toNat : Int)).toNat := by
        rw [UInt8.toNat_ofNat', Nat.mod_eq_of_lt (by omega)]
      simp only [hex, e, ih]
      have e1 : (16 * digV (p.toNat : Int) + digV (q.toNat : Int)).toNat / 16 = (digV (p.toNat : Int)).toNat := by omega
      have e2 : (16 * digV (p.toNat : Int) + digV (q.toNat : Int)).toNat % 16 = (digV (q.toNat : Int)).toNat := by omega
      have f1 : hexd (digV (p.toNat : Int)).toNat = p := UInt8.toNat_inj.1 (by have := hexd_dig hd.1; omega)
      have f2 : hexd (digV (q.toNat : Int)).toNat = q := UInt8.toNat_inj.1 (by have := hexd_dig hd.2; omega)
      rw [e1, e2, f1, f2]
    · cases h
theorem unhex_length : ∀ (l bs : List UInt8), unhex l = some bs → bs.length ≤ l.length := fun l bs h => by
  have h1 := hex_unhex l bs h
  have h2 := hex_length bs
  rw [h1] at h2
  omega
end Oct
end Go.Proofs.YtpdnfdpoebhjoaaDoor
