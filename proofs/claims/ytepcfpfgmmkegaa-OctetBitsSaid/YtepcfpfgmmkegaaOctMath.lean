/-
  Plain arithmetic for package octet: the lowest bits of a number, with a sign or without. No program is named here.
-/
import Derived.Test.YtepcfpfgmmkegaaMem
import Derived.WalkKit
import Derived.Lib.EndianBits
namespace Go.Proofs.Ytepcfpfgmmkegaa
namespace Oct
open Go.RowKit

/-- The lowest b bits of n. -/
def low (n b : Int) : Int := n % 2 ^ b.toNat
/-- The lowest b bits of n, read with a sign. -/
def sgn (n b : Int) : Int := if 2 * low n b < 2 ^ b.toNat then low n b else low n b - 2 ^ b.toNat

theorem pow_pos (b : Nat) : (0 : Int) < 2 ^ b := Int.pow_pos (by decide)
theorem pow_le {a b : Nat} (h : a ≤ b) : (2 : Int) ^ a ≤ 2 ^ b := by exact_mod_cast Nat.pow_le_pow_right (by decide) h
theorem pow_64 {b : Int} (h : b ≤ 64) : (2 : Int) ^ b.toNat ≤ 18446744073709551616 := by
  have := pow_le (a := b.toNat) (b := 64) (by omega)
  exact this
theorem low_bd (n b : Int) : 0 ≤ low n b ∧ low n b < 2 ^ b.toNat := by
  have := pow_pos b.toNat
  exact ⟨Int.emod_nonneg _ (by omega), Int.emod_lt_of_pos _ this⟩
theorem low_u64 (n b : Int) (h : b ≤ 64) : 0 ≤ low n b ∧ low n b ≤ 18446744073709551615 := by
  have := low_bd n b
  have := pow_64 h
  omega
theorem mask_eq (b : Int) (h : b ≤ 64) : IntKind.u64.wrap (IntKind.u64.wrap (2 ^ b.toNat) - 1) = 2 ^ b.toNat - 1 := by
  have h1 := pow_pos b.toNat
  have h2 := pow_64 h
  rw [IntKind.wrap_u64, IntKind.wrap_u64]
  omega
theorem wraps64 (n : Int) (h0 : 0 ≤ n) (h1 : n < 2 ^ 64) : IntKind.u64.wrap n = n := by rw [IntKind.wrap_u64]; omega
theorem and_mask (n b : Int) (h0 : 0 ≤ n) (h1 : n ≤ 18446744073709551615) (h : b ≤ 64) : bits .and .u64 n (2 ^ b.toNat - 1) = low n b :=
  bits_mask .u64 64 (by decide) wraps64 b.toNat (by omega) n h0 (by omega)
theorem pow_half {b : Int} (h : 1 ≤ b) : (2 : Int) ^ b.toNat = 2 * 2 ^ (b.toNat - 1) := by
  obtain ⟨k, hk⟩ : ∃ k, b.toNat = k + 1 := ⟨b.toNat - 1, by omega⟩
  rw [hk, Int.pow_succ]
  simp [Int.mul_comm]
theorem top_no (n b : Int) (h : 1 ≤ b) (hs : 2 * low n b < 2 ^ b.toNat) : (low n b / 2 ^ (b.toNat - 1) == 1) = false := by
  have h1 := low_bd n b
  have h2 := pow_half h
  have h3 : low n b / 2 ^ (b.toNat - 1) = 0 := Int.ediv_eq_zero_of_lt h1.1 (by omega)
  rw [h3]; rfl
theorem top_yes (n b : Int) (h : 1 ≤ b) (hs : ¬ 2 * low n b < 2 ^ b.toNat) : (low n b / 2 ^ (b.toNat - 1) == 1) = true := by
  have h1 := low_bd n b
  have h2 := pow_half h
  have h0 := pow_pos (b.toNat - 1)
  have h3 : low n b / 2 ^ (b.toNat - 1) = 1 := by
    have a1 : 1 ≤ low n b / 2 ^ (b.toNat - 1) := (Int.le_ediv_iff_mul_le h0).2 (by omega)
    have a2 : low n b / 2 ^ (b.toNat - 1) < 2 := (Int.ediv_lt_iff_lt_mul h0).2 (by omega)
    omega
  rw [h3]; rfl
theorem sgn_no (n b : Int) (h : b ≤ 64) (hs : 2 * low n b < 2 ^ b.toNat) : wrap64 (low n b) = sgn n b := by
  have h1 := low_bd n b
  have h2 := pow_64 h
  unfold sgn
  rw [if_pos hs]
  unfold wrap64
  omega
theorem not_u64 (a : Nat) (ha : a < 18446744073709551616) : bits .xor .u64 IntKind.u64.max (a : Int) = 18446744073709551615 - (a : Int) := by
  have hm : IntKind.u64.max = ((18446744073709551615 : Nat) : Int) := by decide
  rw [hm, u64_xor_nat _ _ (by decide) ha]
  have h1 : (18446744073709551615 ^^^ a) = 18446744073709551615 - a := by
    have h2 : (BitVec.allOnes 64 ^^^ BitVec.ofNat 64 a).toNat = 2 ^ 64 - 1 - a := by
      rw [BitVec.allOnes_xor, BitVec.toNat_not, BitVec.toNat_ofNat, Nat.mod_eq_of_lt (by omega)]
    rw [BitVec.toNat_xor, BitVec.toNat_ofNat, Nat.mod_eq_of_lt (by omega)] at h2
    simpa using h2
  rw [h1]
  omega
theorem or_high (x b : Int) (h : b ≤ 64) (h0 : 0 ≤ x) (h1 : x < 2 ^ b.toNat) : bits .or .u64 x (bits .xor .u64 IntKind.u64.max (2 ^ b.toNat - 1)) = x + (18446744073709551616 - 2 ^ b.toNat) := by
  have h2 := pow_64 h
  have h3 := pow_pos b.toNat
  have hp : ((2 : Int) ^ b.toNat - 1) = ((2 ^ b.toNat - 1 : Nat) : Int) := by
    rw [Int.natCast_sub (Nat.two_pow_pos _)]; simp
  have hn := not_u64 (2 ^ b.toNat - 1) (by omega)
  rw [← hp] at hn
  rw [hn]
  have he : (18446744073709551615 - ((2 : Int) ^ b.toNat - 1)) = 18446744073709551616 - 2 ^ b.toNat := by omega
  rw [he]
  refine bits_join_low .u64 64 (by decide) wraps64 b.toNat x _ h0 h1 (by omega) (by omega) ?_ (by omega)
  have hd : ((2 : Int) ^ b.toNat) ∣ 18446744073709551616 := ⟨2 ^ (64 - b.toNat), by
    rw [← Int.pow_add, show b.toNat + (64 - b.toNat) = 64 by omega]; rfl⟩
  have := Int.dvd_sub hd (Int.dvd_refl ((2 : Int) ^ b.toNat))
  exact Int.emod_eq_zero_of_dvd this
theorem sgn_yes (n b : Int) (h : b ≤ 64) (hs : 2 ^ b.toNat ≤ 2 * low n b) :
    wrap64 (bits .or .u64 (low n b) (bits .xor .u64 IntKind.u64.max (2 ^ b.toNat - 1))) = sgn n b := by
  have h1 := low_bd n b
  have h2 := pow_64 h
  rw [or_high _ b h h1.1 h1.2]
  unfold sgn
  rw [if_neg (by omega)]
  unfold wrap64
  omega
theorem ret2i {k k' : IntKind} {a b c : Int} (h : a = b) : Ending.returned (.tuple #[.int k a, .int k' c]) = .returned (.tuple #[.int k b, .int k' c]) := by rw [h]
theorem reti {k : IntKind} {a b : Int} (h : a = b) : Ending.returned (.int k a) = .returned (.int k b) := by rw [h]
/-- What the document's loop keeps: n without its k lowest bits; its k lowest bits; 2^k as an unsigned number of 64 bits. -/
def shr (n : Int) (k : Nat) : Int := n / 2 ^ k
def lowN (n : Int) (k : Nat) : Int := n % 2 ^ k
def pw (k : Nat) : Int := 2 ^ k % 18446744073709551616
theorem shr_bd (n : Int) (k : Nat) (h0 : 0 ≤ n) (h1 : n ≤ 18446744073709551615) : 0 ≤ shr n k ∧ shr n k ≤ 18446744073709551615 := by
  have hp := pow_pos k
  refine ⟨Int.ediv_nonneg h0 (by omega), ?_⟩
  have := Int.ediv_le_self (2 ^ k) h0
  unfold shr
  omega
theorem shr_zero (n : Int) : shr n 0 = n := by simp [shr]
theorem shr_succ (n : Int) (k : Nat) : shr n k / 2 = shr n (k + 1) := by
  unfold shr
  rw [Int.ediv_ediv_of_nonneg (by have := pow_pos k; omega), Int.pow_succ]
theorem pow_63 {k : Nat} (h : k < 64) : (2 : Int) ^ k ≤ 9223372036854775808 := by
  have := pow_le (a := k) (b := 63) (by omega)
  exact this
theorem pw_lt (k : Nat) (h : k < 64) : pw k = 2 ^ k := by
  have h1 := pow_63 h
  have h2 := pow_pos k
  unfold pw
  omega
theorem pw_bd (k : Nat) : 0 ≤ pw k ∧ pw k ≤ 18446744073709551615 := by unfold pw; omega
theorem pw_succ (k : Nat) : IntKind.u64.wrap (pw k * 2) = pw (k + 1) := by
  rw [IntKind.wrap_u64]
  unfold pw
  rw [Int.pow_succ]
  omega
theorem lowN_bd (n : Int) (k : Nat) : 0 ≤ lowN n k ∧ lowN n k < 2 ^ k := by
  have := pow_pos k
  exact ⟨Int.emod_nonneg _ (by omega), Int.emod_lt_of_pos _ this⟩
theorem lowN_succ (n : Int) (k : Nat) : lowN n (k + 1) = lowN n k + (shr n k % 2) * 2 ^ k := by
  unfold lowN shr
  have h1 := Int.mul_ediv_add_emod n (2 ^ k)
  have h2 := Int.mul_ediv_add_emod n (2 ^ (k + 1))
  have h3 : n / 2 ^ (k + 1) = n / 2 ^ k / 2 := by
    rw [Int.ediv_ediv_of_nonneg (by have := pow_pos k; omega), Int.pow_succ]
  have h4 := Int.mul_ediv_add_emod (n / 2 ^ k) 2
  rw [h3, Int.pow_succ] at h2
  rw [Int.pow_succ]
  generalize n / 2 ^ k / 2 = q at *
  generalize n / 2 ^ k % 2 = r at *
  rw [← h4] at h1
  have h5 : (2 : Int) ^ k * (2 * q + r) = 2 ^ k * 2 * q + r * 2 ^ k := by
    rw [Int.mul_add, Int.mul_assoc, Int.mul_comm r]
  rw [h5] at h1
  omega
theorem vi {k : IntKind} {a b : Int} (h : a = b) : Value.int k a = Value.int k b := by rw [h]
theorem lowN_one (n : Int) (k : Nat) (hk : k < 64) (h : (shr n k % 2 == 1) = true) : IntKind.u64.wrap (lowN n k + pw k) = lowN n (k + 1) := by
  have h1 : shr n k % 2 = 1 := by simpa using h
  have h2 := lowN_bd n k
  have h3 := pow_63 hk
  rw [lowN_succ, h1, pw_lt k hk, IntKind.wrap_u64]
  omega
theorem lowN_nil (n : Int) (k : Nat) (h : (shr n k % 2 == 1) = false) : lowN n k = lowN n (k + 1) := by
  have h1 : shr n k % 2 = 0 := by
    have : ¬ shr n k % 2 = 1 := by simpa using h
    omega
  rw [lowN_succ, h1]
  simp
theorem low_of_lowN (n b : Int) (k : Nat) (h : b.toNat = k) : lowN n k = low n b := by subst h; rfl
theorem rsgn_no (n b : Int) (k : Nat) (h : b ≤ 64) (hk : b = (k : Int) + 1) (hs : low n b < pw k) : wrap64 (low n b) = sgn n b := by
  have h2 := pow_half (b := b) (by omega)
  rw [pw_lt k (by omega), show k = b.toNat - 1 by omega] at hs
  exact sgn_no n b h (by omega)
theorem rsgn_yes (n b : Int) (k : Nat) (h : b ≤ 64) (hk : b = (k : Int) + 1) (hs : pw k ≤ low n b) :
    wrap64 (IntKind.u64.wrap (low n b - pw k - pw k)) = sgn n b := by
  have h1 := low_bd n b
  have h2 := pow_half (b := b) (by omega)
  have h3 := pow_64 h
  rw [pw_lt k (by omega), show k = b.toNat - 1 by omega] at hs ⊢
  unfold sgn
  rw [if_neg (by omega), IntKind.wrap_u64]
  unfold wrap64
  omega
/-- The k lowest bytes of n, the lowest first. -/
def bytes (n : Int) (k : Nat) : List UInt8 := (List.range k).map fun j => UInt8.ofNat (n / 256 ^ j % 256).toNat
theorem bytes_length (n : Int) (k : Nat) : (bytes n k).length = k := by simp [bytes]
theorem bytes_succ (n : Int) (k : Nat) : bytes n (k + 1) = bytes n k ++ [UInt8.ofNat (n / 256 ^ k % 256).toNat] := by simp [bytes, List.range_succ]
theorem pow_256 (k : Nat) : (256 : Int) ^ k = 2 ^ (8 * k) := by rw [Int.pow_mul]; rfl
theorem byte_at (n : Int) (k : Nat) : n / 2 ^ (8 * k) % 256 = ((UInt8.ofNat (n / 256 ^ k % 256).toNat).toNat : Int) := by
  rw [← pow_256]
  have h0 := Int.emod_nonneg (n / 256 ^ k) (show (256 : Int) ≠ 0 by decide)
  have h1 := Int.emod_lt_of_pos (n / 256 ^ k) (show (0 : Int) < 256 by decide)
  generalize n / 256 ^ k % 256 = x at *
  rw [UInt8.toNat_ofNat', Nat.mod_eq_of_lt (by omega)]
  omega
theorem low_same (n wd : Int) (h1 : 1 ≤ wd) (h2 : wd ≤ 8) (h3 : 0 ≤ n) (h4 : n < 256 ^ wd.toNat) : low n (8 * wd) = n ∧ n ≤ 18446744073709551615 := by
  rw [pow_256, show 8 * wd.toNat = (8 * wd).toNat by omega] at h4
  have := pow_64 (b := 8 * wd) (by omega)
  exact ⟨Int.emod_eq_of_lt h3 h4, by omega⟩
theorem low_other (n wd : Int) (h1 : 1 ≤ wd) (h5 : 256 ^ wd.toNat ≤ n) : (low n (8 * wd) != n) = true := by
  rw [pow_256, show 8 * wd.toNat = (8 * wd).toNat by omega] at h5
  have := low_bd n (8 * wd)
  rw [bne_iff_ne]
  omega
/-- A digit's letter, and bytes in digits. -/
def hexd (n : Nat) : UInt8 := if n < 10 then UInt8.ofNat (48 + n) else UInt8.ofNat (87 + n)
def hex : List UInt8 → List UInt8
  | [] => []
  | x :: r => hexd (x.toNat / 16) :: hexd (x.toNat % 16) :: hex r
theorem hexd_at (n : Nat) (h : n < 16) (hs : n < (⟨#[48, 49, 50, 51, 52, 53, 54, 55, 56, 57, 97, 98, 99, 100, 101, 102]⟩ : ByteArray).size) :
    ((⟨#[48, 49, 50, 51, 52, 53, 54, 55, 56, 57, 97, 98, 99, 100, 101, 102]⟩ : ByteArray)[n]'hs).toNat = (hexd n).toNat := by
  have : ∀ n : Fin 16, ((⟨#[48, 49, 50, 51, 52, 53, 54, 55, 56, 57, 97, 98, 99, 100, 101, 102]⟩ : ByteArray)[n.val]'(n.isLt)).toNat = (hexd n.val).toNat := by decide +kernel
  exact this ⟨n, h⟩
theorem hex_append (a b : List UInt8) : hex (a ++ b) = hex a ++ hex b := by
  induction a with
  | nil => rfl
  | cons x a ih => simp [hex, ih]
theorem hex_length (a : List UInt8) : (hex a).length = 2 * a.length := by
  induction a with
  | nil => rfl
  | cons x a ih => simp [hex, ih]; omega
theorem byt_get {bs : List UInt8} {k : Nat} (h : k < bs.length) : Mem.byt bs k = ((bs[k].toNat : Nat) : Int) := by simp [Mem.byt, h]
theorem hex_take {bs : List UInt8} {k : Nat} (h : k < bs.length) : hex (bs.take (k + 1)) = hex (bs.take k) ++ [hexd (Mem.byt bs k / 16).toNat, hexd (Mem.byt bs k % 16).toNat] := by
  rw [List.take_succ_eq_append_getElem h, hex_append, byt_get h]
  simp only [hex]
  have e1 : ((bs[k].toNat : Int) / 16).toNat = bs[k].toNat / 16 := by omega
  have e2 : ((bs[k].toNat : Int) % 16).toNat = bs[k].toNat % 16 := by omega
  rw [e1, e2]
/-- Is a letter a digit, and which? -/
def digB (x : Int) : Bool := decide (48 ≤ x ∧ x ≤ 57) || decide (97 ≤ x ∧ x ≤ 102)
def digV (x : Int) : Int := if x ≤ 57 then x - 48 else x - 87
theorem digB_yes {x : Int} (h : digB x = true) : (48 ≤ x ∧ x ≤ 57 ∧ digV x = x - 48) ∨ (97 ≤ x ∧ x ≤ 102 ∧ digV x = x - 97 + 10) := by
  simp only [digB, Bool.or_eq_true, decide_eq_true_eq] at h
  unfold digV
  rcases h with h | h
  · exact .inl ⟨h.1, h.2, by rw [if_pos h.2]⟩
  · exact .inr ⟨h.1, h.2, by rw [if_neg (by omega)]; omega⟩
theorem digB_no {x : Int} (h : digB x = false) : ¬ (48 ≤ x ∧ x ≤ 57) ∧ ¬ (97 ≤ x ∧ x ≤ 102) := by
  simpa [digB] using h
/-- Digits as bytes: none if one is none, or if one is left over. -/
def unhex : List UInt8 → Option (List UInt8)
  | [] => some []
  | [_] => none
  | h :: l :: r => if digB h.toNat && digB l.toNat then (unhex r).map (UInt8.ofNat (16 * digV h.toNat + digV l.toNat).toNat :: ·) else none
theorem digV_bd {x : Int} (h : digB x = true) : 0 ≤ digV x ∧ digV x ≤ 15 := by
  rcases digB_yes h with ⟨h1, h2, h3⟩ | ⟨h1, h2, h3⟩ <;> omega
theorem unhex_append : ∀ (a b : List UInt8), a.length % 2 = 0 → unhex (a ++ b) = (unhex a).bind fun x => (unhex b).map (x ++ ·)
  | [], b, _ => by simp [unhex]
  | [_], _, h => by simp at h
  | p :: q :: r, b, h => by
    have ih := unhex_append r b (by simp at h; omega)
    simp only [List.cons_append, unhex, ih]
    split
    · cases unhex r <;> cases unhex b <;> simp
    · simp
theorem unhex_odd : ∀ (l : List UInt8), l.length % 2 = 1 → unhex l = none
  | [], h => by simp at h
  | [_], _ => rfl
  | p :: q :: r, h => by
    have ih := unhex_odd r (by simp at h; omega)
    simp [unhex, ih]
theorem unhex_split {l : List UInt8} {k : Nat} {bs : List UInt8} (hlt : 2 * k < l.length) (he : l.length % 2 = 0) (hu : unhex (l.take (2 * k)) = some bs) :
    ∃ p q r, l.drop (2 * k) = p :: q :: r ∧ Mem.byt l (2 * k) = (p.toNat : Int) ∧ Mem.byt l (2 * k + 1) = (q.toNat : Int) ∧ l.take (2 * (k + 1)) = l.take (2 * k) ++ [p, q] := by
  have h1 : 2 * k + 1 < l.length := by omega
  refine ⟨l[2 * k], l[2 * k + 1], l.drop (2 * k + 2), ?_, byt_get hlt, byt_get h1, ?_⟩
  · rw [List.drop_eq_getElem_cons hlt, List.drop_eq_getElem_cons h1]
  · rw [show 2 * (k + 1) = 2 * k + 1 + 1 by omega, List.take_succ_eq_append_getElem h1, List.take_succ_eq_append_getElem hlt, List.append_assoc]
    rfl
theorem unhex_step {l : List UInt8} {k : Nat} {bs : List UInt8} (hlt : 2 * k < l.length) (he : l.length % 2 = 0) (hu : unhex (l.take (2 * k)) = some bs)
    (h1 : digB (Mem.byt l (2 * k)) = true) (h2 : digB (Mem.byt l (2 * k + 1)) = true) :
    unhex (l.take (2 * (k + 1))) = some (bs ++ [UInt8.ofNat (16 * digV (Mem.byt l (2 * k)) + digV (Mem.byt l (2 * k + 1))).toNat]) := by
  obtain ⟨p, q, r, hd, hp, hq, ht⟩ := unhex_split hlt he hu
  rw [hp] at h1 ⊢
  rw [hq] at h2 ⊢
  rw [ht, unhex_append _ _ (by rw [List.length_take]; omega), hu]
  simp [unhex, h1, h2]
theorem unhex_stop {l : List UInt8} {k : Nat} {bs : List UInt8} (hlt : 2 * k < l.length) (he : l.length % 2 = 0) (hu : unhex (l.take (2 * k)) = some bs)
    (h : digB (Mem.byt l (2 * k)) = false ∨ digB (Mem.byt l (2 * k + 1)) = false) : unhex l = none := by
  obtain ⟨p, q, r, hd, hp, hq, ht⟩ := unhex_split hlt he hu
  rw [hp, hq] at h
  have hl : unhex l = unhex (l.take (2 * k) ++ l.drop (2 * k)) := by rw [List.take_append_drop]
  rw [hl, unhex_append _ _ (by rw [List.length_take]; omega), hu, hd]
  have : unhex (p :: q :: r) = none := by
    simp only [unhex]
    rw [if_neg]
    rcases h with h | h <;> simp [h]
  rw [this]
  rfl
theorem or_nib {a b : Int} (h1 : 0 ≤ a) (h2 : a ≤ 15) (h3 : 0 ≤ b) (h4 : b ≤ 15) : bits .or .u8 (a * 16) b = ((UInt8.ofNat (16 * a + b).toNat).toNat : Int) := by
  rw [bits_join .u8 8 (by decide) wraps_u8 4 (a * 16) b (by omega) (by omega) (by omega) h3 (by omega) (by omega)]
  rw [UInt8.toNat_ofNat', Nat.mod_eq_of_lt (by omega)]
  omega
/-- A number with a sign that wd bytes hold. -/
def fits (n wd : Int) : Prop := -(256 ^ wd.toNat) ≤ 2 * n ∧ 2 * n < 256 ^ wd.toNat
theorem low_wrap (n wd : Int) (h2 : wd ≤ 8) : low (n % 18446744073709551616) (8 * wd) = n % 2 ^ (8 * wd).toNat := by
  have hd : ((2 : Int) ^ (8 * wd).toNat) ∣ 18446744073709551616 := ⟨2 ^ (64 - (8 * wd).toNat), by
    rw [← Int.pow_add, show (8 * wd).toNat + (64 - (8 * wd).toNat) = 64 by omega]; rfl⟩
  exact Int.emod_emod_of_dvd n hd
theorem sgn_same (n wd : Int) (h1 : 1 ≤ wd) (h2 : wd ≤ 8) (h : fits n wd) : sgn (n % 18446744073709551616) (8 * wd) = n := by
  obtain ⟨ha, hb⟩ := h
  rw [pow_256, show 8 * wd.toNat = (8 * wd).toNat by omega] at ha hb
  unfold sgn
  rw [low_wrap n wd h2]
  have hp := pow_pos (8 * wd).toNat
  rcases Int.lt_or_le n 0 with h0 | h0
  · have e : n % 2 ^ (8 * wd).toNat = n + 2 ^ (8 * wd).toNat := by
      rw [← Int.add_emod_right, Int.emod_eq_of_lt (by omega) (by omega)]
    rw [e, if_neg (by omega)]
    omega
  · rw [Int.emod_eq_of_lt h0 (by omega), if_pos (by omega)]
theorem sgn_bd (n b : Int) : -(2 ^ b.toNat) ≤ 2 * sgn n b ∧ 2 * sgn n b < 2 ^ b.toNat := by
  have h := low_bd n b
  unfold sgn
  split <;> omega
theorem sgn_other (n wd : Int) (h1 : 1 ≤ wd) (h2 : wd ≤ 8) (h : ¬ fits n wd) : (sgn (n % 18446744073709551616) (8 * wd) != n) = true := by
  have hb := sgn_bd (n % 18446744073709551616) (8 * wd)
  rw [bne_iff_ne]
  intro e
  rw [e] at hb
  apply h
  unfold fits
  rw [pow_256, show 8 * wd.toNat = (8 * wd).toNat by omega]
  exact hb
theorem byte_wrap (n : Int) (j : Nat) (hj : j < 8) : n % 18446744073709551616 / 256 ^ j % 256 = n / 256 ^ j % 256 := by
  have h : ∀ P : Int, (0 < P) → ∀ q, 18446744073709551616 = 256 * P * q → n % 18446744073709551616 / P % 256 = n / P % 256 := by
    intro P hP q hq
    have e1 : n = n % 18446744073709551616 + P * (256 * q * (n / 18446744073709551616)) := by
      have := Int.mul_ediv_add_emod n 18446744073709551616
      have e2 : P * (256 * q * (n / 18446744073709551616)) = 18446744073709551616 * (n / 18446744073709551616) := by
        rw [hq]
        simp only [Int.mul_assoc, Int.mul_comm, Int.mul_left_comm]
      omega
    have e3 : n / P = n % 18446744073709551616 / P + 256 * q * (n / 18446744073709551616) := by
      conv => lhs; rw [e1]
      exact Int.add_mul_ediv_left _ _ (by omega)
    rw [e3, Int.mul_assoc, Int.add_mul_emod_self_left]
  refine h (256 ^ j) (Int.pow_pos (by decide)) (256 ^ (7 - j)) ?_
  rw [Int.mul_comm 256, ← Int.pow_succ, ← Int.pow_add, show j + 1 + (7 - j) = 8 by omega]
  rfl
theorem bytes_wrap (n : Int) (k : Nat) (hk : k ≤ 8) : bytes (n % 18446744073709551616) k = bytes n k := by
  unfold bytes
  apply List.map_congr_left
  intro j hj
  rw [byte_wrap n j (by have := List.mem_range.1 hj; omega)]
theorem wrap_bd (n : Int) : 0 ≤ IntKind.u64.wrap n ∧ IntKind.u64.wrap n ≤ 18446744073709551615 := by rw [IntKind.wrap_u64]; omega
theorem sgn_same' (n wd : Int) (h1 : 1 ≤ wd) (h2 : wd ≤ 8) (h : fits n wd) : sgn (IntKind.u64.wrap n) (8 * wd) = n := by rw [IntKind.wrap_u64]; exact sgn_same n wd h1 h2 h
theorem sgn_other' (n wd : Int) (h1 : 1 ≤ wd) (h2 : wd ≤ 8) (h : ¬ fits n wd) : (sgn (IntKind.u64.wrap n) (8 * wd) != n) = true := by rw [IntKind.wrap_u64]; exact sgn_other n wd h1 h2 h
theorem bytes_wrap' (n : Int) (k : Nat) (hk : k ≤ 8) : bytes (IntKind.u64.wrap n) k = bytes n k := by rw [IntKind.wrap_u64]; exact bytes_wrap n k hk
/-- The number whose bytes, the lowest first, stand at place a: k of them. -/
def num (bs : List UInt8) (a : Nat) : Nat → Int
  | 0 => 0
  | k + 1 => num bs a k + Mem.byt bs (a + k) * 2 ^ (8 * k)
theorem num_bd (bs : List UInt8) (a k : Nat) : 0 ≤ num bs a k ∧ num bs a k < 2 ^ (8 * k) := by
  induction k with
  | zero => simp [num]
  | succ k ih =>
    have hb := Mem.byt_bd bs (a + k)
    have hp := pow_pos (8 * k)
    have e : (2 : Int) ^ (8 * (k + 1)) = 256 * 2 ^ (8 * k) := by
      rw [show 8 * (k + 1) = 8 + 8 * k by omega, Int.pow_add]; rfl
    simp only [num]
    rw [e]
    have h1 : Mem.byt bs (a + k) * 2 ^ (8 * k) ≤ 255 * 2 ^ (8 * k) := Int.mul_le_mul_of_nonneg_right hb.2 (by omega)
    have h2 : 0 ≤ Mem.byt bs (a + k) * 2 ^ (8 * k) := Int.mul_nonneg hb.1 (by omega)
    omega
theorem pow_8 {k : Nat} (h : k < 8) : (2 : Int) ^ (8 * k) ≤ 72057594037927936 := by
  have := pow_le (a := 8 * k) (b := 56) (by omega)
  exact this
theorem num_step (bs : List UInt8) (a k : Nat) (hk : k < 8) : bits .or .u64 (num bs a k) (IntKind.u64.wrap (Mem.byt bs (a + k) * 2 ^ (8 * k))) = num bs a (k + 1) := by
  have hb := Mem.byt_bd bs (a + k)
  have hn := num_bd bs a k
  have hp := pow_pos (8 * k)
  have h8 := pow_8 hk
  have h1 : Mem.byt bs (a + k) * 2 ^ (8 * k) ≤ 255 * 2 ^ (8 * k) := Int.mul_le_mul_of_nonneg_right hb.2 (by omega)
  have h2 : 0 ≤ Mem.byt bs (a + k) * 2 ^ (8 * k) := Int.mul_nonneg hb.1 (by omega)
  rw [wraps64 _ h2 (by omega)]
  exact bits_join_low .u64 64 (by decide) wraps64 (8 * k) _ _ hn.1 hn.2 (by omega) h2 (Int.mul_emod_left _ _) (by omega)
theorem num_u64 (bs : List UInt8) (a k : Nat) (hk : k ≤ 8) : 0 ≤ num bs a k ∧ num bs a k ≤ 18446744073709551615 := by
  have hn := num_bd bs a k
  have := pow_le (a := 8 * k) (b := 64) (by omega)
  omega
theorem low_low (n b : Int) : low (low n b) b = low n b := Int.emod_emod_of_dvd n (Int.dvd_refl _)
theorem sgn_low (n b : Int) : sgn (low n b) b = sgn n b := by unfold sgn; rw [low_low]
theorem low_sgn (n b : Int) (h : b ≤ 64) : low (IntKind.u64.wrap (sgn n b)) b = low n b := by
  rw [IntKind.wrap_u64]
  have hd : ((2 : Int) ^ b.toNat) ∣ 18446744073709551616 := ⟨2 ^ (64 - b.toNat), by
    rw [← Int.pow_add, show b.toNat + (64 - b.toNat) = 64 by omega]; rfl⟩
  have h1 : low (sgn n b % 18446744073709551616) b = sgn n b % 2 ^ b.toNat := Int.emod_emod_of_dvd _ hd
  rw [h1]
  unfold sgn
  split
  · exact low_low n b
  · rw [Int.sub_emod_right]; exact low_low n b
end Oct
end Go.Proofs.Ytepcfpfgmmkegaa
