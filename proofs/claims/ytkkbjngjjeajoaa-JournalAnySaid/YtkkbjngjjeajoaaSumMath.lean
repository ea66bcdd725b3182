/-
  Plain arithmetic of the sum of 32 bits: the register as a number, one step as a linear map without a kernel, bytes as one number, and what follows: pieces, exclusive or, turned bits.
-/
import Derived.Test.YtkkbjngjjeajoaaOctMath
namespace Go.Proofs.Ytkkbjngjjeajoaa
namespace Sum

/-- What the register is exclusive-ored with. -/
def P : Nat := 3988292384
/-- All ones. -/
def M : Nat := 4294967295
/-- One step of the register, the bit already in it. -/
def L (x : Nat) : Nat := if x % 2 = 1 then (x / 2) ^^^ P else x / 2
def Ln (x : Nat) : Nat → Nat
  | 0 => x
  | k + 1 => L (Ln x k)

theorem xor4 (a b p : Nat) : (a ^^^ p) ^^^ (b ^^^ p) = a ^^^ b := by
  apply Nat.eq_of_testBit_eq
  intro i
  simp only [Nat.testBit_xor]
  cases a.testBit i <;> cases b.testBit i <;> cases p.testBit i <;> rfl
theorem xor22 (a b c d : Nat) : (a ^^^ b) ^^^ (c ^^^ d) = (a ^^^ c) ^^^ (b ^^^ d) := by
  apply Nat.eq_of_testBit_eq
  intro i
  simp only [Nat.testBit_xor]
  cases a.testBit i <;> cases b.testBit i <;> cases c.testBit i <;> cases d.testBit i <;> rfl
theorem xor_right (a b p : Nat) : (a ^^^ b) ^^^ p = (a ^^^ p) ^^^ b := by rw [Nat.xor_assoc, Nat.xor_comm b, ← Nat.xor_assoc]
theorem xor_back (a b : Nat) : a ^^^ (a ^^^ b) = b := by rw [← Nat.xor_assoc, Nat.xor_self, Nat.zero_xor]
theorem xor_zero_iff {a b : Nat} : a ^^^ b = 0 ↔ a = b := by
  constructor
  · intro h
    have := xor_back a b
    rw [h, Nat.xor_zero] at this
    exact this
  · intro h; subst h; exact Nat.xor_self _
theorem xor_inj {a b p : Nat} : a ^^^ p = b ^^^ p ↔ a = b := by
  constructor
  · intro h
    have h1 := xor4 a b p
    rw [h, Nat.xor_self] at h1
    exact xor_zero_iff.1 h1.symm
  · intro h; rw [h]
theorem xor_eq_iff {a b c : Nat} : a ^^^ b = c ↔ b = a ^^^ c := by
  constructor
  · intro h; rw [← h, xor_back]
  · intro h; rw [h, xor_back]

theorem L_xor (a b : Nat) : L (a ^^^ b) = L a ^^^ L b := by
  unfold L
  rw [Nat.xor_div_two]
  have h := @Nat.xor_mod_two_eq_one a b
  by_cases ha : a % 2 = 1 <;> by_cases hb : b % 2 = 1
  · rw [if_neg (by simp [h, ha, hb]), if_pos ha, if_pos hb, xor4]
  · rw [if_pos (by simp [h, ha, hb]), if_pos ha, if_neg hb, xor_right]
  · rw [if_pos (by simp [h, ha, hb]), if_neg ha, if_pos hb, Nat.xor_assoc]
  · rw [if_neg (by simp [h, ha, hb]), if_neg ha, if_neg hb]
theorem L_two (v : Nat) : L (2 * v) = v := by
  unfold L
  rw [if_neg (by omega)]
  omega
theorem L_nil : L 0 = 0 := rfl
theorem L_lt {x : Nat} (h : x < 4294967296) : L x < 4294967296 := by
  unfold L
  split
  · exact Nat.xor_lt_two_pow (n := 32) (by omega) (by decide)
  · omega
theorem L_zero {x : Nat} (h : x < 4294967296) (h0 : L x = 0) : x = 0 := by
  unfold L at h0
  split at h0
  · have h1 := xor_zero_iff.1 h0
    have h2 : P = 3988292384 := rfl
    omega
  · omega
theorem Ln_xor (a b k : Nat) : Ln (a ^^^ b) k = Ln a k ^^^ Ln b k := by
  induction k with
  | zero => rfl
  | succ k ih => simp only [Ln]; rw [ih, L_xor]
theorem Ln_nil (k : Nat) : Ln 0 k = 0 := by
  induction k with
  | zero => rfl
  | succ k ih => simp only [Ln]; rw [ih, L_nil]
theorem Ln_lt {x : Nat} (k : Nat) (h : x < 4294967296) : Ln x k < 4294967296 := by
  induction k with
  | zero => exact h
  | succ k ih => exact L_lt ih
theorem Ln_zero {x : Nat} {k : Nat} (h : x < 4294967296) (h0 : Ln x k = 0) : x = 0 := by
  induction k with
  | zero => exact h0
  | succ k ih => exact ih (L_zero (Ln_lt k h) h0)
theorem Ln_add (x a b : Nat) : Ln x (a + b) = Ln (Ln x a) b := by
  induction b with
  | zero => rfl
  | succ b ih => show L (Ln x (a + b)) = L (Ln (Ln x a) b); rw [ih]
theorem Ln_pow (k v : Nat) : Ln (2 ^ k * v) k = v := by
  induction k generalizing v with
  | zero => simp [Ln]
  | succ k ih =>
    show L (Ln (2 ^ (k + 1) * v) k) = v
    rw [Nat.pow_succ, Nat.mul_assoc, ih, L_two]

theorem add_xor {i a b : Nat} (h : b < 2 ^ i) : b + 2 ^ i * a = b ^^^ 2 ^ i * a := by
  apply Nat.eq_of_testBit_eq
  intro j
  rw [Nat.add_comm, Nat.testBit_two_pow_mul_add a h, Nat.testBit_xor, Nat.testBit_two_pow_mul]
  by_cases hj : j < i
  · rw [if_pos hj, show decide (j ≥ i) = false by simp; omega]; simp
  · rw [if_neg hj, show decide (j ≥ i) = true by simp; omega, Nat.testBit_lt_two_pow (Nat.lt_of_lt_of_le h (Nat.pow_le_pow_right (by decide) (by omega)))]; simp
theorem mod_succ (c k : Nat) : c % 2 ^ (k + 1) = c % 2 ^ k ^^^ 2 ^ k * (c / 2 ^ k % 2) := by
  rw [Nat.mod_pow_succ]
  exact add_xor (Nat.mod_lt _ (Nat.two_pow_pos k))
theorem pow_mul_xor (k a b : Nat) : 2 ^ k * (a ^^^ b) = 2 ^ k * a ^^^ 2 ^ k * b := by
  have h := @Nat.shiftLeft_xor_distrib k a b
  simp only [Nat.shiftLeft_eq] at h
  rw [Nat.mul_comm, h, Nat.mul_comm a, Nat.mul_comm b]

/-- A bit is taken. -/
def tk (r b : Nat) : Nat := if r % 2 = b % 2 then r / 2 else (r / 2) ^^^ P
theorem tk_eq (r b : Nat) (hb : b < 2) : tk r b = L (r ^^^ b) := by
  unfold tk L
  have h := @Nat.xor_mod_two_eq_one r b
  have h2 : (r ^^^ b) / 2 = r / 2 := by
    rw [Nat.xor_div_two, show b / 2 = 0 by omega, Nat.xor_zero]
  rw [h2]
  by_cases hr : r % 2 = 1 <;> by_cases hb1 : b % 2 = 1
  · rw [if_pos (by omega), if_neg (by simp [h, hr, hb1])]
  · rw [if_neg (by omega), if_pos (by simp [h, hr, hb1])]
  · rw [if_neg (by omega), if_pos (by simp [h, hr, hb1])]
  · rw [if_pos (by omega), if_neg (by simp [h, hr, hb1])]
theorem i64_xor_nat (a b : Nat) (ha : a < 9223372036854775808) (hb : b < 9223372036854775808) : bits .xor .i64 (a : Int) (b : Int) = ((a ^^^ b : Nat) : Int) := by
  have hx : a ^^^ b < 2 ^ 63 := Nat.xor_lt_two_pow (by omega) (by omega)
  have h1 : (BitVec.ofInt 64 (a : Int)).toNat = a := by rw [BitVec.ofInt_natCast, BitVec.toNat_ofNat]; exact Nat.mod_eq_of_lt (by omega)
  have h2 : (BitVec.ofInt 64 (b : Int)).toNat = b := by rw [BitVec.ofInt_natCast, BitVec.toNat_ofNat]; exact Nat.mod_eq_of_lt (by omega)
  show IntKind.i64.wrap ((BitVec.ofInt 64 (a : Int) ^^^ BitVec.ofInt 64 (b : Int)).toNat : Int) = _
  rw [BitVec.toNat_xor, h1, h2, IntKind.wrap_i64]
  omega
theorem rsel_yes {T X : Nat} (hT : T < 4294967296) (h : (((T : Nat) : Int) % 2 != ((X : Nat) : Int) % 2) = true) : bits .xor .i64 ((T : Int) / 2) 3988292384 = ((tk T (X % 2) : Nat) : Int) := by
  have h1 : ¬ T % 2 = X % 2 % 2 := by
    intro e
    have : ((T : Nat) : Int) % 2 = ((X : Nat) : Int) % 2 := by omega
    rw [this] at h
    simp at h
  unfold tk
  rw [if_neg h1, show ((T : Int) / 2) = ((T / 2 : Nat) : Int) by omega, show (3988292384 : Int) = ((P : Nat) : Int) from rfl, i64_xor_nat _ _ (by omega) (by decide)]
theorem rsel_no {T X : Nat} (h : (((T : Nat) : Int) % 2 != ((X : Nat) : Int) % 2) = false) : (T : Int) / 2 = ((tk T (X % 2) : Nat) : Int) := by
  have h1 : T % 2 = X % 2 % 2 := by
    have : ((T : Nat) : Int) % 2 = ((X : Nat) : Int) % 2 := by simpa using h
    omega
  unfold tk
  rw [if_pos h1]
  omega
theorem half_pow (x j : Nat) : ((x / 2 ^ j : Nat) : Int) / 2 = ((x / 2 ^ (j + 1) : Nat) : Int) := by
  rw [Nat.pow_succ, ← Nat.div_div_eq_div_mul]
  omega
theorem and_one {r : Nat} (h : r < 4294967296) : bits .and .u32 (r : Int) 1 = ((r % 2 : Nat) : Int) := by
  rw [show (1 : Int) = ((1 : Nat) : Int) from rfl, u32_and_nat r 1 h (by decide), Nat.and_one_is_mod]
theorem bit_at {x : Int} (h0 : 0 ≤ x) (h1 : x ≤ 255) (j : Nat) : bits .and .u32 (x / 2 ^ j) 1 = ((x.toNat / 2 ^ j % 2 : Nat) : Int) := by
  obtain ⟨n, rfl⟩ := Int.eq_ofNat_of_zero_le h0
  rw [show ((n : Int) / 2 ^ j) = ((n / 2 ^ j : Nat) : Int) by simp, and_one, Int.toNat_natCast]
  exact Nat.lt_of_le_of_lt (Nat.div_le_self _ _) (by omega)
theorem xor_bit {a b : Nat} (ha : a < 2) (hb : b < 2) : bits .xor .u32 (a : Int) (b : Int) = if a = b then 0 else 1 := by
  rw [u32_xor_nat a b (by omega) (by omega)]
  have h1 : a = 0 ∨ a = 1 := by omega
  have h2 : b = 0 ∨ b = 1 := by omega
  rcases h1 with rfl | rfl <;> rcases h2 with rfl | rfl <;> rfl
theorem sel (r b : Nat) (hr : r < 4294967296) (hb : b < 2) : (bits .xor .u32 (bits .and .u32 (r : Int) 1) (b : Int) == 1) = !decide (r % 2 = b % 2) := by
  rw [and_one hr, xor_bit (by omega) hb, show b % 2 = b by omega]
  by_cases h : r % 2 = b <;> simp [h]
theorem sel_yes {r b : Nat} (hr : r < 4294967296) (hb : b < 2) (h : (bits .xor .u32 (bits .and .u32 (r : Int) 1) (b : Int) == 1) = true) : bits .xor .u32 ((r : Int) / 2) 3988292384 = ((tk r b : Nat) : Int) := by
  rw [sel r b hr hb] at h
  have h1 : ¬ r % 2 = b % 2 := by simpa using h
  unfold tk
  rw [if_neg h1, show ((r : Int) / 2) = ((r / 2 : Nat) : Int) by omega, show (3988292384 : Int) = ((P : Nat) : Int) from rfl, u32_xor_nat _ _ (by omega) (by decide)]
theorem sel_no {r b : Nat} (hr : r < 4294967296) (hb : b < 2) (h : (bits .xor .u32 (bits .and .u32 (r : Int) 1) (b : Int) == 1) = false) : (r : Int) / 2 = ((tk r b : Nat) : Int) := by
  rw [sel r b hr hb] at h
  have h1 : r % 2 = b % 2 := by simpa using h
  unfold tk
  rw [if_pos h1]
  omega
/-- The first bits of a number are taken, the lowest first. -/
def tkn (r c : Nat) : Nat → Nat
  | 0 => r
  | k + 1 => tk (tkn r c k) (c / 2 ^ k % 2)
theorem tkn_eq (r c k : Nat) : tkn r c k = Ln (r ^^^ c % 2 ^ k) k := by
  induction k with
  | zero => simp [tkn, Ln, Nat.mod_one]
  | succ k ih =>
    simp only [tkn, Ln]
    rw [tk_eq _ _ (by omega), ih, mod_succ, ← Nat.xor_assoc, Ln_xor (r ^^^ c % 2 ^ k), Ln_pow]
theorem tk_lt {r : Nat} (b : Nat) (h : r < 4294967296) : tk r b < 4294967296 := by
  unfold tk
  split
  · omega
  · exact Nat.xor_lt_two_pow (n := 32) (by omega) (by decide)
theorem tkn_lt {r : Nat} (c k : Nat) (h : r < 4294967296) : tkn r c k < 4294967296 := by
  induction k with
  | zero => exact h
  | succ k ih => exact tk_lt _ ih
/-- A byte is taken. -/
def tk8 (r c : Nat) : Nat := tkn r c 8
theorem tk8_lt {r : Nat} (c : Nat) (h : r < 4294967296) : tk8 r c < 4294967296 := by unfold tk8; exact tkn_lt c 8 h
theorem tk8_eq (r c : Nat) : tk8 r c = Ln (r ^^^ c % 2 ^ 8) 8 := by unfold tk8; exact tkn_eq r c 8
/-- Bytes are taken. -/
def crc (r : Nat) (bs : List UInt8) : Nat := bs.foldl (fun x c => tk8 x c.toNat) r
theorem crc_nil (r : Nat) : crc r [] = r := by unfold crc; rw [List.foldl_nil]
theorem crc_cons (r : Nat) (c : UInt8) (cs : List UInt8) : crc r (c :: cs) = crc (tk8 r c.toNat) cs := by unfold crc; rw [List.foldl_cons]
theorem crc_one (r : Nat) (c : UInt8) : crc r [c] = tk8 r c.toNat := by rw [crc_cons, crc_nil]
theorem crc_append (r : Nat) (a b : List UInt8) : crc r (a ++ b) = crc (crc r a) b := by simp [crc, List.foldl_append]
theorem crc_lt {r : Nat} (bs : List UInt8) (h : r < 4294967296) : crc r bs < 4294967296 := by
  induction bs generalizing r with
  | nil => exact h
  | cons c cs ih => rw [crc_cons]; exact ih (tk8_lt _ h)
theorem crc_take (r : Nat) {bs : List UInt8} {k : Nat} (h : k < bs.length) : crc r (bs.take (k + 1)) = tk8 (crc r (bs.take k)) (Mem.byt bs k).toNat := by
  have e : (Mem.byt bs k).toNat = bs[k].toNat := by simp [Mem.byt, h]
  have e2 := congrArg (crc r) (List.take_succ_eq_append_getElem h)
  rw [crc_append, crc_one] at e2
  rw [e]
  exact e2

/-- Bytes as one number, the lowest first. -/
def val : List UInt8 → Nat
  | [] => 0
  | c :: cs => c.toNat + 256 * val cs
theorem val_lt (bs : List UInt8) : val bs < 2 ^ (8 * bs.length) := by
  induction bs with
  | nil => simp [val]
  | cons c cs ih =>
    have h1 := c.toNat_lt
    have h2 : 2 ^ (8 * (cs.length + 1)) = 256 * 2 ^ (8 * cs.length) := by rw [Nat.mul_add, Nat.pow_add, Nat.mul_comm]
    simp only [val, List.length_cons]
    rw [h2]
    omega
theorem val_append (a b : List UInt8) : val (a ++ b) = val a + 2 ^ (8 * a.length) * val b := by
  induction a with
  | nil => simp [val]
  | cons c cs ih =>
    have h2 : 2 ^ (8 * (cs.length + 1)) = 256 * 2 ^ (8 * cs.length) := by rw [Nat.mul_add, Nat.pow_add, Nat.mul_comm]
    simp only [List.cons_append, val, List.length_cons]
    rw [ih, h2, Nat.mul_assoc, Nat.mul_add, Nat.add_assoc]
theorem val_inj : ∀ (a b : List UInt8), a.length = b.length → val a = val b → a = b
  | [], [], _, _ => rfl
  | [], _ :: _, h, _ => by simp at h
  | _ :: _, [], h, _ => by simp at h
  | x :: xs, y :: ys, h, hv => by
    simp only [val] at hv
    have h1 := x.toNat_lt
    have h2 := y.toNat_lt
    have e1 : x.toNat = y.toNat := by omega
    have e2 : val xs = val ys := by omega
    rw [UInt8.toNat_inj.1 e1, val_inj xs ys (by simpa using h) e2]
theorem crc_eq (r : Nat) (bs : List UInt8) : crc r bs = Ln (r ^^^ val bs) (8 * bs.length) := by
  induction bs generalizing r with
  | nil => rw [crc_nil]; simp only [val, Nat.xor_zero, List.length_nil, Nat.mul_zero, Ln]
  | cons c cs ih =>
    have h1 := c.toNat_lt
    rw [crc_cons]
    simp only [val, List.length_cons]
    have e1 : c.toNat + 256 * val cs = c.toNat ^^^ 2 ^ 8 * val cs := add_xor (i := 8) (by omega)
    have e2 : tk8 r c.toNat = Ln (r ^^^ c.toNat) 8 := by rw [tk8_eq, Nat.mod_eq_of_lt (by omega)]
    have e3 : 8 * (cs.length + 1) = 8 + 8 * cs.length := by omega
    rw [ih, e2, e1, e3, Ln_add, ← Nat.xor_assoc, Ln_xor (r ^^^ c.toNat), Ln_pow]

/-- The exclusive or of bytes. -/
def zip (a b : List UInt8) : List UInt8 := List.zipWith (fun x y => x ^^^ y) a b
theorem val_zip : ∀ (a b : List UInt8), a.length = b.length → val (zip a b) = val a ^^^ val b
  | [], [], _ => rfl
  | [], _ :: _, h => by simp at h
  | _ :: _, [], h => by simp at h
  | x :: xs, y :: ys, h => by
    have ih := val_zip xs ys (by simpa using h)
    have h1 := x.toNat_lt
    have h2 := y.toNat_lt
    have h3 : (x ^^^ y).toNat = x.toNat ^^^ y.toNat := UInt8.toNat_xor x y
    have h4 : x.toNat ^^^ y.toNat < 2 ^ 8 := Nat.xor_lt_two_pow (by omega) (by omega)
    show (x ^^^ y).toNat + 2 ^ 8 * val (zip xs ys) = (x.toNat + 2 ^ 8 * val xs) ^^^ (y.toNat + 2 ^ 8 * val ys)
    rw [h3, add_xor h4, add_xor (i := 8) (by omega), add_xor (i := 8) (by omega), ih, pow_mul_xor, xor22]
theorem zip_length {a b : List UInt8} (h : a.length = b.length) : (zip a b).length = a.length := by simp [zip, h]
theorem crc_zip (r s : Nat) (a b : List UInt8) (h : a.length = b.length) : crc (r ^^^ s) (zip a b) = crc r a ^^^ crc s b := by
  rw [crc_eq, crc_eq, crc_eq, val_zip a b h, zip_length h, xor22, Ln_xor, h]
theorem crc_inj {r s : Nat} (bs : List UInt8) (hr : r < 4294967296) (hs : s < 4294967296) : crc r bs = crc s bs ↔ r = s := by
  constructor
  · intro h
    rw [crc_eq, crc_eq, Ln_xor, Ln_xor, xor_inj] at h
    have h1 : Ln (r ^^^ s) (8 * bs.length) = 0 := by rw [Ln_xor, h, Nat.xor_self]
    exact xor_zero_iff.1 (Ln_zero (Nat.xor_lt_two_pow (n := 32) hr hs) h1)
  · intro h; rw [h]

/-- A sum that goes on. -/
def on (s : Nat) (bs : List UInt8) : Nat := M ^^^ crc (M ^^^ s) bs
theorem M_lt : M < 4294967296 := by decide
theorem flip_lt {s : Nat} (h : s < 4294967296) : M ^^^ s < 4294967296 := Nat.xor_lt_two_pow (n := 32) M_lt h
theorem flip_sub {s : Nat} (h : s < 4294967296) : M ^^^ s = 4294967295 - s := by
  have h2 : (BitVec.allOnes 32 ^^^ BitVec.ofNat 32 s).toNat = 2 ^ 32 - 1 - s := by
    rw [BitVec.allOnes_xor, BitVec.toNat_not, BitVec.toNat_ofNat, Nat.mod_eq_of_lt (by omega)]
  rw [BitVec.toNat_xor, BitVec.toNat_ofNat, Nat.mod_eq_of_lt (by omega)] at h2
  simpa [M] using h2
theorem on_lt {s : Nat} (bs : List UInt8) (h : s < 4294967296) : on s bs < 4294967296 := flip_lt (crc_lt bs (flip_lt h))
theorem on_on (s : Nat) (a b : List UInt8) : on (on s a) b = on s (a ++ b) := by
  unfold on
  rw [xor_back, crc_append]
theorem on_inj {r s : Nat} (bs : List UInt8) (hr : r < 4294967296) (hs : s < 4294967296) : on r bs = on s bs ↔ r = s := by
  unfold on
  rw [Nat.xor_comm M, Nat.xor_comm M (crc (M ^^^ s) bs), xor_inj, crc_inj _ (flip_lt hr) (flip_lt hs), Nat.xor_comm M, Nat.xor_comm M s, xor_inj]
theorem on_three (a b c : List UInt8) (hb : a.length = b.length) (hc : a.length = c.length) : on 0 (zip (zip a b) c) = on 0 a ^^^ on 0 b ^^^ on 0 c := by
  have h := crc_zip (M ^^^ M) M (zip a b) c (by rw [zip_length hb]; exact hc)
  have h2 := crc_zip M M a b hb
  unfold on
  rw [Nat.xor_zero, show M = (M ^^^ M) ^^^ M by rw [Nat.xor_self, Nat.zero_xor], h, h2]
  apply Nat.eq_of_testBit_eq
  intro i
  simp only [Nat.testBit_xor]
  simp only [Nat.xor_self, Nat.zero_xor]
  cases M.testBit i <;> cases (crc M a).testBit i <;> cases (crc M b).testBit i <;> cases (crc M c).testBit i <;> rfl

/-- What Open answers. -/
def openA (bs : List UInt8) : List UInt8 × Int :=
  if bs.length < 4 then ([], 2) else if val (bs.drop (bs.length - 4)) = on 0 (bs.take (bs.length - 4)) then (bs.take (bs.length - 4), 0) else ([], 5)
/-- What Seal answers. -/
def seal_ (bs : List UInt8) : List UInt8 := bs ++ Oct.bytes (on 0 bs : Nat) 4
theorem num_val (bs : List UInt8) (a k : Nat) (h : a + k ≤ bs.length) : Oct.num bs a k = ((val ((bs.drop a).take k) : Nat) : Int) := by
  induction k with
  | zero => simp [Oct.num, val]
  | succ k ih =>
    have hk : k < (bs.drop a).length := by simp; omega
    have hb : Mem.byt bs (a + k) = ((((bs.drop a)[k]'hk).toNat : Nat) : Int) := by
      have : a + k < bs.length := by omega
      simp [Mem.byt, this]
    simp only [Oct.num]
    rw [List.take_succ_eq_append_getElem hk, val_append, ih (by omega), hb, List.length_take, Nat.min_eq_left (by omega)]
    simp [val]
    rw [Int.mul_comm]
theorem val_bytes (n k : Nat) : val (Oct.bytes n k) = n % 256 ^ k := by
  induction k with
  | zero => simp [Oct.bytes, val, Nat.mod_one]
  | succ k ih =>
    rw [Oct.bytes_succ, val_append, ih, Oct.bytes_length, Nat.mod_pow_succ]
    have e1 : ((n : Int) / 256 ^ k % 256).toNat = n / 256 ^ k % 256 := by
      rw [show ((n : Int) / 256 ^ k % 256) = ((n / 256 ^ k % 256 : Nat) : Int) by simp]
      exact Int.toNat_natCast _
    have e2 : (UInt8.ofNat (n / 256 ^ k % 256)).toNat = n / 256 ^ k % 256 := by
      rw [UInt8.toNat_ofNat', Nat.mod_eq_of_lt (by omega)]
    simp only [val, e1, e2]
    rw [Nat.mul_zero, Nat.add_zero, show 2 ^ (8 * k) = 256 ^ k by rw [Nat.pow_mul]]
theorem seal_length (bs : List UInt8) : (seal_ bs).length = bs.length + 4 := by simp [seal_, Oct.bytes_length]
theorem open_seal (bs : List UInt8) : openA (seal_ bs) = (bs, 0) := by
  have h := seal_length bs
  have ht : (seal_ bs).take bs.length = bs := by simp [seal_]
  have hd : (seal_ bs).drop bs.length = Oct.bytes (on 0 bs : Nat) 4 := by simp [seal_]
  have hv := val_bytes (on 0 bs) 4
  rw [Nat.mod_eq_of_lt (on_lt bs (by decide))] at hv
  unfold openA
  rw [if_neg (by omega), h, Nat.add_sub_cancel, ht, hd, if_pos hv]
/-- The last four bytes are the sum just if what is sealed anew is the same. -/
theorem open_iff {bs : List UInt8} (h : 4 ≤ bs.length) : val (bs.drop (bs.length - 4)) = on 0 (bs.take (bs.length - 4)) ↔ seal_ (bs.take (bs.length - 4)) = bs := by
  have hl := val_bytes (on 0 (bs.take (bs.length - 4))) 4
  rw [Nat.mod_eq_of_lt (on_lt _ (by decide))] at hl
  have hc := List.take_append_drop (bs.length - 4) bs
  constructor
  · intro e
    have : Oct.bytes (on 0 (bs.take (bs.length - 4)) : Nat) 4 = bs.drop (bs.length - 4) :=
      val_inj _ _ (by simp [Oct.bytes_length]; omega) (by rw [hl, e])
    unfold seal_
    rw [this, hc]
  · intro e
    have e2 : bs.take (bs.length - 4) ++ Oct.bytes (on 0 (bs.take (bs.length - 4)) : Nat) 4 = bs.take (bs.length - 4) ++ bs.drop (bs.length - 4) := by
      rw [hc]; exact e
    rw [← List.append_cancel_left e2, hl]

/-- The sum of all but the last four bytes against these, as one number that is linear in the bytes. -/
theorem open_chk {bs : List UInt8} : val (bs.drop (bs.length - 4)) = on 0 (bs.take (bs.length - 4)) ↔ Ln (M ^^^ val bs) (8 * (bs.length - 4)) = M := by
  have hl : (bs.take (bs.length - 4)).length = bs.length - 4 := by simp
  have e : val bs = val (bs.take (bs.length - 4)) ^^^ 2 ^ (8 * (bs.length - 4)) * val (bs.drop (bs.length - 4)) := by
    have h1 := val_lt (bs.take (bs.length - 4))
    rw [hl] at h1
    have h2 := val_append (bs.take (bs.length - 4)) (bs.drop (bs.length - 4))
    rw [List.take_append_drop, hl] at h2
    rw [h2, add_xor h1]
  have hc := crc_eq M (bs.take (bs.length - 4))
  rw [hl] at hc
  rw [e, ← Nat.xor_assoc, Ln_xor (M ^^^ _), Ln_pow, ← hc]
  unfold on
  rw [Nat.xor_zero, xor_eq_iff, Nat.xor_comm (crc M _)]
theorem xor_pow_ne {k m v : Nat} (hv : v < 4294967296) (h0 : v ≠ 0) : Ln (2 ^ k * v) m ≠ 0 := by
  intro h
  by_cases hk : k ≤ m
  · rw [show m = k + (m - k) by omega, Ln_add, Ln_pow] at h
    exact h0 (Ln_zero hv h)
  · rw [show k = m + (k - m) by omega, Nat.pow_add, Nat.mul_assoc, Ln_pow] at h
    rcases Nat.mul_eq_zero.1 h with h1 | h1
    · have := Nat.two_pow_pos (k - m)
      omega
    · exact h0 h1
/-- Bits turned within 32 that follow one another are found. -/
theorem open_turned {bs bs' : List UInt8} {k v : Nat} (hl : bs'.length = (seal_ bs).length) (hv : val bs' = val (seal_ bs) ^^^ 2 ^ k * v) (h : v < 4294967296) (h0 : v ≠ 0) : openA bs' = ([], 5) := by
  have hs := seal_length bs
  have h1 := open_seal bs
  unfold openA at h1 ⊢
  rw [if_neg (by omega)] at h1 ⊢
  have h2 : val ((seal_ bs).drop ((seal_ bs).length - 4)) = on 0 ((seal_ bs).take ((seal_ bs).length - 4)) := by
    refine Decidable.byContradiction fun h3 => ?_
    rw [if_neg h3] at h1
    exact absurd (congrArg Prod.snd h1) (show ¬ (5 : Int) = 0 by decide)
  rw [open_chk] at h2
  rw [if_neg]
  rw [open_chk, hl, hv, ← Nat.xor_assoc, Ln_xor (M ^^^ _), h2]
  intro h3
  rw [xor_eq_iff, Nat.xor_self] at h3
  exact xor_pow_ne h h0 h3
theorem val_set (bs : List UInt8) (j : Nat) (h : j < bs.length) (y : Nat) (hy : y < 256) : val (bs.set j (bs[j] ^^^ UInt8.ofNat y)) = val bs ^^^ 2 ^ (8 * j) * y := by
  induction bs generalizing j with
  | nil => simp at h
  | cons c cs ih =>
    have h1 := c.toNat_lt
    have hc : (c ^^^ UInt8.ofNat y).toNat = c.toNat ^^^ y := by
      rw [UInt8.toNat_xor, UInt8.toNat_ofNat', Nat.mod_eq_of_lt (by omega)]
    cases j with
    | zero =>
      simp only [List.set_cons_zero, List.getElem_cons_zero, val, hc, Nat.mul_zero, Nat.pow_zero, Nat.one_mul]
      have h4 : c.toNat ^^^ y < 2 ^ 8 := Nat.xor_lt_two_pow (by omega) (by omega)
      rw [show (256 : Nat) = 2 ^ 8 from rfl, add_xor h4, add_xor (i := 8) (by omega), xor_right]
    | succ j =>
      have hj : j < cs.length := by simpa using h
      simp only [List.set_cons_succ, List.getElem_cons_succ, val]
      rw [ih j hj, show (256 : Nat) = 2 ^ 8 from rfl, add_xor (i := 8) (by omega), add_xor (i := 8) (by omega), pow_mul_xor, ← Nat.xor_assoc, ← Nat.mul_assoc, ← Nat.pow_add,
        show 8 + 8 * j = 8 * (j + 1) by omega]
end Sum
end Go.Proofs.Ytkkbjngjjeajoaa
