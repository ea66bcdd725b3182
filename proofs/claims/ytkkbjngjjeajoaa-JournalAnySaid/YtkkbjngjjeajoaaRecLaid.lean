/-
  A record's bytes among others: what is read of them, and that what is read has just these bytes. No program is named here.
-/
import Derived.Test.YtkkbjngjjeajoaaRecMath
namespace Go.Proofs.Ytkkbjngjjeajoaa
namespace Rec
open Go.RowKit Mem

theorem num_mid (pre post : List UInt8) (n : Int) (k a : Nat) (ha : a = pre.length) (h0 : 0 ≤ n) (h : n < 2 ^ (8 * k)) : Oct.num (pre ++ (Oct.bytes n k ++ post)) a k = n := by
  subst ha
  rw [← List.append_assoc, Oct.num_bytes n pre post k k (Nat.le_refl _)]
  exact Int.emod_eq_of_lt h0 h
theorem bytes_val (x : List UInt8) : Oct.bytes ((Sum.val x : Nat) : Int) x.length = x := by
  refine Sum.val_inj _ _ (by rw [Oct.bytes_length]) ?_
  rw [Sum.val_bytes]
  refine Nat.mod_eq_of_lt ?_
  have := Sum.val_lt x
  rwa [Nat.pow_mul, show (2 ^ 8 : Nat) = 256 from rfl] at this
theorem bytes_num (bs : List UInt8) (a k : Nat) (h : a + k ≤ bs.length) : Oct.bytes (Oct.num bs a k) k = (bs.drop a).take k := by
  rw [Sum.num_val bs a k h]
  have hl : ((bs.drop a).take k).length = k := by simp; omega
  have := bytes_val ((bs.drop a).take k)
  rwa [hl] at this

theorem parse_laid (p d R : List UInt8) (k n S C : Int) (hE : err k n d.length = 0) (hn : 0 ≤ n ∧ n ≤ 4294967295) (hS : 0 ≤ S ∧ S < 4294967296) (hC : 0 ≤ C ∧ C ≤ 255) :
    parseA (p ++ (head k n d.length ++ (d ++ (Oct.bytes S 4 ++ (Oct.bytes C 1 ++ R))))) (p.length : Int) =
      if S ≠ ((Sum.on 0 (head k n d.length ++ d) : Nat) : Int) then none_ 5 else if C ≠ 0 then none_ 8 else ⟨k, n, d, ((p.length + (13 + d.length) : Nat) : Int), 0⟩ := by
  obtain ⟨hk, _, hd⟩ := err_ok hE
  obtain ⟨bs, hbs⟩ : ∃ bs, bs = p ++ (head k n d.length ++ (d ++ (Oct.bytes S 4 ++ (Oct.bytes C 1 ++ R)))) := ⟨_, rfl⟩
  have hl : bs.length = p.length + 13 + d.length + R.length := by
    rw [hbs]
    simp [head_length, Oct.bytes_length]
    omega
  have f1 : Oct.num bs p.length 1 = 87 := by
    rw [hbs, show head k n d.length = Oct.bytes 87 1 ++ (Oct.bytes k 1 ++ (Oct.bytes n 4 ++ Oct.bytes (d.length : Int) 2)) by simp [head, List.append_assoc], List.append_assoc]
    exact num_mid p _ 87 1 _ rfl (by omega) (by decide)
  have f2 : kindAt bs p.length = k := by
    unfold kindAt
    rw [hbs, show p ++ (head k n d.length ++ (d ++ (Oct.bytes S 4 ++ (Oct.bytes C 1 ++ R)))) = (p ++ Oct.bytes 87 1) ++ (Oct.bytes k 1 ++ (Oct.bytes n 4 ++ (Oct.bytes (d.length : Int) 2 ++ (d ++ (Oct.bytes S 4 ++ (Oct.bytes C 1 ++ R)))))) by simp [head, List.append_assoc]]
    exact num_mid _ _ k 1 _ (by simp [Oct.bytes_length]) (by omega) (by show k < 2 ^ 8; omega)
  have f3 : numAt bs p.length = n := by
    unfold numAt
    rw [hbs, show p ++ (head k n d.length ++ (d ++ (Oct.bytes S 4 ++ (Oct.bytes C 1 ++ R)))) = (p ++ (Oct.bytes 87 1 ++ Oct.bytes k 1)) ++ (Oct.bytes n 4 ++ (Oct.bytes (d.length : Int) 2 ++ (d ++ (Oct.bytes S 4 ++ (Oct.bytes C 1 ++ R))))) by simp [head, List.append_assoc]]
    exact num_mid _ _ n 4 _ (by simp [Oct.bytes_length]) (by omega) (by show n < 2 ^ 32; omega)
  have f4 : lenAt bs p.length = d.length := by
    unfold lenAt
    rw [hbs, show p ++ (head k n d.length ++ (d ++ (Oct.bytes S 4 ++ (Oct.bytes C 1 ++ R)))) = (p ++ (Oct.bytes 87 1 ++ (Oct.bytes k 1 ++ Oct.bytes n 4))) ++ (Oct.bytes (d.length : Int) 2 ++ (d ++ (Oct.bytes S 4 ++ (Oct.bytes C 1 ++ R)))) by simp [head, List.append_assoc]]
    rw [num_mid _ _ (d.length : Int) 2 _ (by simp [Oct.bytes_length]) (by omega) (by show (d.length : Int) < 2 ^ 16; omega)]
    omega
  have f5 : Oct.num bs (p.length + 8 + d.length) 4 = S := by
    rw [hbs, show p ++ (head k n d.length ++ (d ++ (Oct.bytes S 4 ++ (Oct.bytes C 1 ++ R)))) = (p ++ (head k n d.length ++ d)) ++ (Oct.bytes S 4 ++ (Oct.bytes C 1 ++ R)) by simp [List.append_assoc]]
    exact num_mid _ _ S 4 _ (by simp [head_length]; omega) (by omega) (by show S < 2 ^ 32; omega)
  have f6 : Oct.num bs (p.length + 12 + d.length) 1 = C := by
    rw [hbs, show p ++ (head k n d.length ++ (d ++ (Oct.bytes S 4 ++ (Oct.bytes C 1 ++ R)))) = (p ++ (head k n d.length ++ (d ++ Oct.bytes S 4))) ++ (Oct.bytes C 1 ++ R) by simp [List.append_assoc]]
    exact num_mid _ _ C 1 _ (by simp [head_length, Oct.bytes_length]; omega) (by omega) (by show C < 2 ^ 8; omega)
  have f7 : (bs.drop p.length).take (8 + d.length) = head k n d.length ++ d := by
    rw [hbs, List.drop_left, ← List.append_assoc]
    exact List.take_left' (by simp [head_length])
  have f8 : (bs.drop (p.length + 8)).take d.length = d := by
    rw [hbs, show p ++ (head k n d.length ++ (d ++ (Oct.bytes S 4 ++ (Oct.bytes C 1 ++ R)))) = (p ++ head k n d.length) ++ (d ++ (Oct.bytes S 4 ++ (Oct.bytes C 1 ++ R))) by simp [List.append_assoc],
      List.drop_left' (by simp [head_length])]
    exact List.take_left
  rw [← hbs, parse_at (by omega), f1, f2, f3, f4, f5, f6, f7, f8, if_neg (by simp [hE]), if_neg (by omega)]

/-- What was built, among others. -/
theorem build_laid (p d R : List UInt8) (k n : Int) : p ++ build k n d ++ R = p ++ (head k n d.length ++ (d ++ (Oct.bytes ((Sum.on 0 (head k n d.length ++ d) : Nat) : Int) 4 ++ (Oct.bytes 0 1 ++ R)))) := by
  simp [build, Sum.seal_, List.append_assoc]
theorem parse_built (p d R : List UInt8) (k n : Int) (hE : err k n d.length = 0) (hn : 0 ≤ n ∧ n ≤ 4294967295) :
    parseA (p ++ build k n d ++ R) (p.length : Int) = ⟨k, n, d, ((p.length + (13 + d.length) : Nat) : Int), 0⟩ := by
  have := Sum.on_lt (s := 0) (head k n d.length ++ d) (by decide)
  rw [build_laid, parse_laid p d R k n _ 0 hE hn (by omega) (by omega), if_neg (by simp), if_neg (by simp)]
/-- As long as the commit is not there. -/
theorem parse_open (p d R : List UInt8) (k n : Int) (hE : err k n d.length = 0) (hn : 0 ≤ n ∧ n ≤ 4294967295) :
    parseA ((p ++ build k n d ++ R).set (p.length + (12 + d.length)) 255) (p.length : Int) = none_ 8 := by
  have := Sum.on_lt (s := 0) (head k n d.length ++ d) (by decide)
  have e : (p ++ build k n d ++ R).set (p.length + (12 + d.length)) 255 = p ++ (head k n d.length ++ (d ++ (Oct.bytes ((Sum.on 0 (head k n d.length ++ d) : Nat) : Int) 4 ++ (Oct.bytes 255 1 ++ R)))) := by
    rw [build_laid, show p ++ (head k n d.length ++ (d ++ (Oct.bytes ((Sum.on 0 (head k n d.length ++ d) : Nat) : Int) 4 ++ (Oct.bytes 0 1 ++ R)))) = (p ++ (head k n d.length ++ (d ++ Oct.bytes ((Sum.on 0 (head k n d.length ++ d) : Nat) : Int) 4))) ++ (Oct.bytes 0 1 ++ R) by simp [List.append_assoc]]
    rw [List.set_append_right _ _ (by simp [head_length, Oct.bytes_length]; omega)]
    rw [show p.length + (12 + d.length) - (p ++ (head k n d.length ++ (d ++ Oct.bytes ((Sum.on 0 (head k n d.length ++ d) : Nat) : Int) 4))).length = 0 by simp [head_length, Oct.bytes_length]; omega]
    rw [show (Oct.bytes 0 1 ++ R).set 0 255 = Oct.bytes 255 1 ++ R from rfl]
    simp [List.append_assoc]
  rw [e, parse_laid p d R k n _ 255 hE hn (by omega) (by omega), if_neg (by simp), if_pos (by omega)]
/-- What is read has just the bytes that it is laid down in. -/
theorem parse_only {bs : List UInt8} {at_ : Int} (h : (parseA bs at_).e = 0) : ∃ a : Nat, at_ = a ∧ err (parseA bs at_).k (parseA bs at_).n (parseA bs at_).d.length = 0 ∧
    (parseA bs at_).to = ((a + (13 + (parseA bs at_).d.length) : Nat) : Int) ∧ a + (13 + (parseA bs at_).d.length) ≤ bs.length ∧ (bs.drop a).take (13 + (parseA bs at_).d.length) = build (parseA bs at_).k (parseA bs at_).n (parseA bs at_).d := by
  by_cases h1 : at_ < 0 ∨ (bs.length : Int) < at_
  · rw [parse_1 h1] at h; simp [none_] at h
  obtain ⟨a, rfl⟩ := Int.eq_ofNat_of_zero_le (show 0 ≤ at_ by omega)
  by_cases h2 : bs.length < a + 13
  · rw [parse_2 (by omega) h2] at h; simp [none_] at h
  have hP := parse_at (bs := bs) (a := a) (by omega)
  rw [hP] at h
  split at h
  · simp [none_] at h
  rename_i h3
  split at h
  · simp [none_] at h
  rename_i h4
  split at h
  · simp [none_] at h
  rename_i h5
  split at h
  · simp [none_] at h
  rename_i h6
  rw [if_neg h3, if_neg h4, if_neg h5, if_neg h6] at hP
  rw [hP]
  have hdl : ((bs.drop (a + 8)).take (lenAt bs a)).length = lenAt bs a := by simp; omega
  have hF : Oct.num bs a 1 = 87 := by omega
  have hE : err (kindAt bs a) (numAt bs a) (lenAt bs a) = 0 := by omega
  refine ⟨a, rfl, by rw [hdl]; exact hE, by rw [hdl], by rw [hdl]; omega, ?_⟩
  simp only [hdl]
  have b1 := bytes_num bs a 1 (by omega)
  have b2 := bytes_num bs (a + 1) 1 (by omega)
  have b3 := bytes_num bs (a + 2) 4 (by omega)
  have b4 := bytes_num bs (a + 6) 2 (by omega)
  have b5 := bytes_num bs (a + 8 + lenAt bs a) 4 (by omega)
  have b6 := bytes_num bs (a + 12 + lenAt bs a) 1 (by omega)
  have e5 : Oct.num bs (a + 8 + lenAt bs a) 4 = ((Sum.on 0 ((bs.drop a).take (8 + lenAt bs a)) : Nat) : Int) := by omega
  have e6 : Oct.num bs (a + 12 + lenAt bs a) 1 = 0 := by omega
  rw [hF] at b1
  rw [len_at] at b4
  rw [e5] at b5
  rw [e6] at b6
  have cut : ∀ i j m : Nat, (bs.drop i).take (j + m) = (bs.drop i).take j ++ (bs.drop (i + j)).take m := fun i j m => by
    rw [List.take_add, List.drop_drop]
  have hh : head (kindAt bs a) (numAt bs a) (lenAt bs a) = (bs.drop a).take 8 := by
    unfold head kindAt numAt
    rw [b1, b2, b3, b4, show (8 : Nat) = 1 + (1 + (4 + 2)) from rfl, cut, cut, cut]
    simp [List.append_assoc]
  unfold build Sum.seal_
  rw [hdl, hh]
  have h8 : (bs.drop a).take 8 ++ (bs.drop (a + 8)).take (lenAt bs a) = (bs.drop a).take (8 + lenAt bs a) := (cut a 8 _).symm
  rw [h8, b5, b6, show 13 + lenAt bs a = (8 + lenAt bs a) + (4 + 1) by omega, cut a (8 + lenAt bs a) (4 + 1), cut (a + (8 + lenAt bs a)) 4 1]
  rw [show a + (8 + lenAt bs a) = a + 8 + lenAt bs a by omega, show a + 8 + lenAt bs a + 4 = a + 12 + lenAt bs a by omega, List.append_assoc]
theorem parse_none {bs : List UInt8} {at_ : Int} (h : (parseA bs at_).e ≠ 0) : parseA bs at_ = none_ (parseA bs at_).e := by
  revert h
  unfold parseA
  repeat' split
  all_goals
    intro h
    first
      | rfl
      | exact absurd rfl h
theorem parse_len {bs : List UInt8} {at_ : Int} : (parseA bs at_).d.length ≤ bs.length := by
  unfold parseA
  repeat' split
  all_goals simp [none_]
  omega
theorem parse_bd {bs : List UInt8} {at_ : Int} : (0 ≤ (parseA bs at_).k ∧ (parseA bs at_).k ≤ 255) ∧ 0 ≤ (parseA bs at_).n ∧ (parseA bs at_).n ≤ 4294967295 := by
  have h1 := num_255 bs (at_.toNat + 1)
  have h2 := num_32 bs (at_.toNat + 2)
  unfold parseA
  repeat' split
  all_goals simp only [none_]
  all_goals first
    | omega
    | exact ⟨h1, h2⟩
/-- Bits turned in the data and the sum. -/
theorem parse_turned {bs' d : List UInt8} {k n : Int} {q v : Nat} (hE : err k n d.length = 0) (hn : 0 ≤ n ∧ n ≤ 4294967295) (hl : bs'.length = (build k n d).length)
    (hv : Sum.val bs' = Sum.val (build k n d) ^^^ 2 ^ q * v) (hq : 64 ≤ q) (h32 : v < 4294967296) (h0 : v ≠ 0) (hb : 2 ^ q * v < 2 ^ (8 * (d.length + 12))) : parseA bs' 0 = none_ 5 := by
  have hbl := build_length k n d
  have low : ∀ m : Nat, ∀ x : List UInt8, m ≤ x.length → Sum.val (x.take m) = Sum.val x % 2 ^ (8 * m) := fun m x hm => by
    have h1 := Sum.val_append (x.take m) (x.drop m)
    have h2 := Sum.val_lt (x.take m)
    have h3 : (x.take m).length = m := by simp [hm]
    rw [List.take_append_drop, h3] at h1
    rw [h3] at h2
    rw [h1, Nat.add_mul_mod_self_left, Nat.mod_eq_of_lt h2]
  have lx : ∀ m : Nat, m ≤ bs'.length → Sum.val (bs'.take m) = Sum.val ((build k n d).take m) ^^^ (2 ^ q * v) % 2 ^ (8 * m) := fun m hm => by
    rw [low m bs' hm, low m _ (by omega), hv, Nat.xor_mod_two_pow]
  have t8 : bs'.take 8 = head k n d.length := by
    have e1 : (build k n d).take 8 = head k n d.length := by
      have := build_laid [] d [] k n
      simp only [List.nil_append, List.append_nil] at this
      rw [this]
      exact List.take_left' (head_length _ _ _)
    rw [← e1]
    refine Sum.val_inj _ _ (by simp; omega) ?_
    rw [lx 8 (by omega), show 2 ^ q * v = 2 ^ (8 * 8) * (2 ^ (q - 64) * v) by rw [← Nat.mul_assoc, ← Nat.pow_add]; congr 2; omega, Nat.mul_mod_right, Nat.xor_zero]
  have tm : Sum.val (bs'.take (d.length + 12)) = Sum.val (Sum.seal_ (head k n d.length ++ d)) ^^^ 2 ^ q * v := by
    rw [lx _ (by omega), Nat.mod_eq_of_lt hb]
    congr 2
    unfold build
    exact List.take_left' (by simp [Sum.seal_length, head_length]; omega)
  have ho := Sum.open_turned (bs := head k n d.length ++ d) (bs' := bs'.take (d.length + 12)) (k := q) (v := v) (by simp [Sum.seal_length, head_length]; omega) tm h32 h0
  obtain ⟨d', hd'⟩ : ∃ d', d' = (bs'.drop 8).take d.length := ⟨_, rfl⟩
  obtain ⟨s', hs'⟩ : ∃ s', s' = (bs'.drop (8 + d.length)).take 4 := ⟨_, rfl⟩
  obtain ⟨c', hc'⟩ : ∃ c', c' = bs'.drop (12 + d.length) := ⟨_, rfl⟩
  have dl : d'.length = d.length := by rw [hd']; simp; omega
  have sl : s'.length = 4 := by rw [hs']; simp; omega
  have cl : c'.length = 1 := by rw [hc']; simp; omega
  have hsplit : bs' = head k n d'.length ++ (d' ++ (Oct.bytes ((Sum.val s' : Nat) : Int) 4 ++ (Oct.bytes ((Sum.val c' : Nat) : Int) 1 ++ []))) := by
    have e1 := bytes_val s'
    have e2 := bytes_val c'
    rw [sl] at e1
    rw [cl] at e2
    rw [e1, e2, dl, ← t8, hd', hs', hc', List.append_nil]
    rw [show bs'.drop (12 + d.length) = ((bs'.drop (8 + d.length)).drop 4) by rw [List.drop_drop]; congr 1; omega, List.take_append_drop,
      show bs'.drop (8 + d.length) = (bs'.drop 8).drop d.length by rw [List.drop_drop], List.take_append_drop, List.take_append_drop]
  have v4 := Sum.val_lt s'
  rw [sl] at v4
  have v1 := Sum.val_lt c'
  rw [cl] at v1
  have hfin := parse_laid [] d' [] k n ((Sum.val s' : Nat) : Int) ((Sum.val c' : Nat) : Int) (by rw [dl]; exact hE) hn (by omega) (by omega)
  simp only [List.nil_append, List.length_nil] at hfin
  rw [← hsplit] at hfin
  rw [show ((0 : Nat) : Int) = 0 from rfl] at hfin
  rw [hfin, if_pos]
  intro hc
  have htk : bs'.take (d.length + 12) = (head k n d'.length ++ d') ++ s' := by
    rw [dl, ← t8, hd', hs', show d.length + 12 = 8 + (d.length + 4) by omega, List.take_add, List.take_add, List.drop_drop, List.append_assoc]
  have hlen : (bs'.take (d.length + 12)).length = (head k n d'.length ++ d').length + 4 := by rw [htk]; simp [sl]; omega
  unfold Sum.openA at ho
  rw [hlen, if_neg (by omega), htk, show (head k n d'.length ++ d').length + 4 - 4 = (head k n d'.length ++ d').length by omega, List.drop_left, List.take_left, if_pos (by omega)] at ho
  simp at ho
end Rec
end Go.Proofs.Ytkkbjngjjeajoaa
