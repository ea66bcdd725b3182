/-
  A flash's bytes sector by sector: what a programming on ones, whole or torn, and an erasing, whole or torn, make of them. No program is named here.
  A record laid in a sector, whole or torn: what the sector holds behind it. No program is named here.
-/
import Derived.Test.YtkkbjngjjeajoaaFlaZip
import Derived.Test.YtkkbjngjjeajoaaSecLaid
namespace Go.Proofs.Ytkkbjngjjeajoaa
namespace Jou
open Go.RowKit Mem Fla

/-- Bytes with x in place of what stood from k on. -/
def splice (bs : List UInt8) (k : Nat) (x : List UInt8) : List UInt8 := bs.take k ++ x ++ bs.drop (k + x.length)
theorem splice_len {bs x : List UInt8} {k : Nat} (h : k + x.length ≤ bs.length) : (splice bs k x).length = bs.length := by
  simp [splice]
  omega
theorem splice_get {bs x : List UInt8} {k : Nat} (h : k + x.length ≤ bs.length) (i : Nat) : (splice bs k x)[i]? = if k ≤ i ∧ i < k + x.length then x[i - k]? else bs[i]? := by
  unfold splice
  have hk : (bs.take k).length = k := by simp; omega
  by_cases h1 : i < k
  · rw [if_neg (by omega), List.append_assoc, List.getElem?_append_left (by omega), List.getElem?_take, if_pos h1]
  · by_cases h2 : i < k + x.length
    · rw [if_pos (by omega), List.getElem?_append_left (by simp; omega), List.getElem?_append_right (by omega), hk]
    · rw [if_neg (by omega), List.getElem?_append_right (by simp; omega), List.getElem?_drop]
      congr 1
      simp
      omega
/-- A sector's bytes. -/
def secOf (bs : List UInt8) (i : Nat) : List UInt8 := (bs.drop (i * 1024)).take 1024
theorem secOf_len {bs : List UInt8} {i : Nat} (h : i * 1024 + 1024 ≤ bs.length) : (secOf bs i).length = 1024 := by
  simp [secOf]
  omega
theorem secOf_get (bs : List UInt8) (i j : Nat) : (secOf bs i)[j]? = if j < 1024 then bs[i * 1024 + j]? else none := by
  unfold secOf
  by_cases h : j < 1024
  · rw [List.getElem?_take, if_pos h, if_pos h, List.getElem?_drop]
  · rw [List.getElem?_take, if_neg h, if_neg h]
set_option maxRecDepth 100000 in
theorem secOf_other {bs x : List UInt8} {t e i : Nat} (h : t * 1024 + 1024 ≤ bs.length) (he : e + x.length ≤ 1024) (hi : i ≠ t) : secOf (splice bs (t * 1024 + e) x) i = secOf bs i := by
  refine List.ext_getElem? fun j => ?_
  have hk : t * 1024 + e + x.length ≤ bs.length := by omega
  have e1 := splice_get hk (i * 1024 + j)
  rw [secOf_get, secOf_get, e1]
  by_cases hj : j < 1024
  · have : ¬ (t * 1024 + e ≤ i * 1024 + j ∧ i * 1024 + j < t * 1024 + e + x.length) := by omega
    rw [if_neg this]
  · rw [if_neg hj, if_neg hj]
set_option maxRecDepth 100000 in
theorem secOf_same {bs x : List UInt8} {t e : Nat} (h : t * 1024 + 1024 ≤ bs.length) (he : e + x.length ≤ 1024) : secOf (splice bs (t * 1024 + e) x) t = splice (secOf bs t) e x := by
  refine List.ext_getElem? fun j => ?_
  have hs := secOf_len h
  have hk : t * 1024 + e + x.length ≤ bs.length := by omega
  have e1 := splice_get hk (t * 1024 + j)
  have e2 := splice_get (bs := secOf bs t) (x := x) (k := e) (by omega) j
  rw [secOf_get, e2, secOf_get, e1]
  by_cases hj : j < 1024
  · rw [if_pos hj, if_pos hj]
    by_cases h2 : e ≤ j ∧ j < e + x.length
    · rw [if_pos h2, if_pos (by omega)]
      congr 1
      omega
    · rw [if_neg h2, if_neg (by omega)]
  · rw [if_neg hj, if_neg hj, if_neg (by omega)]
/-- Erased bytes. -/
theorem ones_splice {bs : List UInt8} {a n : Nat} : ones bs a n = splice bs a (List.replicate n 255) := by
  simp [ones, splice]
theorem ones_bit {i : Nat} (hi : i < 8) : (255#8).getLsbD i = true := by
  have : i = 0 ∨ i = 1 ∨ i = 2 ∨ i = 3 ∨ i = 4 ∨ i = 5 ∨ i = 6 ∨ i = 7 := by omega
  rcases this with rfl | rfl | rfl | rfl | rfl | rfl | rfl | rfl <;> rfl
theorem ones_and (y : UInt8) : 255 &&& y = y := by
  refine u8_ext fun i hi => ?_
  simp [ones_bit hi]
/-- Programming on ones lays the bytes as they are. -/
theorem zipA_ones : ∀ (x bs : List UInt8) (k : Nat), k + x.length ≤ bs.length → (∀ i, k ≤ i → i < k + x.length → bs.getD i 0 = 255) → zipA bs k x = splice bs k x := by
  intro x bs k h h1
  refine List.ext_getElem? fun i => ?_
  rw [splice_get h]
  have hz := zipA_at x bs k i h
  have hl := zipA_len x bs k
  by_cases hi : i < bs.length
  · rw [List.getElem?_eq_getElem (by omega)]
    rw [List.getD_eq_getElem?_getD, List.getElem?_eq_getElem (by omega)] at hz
    simp only [Option.getD_some] at hz
    rw [hz]
    by_cases h2 : k ≤ i ∧ i < k + x.length
    · rw [if_pos h2, if_pos h2, h1 i h2.1 h2.2, List.getD_eq_getElem?_getD, List.getElem?_eq_getElem (by omega)]
      simp [ones_and]
    · rw [if_neg h2, if_neg h2, List.getD_eq_getElem?_getD, List.getElem?_eq_getElem hi]
      rfl
  · rw [List.getElem?_eq_none (by omega), if_neg (by omega), List.getElem?_eq_none (by omega)]
theorem torn_ones (b : UInt8) (m : Int) : tornB 255 b m = b ||| ~~~ (UInt8.ofNat m.toNat) := by
  unfold tornB
  generalize b ||| ~~~ (UInt8.ofNat m.toNat) = y
  exact ones_and y
/-- What a cut behind j bytes leaves, of ones. -/
theorem cut_ones {x bs : List UInt8} {k j : Nat} (m : Int) (h : k + x.length ≤ bs.length) (hj : j < x.length) (h1 : ∀ i, k ≤ i → i < k + x.length → bs.getD i 0 = 255) :
    (zipA bs k (x.take j)).set (k + j) (tornB ((zipA bs k (x.take j)).getD (k + j) 0) (x.getD j 0) m) = splice bs k (x.take j ++ [tornB 255 (x.getD j 0) m]) := by
  have hx : (x.take j).length = j := by simp; omega
  rw [zipA_ones (x.take j) bs k (by omega) (fun i a b => h1 i a (by omega))]
  have hg : (splice bs k (x.take j)).getD (k + j) 0 = 255 := by
    rw [List.getD_eq_getElem?_getD, splice_get (by omega), if_neg (by omega), ← List.getD_eq_getElem?_getD]
    exact h1 _ (by omega) (by omega)
  rw [hg]
  have hxl : (x.take j ++ [tornB 255 (x.getD j 0) m]).length = j + 1 := by simp [hx]
  refine List.ext_getElem? fun i => ?_
  rw [splice_get (by rw [hxl]; omega), hxl, List.getElem?_set, splice_get (by omega), splice_len (by omega)]
  by_cases hi : k + j = i
  · subst hi
    rw [if_pos rfl, if_pos (by omega), if_pos (by omega), List.getElem?_append_right (by omega), hx]
    simp
  · rw [if_neg hi]
    by_cases h2 : k ≤ i ∧ i < k + j
    · rw [if_pos (by omega), if_pos (by omega), List.getElem?_append_left (by omega)]
    · rw [if_neg (by omega), if_neg (by omega)]
/-- Programming while the cut lies behind it. -/
theorem prog_far (x : List UInt8) : ∀ (s : Fl) (k : Nat), s.pl = true → (x.length : Int) ≤ s.ahead → s.prog k x = ({ s with bs := zipA s.bs k x, ahead := s.ahead - x.length, ops := s.ops + x.length }, 0) := by
  induction x with
  | nil => intro s k h h0; simp [Fl.prog, zipA]
  | cons b r ih =>
    intro s k h h0
    simp only [List.length_cons] at h0
    have hc : s.cuts = false := by
      unfold Fl.cuts
      rw [h]
      simp
      omega
    have hp : s.put1 k b = { s with bs := s.bs.set k (s.bs.getD k 0 &&& b), ahead := s.ahead - 1, ops := s.ops + 1 } := by
      unfold Fl.put1
      rw [hc, if_neg (by decide)]
      unfold Fl.past
      have e : (s.with_ (s.bs.set k (s.bs.getD k 0 &&& b))).pl = true := h
      rw [if_pos e]
      rfl
    unfold Fl.prog
    rw [hc, if_neg (by decide), hp, ih _ _ (by exact h) (by show (r.length : Int) ≤ s.ahead - 1; omega)]
    simp only [zipA, List.length_cons, Prod.mk.injEq, and_true, Fl.mk.injEq, true_and]
    omega
end Jou
end Go.Proofs.Ytkkbjngjjeajoaa

namespace Go.Proofs.Ytkkbjngjjeajoaa
namespace Jou
open Go.RowKit Mem Fla Rec Sec

section
variable {sb : List UInt8} {k n : Int} {d : List UInt8}
theorem sec_whole (hE : err k n d.length = 0) (hn : 0 ≤ n ∧ n ≤ 4294967295) (hnum : 0 < (Sec.look sb).cnt → (Sec.look sb).n + 1 = n) (hfit : (Sec.look sb).e + (13 + d.length) ≤ sb.length) (hcl : ∀ y ∈ sb.drop (Sec.look sb).e, y = 255) :
    Sec.look (splice sb (Sec.look sb).e (build k n d)) = ⟨k, n, d, (Sec.look sb).cnt + 1, (Sec.look sb).e + (13 + d.length)⟩ ∧ ∀ y ∈ (splice sb (Sec.look sb).e (build k n d)).drop ((Sec.look sb).e + (13 + d.length)), y = 255 := by
  have hbl := build_length k n d
  have hR : ∀ y ∈ sb.drop ((Sec.look sb).e + (build k n d).length), y = 255 := by
    intro y hy
    refine hcl y ?_
    rw [← List.drop_drop] at hy
    exact List.mem_of_mem_drop hy
  have h1 : (sb.take (Sec.look sb).e ++ build k n d).length = (Sec.look sb).e + (13 + d.length) := by
    rw [List.length_append, hbl]
    simp
    omega
  unfold splice
  refine ⟨look_laid hE hn hnum ?_ hR, ?_⟩
  · simp [hbl]
    omega
  · rw [List.drop_left' h1]
    exact hR
/-- Torn: the sector holds what it held. -/
theorem sec_torn (hE : err k n d.length = 0) (hfit : (Sec.look sb).e + (13 + d.length) ≤ sb.length) (hcl : ∀ y ∈ sb.drop (Sec.look sb).e, y = 255) {j : Nat} {t : UInt8} (hj : j < 13 + d.length) (ht : j = 12 + d.length → t ≠ 0) :
    Sec.look (splice sb (Sec.look sb).e ((build k n d).take j ++ [t])) = Sec.look sb := by
  have hbl := build_length k n d
  have hx : ((build k n d).take j ++ [t]).length = j + 1 := by simp [hbl]; omega
  have hl := splice_len (bs := sb) (k := (Sec.look sb).e) (x := (build k n d).take j ++ [t]) (by rw [hx]; omega)
  have he : (sb.take (Sec.look sb).e).length = (Sec.look sb).e := by simp; omega
  refine look_kept hl ?_ ?_
  · unfold splice
    rw [List.append_assoc, List.take_append_of_le_length (by omega), List.take_take, Nat.min_self]
  · have e1 : splice sb (Sec.look sb).e ((build k n d).take j ++ [t]) = sb.take (Sec.look sb).e ++ (build k n d).take j ++ t :: sb.drop ((Sec.look sb).e + (j + 1)) := by
      unfold splice
      rw [hx]
      simp [List.append_assoc]
    rw [e1]
    refine stop_torn he.symm hE hj ht ?_
    intro y hy
    refine hcl y ?_
    rw [← List.drop_drop] at hy
    exact List.mem_of_mem_drop hy
/-- A commit that was torn, and is there all the same: the record is whole. -/
theorem torn_whole : (build k n d).take (12 + d.length) ++ [0] = build k n d := by
  have h : build k n d = Sum.seal_ (head k n d.length ++ d) ++ [0] := rfl
  have hl : (Sum.seal_ (head k n d.length ++ d)).length = 12 + d.length := by simp [Sum.seal_length, head_length]; omega
  rw [h, List.take_left' hl]
theorem commit_last : (build k n d).getD (12 + d.length) 0 = 0 := by
  have h : build k n d = Sum.seal_ (head k n d.length ++ d) ++ [0] := rfl
  have hl : (Sum.seal_ (head k n d.length ++ d)).length = 12 + d.length := by simp [Sum.seal_length, head_length]; omega
  rw [h, List.getD_eq_getElem?_getD, List.getElem?_append_right (by omega), hl]
  simp
/-- What a sector holds whose first m bytes are erased. -/
theorem sec_erased {m : Nat} (h0 : 0 < m) (hm : m ≤ sb.length) : Sec.look (splice sb 0 (List.replicate m 255)) = Lk.zero := by
  refine look_ones (.inl ?_)
  unfold byt
  rw [List.getD_eq_getElem?_getD, splice_get (by simp; omega), if_pos (by simp; omega), Nat.sub_zero, List.getElem?_replicate, if_pos h0]
  rfl
end
end Jou
end Go.Proofs.Ytkkbjngjjeajoaa
