/-
  What a sector's bytes hold when a record is laid behind the others, whole or torn, and when they are erased. No program is named here.
-/
import Derived.Test.YtkkbjngjjeajoaaSecMath
namespace Go.Proofs.Ytkkbjngjjeajoaa
namespace Sec
open Go.RowKit Mem Rec

theorem byt_take {bs : List UInt8} {m i : Nat} (h : i < m) : byt (bs.take m) i = byt bs i := by
  simp [byt, List.getD_eq_getElem?_getD, h]
theorem num_take (bs : List UInt8) (m a : Nat) : ∀ k : Nat, a + k ≤ m → Oct.num (bs.take m) a k = Oct.num bs a k := by
  intro k
  induction k with
  | zero => intro _; rfl
  | succ k ih =>
    intro h
    simp only [Oct.num, ih (by omega), byt_take (show a + k < m by omega)]
theorem num_same {a b : List UInt8} {m p k : Nat} (h : a.take m = b.take m) (hk : p + k ≤ m) : Oct.num a p k = Oct.num b p k := by
  rw [← num_take a m p k hk, ← num_take b m p k hk, h]
/-- A record hangs on its own bytes alone. -/
theorem parse_same {a b : List UInt8} {p : Nat} (h0 : (parseA a p).e = 0) (h : a.take (parseA a p).to.toNat = b.take (parseA a p).to.toNat) (hb : (parseA a p).to.toNat ≤ b.length) : parseA b p = parseA a p := by
  obtain ⟨q, hq, e1, e2, e3, e4⟩ := parse_only h0
  obtain rfl : p = q := by omega
  rw [e2] at h hb
  rw [Int.toNat_natCast] at h hb
  have hbd := parse_bd (bs := a) (at_ := (p : Int))
  generalize hP : parseA a p = P at *
  have key : ∀ c : List UInt8, c.take (p + (13 + P.d.length)) = a.take (p + (13 + P.d.length)) → p + (13 + P.d.length) ≤ c.length → parseA c p = ⟨P.k, P.n, P.d, P.to, 0⟩ := by
    intro c hc hl
    have e5 : (c.drop p).take (13 + P.d.length) = build P.k P.n P.d := by
      rw [← e4]
      have t : ∀ z : List UInt8, (z.drop p).take (13 + P.d.length) = (z.take (p + (13 + P.d.length))).drop p := fun z => by
        rw [List.drop_take]
        congr 1
        omega
      rw [t, t, hc]
    have hs : c = c.take p ++ build P.k P.n P.d ++ c.drop (p + (13 + P.d.length)) := by
      rw [← e5, List.append_assoc, ← List.drop_drop, List.take_append_drop, List.take_append_drop]
    have hp := parse_built (c.take p) P.d (c.drop (p + (13 + P.d.length))) P.k P.n e1 hbd.2
    rw [← hs] at hp
    have hl2 : (c.take p).length = p := by simp; omega
    rw [hl2] at hp
    rw [hp, e2]
  rw [key b h.symm hb, ← key a rfl e3, hP]
/-- A walk stays the same as far as the bytes do. -/
theorem scan_same {a b : List UInt8} (hl : b.length = a.length) : ∀ (f : Nat) (x : Lk), a.take (scan a f x).e = b.take (scan a f x).e → ∃ m, m ≤ f ∧ x.e + 13 * m ≤ (scan a f x).e ∧ ∀ g, scan b (m + g) x = scan b g (scan a f x) := by
  have mono : ∀ (f : Nat) (x : Lk), x.e ≤ (scan a f x).e := by
    intro f
    induction f with
    | zero => intro x; exact Nat.le_refl _
    | succ f ih =>
      intro x
      by_cases h : Stop a x
      · simp [scan, h]
      · simp only [scan, if_neg h]
        have := next_to h
        have := ih (next a x)
        omega
  intro f
  induction f with
  | zero => intro x _; exact ⟨0, Nat.le_refl _, by simp [scan], fun g => by simp [scan]⟩
  | succ f ih =>
    intro x he
    by_cases h : Stop a x
    · simp only [scan, if_pos h] at he ⊢
      exact ⟨0, by omega, by omega, fun g => by simp⟩
    · simp only [scan, if_neg h] at he ⊢
      obtain ⟨m, m1, m2, m3⟩ := ih (next a x) he
      have ht := next_to h
      have h0 : (parseA a x.e).e = 0 := by
        unfold Stop at h
        omega
      have hz := mono f (next a x)
      have hto : (parseA a x.e).to.toNat = (next a x).e := by rw [ht.1, Int.toNat_natCast]
      have hp : parseA b x.e = parseA a x.e := by
        refine parse_same h0 ?_ (by rw [hto]; omega)
        rw [hto]
        have := congrArg (fun l => l.take (next a x).e) he
        simpa [List.take_take, Nat.min_eq_left hz] using this
      have hs : ¬ Stop b x := by
        unfold Stop at h ⊢
        rw [hp]
        exact h
      have hn : next b x = next a x := by simp [next, hp]
      refine ⟨m + 1, by omega, by omega, fun g => ?_⟩
      rw [show m + 1 + g = (m + g) + 1 by omega]
      simp only [scan, if_neg hs, hn]
      exact m3 g
theorem look_e (a : List UInt8) : (look a).e ≤ a.length ∧ Stop a (look a) ∧ Way a (look a) := by
  have key : ∀ (f : Nat) (x : Lk), a.length < x.e + f → Way a x → Way a (scan a f x) ∧ Stop a (scan a f x) := by
    intro f
    induction f with
    | zero =>
      intro x hf hw
      have := hw.1
      omega
    | succ f ih =>
      intro x hf hw
      by_cases h : Stop a x
      · simp only [scan, if_pos h]
        exact ⟨hw, h⟩
      · simp only [scan, if_neg h]
        have := next_to h
        exact ih _ (by omega) (hw.next h)
  obtain ⟨k1, k2⟩ := key (a.length + 1) Lk.zero (by omega) (Way.zero a)
  exact ⟨k1.1, k2, k1⟩
/-- The same bytes as far as the records went: the walk comes there again. -/
theorem look_from {a b : List UInt8} (hl : b.length = a.length) (h : a.take (look a).e = b.take (look a).e) : ∃ g, b.length < (look a).e + g ∧ look b = scan b g (look a) := by
  obtain ⟨m, m1, m2, m3⟩ := scan_same hl (a.length + 1) Lk.zero h
  have he := (look_e a).1
  have hz : (Lk.zero).e = 0 := rfl
  refine ⟨b.length + 1 - m, ?_, ?_⟩
  · show b.length < (scan a (a.length + 1) Lk.zero).e + _
    have : (scan a (a.length + 1) Lk.zero).e ≤ a.length := he
    omega
  · have : (scan a (a.length + 1) Lk.zero).e ≤ a.length := he
    have h3 := m3 (b.length + 1 - m)
    rwa [show m + (b.length + 1 - m) = b.length + 1 by omega] at h3
/-- Nothing that is a record stands behind: the sector holds what it held. -/
theorem look_kept {a b : List UInt8} (hl : b.length = a.length) (h : a.take (look a).e = b.take (look a).e) (hs : Stop b (look a)) : look b = look a := by
  obtain ⟨g, hg, hb⟩ := look_from hl h
  rw [hb]
  cases g with
  | zero => rfl
  | succ g => simp [scan, hs]

/-- Ones are no record. -/
theorem stop_ones {b : List UInt8} {x : Lk} (h : byt b x.e = 255 ∨ b.length ≤ x.e) : Stop b x := by
  refine .inl ?_
  intro h0
  obtain ⟨q, hq, e1, e2, e3, e4⟩ := parse_only h0
  obtain rfl : x.e = q := by omega
  rcases h with h | h
  · have hl := build_length (parseA b x.e).k (parseA b x.e).n (parseA b x.e).d
    have hb : byt ((b.drop x.e).take (13 + (parseA b x.e).d.length)) 0 = byt b x.e := by
      rw [byt_take (by omega), byt_drop]; rfl
    rw [e4] at hb
    have : byt (build (parseA b x.e).k (parseA b x.e).n (parseA b x.e).d) 0 = 87 := by
      have := build_laid [] (parseA b x.e).d [] (parseA b x.e).k (parseA b x.e).n
      simp only [List.nil_append, List.append_nil] at this
      rw [this]
      rfl
    omega
  · omega
theorem blank_byt {b : List UInt8} (h : ∀ x ∈ b, x = 255) {i : Nat} (hi : i < b.length) : byt b i = 255 := by
  rw [Oct.byt_get hi, h _ (List.getElem_mem hi)]
  rfl
/-- A record that is laid behind the others, on ones. -/
theorem look_laid {a R : List UInt8} {k n : Int} {d : List UInt8} (hE : err k n d.length = 0) (hn : 0 ≤ n ∧ n ≤ 4294967295) (hnum : 0 < (look a).cnt → (look a).n + 1 = n)
    (hl : (look a).e + (13 + d.length) + R.length = a.length) (hR : ∀ x ∈ R, x = 255) :
    look (a.take (look a).e ++ build k n d ++ R) = ⟨k, n, d, (look a).cnt + 1, (look a).e + (13 + d.length)⟩ := by
  have hbl := build_length k n d
  have hle := (look_e a).1
  have htl : (a.take (look a).e).length = (look a).e := by simp [hle]
  generalize hb : a.take (look a).e ++ build k n d ++ R = b at *
  have hbb : b.length = a.length := by rw [← hb]; simp [hbl]; omega
  have htk : a.take (look a).e = b.take (look a).e := by
    rw [← hb, List.append_assoc, List.take_append_of_le_length (by omega), List.take_take, Nat.min_self]
  obtain ⟨g, hg, hlk⟩ := look_from hbb htk
  have hp := parse_built (a.take (look a).e) d R k n hE hn
  rw [hb, htl] at hp
  have hs : ¬ Stop b (look a) := by
    unfold Stop
    rw [hp]
    simp only
    omega
  have hnx : next b (look a) = ⟨k, n, d, (look a).cnt + 1, (look a).e + (13 + d.length)⟩ := by
    simp only [next, hp, Int.toNat_natCast]
  have hs2 : Stop b (next b (look a)) := by
    refine stop_ones ?_
    rw [hnx]
    by_cases hz : R.length = 0
    · right; show b.length ≤ (look a).e + (13 + d.length); omega
    · left
      show byt b ((look a).e + (13 + d.length)) = 255
      have : byt b ((look a).e + (13 + d.length)) = byt R 0 := by
        rw [← hb]
        unfold byt
        have e1 : (a.take (look a).e ++ build k n d).length = (look a).e + (13 + d.length) := by rw [List.length_append, htl, hbl]; omega
        rw [List.getD_eq_getElem?_getD, List.getD_eq_getElem?_getD, List.getElem?_append_right (by omega), e1, Nat.sub_self]
      rw [this]
      exact blank_byt hR (by omega)
  rw [hlk]
  cases g with
  | zero => omega
  | succ g =>
    simp only [scan, if_neg hs]
    cases g with
    | zero => simp only [scan]; exact hnx
    | succ g => simp only [scan, if_pos hs2]; exact hnx
/-- A record of which only the first j bytes were laid, the next one torn, and ones behind: no record. -/
theorem stop_torn {p R : List UInt8} {k n : Int} {d : List UInt8} {j : Nat} {t : UInt8} {x : Lk} (he : x.e = p.length) (hE : err k n d.length = 0) (hj : j < 13 + d.length) (ht : j = 12 + d.length → t ≠ 0) (hR : ∀ y ∈ R, y = 255) : Stop (p ++ (build k n d).take j ++ t :: R) x := by
  refine .inl ?_
  intro h0
  have hbl := build_length k n d
  obtain ⟨hk, _, hd⟩ := err_ok hE
  obtain ⟨q, hq, e1, e2, e3, e4⟩ := parse_only h0
  obtain rfl : x.e = q := by omega
  generalize hb : p ++ (build k n d).take j ++ t :: R = b at *
  generalize hP : parseA b x.e = P at *
  have hpl : (p ++ (build k n d).take j).length = x.e + j := by simp [hbl, he]; omega
  have hbl2 : b.length = x.e + j + 1 + R.length := by rw [← hb, List.length_append, hpl]; simp; omega
  have hlp := build_length P.k P.n P.d
  -- behind the torn byte there are ones
  have hones : ∀ i, x.e + j < i → i < b.length → byt b i = 255 := by
    intro i hi hib
    have : byt b i = byt R (i - (x.e + j) - 1) := by
      rw [← hb]
      unfold byt
      rw [List.getD_eq_getElem?_getD, List.getD_eq_getElem?_getD, List.getElem?_append_right (by omega), hpl]
      rw [show i - (x.e + j) = (i - (x.e + j) - 1) + 1 by omega, List.getElem?_cons_succ]
      simp
    rw [this]
    exact blank_byt hR (by omega)
  have hlast : byt b (x.e + (12 + P.d.length)) = 0 := by
    have h1 : byt ((b.drop x.e).take (13 + P.d.length)) (12 + P.d.length) = byt b (x.e + (12 + P.d.length)) := by rw [byt_take (by omega), byt_drop]
    rw [e4] at h1
    rw [← h1]
    have h2 : build P.k P.n P.d = Sum.seal_ (head P.k P.n P.d.length ++ P.d) ++ [0] := rfl
    rw [h2]
    unfold byt
    rw [List.getD_eq_getElem?_getD, List.getElem?_append_right (by simp [Sum.seal_length, head_length]; omega)]
    simp [Sum.seal_length, head_length, show 12 + P.d.length - (8 + P.d.length + 4) = 0 by omega]
  have hpos : 12 + P.d.length ≤ j := by
    by_cases h : 12 + P.d.length ≤ j
    · exact h
    · have := hones (x.e + (12 + P.d.length)) (by omega) (by omega)
      omega
  -- so its head is whole
  have hlen : P.d.length = d.length := by
    have b1 : Oct.num b (x.e + 6) 2 = (P.d.length : Int) := by
      have hs : b = b.take x.e ++ build P.k P.n P.d ++ b.drop (x.e + (13 + P.d.length)) := by
        rw [← e4, List.append_assoc, ← List.drop_drop, List.take_append_drop, List.take_append_drop]
      have hE2 := err_ok e1
      have hl2 : (b.take x.e).length = x.e := by simp; omega
      have hd9 := hE2.2.2
      rw [hs, build_laid]
      rw [show b.take x.e ++ (head P.k P.n P.d.length ++ (P.d ++ (Oct.bytes ((Sum.on 0 (head P.k P.n P.d.length ++ P.d) : Nat) : Int) 4 ++ (Oct.bytes 0 1 ++ b.drop (x.e + (13 + P.d.length)))))) =
        (b.take x.e ++ (Oct.bytes 87 1 ++ (Oct.bytes P.k 1 ++ Oct.bytes P.n 4))) ++ (Oct.bytes (P.d.length : Int) 2 ++ (P.d ++ (Oct.bytes ((Sum.on 0 (head P.k P.n P.d.length ++ P.d) : Nat) : Int) 4 ++ (Oct.bytes 0 1 ++ b.drop (x.e + (13 + P.d.length)))))) by simp [head, List.append_assoc]]
      exact num_mid _ _ _ 2 _ (by simp [Oct.bytes_length]; omega) (by omega) (by show (P.d.length : Int) < 2 ^ 16; omega)
    have b2 : Oct.num b (x.e + 6) 2 = (d.length : Int) := by
      have hpx : p ++ (build k n d).take j = (p ++ build k n d).take (x.e + j) := by
        have e9 : (p ++ build k n d).take (x.e + j) = p.take (x.e + j) ++ (build k n d).take (x.e + j - p.length) := List.take_append
        rw [e9, List.take_of_length_le (show p.length ≤ x.e + j by omega), show x.e + j - p.length = j by omega]
      have hs2 : b.take (x.e + 8) = (p ++ build k n d).take (x.e + 8) := by
        rw [← hb, List.take_append_of_le_length (by omega), hpx, List.take_take]
        congr 1
        omega
      rw [num_same hs2 (by omega)]
      have hb0 := build_laid p d [] k n
      simp only [List.append_nil] at hb0
      rw [hb0, show p ++ (head k n d.length ++ (d ++ (Oct.bytes ((Sum.on 0 (head k n d.length ++ d) : Nat) : Int) 4 ++ Oct.bytes 0 1))) =
        (p ++ (Oct.bytes 87 1 ++ (Oct.bytes k 1 ++ Oct.bytes n 4))) ++ (Oct.bytes (d.length : Int) 2 ++ (d ++ (Oct.bytes ((Sum.on 0 (head k n d.length ++ d) : Nat) : Int) 4 ++ Oct.bytes 0 1))) by simp [head, List.append_assoc]]
      exact num_mid _ _ _ 2 _ (by simp [Oct.bytes_length, he]) (by omega) (by show (d.length : Int) < 2 ^ 16; omega)
    omega
  have hj2 : j = 12 + d.length := by omega
  have := ht hj2
  have h3 : byt b (x.e + j) = (t.toNat : Int) := by
    rw [← hb]
    unfold byt
    rw [List.getD_eq_getElem?_getD, List.getElem?_append_right (by omega), hpl]
    simp
  rw [hlen, ← hj2] at hlast
  rw [h3] at hlast
  refine this (UInt8.toNat_inj.1 ?_)
  have : (0 : UInt8).toNat = 0 := rfl
  omega
/-- Bytes that begin with a one hold nothing. -/
theorem look_ones {b : List UInt8} (h : byt b 0 = 255 ∨ b = []) : look b = Lk.zero := by
  have hs : Stop b Lk.zero := stop_ones (by
    rcases h with h | h
    · exact .inl h
    · subst h; right; simp [Lk.zero])
  unfold look
  simp [scan, hs]
end Sec
end Go.Proofs.Ytkkbjngjjeajoaa
