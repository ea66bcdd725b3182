/-
  A journal as a plain value: where a record goes, what an Append makes of a flash, whole or torn. No program is named here.
  What an Append makes of a journal: what it tells behind it, its work, its wear. No program is named here.
-/
import Derived.Test.YtkkbjngjjeajoaaJouBytes
import Derived.Test.YtkkbjngjjeajoaaJouWear
namespace Go.Proofs.Ytkkbjngjjeajoaa
namespace Jou
open Go.RowKit Mem Fla Rec Sec
set_option linter.unusedVariables false
set_option maxRecDepth 100000

/-- What a flash's sectors hold. -/
def lk (bs : List UInt8) (i : Nat) : Lk := Sec.look (secOf bs i)
/-- Are all bytes behind the records ones? -/
def clean (sb : List UInt8) : Bool := decide (∀ y ∈ sb.drop (Sec.look sb).e, y = 255)
def unused (bs : List UInt8) (i : Nat) : Bool := decide ((lk bs i).cnt = 0) && clean (secOf bs i)
def nsec (bs : List UInt8) : Nat := bs.length / 1024
/-- The newest of the first k sectors. -/
def nstF (L : Nat → Lk) : Nat → Option Nat
  | 0 => none
  | k + 1 =>
    match nstF L k with
    | none => if 0 < (L k).cnt then some k else none
    | some b => if 0 < (L k).cnt ∧ (L b).n < (L k).n then some k else some b
/-- Of the first k sectors that can: the least worn. -/
def nxtF (can : Nat → Bool) (w : Nat → Int) : Nat → Option Nat
  | 0 => none
  | k + 1 =>
    match nxtF can w k with
    | none => if can k then some k else none
    | some b => if can k ∧ w k < w b then some k else some b
theorem nstF_spec (L : Nat → Lk) (N : Nat) : Newest N L (nstF L N) := by
  induction N with
  | zero => intro i hi; omega
  | succ k ih =>
    unfold nstF
    cases h : nstF L k with
    | none =>
      rw [h] at ih
      by_cases hc : 0 < (L k).cnt
      · simp only [if_pos hc]
        refine ⟨by omega, hc, fun i hi hci => ?_⟩
        by_cases e : i = k
        · subst e; simp
        · have := ih i (by omega); omega
      · simp only [if_neg hc]
        intro i hi
        by_cases e : i = k
        · subst e; omega
        · exact ih i (by omega)
    | some b =>
      rw [h] at ih
      obtain ⟨h1, h2, h3⟩ := ih
      by_cases hc : 0 < (L k).cnt ∧ (L b).n < (L k).n
      · simp only [if_pos hc]
        refine ⟨by omega, hc.1, fun i hi hci => ?_⟩
        by_cases e : i = k
        · subst e; simp
        · have := h3 i (by omega) hci
          constructor
          · omega
          · intro e2; omega
      · simp only [if_neg hc]
        refine ⟨by omega, h2, fun i hi hci => ?_⟩
        by_cases e : i = k
        · subst e
          constructor
          · have : ¬ (L b).n < (L i).n := fun q => hc ⟨hci, q⟩
            omega
          · intro _; omega
        · exact h3 i (by omega) hci
theorem nxtF_spec (can : Nat → Bool) (w : Nat → Int) (N : Nat) : (nxtF can w N = none → ∀ i, i < N → can i = false) ∧ (∀ t, nxtF can w N = some t → t < N ∧ can t = true ∧ ∀ i, i < N → can i = true → w t ≤ w i) := by
  induction N with
  | zero => exact ⟨fun _ i hi => by omega, fun t ht => by simp [nxtF] at ht⟩
  | succ k ih =>
    unfold nxtF
    cases h : nxtF can w k with
    | none =>
      have h0 := ih.1 h
      by_cases hc : can k = true
      · simp only [if_pos hc]
        refine ⟨fun e => by simp at e, fun t ht => ?_⟩
        simp only [Option.some.injEq] at ht
        subst ht
        refine ⟨by omega, hc, fun i hi hci => ?_⟩
        by_cases e : i = k
        · subst e; omega
        · rw [h0 i (by omega)] at hci; cases hci
      · simp only [if_neg hc]
        refine ⟨fun _ i hi => ?_, fun t ht => by simp at ht⟩
        by_cases e : i = k
        · subst e; simpa using hc
        · exact h0 i (by omega)
    | some b =>
      obtain ⟨h1, h2, h3⟩ := ih.2 b h
      by_cases hc : can k = true ∧ w k < w b
      · simp only [if_pos hc]
        refine ⟨fun e => by simp at e, fun t ht => ?_⟩
        simp only [Option.some.injEq] at ht
        subst ht
        refine ⟨by omega, hc.1, fun i hi hci => ?_⟩
        by_cases e : i = k
        · subst e; omega
        · have := h3 i (by omega) hci; omega
      · simp only [if_neg hc]
        refine ⟨fun e => by simp at e, fun t ht => ?_⟩
        simp only [Option.some.injEq] at ht
        subst ht
        refine ⟨by omega, h2, fun i hi hci => ?_⟩
        by_cases e : i = k
        · subst e
          have : ¬ w i < w b := fun q => hc ⟨hci, q⟩
          omega
        · exact h3 i (by omega) hci
/-- The sector with the newest record. -/
def newest (bs : List UInt8) : Option Nat := nstF (lk bs) (nsec bs)
theorem newest_spec (bs : List UInt8) : Newest (nsec bs) (lk bs) (newest bs) := nstF_spec _ _
/-- What is told: the last record. -/
def tell (bs : List UInt8) : Lk := match newest bs with | none => Lk.zero | some a => lk bs a
/-- Where a record goes: its sector, the place there; is it erased ahead? -/
structure Pl where
  t : Nat
  e : Nat
  er : Bool
def can (s : Fl) (i : Nat) : Bool := decide (newest s.bs ≠ some i) && (unused s.bs i || decide (0 < s.left (i : Int)))
def room (bs : List UInt8) (a n : Nat) : Bool := clean (secOf bs a) && decide ((lk bs a).e ≤ 1024 ∧ n ≤ 960 ∧ 13 + n ≤ 1024 - (lk bs a).e)
def begin_ (s : Fl) : Option Pl := match nxtF (can s) s.wearAt (nsec s.bs) with | none => none | some t => some ⟨t, 0, !unused s.bs t⟩
def place (s : Fl) (n : Nat) : Option Pl :=
  match newest s.bs with
  | none => begin_ s
  | some a => if room s.bs a n then some ⟨a, (lk s.bs a).e, false⟩ else begin_ s
/-- A record is laid at a place. -/
def lay (s : Fl) (p : Pl) (x : List UInt8) : Fl × Int :=
  if p.er then (if s.eraseC p.t ≠ 0 then (s.erase p.t, s.eraseC p.t) else (s.erase p.t).prog (p.t * 1024 + p.e) x) else s.prog (p.t * 1024 + p.e) x
/-- An Append: the flash behind it, the error. -/
def app (s : Fl) (k : Int) (d : List UInt8) : Fl × Int :=
  if !s.on then (s, 7)
  else if (tell s.bs).n = 4294967295 then (s, 6)
  else if err k ((tell s.bs).n + 1) d.length ≠ 0 then (s, err k ((tell s.bs).n + 1) d.length)
  else match place s d.length with
    | none => (s, 10)
    | some p => lay s p (build k ((tell s.bs).n + 1) d)

theorem tell_bd (bs : List UInt8) : (0 ≤ (tell bs).n ∧ (tell bs).n ≤ 4294967295) ∧ (0 ≤ (tell bs).k ∧ (tell bs).k ≤ 255) ∧ (tell bs).d.length ≤ 960 := by
  unfold tell
  cases newest bs with
  | none => simp [Lk.zero]
  | some a =>
    obtain ⟨_, _, _, h, _, hb, _⟩ := look_e (secOf bs a)
    exact ⟨hb.2, hb.1, h⟩
/-- All numbers are at most the told one. -/
theorem tell_top {bs : List UInt8} {i : Nat} (hi : i < nsec bs) (hc : 0 < (lk bs i).cnt) : (lk bs i).n ≤ (tell bs).n := by
  have h := newest_spec bs
  unfold tell
  cases e : newest bs with
  | none =>
    rw [e] at h
    have := h i hi
    omega
  | some a =>
    rw [e] at h
    exact (h.2.2 i hi hc).1

/-- What laying a record of n bytes at t, behind what stands there, makes of a flash. -/
structure Lay (s s' : Fl) (c : Int) (t : Nat) (k n : Int) (d : List UInt8) : Prop where
  wear : s'.wear = s.wear
  most : s'.most = s.most
  len : s'.bs.length = s.bs.length
  oth : ∀ i, i ≠ t → secOf s'.bs i = secOf s.bs i
  out : c = 0 ∧ s'.on = s.on ∧ s'.pl = s.pl ∧ s'.ops = s.ops + (13 + d.length) ∧ lk s'.bs t = ⟨k, n, d, (lk s.bs t).cnt + 1, (lk s.bs t).e + (13 + d.length)⟩ ∨
    c = 7 ∧ s.pl = true ∧ s'.on = false ∧ s'.pl = false ∧ (lk s'.bs t = lk s.bs t ∨ lk s'.bs t = ⟨k, n, d, (lk s.bs t).cnt + 1, (lk s.bs t).e + (13 + d.length)⟩)
theorem clean_all {sb : List UInt8} (h : clean sb = true) : ∀ y ∈ sb.drop (Sec.look sb).e, y = 255 := of_decide_eq_true h
theorem prog_lay {s : Fl} {t : Nat} {k n : Int} {d : List UInt8} (ht : t * 1024 + 1024 ≤ s.bs.length) (hE : err k n d.length = 0) (hn : 0 ≤ n ∧ n ≤ 4294967295)
    (hnum : 0 < (lk s.bs t).cnt → (lk s.bs t).n + 1 = n) (hfit : (lk s.bs t).e + (13 + d.length) ≤ 1024) (hcl : clean (secOf s.bs t) = true) (ha : 0 ≤ s.ahead) :
    Lay s (s.prog (t * 1024 + (lk s.bs t).e) (build k n d)).1 (s.prog (t * 1024 + (lk s.bs t).e) (build k n d)).2 t k n d := by
  have hsl := secOf_len ht
  have hx : (build k n d).length = 13 + d.length := by rw [build_length]; omega
  have hcl' := clean_all hcl
  have hfit' : (Sec.look (secOf s.bs t)).e + (13 + d.length) ≤ (secOf s.bs t).length := by rw [hsl]; exact hfit
  have W := sec_whole hE hn hnum hfit' hcl'
  have hT := fun (j : Nat) (b : UInt8) (hj : j < 13 + d.length) (hb : j = 12 + d.length → b ≠ 0) => sec_torn (sb := secOf s.bs t) (n := n) hE hfit' hcl' (j := j) (t := b) hj hb
  unfold lk at *
  generalize hy : Sec.look (secOf s.bs t) = y at *
  have hlk : lk s.bs t = y := hy
  have h255 : ∀ i, t * 1024 + y.e ≤ i → i < t * 1024 + y.e + (build k n d).length → s.bs.getD i 0 = 255 := by
    intro i h1 h2
    have hlt : i < s.bs.length := by omega
    rw [List.getD_eq_getElem?_getD, List.getElem?_eq_getElem hlt]
    refine hcl' _ ?_
    have e1 : (secOf s.bs t)[i - t * 1024]? = some s.bs[i] := by
      rw [secOf_get, if_pos (by omega), show t * 1024 + (i - t * 1024) = i by omega, List.getElem?_eq_getElem hlt]
    have e2 : ((secOf s.bs t).drop y.e)[i - t * 1024 - y.e]? = some s.bs[i] := by
      rw [List.getElem?_drop, show y.e + (i - t * 1024 - y.e) = i - t * 1024 by omega, e1]
    exact List.mem_of_getElem? e2
  have hend : t * 1024 + y.e + (build k n d).length ≤ s.bs.length := by omega
  have hz := zipA_ones (build k n d) s.bs (t * 1024 + y.e) hend h255
  have whole : ∀ s' : Fl, s'.bs = splice s.bs (t * 1024 + y.e) (build k n d) → Sec.look (secOf s'.bs t) = ⟨k, n, d, y.cnt + 1, y.e + (13 + d.length)⟩ ∧ s'.bs.length = s.bs.length ∧ ∀ i, i ≠ t → secOf s'.bs i = secOf s.bs i := by
    intro s' hs'
    rw [hs']
    refine ⟨?_, splice_len hend, fun i hi => secOf_other ht (by omega) hi⟩
    rw [secOf_same ht (by omega)]
    exact W.1
  by_cases hp : s.pl = true
  · by_cases hfar : ((build k n d).length : Int) ≤ s.ahead
    · rw [prog_far _ _ _ hp hfar]
      obtain ⟨w1, w2, w3⟩ := whole { s with bs := zipA s.bs (t * 1024 + y.e) (build k n d), ahead := s.ahead - (build k n d).length, ops := s.ops + (build k n d).length } hz
      exact ⟨rfl, rfl, w2, w3, .inl ⟨rfl, rfl, rfl, by show s.ops + ((build k n d).length : Int) = _; omega, by rw [hlk]; exact w1⟩⟩
    · obtain ⟨j, hj⟩ : ∃ j : Nat, s.ahead = (j : Int) := ⟨s.ahead.toNat, by omega⟩
      have hjl : j < (build k n d).length := by omega
      rw [prog_cut j _ _ _ hp hj hjl]
      have hc := cut_ones s.mask hend hjl h255
      have hxl : ((build k n d).take j ++ [tornB 255 ((build k n d).getD j 0) s.mask]).length = j + 1 := by simp; omega
      refine ⟨rfl, rfl, ?_, ?_, .inr ⟨rfl, hp, rfl, rfl, ?_⟩⟩
      · show (List.set _ _ _).length = _
        rw [hc, splice_len (by omega)]
      · intro i hi
        show secOf (List.set _ _ _) i = _
        rw [hc]
        exact secOf_other ht (by omega) hi
      · show Sec.look (secOf (List.set _ _ _) t) = _ ∨ Sec.look (secOf (List.set _ _ _) t) = _
        rw [hc, secOf_same ht (by omega), hlk]
        by_cases hb : j = 12 + d.length ∧ tornB 255 ((build k n d).getD j 0) s.mask = 0
        · right
          obtain ⟨hb1, hb2⟩ := hb
          subst hb1
          rw [hb2, torn_whole]
          exact W.1
        · left
          exact hT j _ (by omega) (fun e1 e2 => hb ⟨e1, e2⟩)
  · have hp' : s.pl = false := by simpa using hp
    rw [prog_plain _ _ _ hp']
    obtain ⟨w1, w2, w3⟩ := whole { s with bs := zipA s.bs (t * 1024 + y.e) (build k n d), ops := s.ops + (build k n d).length } hz
    exact ⟨rfl, rfl, w2, w3, .inl ⟨rfl, rfl, rfl, by show s.ops + ((build k n d).length : Int) = _; omega, by rw [hlk]; exact w1⟩⟩
/-- What an erasing of sector t makes of a flash. -/
structure Era (s s' : Fl) (c : Int) (t : Nat) : Prop where
  wear : s'.wear = s.wear.set t (s.wearAt t + 1)
  most : s'.most = s.most
  len : s'.bs.length = s.bs.length
  oth : ∀ i, i ≠ t → secOf s'.bs i = secOf s.bs i
  ahd : 0 ≤ s'.ahead
  out : c = 0 ∧ s'.on = s.on ∧ s'.pl = s.pl ∧ s'.ops = s.ops + 1 ∧ unused s'.bs t = true ∧ lk s'.bs t = Lk.zero ∨ c = 7 ∧ s.pl = true ∧ s'.on = false ∧ s'.pl = false ∧ (lk s'.bs t = lk s.bs t ∨ lk s'.bs t = Lk.zero)
theorem erase_lay {s : Fl} {t : Nat} (hon : s.on = true) (ht : t < nsec s.bs) (hl : s.left (t : Int) ≠ 0) (ha : 0 ≤ s.ahead) : Era s (s.erase t) (s.eraseC t) t := by
  have hT : t * 1024 + 1024 ≤ s.bs.length := by unfold nsec at ht; omega
  have hsl := secOf_len hT
  have hh : s.has (t : Int) = true := by
    have : (0 : Int) ≤ (t : Int) ∧ (t : Int) < ((s.bs.length / 1024 : Nat) : Int) := ⟨by omega, by unfold nsec at ht; omega⟩
    simpa [Fl.has] using this
  have e1 : s.eraseC (t : Int) = if s.cuts then 7 else 0 := by
    unfold Fl.eraseC
    rw [if_neg (by simp [hon]), if_neg (by simp [hh]), if_neg hl]
  have e2 : s.erase (t : Int) = if s.cuts then ((s.wearUp t).with_ (ones s.bs (t * 1024) (s.mask.toNat % 1025))).fell else ((s.wearUp t).with_ (ones s.bs (t * 1024) 1024)).past := by
    unfold Fl.erase
    rw [if_neg (by simp [hon]), if_neg (by simp [hh]), if_neg hl]
    rfl
  rw [e1, e2]
  by_cases hc : s.cuts = true
  · have hp : s.pl = true := by
      unfold Fl.cuts at hc
      revert hc
      cases s.pl <;> simp
    rw [if_pos hc, if_pos hc]
    have hm : s.mask.toNat % 1025 ≤ 1024 := by omega
    generalize s.mask.toNat % 1025 = m at hm
    have hb : (ones s.bs (t * 1024) m) = splice s.bs (t * 1024 + 0) (List.replicate m 255) := by rw [ones_splice]; simp
    refine ⟨rfl, rfl, ?_, ?_, Int.le_refl _, .inr ⟨rfl, hp, rfl, rfl, ?_⟩⟩
    · show (ones s.bs (t * 1024) m).length = _
      rw [ones_length (by omega)]
    · intro i hi
      show secOf (ones s.bs (t * 1024) m) i = _
      rw [hb]
      exact secOf_other hT (by simp; omega) hi
    · show lk (ones s.bs (t * 1024) m) t = _ ∨ lk (ones s.bs (t * 1024) m) t = _
      unfold lk
      rw [hb, secOf_same hT (by simp; omega)]
      by_cases h0 : 0 < m
      · right
        exact sec_erased h0 (by omega)
      · left
        have : m = 0 := by omega
        subst this
        simp [splice]
  · rw [if_neg hc, if_neg hc]
    have hb : (ones s.bs (t * 1024) 1024) = splice s.bs (t * 1024 + 0) (List.replicate 1024 255) := by rw [ones_splice]; simp
    have hso : secOf (ones s.bs (t * 1024) 1024) t = splice (secOf s.bs t) 0 (List.replicate 1024 255) := by
      rw [hb, secOf_same hT (by simp)]
    have hlk : lk (ones s.bs (t * 1024) 1024) t = Lk.zero := by
      unfold lk
      rw [hso]
      exact sec_erased (by omega) (by omega)
    refine ⟨rfl, rfl, ?_, ?_, ?_, .inl ⟨rfl, rfl, rfl, rfl, ?_, hlk⟩⟩
    · show (ones s.bs (t * 1024) 1024).length = _
      rw [ones_length (by omega)]
    · intro i hi
      show secOf (ones s.bs (t * 1024) 1024) i = _
      rw [hb]
      exact secOf_other hT (by simp) hi
    · show 0 ≤ (if s.pl then s.ahead - 1 else s.ahead)
      split
      · rename_i hp
        have : s.ahead ≠ 0 := by simpa [Fl.cuts, hp] using hc
        omega
      · exact ha
    · show unused (ones s.bs (t * 1024) 1024) t = true
      unfold unused clean
      rw [hlk, hso]
      have e1 : splice (secOf s.bs t) 0 (List.replicate 1024 255) = List.replicate 1024 255 := by
        unfold splice
        rw [List.drop_of_length_le (by simp; omega)]
        simp
      rw [e1]
      simp only [Bool.and_eq_true, decide_eq_true_eq]
      refine ⟨rfl, fun y hy => ?_⟩
      exact (List.mem_replicate.1 (List.mem_of_mem_drop hy)).2
end Jou
end Go.Proofs.Ytkkbjngjjeajoaa

namespace Go.Proofs.Ytkkbjngjjeajoaa
namespace Jou
open Go.RowKit Mem Fla Rec Sec
set_option linter.unusedVariables false
set_option maxRecDepth 100000

theorem cnt_up (bs : List UInt8) : ∀ (f : Nat) (x : Lk), x.cnt ≤ (scan bs f x).cnt := by
  intro f
  induction f with
  | zero => intro x; exact Nat.le_refl _
  | succ f ih =>
    intro x
    by_cases h : Stop bs x
    · simp [scan, h]
    · simp only [scan, if_neg h]
      have := ih (Sec.next bs x)
      have : (Sec.next bs x).cnt = x.cnt + 1 := rfl
      omega
theorem look_none {bs : List UInt8} (h : (Sec.look bs).cnt = 0) : Sec.look bs = Lk.zero := by
  by_cases hs : Stop bs Lk.zero
  · exact (Way.zero bs).stop hs
  · exfalso
    unfold Sec.look at h
    simp only [scan, if_neg hs] at h
    have := cnt_up bs bs.length (Sec.next bs Lk.zero)
    have : (Sec.next bs Lk.zero).cnt = 0 + 1 := rfl
    omega
/-- What is known of the place at which a record goes. -/
structure Plc (s : Fl) (n : Nat) (p : Pl) : Prop where
  lt : p.t < nsec s.bs
  way : (newest s.bs = some p.t ∧ p.e = (lk s.bs p.t).e ∧ p.er = false ∧ clean (secOf s.bs p.t) = true ∧ (lk s.bs p.t).e + (13 + n) ≤ 1024) ∨
    (newest s.bs ≠ some p.t ∧ p.e = 0 ∧ p.er = !unused s.bs p.t ∧ (p.er = true → 0 < s.left (p.t : Int)) ∧ ∀ i, i < nsec s.bs → can s i = true → s.wearAt p.t ≤ s.wearAt i)
theorem begin_spec {s : Fl} {p : Pl} (h : begin_ s = some p) (n : Nat) : Plc s n p := by
  unfold begin_ at h
  cases e : nxtF (can s) s.wearAt (nsec s.bs) with
  | none => simp [e] at h
  | some t =>
    simp only [e, Option.some.injEq] at h
    subst h
    obtain ⟨h1, h2, h3⟩ := (nxtF_spec _ _ _).2 t e
    have h2' := h2
    unfold can at h2'
    simp only [ne_eq, Bool.and_eq_true, decide_eq_true_eq, Bool.or_eq_true] at h2'
    refine ⟨h1, .inr ⟨h2'.1, rfl, rfl, fun hu => ?_, h3⟩⟩
    rcases h2'.2 with q | q
    · rw [q] at hu; simp at hu
    · exact q
theorem place_spec {s : Fl} {n : Nat} {p : Pl} (h : place s n = some p) : Plc s n p := by
  unfold place at h
  cases e : newest s.bs with
  | none =>
    simp only [e] at h
    exact begin_spec h n
  | some a =>
    simp only [e] at h
    by_cases hr : room s.bs a n = true
    · rw [if_pos hr] at h
      simp only [Option.some.injEq] at h
      subst h
      have hN := newest_spec s.bs
      rw [e] at hN
      unfold room at hr
      simp only [Bool.and_eq_true, decide_eq_true_eq] at hr
      exact ⟨hN.1, .inl ⟨e, rfl, rfl, hr.1, by show (lk s.bs a).e + _ ≤ _; omega⟩⟩
    · rw [if_neg hr] at h
      exact begin_spec h n
/-- There is a place, if all sectors but the newest can be begun. -/
theorem place_some {s : Fl} (n : Nat) (h : 2 ≤ nsec s.bs) (hl : ∀ i, i < nsec s.bs → 0 < s.left (i : Int)) : ∃ p, place s n = some p := by
  have hb : ∃ p, begin_ s = some p := by
    unfold begin_
    cases e : nxtF (can s) s.wearAt (nsec s.bs) with
    | some t => exact ⟨_, rfl⟩
    | none =>
      exfalso
      have h0 := (nxtF_spec (can s) s.wearAt (nsec s.bs)).1 e
      have hc : ∀ i, i < nsec s.bs → newest s.bs ≠ some i → can s i = true := by
        intro i hi hne
        unfold can
        simp only [ne_eq, Bool.and_eq_true, decide_eq_true_eq, Bool.or_eq_true]
        exact ⟨hne, .inr (hl i hi)⟩
      have a0 := h0 0 (by omega)
      have a1 := h0 1 (by omega)
      have c0 := hc 0 (by omega)
      have c1 := hc 1 (by omega)
      by_cases h1 : newest s.bs = some 0
      · rw [c1 (by rw [h1]; simp)] at a1; cases a1
      · rw [c0 h1] at a0; cases a0
  unfold place
  cases e : newest s.bs with
  | none => exact hb
  | some a =>
    simp only
    split
    · exact ⟨_, rfl⟩
    · exact hb

/-- What an Append at place p makes of a flash. -/
structure Step (s s' : Fl) (c : Int) (p : Pl) (k : Int) (d : List UInt8) : Prop where
  wear : s'.wear = if p.er then s.wear.set p.t (s.wearAt p.t + 1) else s.wear
  most : s'.most = s.most
  len : s'.bs.length = s.bs.length
  oth : ∀ i, i ≠ p.t → secOf s'.bs i = secOf s.bs i
  out : c = 0 ∧ s'.on = true ∧ s'.pl = s.pl ∧ s'.ops = s.ops + (13 + d.length) + (if p.er then 1 else 0) ∧ ((lk s'.bs p.t).k = k ∧ (lk s'.bs p.t).n = (tell s.bs).n + 1 ∧ (lk s'.bs p.t).d = d ∧ 0 < (lk s'.bs p.t).cnt) ∨
    c = 7 ∧ s.pl = true ∧ s'.on = false ∧ s'.pl = false ∧ (((lk s'.bs p.t).k = k ∧ (lk s'.bs p.t).n = (tell s.bs).n + 1 ∧ (lk s'.bs p.t).d = d ∧ 0 < (lk s'.bs p.t).cnt) ∨ lk s'.bs p.t = lk s.bs p.t ∨ newest s.bs ≠ some p.t ∧ (lk s'.bs p.t).cnt = 0)
theorem lay_step {s : Fl} {p : Pl} {k : Int} {d : List UInt8} (hp : Plc s d.length p) (hon : s.on = true) (ha : 0 ≤ s.ahead) (hm : (tell s.bs).n ≠ 4294967295) (hE : err k ((tell s.bs).n + 1) d.length = 0) :
    Step s (lay s p (build k ((tell s.bs).n + 1) d)).1 (lay s p (build k ((tell s.bs).n + 1) d)).2 p k d := by
  have hb := (tell_bd s.bs).1
  have hn : 0 ≤ (tell s.bs).n + 1 ∧ (tell s.bs).n + 1 ≤ 4294967295 := by omega
  have hT : p.t * 1024 + 1024 ≤ s.bs.length := by have := hp.lt; unfold nsec at this; omega
  obtain ⟨_, _, hdl⟩ := err_ok hE
  obtain ⟨hlt, hway⟩ := hp
  obtain ⟨t, e, er⟩ := p
  simp only at hlt hway hT
  rcases hway with ⟨w1, w2, w3, w4, w5⟩ | ⟨w1, w2, w3, w4, w5⟩
  · subst w2 w3
    have htl : tell s.bs = lk s.bs t := by unfold tell; rw [w1]
    have hL := prog_lay (k := k) (n := (tell s.bs).n + 1) hT hE hn (fun _ => by rw [htl]) w5 w4 ha
    unfold lay
    rw [if_neg (by simp)]
    refine ⟨hL.wear, hL.most, hL.len, hL.oth, ?_⟩
    rcases hL.out with ⟨o1, o2, o3, o4, o5⟩ | ⟨o1, o2, o3, o4, o5⟩
    · left
      refine ⟨o1, o2.trans hon, o3, by simp [o4], ?_⟩
      simp only [o5]
      exact ⟨trivial, trivial, trivial, by omega⟩
    · right
      refine ⟨o1, o2, o3, o4, ?_⟩
      rcases o5 with o5 | o5
      · exact .inr (.inl o5)
      · left
        simp only [o5]
        exact ⟨trivial, trivial, trivial, by omega⟩
  · subst w2
    cases er with
    | false =>
      have hu : unused s.bs t = true := by simpa using w3
      have hu' := hu
      unfold unused at hu'
      simp only [Bool.and_eq_true, decide_eq_true_eq] at hu'
      obtain ⟨u1, u2⟩ := hu'
      have hz : lk s.bs t = Lk.zero := look_none u1
      have hL := prog_lay (k := k) (n := (tell s.bs).n + 1) hT hE hn (fun h => by omega) (by rw [hz]; show 0 + _ ≤ _; omega) u2 ha
      unfold lay
      rw [if_neg (by simp)]
      rw [hz] at hL
      have hL' : Lay s (s.prog (t * 1024 + 0) (build k ((tell s.bs).n + 1) d)).1 (s.prog (t * 1024 + 0) (build k ((tell s.bs).n + 1) d)).2 t k ((tell s.bs).n + 1) d := hL
      refine ⟨hL'.wear, hL'.most, hL'.len, hL'.oth, ?_⟩
      rcases hL'.out with ⟨o1, o2, o3, o4, o5⟩ | ⟨o1, o2, o3, o4, o5⟩
      · left
        refine ⟨o1, o2.trans hon, o3, by rw [o4]; simp, ?_⟩
        simp only [o5]
        exact ⟨trivial, trivial, trivial, by omega⟩
      · right
        refine ⟨o1, o2, o3, o4, ?_⟩
        rcases o5 with o5 | o5
        · exact .inr (.inl o5)
        · left
          simp only [o5]
          exact ⟨trivial, trivial, trivial, by omega⟩
    | true =>
      have hl : 0 < s.left (t : Int) := w4 rfl
      have hR := erase_lay hon hlt (by omega) ha
      unfold lay
      rw [if_pos rfl]
      simp only
      generalize s.erase (t : Int) = s1 at hR ⊢
      generalize s.eraseC (t : Int) = c1 at hR ⊢
      rcases hR.out with ⟨o1, o2, o3, o4, o5, o6⟩ | ⟨o1, o2, o3, o4, o5⟩
      · rw [if_neg (by omega)]
        have hT1 : t * 1024 + 1024 ≤ s1.bs.length := by rw [hR.len]; exact hT
        have u2 : clean (secOf s1.bs t) = true := by
          unfold unused at o5
          simp only [Bool.and_eq_true] at o5
          exact o5.2
        have hL := prog_lay (s := s1) (k := k) (n := (tell s.bs).n + 1) hT1 hE hn (fun h => by rw [o6] at h; exact absurd h (by decide)) (by rw [o6]; show 0 + _ ≤ _; omega) u2 hR.ahd
        rw [o6] at hL
        have hL' : Lay s1 (s1.prog (t * 1024 + 0) (build k ((tell s.bs).n + 1) d)).1 (s1.prog (t * 1024 + 0) (build k ((tell s.bs).n + 1) d)).2 t k ((tell s.bs).n + 1) d := hL
        refine ⟨by rw [hL'.wear, hR.wear]; rfl, hL'.most.trans hR.most, hL'.len.trans hR.len, fun i hi => (hL'.oth i hi).trans (hR.oth i hi), ?_⟩
        rcases hL'.out with ⟨q1, q2, q3, q4, q5⟩ | ⟨q1, q2, q3, q4, q5⟩
        · left
          refine ⟨q1, (q2.trans o2).trans hon, q3.trans o3, ?_, ?_⟩
          · rw [q4, o4]
            simp
            omega
          · simp only [q5]
            exact ⟨trivial, trivial, trivial, by omega⟩
        · right
          refine ⟨q1, by rw [← o3]; exact q2, q3, q4, ?_⟩
          rcases q5 with q5 | q5
          · refine .inr (.inr ⟨w1, ?_⟩)
            simp only [q5, o6]
            rfl
          · left
            simp only [q5]
            exact ⟨trivial, trivial, trivial, by omega⟩
      · rw [if_pos (by omega)]
        refine ⟨by rw [hR.wear]; rfl, hR.most, hR.len, hR.oth, .inr ⟨o1, o2, o3, o4, ?_⟩⟩
        rcases o5 with o5 | o5
        · exact .inr (.inl o5)
        · refine .inr (.inr ⟨w1, ?_⟩)
          simp only [o5]
          rfl

section
variable {s s' : Fl} {c : Int} {p : Pl} {k : Int} {d : List UInt8}
theorem Step.nsec (h : Step s s' c p k d) : Jou.nsec s'.bs = Jou.nsec s.bs := by unfold Jou.nsec; rw [h.len]
theorem Step.lk (h : Step s s' c p k d) : ∀ i, i ≠ p.t → Jou.lk s'.bs i = Jou.lk s.bs i := fun i hi => by unfold Jou.lk; rw [h.oth i hi]
theorem Step.upd (h : Step s s' c p k d) : Jou.lk s'.bs = upL (Jou.lk s.bs) p.t (Jou.lk s'.bs p.t) := by
  funext i
  unfold upL
  by_cases e : i = p.t
  · subst e; simp
  · rw [if_neg e]; exact h.lk i e
theorem newest_eq {bs : List UInt8} {a : Option Nat} (h : Newest (Jou.nsec bs) (Jou.lk bs) a) : newest bs = a := Newest.unique (newest_spec bs) h
/-- The record is there. -/
theorem Step.new (h : Step s s' c p k d) (hp : Plc s d.length p) (hk : (Jou.lk s'.bs p.t).k = k ∧ (Jou.lk s'.bs p.t).n = (tell s.bs).n + 1 ∧ (Jou.lk s'.bs p.t).d = d ∧ 0 < (Jou.lk s'.bs p.t).cnt) :
    newest s'.bs = some p.t ∧ tell s'.bs = Jou.lk s'.bs p.t ∧ (tell s'.bs).k = k ∧ (tell s'.bs).n = (tell s.bs).n + 1 ∧ (tell s'.bs).d = d := by
  have e : newest s'.bs = some p.t := by
    refine newest_eq ?_
    rw [h.nsec, h.upd]
    refine (newest_spec s.bs).laid hp.lt hk.2.2.2 fun a ha => ?_
    rw [hk.2.1]
    have : tell s.bs = Jou.lk s.bs a := by unfold tell; rw [ha]
    rw [this]
    omega
  have e2 : tell s'.bs = Jou.lk s'.bs p.t := by unfold tell; rw [e]
  exact ⟨e, e2, by rw [e2]; exact hk.1, by rw [e2]; exact hk.2.1, by rw [e2]; exact hk.2.2.1⟩
/-- It is not there. -/
theorem Step.old (h : Step s s' c p k d) (hk : Jou.lk s'.bs p.t = Jou.lk s.bs p.t ∨ newest s.bs ≠ some p.t ∧ (Jou.lk s'.bs p.t).cnt = 0) : newest s'.bs = newest s.bs ∧ tell s'.bs = tell s.bs := by
  have e : newest s'.bs = newest s.bs := by
    refine newest_eq ?_
    rw [h.nsec]
    rcases hk with hk | ⟨h1, h2⟩
    · refine (newest_spec s.bs).congr fun i _ => ?_
      by_cases e : i = p.t
      · subst e; exact hk
      · exact h.lk i e
    · rw [h.upd]
      exact (newest_spec s.bs).emptied h1 h2
  refine ⟨e, ?_⟩
  unfold tell
  rw [e]
  cases hq : newest s.bs with
  | none => rfl
  | some a =>
    simp only
    by_cases ea : a = p.t
    · subst ea
      rcases hk with hk | ⟨h1, _⟩
      · exact hk
      · exact absurd hq h1
    · exact h.lk a ea
/-- What an Append tells behind it: the record, or what was told. -/
theorem Step.tells (h : Step s s' c p k d) (hp : Plc s d.length p) : (c = 0 ∨ c = 7) ∧ (c = 0 → newest s'.bs = some p.t) ∧
    (((tell s'.bs).k = k ∧ (tell s'.bs).n = (tell s.bs).n + 1 ∧ (tell s'.bs).d = d ∧ newest s'.bs = some p.t) ∨ c = 7 ∧ tell s'.bs = tell s.bs ∧ newest s'.bs = newest s.bs) := by
  rcases h.out with ⟨o1, o2, o3, o4, o5⟩ | ⟨o1, o2, o3, o4, o5⟩
  · obtain ⟨n1, n2, n3, n4, n5⟩ := h.new hp o5
    exact ⟨.inl o1, fun _ => n1, .inl ⟨n3, n4, n5, n1⟩⟩
  · refine ⟨.inr o1, fun e => by omega, ?_⟩
    rcases o5 with o5 | o5
    · obtain ⟨n1, n2, n3, n4, n5⟩ := h.new hp o5
      exact .inl ⟨n3, n4, n5, n1⟩
    · obtain ⟨n1, n2⟩ := h.old o5
      exact .inr ⟨o1, n2, n1⟩

/-! ### Wear -/
def wsum (w : Nat → Int) : Nat → Int
  | 0 => 0
  | n + 1 => wsum w n + w n
theorem wsum_same {w v : Nat → Int} {N : Nat} (h : ∀ i, i < N → w i = v i) : wsum w N = wsum v N := by
  induction N with
  | zero => rfl
  | succ n ih => simp only [wsum]; rw [ih fun i hi => h i (by omega), h n (by omega)]
theorem wsum_up {w : Nat → Int} {t N : Nat} (h : t < N) : wsum (up w t) N = wsum w N + 1 := by
  induction N with
  | zero => omega
  | succ n ih =>
    simp only [wsum]
    by_cases e : t = n
    · subst e
      rw [wsum_same (v := w) fun i hi => by unfold up; rw [if_neg (by omega)]]
      unfold up
      simp
      omega
    · rw [ih (by omega)]
      have : up w t n = w n := by unfold up; rw [if_neg (by omega)]
      rw [this]
      omega
theorem Step.wears (h : Step s s' c p k d) (h8 : s.wear.length = 8) (ht : p.t < 8) : s'.wearAt = if p.er then up s.wearAt p.t else s.wearAt := by
  have hw := h.wear
  funext i
  unfold Fl.wearAt
  rw [hw]
  by_cases e : p.er = true
  · rw [if_pos e, if_pos e]
    unfold up
    simp only [List.getD_eq_getElem?_getD, List.getElem?_set]
    by_cases ei : i = p.t
    · subst ei
      rw [if_pos rfl, if_pos (by omega), if_pos rfl]
      rfl
    · rw [if_neg (fun q => ei q.symm), if_neg ei]
  · rw [if_neg e, if_neg e]
/-- The drift of a journal's wears, behind x failures. -/
def Dr (s : Fl) (x : Int) : Prop := Drift (Jou.nsec s.bs) s.wearAt (newest s.bs) (unused s.bs) x
theorem Step.drift (h : Step s s' c p k d) (hp : Plc s d.length p) (h8 : s.wear.length = 8) (hN : Jou.nsec s.bs ≤ 8) (hl : ∀ i, i < Jou.nsec s.bs → 0 < s.left (i : Int)) {x : Int} (x0 : 0 ≤ x) (hd : Dr s x) :
    (c = 0 → Dr s' x) ∧ (c = 7 → Dr s' (x + 1)) := by
  have hw := h.wears h8 (by have := hp.lt; omega)
  have hoth : ∀ i, i ≠ p.t → unused s'.bs i = unused s.bs i := fun i hi => by unfold unused; rw [h.lk i hi, h.oth i hi]
  have hs : ∀ i, newest s.bs = some i → unused s.bs i = false := by
    intro i hi
    have := newest_spec s.bs
    rw [hi] at this
    unfold unused
    have h0 : (Jou.lk s.bs i).cnt ≠ 0 := by have := this.2.1; omega
    simp [h0]
  have hfull : ∀ {bs : List UInt8} {i : Nat}, 0 < (Jou.lk bs i).cnt → unused bs i = false := by
    intro bs i hc
    unfold unused
    have h0 : (Jou.lk bs i).cnt ≠ 0 := by omega
    simp [h0]
  unfold Dr
  rw [h.nsec, hw]
  obtain ⟨hlt, hway⟩ := hp
  unfold Dr at hd
  have hp' : Plc s d.length p := ⟨hlt, hway⟩
  rcases hway with ⟨w1, w2, w3, w4, w5⟩ | ⟨w1, w2, w3, w4, w5⟩
  · rw [w3, if_neg (by decide)]
    have hut := hs _ w1
    -- it stays where it is
    have hstay : newest s'.bs = newest s.bs ∧ ∀ i, i < Jou.nsec s.bs → unused s'.bs i = true → unused s.bs i = true := by
      have key : ((Jou.lk s'.bs p.t).k = k ∧ (Jou.lk s'.bs p.t).n = (tell s.bs).n + 1 ∧ (Jou.lk s'.bs p.t).d = d ∧ 0 < (Jou.lk s'.bs p.t).cnt) ∨ Jou.lk s'.bs p.t = Jou.lk s.bs p.t := by
        rcases h.out with ⟨_, _, _, _, o5⟩ | ⟨_, _, _, _, o5⟩
        · exact .inl o5
        · rcases o5 with o5 | o5 | o5
          · exact .inl o5
          · exact .inr o5
          · exact absurd w1 o5.1
      have hc : 0 < (Jou.lk s'.bs p.t).cnt := by
        rcases key with q | q
        · exact q.2.2.2
        · rw [q]
          have := newest_spec s.bs
          rw [w1] at this
          exact this.2.1
      refine ⟨?_, fun i hi hu => ?_⟩
      · rcases key with q | q
        · rw [(h.new hp' q).1, w1]
        · exact (h.old (.inl q)).1
      · by_cases e : i = p.t
        · subst e; rw [hfull hc] at hu; cases hu
        · rw [hoth i e] at hu; exact hu
    rw [hstay.1]
    exact ⟨fun _ => hd.more hstay.2 (Int.le_refl _), fun _ => hd.more hstay.2 (by omega)⟩
  · have hle : Least (Jou.nsec s.bs) s.wearAt (newest s.bs) p.t := by
      refine ⟨hlt, w1, fun i hi hne => w5 i hi ?_⟩
      unfold can
      simp only [ne_eq, Bool.and_eq_true, decide_eq_true_eq, Bool.or_eq_true]
      exact ⟨hne, .inr (hl i hi)⟩
    have hclA : ∀ i, i < Jou.nsec s.bs → unused s'.bs i = true → i = p.t ∨ unused s.bs i = true := by
      intro i _ hu
      by_cases e : i = p.t
      · exact .inl e
      · rw [hoth i e] at hu; exact .inr hu
    have hclN : 0 < (Jou.lk s'.bs p.t).cnt → ∀ i, i < Jou.nsec s.bs → unused s'.bs i = true → i ≠ p.t ∧ unused s.bs i = true := by
      intro hc i _ hu
      by_cases e : i = p.t
      · subst e; rw [hfull hc] at hu; cases hu
      · rw [hoth i e] at hu; exact ⟨e, hu⟩
    cases her : p.er with
    | false =>
      rw [if_neg (by decide)]
      have hu : unused s.bs p.t = true := by rw [her] at w3; simpa using w3
      have hcl' : ∀ i, i < Jou.nsec s.bs → unused s'.bs i = true → unused s.bs i = true := by
        intro i hi hq
        rcases hclA i hi hq with e | e
        · subst e; exact hu
        · exact e
      rcases h.out with ⟨o1, o2, o3, o4, o5⟩ | ⟨o1, o2, o3, o4, o5⟩
      · rw [(h.new hp' o5).1]
        exact ⟨fun _ => hd.begun hu hcl', fun e => by omega⟩
      · refine ⟨fun e => by omega, fun _ => ?_⟩
        rcases o5 with o5 | o5
        · rw [(h.new hp' o5).1]
          exact (hd.begun hu hcl').more (fun i _ q => q) (by omega)
        · rw [(h.old o5).1]
          exact hd.more hcl' (by omega)
    | true =>
      rw [if_pos rfl]
      rcases h.out with ⟨o1, o2, o3, o4, o5⟩ | ⟨o1, o2, o3, o4, o5⟩
      · rw [(h.new hp' o5).1]
        exact ⟨fun _ => hd.erased x0 hle hs (hclN o5.2.2.2), fun e => by omega⟩
      · refine ⟨fun e => by omega, fun _ => ?_⟩
        rcases o5 with o5 | o5
        · rw [(h.new hp' o5).1]
          exact (hd.erased x0 hle hs (hclN o5.2.2.2)).more (fun i _ q => q) (by omega)
        · rw [(h.old o5).1]
          exact hd.torn x0 hle hs hclA
end
end Jou
end Go.Proofs.Ytkkbjngjjeajoaa
