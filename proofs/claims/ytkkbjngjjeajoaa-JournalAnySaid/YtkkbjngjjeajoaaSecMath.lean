/-
  A sector's records as values: one behind the other, as long as one of the next number stands there. No program is named here.
-/
import Derived.Test.YtkkbjngjjeajoaaRecLaid
namespace Go.Proofs.Ytkkbjngjjeajoaa
namespace Sec
open Go.RowKit Mem Rec

/-- What was found so far: the last record, how many, the place behind it. -/
structure Lk where
  k : Int
  n : Int
  d : List UInt8
  cnt : Nat
  e : Nat
def Lk.zero : Lk := ⟨0, 0, [], 0, 0⟩
/-- Does no record of the next number stand at the end? -/
def Stop (bs : List UInt8) (x : Lk) : Prop := (parseA bs x.e).e ≠ 0 ∨ 0 < x.cnt ∧ (x.n = 4294967295 ∨ (parseA bs x.e).n ≠ x.n + 1)
instance (bs : List UInt8) (x : Lk) : Decidable (Stop bs x) := by unfold Stop; infer_instance
def next (bs : List UInt8) (x : Lk) : Lk := ⟨(parseA bs x.e).k, (parseA bs x.e).n, (parseA bs x.e).d, x.cnt + 1, (parseA bs x.e).to.toNat⟩
def scan (bs : List UInt8) : Nat → Lk → Lk
  | 0, x => x
  | f + 1, x => if Stop bs x then x else scan bs f (next bs x)
def look (bs : List UInt8) : Lk := scan bs (bs.length + 1) Lk.zero

theorem next_to {bs : List UInt8} {x : Lk} (h : ¬ Stop bs x) : (parseA bs x.e).to = ((next bs x).e : Int) ∧ x.e + 13 ≤ (next bs x).e ∧ (next bs x).e ≤ bs.length ∧ (next bs x).d.length ≤ 960 := by
  have h0 : (parseA bs x.e).e = 0 := by
    unfold Stop at h
    omega
  obtain ⟨a, ha, e1, e2, e3, _⟩ := parse_only h0
  obtain ⟨_, _, hd⟩ := err_ok e1
  have : x.e = a := by omega
  subst this
  simp only [next, e2]
  omega
/-- Rounds enough are enough. -/
theorem scan_more (bs : List UInt8) : ∀ (f g : Nat) (x : Lk), bs.length < x.e + f → bs.length < x.e + g → scan bs f x = scan bs g x := by
  intro f
  induction f with
  | zero =>
    intro g x hf hg
    cases g with
    | zero => rfl
    | succ g =>
      have hs : Stop bs x := by
        by_cases h : Stop bs x
        · exact h
        · have := next_to h
          omega
      simp [scan, hs]
  | succ f ih =>
    intro g x hf hg
    by_cases h : Stop bs x
    · cases g with
      | zero => simp [scan, h]
      | succ g => simp [scan, h]
    · have h1 := next_to h
      cases g with
      | zero => omega
      | succ g =>
        simp only [scan, if_neg h]
        exact ih g _ (by omega) (by omega)
/-- What a walk over the records keeps. -/
def Way (bs : List UInt8) (x : Lk) : Prop := x.e ≤ bs.length ∧ x.d.length ≤ 960 ∧ x.cnt ≤ x.e ∧ ((0 ≤ x.k ∧ x.k ≤ 255) ∧ 0 ≤ x.n ∧ x.n ≤ 4294967295) ∧ scan bs (bs.length + 1 - x.e) x = look bs
theorem Way.zero (bs : List UInt8) : Way bs Lk.zero := ⟨by simp [Lk.zero], by simp [Lk.zero], by simp [Lk.zero], by simp [Lk.zero], rfl⟩
theorem Way.stop {bs : List UInt8} {x : Lk} (h : Way bs x) (hs : Stop bs x) : look bs = x := by
  obtain ⟨h1, _, _, _, h2⟩ := h
  rw [← h2, show bs.length + 1 - x.e = (bs.length - x.e) + 1 by omega]
  simp [scan, hs]
theorem Way.next {bs : List UInt8} {x : Lk} (h : Way bs x) (hs : ¬ Stop bs x) : Way bs (next bs x) := by
  obtain ⟨h1, h3, h4, _, h2⟩ := h
  have ht := next_to hs
  refine ⟨ht.2.2.1, ht.2.2.2, ?_, parse_bd, ?_⟩
  · show x.cnt + 1 ≤ _
    omega
  · rw [← h2]
    rw [show bs.length + 1 - x.e = (bs.length - x.e) + 1 by omega]
    simp only [scan, if_neg hs]
    exact scan_more bs _ _ _ (by omega) (by omega)

/-- Records laid one behind the other, with rising numbers. -/
def rows (num : Int) : List (List UInt8) → List UInt8
  | [] => []
  | d :: r => build 1 num d ++ rows (num + 1) r
theorem rows_length (num : Int) (ds : List (List UInt8)) : (rows num ds).length = (ds.map fun d => d.length + 13).sum := by
  induction ds generalizing num with
  | nil => rfl
  | cons d r ih => simp [rows, build_length, ih]
theorem rows_append (num : Int) (a b : List (List UInt8)) : rows num (a ++ b) = rows num a ++ rows (num + a.length) b := by
  induction a generalizing num with
  | nil => simp [rows]
  | cons d r ih =>
    simp only [List.cons_append, rows, ih, List.append_assoc, List.length_cons]
    congr 3
    omega
theorem err_row {num : Int} {d : List UInt8} (h0 : 0 < num) (hd : d.length ≤ 960) : err 1 num d.length = 0 := by
  unfold err
  rw [if_pos ⟨.inl rfl, by omega⟩, if_neg (by omega)]
/-- The walk comes through all the rows. -/
theorem scan_rows (pre tail : List UInt8) : ∀ (ds : List (List UInt8)) (done : List UInt8) (num : Int) (x : Lk) (f : Nat), x.e = pre.length + done.length → (0 < x.cnt → x.n + 1 = num) → 0 < num → num + ds.length ≤ 4294967295 → (∀ d ∈ ds, d.length ≤ 960) →
    ∃ y : Lk, scan (pre ++ done ++ rows num ds ++ tail) (f + ds.length) x = scan (pre ++ done ++ rows num ds ++ tail) f y ∧ y.e = pre.length + done.length + (rows num ds).length ∧ y.cnt = x.cnt + ds.length ∧ (ds = [] → y = x) ∧ (∀ d, ds.getLast? = some d → y.k = 1 ∧ y.n = num + ds.length - 1 ∧ y.d = d) := by
  intro ds
  induction ds with
  | nil =>
    intro done num x f he hn h0 hm hd
    exact ⟨x, rfl, by simp [rows, he], by simp, fun _ => rfl, fun d h => by simp at h⟩
  | cons d r ih =>
    intro done num x f he hn h0 hm hd
    have hE := err_row h0 (hd d (by simp))
    have hlen : ((d :: r).length : Int) = r.length + 1 := by simp
    have hp := parse_built (pre ++ done) d (rows (num + 1) r ++ tail) 1 num hE (by omega)
    have hb : pre ++ done ++ build 1 num d ++ (rows (num + 1) r ++ tail) = pre ++ done ++ rows num (d :: r) ++ tail := by simp [rows, List.append_assoc]
    rw [hb, show ((pre ++ done).length : Int) = (x.e : Int) by rw [he]; simp] at hp
    generalize hbs : pre ++ done ++ rows num (d :: r) ++ tail = bs at *
    have hs : ¬ Stop bs x := by
      unfold Stop
      rw [hp]
      simp only
      omega
    have hb2 : pre ++ (done ++ build 1 num d) ++ rows (num + 1) r ++ tail = bs := by rw [← hbs]; simp [rows, List.append_assoc]
    obtain ⟨y, y1, y2, y3, y4, y5⟩ := ih (done ++ build 1 num d) (num + 1) (next bs x) f (by
      simp only [next, hp]
      simp [build_length]
      omega) (fun _ => by simp only [next, hp]) (by omega) (by omega) (fun d' h' => hd d' (by simp [h']))
    rw [hb2] at y1
    refine ⟨y, ?_, ?_, ?_, fun h => by simp at h, fun d' hd' => ?_⟩
    · rw [List.length_cons, ← Nat.add_assoc]
      simp only [scan, if_neg hs]
      exact y1
    · rw [y2]
      simp [rows, build_length]
      omega
    · rw [y3]
      simp [next]
      omega
    · cases r with
      | nil =>
        have hy := y4 rfl
        subst hy
        simp at hd'
        subst hd'
        simp [next, hp]
      | cons e r =>
        have := y5 d' (by simpa using hd')
        simp only [List.length_cons] at this ⊢
        obtain ⟨t1, t2, t3⟩ := this
        refine ⟨t1, ?_, t3⟩
        omega
end Sec
end Go.Proofs.Ytkkbjngjjeajoaa
