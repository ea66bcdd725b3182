/-
  Records in a row with anything behind them, as a sector's (plain facts). No program is named here.
-/
import Derived.Test.YtfiojimppbaihaaSecLaid
import Derived.Test.YtfiojimppbaihaaRecBlank
namespace Go.Proofs.Ytfiojimppbaihaa
namespace Sec
open Go.RowKit Mem Rec

theorem scan_cnt (bs : List UInt8) : ∀ (f : Nat) (x : Lk), x.cnt ≤ (scan bs f x).cnt := by
  intro f
  induction f with
  | zero => intro x; exact Nat.le_refl _
  | succ f ih =>
    intro x
    by_cases h : Stop bs x
    · simp [scan, h]
    · simp only [scan, if_neg h]
      have := ih (next bs x)
      have : (next bs x).cnt = x.cnt + 1 := rfl
      omega
/-- Does a record of the next number stand behind the rows? -/
def Nextd (num : Int) (ds : List (List UInt8)) (tail : List UInt8) : Prop := (parseA (rows num ds ++ tail) ((rows num ds).length : Int)).e = 0 ∧ (ds.length = 0 ∨ (parseA (rows num ds ++ tail) ((rows num ds).length : Int)).n = num + ds.length)
theorem rows_look {num : Int} {ds : List (List UInt8)} (tail : List UInt8) (h0 : 0 < num) (hm : num + ds.length ≤ 4294967295) (hd : ∀ d ∈ ds, d.length ≤ 960) :
    (Nextd num ds tail → ds.length < (look (rows num ds ++ tail)).cnt) ∧
    (¬ Nextd num ds tail → (look (rows num ds ++ tail)).cnt = ds.length ∧ (look (rows num ds ++ tail)).e = (rows num ds).length ∧ (0 < ds.length → (look (rows num ds ++ tail)).n = num + ds.length - 1 ∧ (look (rows num ds ++ tail)).d = ds.getLastD [])) := by
  obtain ⟨y, y1, y2, y3, y4, y5⟩ := scan_rows [] tail ds [] num Lk.zero ((rows num ds ++ tail).length + 1) rfl (fun h => absurd h (by decide)) h0 hm hd
  simp only [List.nil_append, List.length_nil, Nat.zero_add] at y1 y2
  have y3' : y.cnt = ds.length := by rw [y3]; show 0 + _ = _; omega
  have hl : look (rows num ds ++ tail) = scan (rows num ds ++ tail) ((rows num ds ++ tail).length + 1) y := by
    rw [← y1]
    exact scan_more _ _ _ _ (by show _ < 0 + _; omega) (by show _ < 0 + _; omega)
  have hln : ds.getLast? = some (ds.getLastD []) ∨ ds.length = 0 := by
    cases ds with
    | nil => exact .inr rfl
    | cons d r => left; simp [List.getLastD, List.getLast?_eq_some_getLast]
  have hP : ∀ z : Int, z = ((rows num ds).length : Int) → z = (y.e : Int) := fun z hz => by rw [hz, y2]
  unfold Nextd
  rw [hP _ rfl, hl]
  generalize rows num ds ++ tail = bs at *
  constructor
  · rintro ⟨e0, en⟩
    have hs : ¬ Stop bs y := by
      unfold Stop
      rintro (h | ⟨h1, h⟩)
      · exact h e0
      · rcases hln with hln | hln
        · have := (y5 _ hln).2.1
          rcases en with en | en
          · omega
          · omega
        · omega
    simp only [scan, if_neg hs]
    have := scan_cnt bs bs.length (next bs y)
    have : (next bs y).cnt = y.cnt + 1 := rfl
    omega
  · intro hno
    have hs : Stop bs y := by
      unfold Stop
      by_cases e0 : (parseA bs y.e).e = 0
      · right
        rcases hln with hln | hln
        · have h5 := (y5 _ hln).2.1
          by_cases hz : ds.length = 0
          · exact absurd ⟨e0, .inl hz⟩ hno
          · refine ⟨by omega, .inr fun e => hno ⟨e0, .inr ?_⟩⟩
            rw [e]
            omega
        · exact absurd ⟨e0, .inl hln⟩ hno
      · exact .inl e0
    simp only [scan, if_pos hs]
    refine ⟨y3', y2, fun hz => ?_⟩
    rcases hln with hln | hln
    · exact ⟨(y5 _ hln).2.1, (y5 _ hln).2.2⟩
    · omega
theorem rows_take {num : Int} {ds : List (List UInt8)} {k : Nat} (h : k < ds.length) : rows num (ds.take (k + 1)) = rows num (ds.take k) ++ build 1 (num + k) ds[k] := by
  rw [List.take_succ_eq_append_getElem h, rows_append]
  simp [rows, Nat.min_eq_left (Nat.le_of_lt h)]
theorem rows_le {num : Int} : ∀ {ds : List (List UInt8)}, (∀ d ∈ ds, d.length ≤ 960) → (rows num ds).length ≤ 973 * ds.length := by
  intro ds
  rw [rows_length]
  induction ds with
  | nil => intro _; simp
  | cons d r ih =>
    intro h
    have h1 := h d (by simp)
    have h2 := ih (fun x hx => h x (by simp [hx]))
    simp only [List.map_cons, List.sum_cons, List.length_cons]
    omega
end Sec
end Go.Proofs.Ytfiojimppbaihaa
