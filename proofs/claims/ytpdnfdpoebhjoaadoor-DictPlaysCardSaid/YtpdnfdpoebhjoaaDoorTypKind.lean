/-
  What is known of a type: about, and the methods of what it answers.
-/
import Derived.Test.YtpdnfdpoebhjoaaDoorTypGlob
import Derived.WalkKit
import Derived.WalkSpells
import Derived.WalkLawsBesides
import Derived.Deep.RegionWith
namespace Go.Proofs.YtpdnfdpoebhjoaaDoor
open Go.RowKit Mem
set_option linter.unusedVariables false

/-- What is known of a type, as a value. -/
def kagg (t : Int) : Value := .agg #[.string ⟨(Typ.name t).toArray⟩, .int .i64 (Typ.size t), .int .i64 (Typ.bits t), .int .i64 (Typ.low t), .int .i64 (Typ.high t)]
theorem kagg_out {t : Int} (h : t < 0 ∨ 22 ≤ t) : kagg t = .agg #[.string ⟨#[]⟩, .int .i64 0, .int .i64 0, .int .i64 0, .int .i64 0] := by
  obtain ⟨h1, h2, h3, h4, h5⟩ := Typ.out_all h
  unfold kagg
  rw [h1, h2, h3, h4, h5]

set_option maxRecDepth 100000 in
set_option maxHeartbeats 800000 in
theorem about_any (t : Int) (w : World) (hg : TG w) :
    Calls Tryd.prog 69 #[.int .i64 t] w fun e w' => e = .returned (kagg t) ∧ Below w.heap.size w w' := by
  rcases (by omega : t < 0 ∨ (0 ≤ t ∧ 22 ≤ t) ∨ (0 ≤ t ∧ t < 22)) with h | ⟨h, h'⟩ | ⟨h, h'⟩
  · have HK := Lib.hid (kagg_out (t := t) (.inl h))
    have d0 : decide (t < 0) = true := by simpa using h
    go_enter Tryd.func69, Tryd.ntmps69
    go_wp2_with fail
    refine bodyPost_ret (v := .agg #[.string ⟨#[]⟩, .int .i64 0, .int .i64 0, .int .i64 0, .int .i64 0]) (by simp [results, Tryd.results69, go_sem]) rfl ⟨by rw [HK.out], ?_⟩
    exact (Below.refl _ _).alloc (Nat.le_refl _) _
  · have HK := Lib.hid (kagg_out (t := t) (.inr h'))
    have d0 : decide (t < 0) = false := by simp; omega
    have d1 : decide (22 ≤ t) = true := by simp; omega
    go_enter Tryd.func69, Tryd.ntmps69
    go_wp2_with fail
    refine bodyPost_ret (v := .agg #[.string ⟨#[]⟩, .int .i64 0, .int .i64 0, .int .i64 0, .int .i64 0]) (by simp [results, Tryd.results69, go_sem]) rfl ⟨by rw [HK.out], ?_⟩
    exact (Below.refl _ _).alloc (Nat.le_refl _) _
  · have d0 : decide (t < 0) = false := by simp; omega
    have d1 : decide (22 ≤ t) = false := by simp; omega
    have hc : ∀ (o : Obj) (j : Nat), j < 5 → (w.alloc o).cell? ⟨0, t.toNat * 5 + j, none⟩ = some (kcell (Typ.idx t) j) := fun o j hj => below_cell ((Below.refl _ _).alloc (Nat.le_refl _) o) (Nat.le_refl _) (hg.at_ h h' j hj)
    have c0 := fun o => hc o 0 (by omega)
    have c1 := fun o => hc o 1 (by omega)
    have c2 := fun o => hc o 2 (by omega)
    have c3 := fun o => hc o 3 (by omega)
    have c4 := fun o => hc o 4 (by omega)
    rw [show kcell (Typ.idx t) 0 = .string ⟨(Typ.name t).toArray⟩ from rfl] at c0
    rw [show kcell (Typ.idx t) 1 = .int .i64 (Typ.size t) from rfl] at c1
    rw [show kcell (Typ.idx t) 2 = .int .i64 (Typ.bits t) from rfl] at c2
    rw [show kcell (Typ.idx t) 3 = .int .i64 (Typ.low t) from rfl] at c3
    rw [show kcell (Typ.idx t) 4 = .int .i64 (Typ.high t) from rfl] at c4
    rw [show kagg t = .agg #[.string ⟨(Typ.name t).toArray⟩, .int .i64 (Typ.size t), .int .i64 (Typ.bits t), .int .i64 (Typ.low t), .int .i64 (Typ.high t)] from rfl]
    generalize (⟨(Typ.name t).toArray⟩ : ByteArray) = x0 at *
    generalize Typ.size t = x1 at *
    generalize Typ.bits t = x2 at *
    generalize Typ.low t = x3 at *
    generalize Typ.high t = x4 at *
    rw [Nat.add_zero] at c0
    obtain ⟨n, rfl⟩ : ∃ n : Nat, t = (n : Int) := ⟨t.toNat, by omega⟩
    rw [Int.toNat_natCast] at c0 c1 c2 c3 c4
    clear hc hg
    go_enter Tryd.func69, Tryd.ntmps69
    go_wp2_with fail
    refine bodyPost_ret (v := .agg #[.string x0, .int .i64 x1, .int .i64 x2, .int .i64 x3, .int .i64 x4]) (by simp [results, Tryd.results69, go_sem]) rfl ⟨rfl, ?_⟩
    exact ((Below.refl _ _).alloc (Nat.le_refl _) _)

def kzero : Value := .agg #[.string ⟨#[]⟩, .int .i64 0, .int .i64 0, .int .i64 0, .int .i64 0]
theorem neq_in : ∀ n : Nat, n < 22 → ∀ W, (binOp .neq 93 (kagg (n : Int)) kzero).run Tryd.prog W = .ok (.bool (Typ.known (n : Int))) W := by
  intro n hn W
  rcases (by omega : n = 0 ∨ n = 1 ∨ n = 2 ∨ n = 3 ∨ n = 4 ∨ n = 5 ∨ n = 6 ∨ n = 7 ∨ n = 8 ∨ n = 9 ∨ n = 10 ∨ n = 11 ∨ n = 12 ∨ n = 13 ∨ n = 14 ∨ n = 15 ∨ n = 16 ∨ n = 17 ∨ n = 18 ∨ n = 19 ∨ n = 20 ∨ n = 21) with rfl | rfl | rfl | rfl | rfl | rfl | rfl | rfl | rfl | rfl | rfl | rfl | rfl | rfl | rfl | rfl | rfl | rfl | rfl | rfl | rfl | rfl
  all_goals kernel_rfl
theorem neq_zero (W : World) : (binOp .neq 93 kzero kzero).run Tryd.prog W = .ok (.bool false) W := by kernel_rfl
theorem known_out {t : Int} (h : t < 0 ∨ 22 ≤ t) : Typ.known t = false := by unfold Typ.known; rw [(Typ.out_all h).1]; rfl
theorem neq_kind (t : Int) (W : World) : (binOp .neq 93 (kagg t) kzero).run Tryd.prog W = .ok (.bool (Typ.known t)) W := by
  rcases Typ.cases_ t with ⟨n, hn, rfl⟩ | h
  · exact neq_in n hn W
  · rw [kagg_out h, known_out h]
    exact neq_zero W

/-- The methods. -/
theorem kknown_any (t : Int) (w : World) :
    Calls Tryd.prog 70 #[kagg t] w fun e w' => e = .returned (.bool (Typ.known t)) ∧ Below w.heap.size w w' := by
  have h := fun W => neq_kind t W
  unfold kagg kzero at h
  unfold kagg
  generalize Typ.known t = KN at *
  generalize (⟨(Typ.name t).toArray⟩ : ByteArray) = x0 at *
  generalize Typ.size t = x1 at *
  generalize Typ.bits t = x2 at *
  generalize Typ.low t = x3 at *
  generalize Typ.high t = x4 at *
  go_enter Tryd.func70, Tryd.ntmps70
  go_wp2_with fail
  go_ret
  exact ⟨rfl, (Below.refl _ _).alloc (Nat.le_refl _) _⟩
theorem kisNumber_any (t : Int) (w : World) :
    Calls Tryd.prog 81 #[kagg t] w fun e w' => e = .returned (.bool (Typ.isNum t)) ∧ Below w.heap.size w w' := by
  have HN : Hid (Typ.isNum t = decide (0 < Typ.bits t)) := Lib.hid rfl
  unfold kagg
  generalize Typ.isNum t = IN at *
  generalize (⟨(Typ.name t).toArray⟩ : ByteArray) = x0 at *
  generalize Typ.size t = x1 at *
  generalize Typ.bits t = x2 at *
  generalize Typ.low t = x3 at *
  generalize Typ.high t = x4 at *
  go_enter Tryd.func81, Tryd.ntmps81
  go_wp2_with fail
  go_ret
  exact ⟨by rw [HN.out]; rfl, (Below.refl _ _).alloc (Nat.le_refl _) _⟩
theorem ksigned_any (t : Int) (w : World) :
    Calls Tryd.prog 88 #[kagg t] w fun e w' => e = .returned (.bool (Typ.signed t)) ∧ Below w.heap.size w w' := by
  have HN : Hid (Typ.signed t = decide (Typ.low t < 0)) := Lib.hid rfl
  unfold kagg
  generalize Typ.signed t = IN at *
  generalize (⟨(Typ.name t).toArray⟩ : ByteArray) = x0 at *
  generalize Typ.size t = x1 at *
  generalize Typ.bits t = x2 at *
  generalize Typ.low t = x3 at *
  generalize Typ.high t = x4 at *
  go_enter Tryd.func88, Tryd.ntmps88
  go_wp2_with fail
  go_ret
  exact ⟨by rw [HN.out]; rfl, (Below.refl _ _).alloc (Nat.le_refl _) _⟩
def inLim (t n : Int) : Bool := decide (Typ.low t ≤ n ∧ n ≤ Typ.high t)
theorem kholds_any (t n : Int) (w : World) :
    Calls Tryd.prog 91 #[kagg t, .int .i64 n] w fun e w' => e = .returned (.bool (inLim t n)) ∧ Below w.heap.size w w' := by
  have HN : Hid (inLim t n = decide (Typ.low t ≤ n ∧ n ≤ Typ.high t)) := Lib.hid rfl
  unfold kagg
  generalize inLim t n = IN at *
  generalize (⟨(Typ.name t).toArray⟩ : ByteArray) = x0 at *
  generalize Typ.size t = x1 at *
  generalize Typ.bits t = x2 at *
  generalize Typ.low t = x3 at *
  generalize Typ.high t = x4 at *
  by_cases h : x3 ≤ n
  · have d0 : decide (x3 ≤ n) = true := by simpa using h
    go_enter Tryd.func91, Tryd.ntmps91
    go_wp2_with fail
    go_ret
    exact ⟨by rw [HN.out]; simp [h], (Below.refl _ _).alloc (Nat.le_refl _) _⟩
  · have d0 : decide (x3 ≤ n) = false := by simpa using h
    go_enter Tryd.func91, Tryd.ntmps91
    go_wp2_with fail
    go_ret
    exact ⟨by rw [HN.out]; simp; omega, (Below.refl _ _).alloc (Nat.le_refl _) _⟩
end Go.Proofs.YtpdnfdpoebhjoaaDoor
