/-
  The document's rows of codes, and what it takes of them: rows, find, Known, Counts, Family.
-/
import Derived.Test.YtielbmhaidjioaaDoorFltRows
namespace Go.Proofs.YtielbmhaidjioaaDoor
open Go.RowKit Mem
set_option linter.unusedVariables false

def rowCells : Array Value := #[
  .int .u32 84082688, .int .i64 1, .string ⟨#[116, 111, 103, 103, 108, 101, 32, 98, 105, 116, 32, 110, 111, 116, 32, 97, 108, 116, 101, 114, 110, 97, 116, 101, 100]⟩,
  .int .u32 84148224, .int .i64 1, .string ⟨#[112, 114, 111, 116, 111, 99, 111, 108, 32, 116, 105, 109, 101, 100, 32, 111, 117, 116]⟩,
  .int .u32 84148225, .int .i64 1, .string ⟨#[117, 110, 107, 110, 111, 119, 110, 32, 99, 111, 109, 109, 97, 110, 100]⟩,
  .int .u32 84148226, .int .i64 1, .string ⟨#[105, 110, 118, 97, 108, 105, 100, 32, 98, 108, 111, 99, 107, 32, 115, 105, 122, 101]⟩,
  .int .u32 84148227, .int .i64 1, .string ⟨#[105, 110, 118, 97, 108, 105, 100, 32, 115, 101, 113, 117, 101, 110, 99, 101, 32, 110, 117, 109, 98, 101, 114]⟩,
  .int .u32 84148228, .int .i64 1, .string ⟨#[115, 117, 109, 32, 101, 114, 114, 111, 114]⟩,
  .int .u32 84148229, .int .i64 1, .string ⟨#[111, 117, 116, 32, 111, 102, 32, 109, 101, 109, 111, 114, 121]⟩,
  .int .u32 100728832, .int .i64 2, .string ⟨#[117, 110, 115, 117, 112, 112, 111, 114, 116, 101, 100, 32, 97, 99, 99, 101, 115, 115]⟩,
  .int .u32 100728833, .int .i64 2, .string ⟨#[119, 114, 105, 116, 101, 32, 111, 110, 108, 121]⟩,
  .int .u32 100728834, .int .i64 2, .string ⟨#[114, 101, 97, 100, 32, 111, 110, 108, 121]⟩,
  .int .u32 100794368, .int .i64 2, .string ⟨#[110, 111, 32, 115, 117, 99, 104, 32, 111, 98, 106, 101, 99, 116]⟩,
  .int .u32 100925505, .int .i64 3, .string ⟨#[99, 97, 110, 32, 110, 111, 116, 32, 98, 101, 32, 109, 97, 112, 112, 101, 100]⟩,
  .int .u32 100925506, .int .i64 3, .string ⟨#[109, 97, 112, 112, 105, 110, 103, 32, 116, 111, 111, 32, 108, 111, 110, 103]⟩,
  .int .u32 100925507, .int .i64 3, .string ⟨#[112, 97, 114, 97, 109, 101, 116, 101, 114, 32, 105, 110, 99, 111, 109, 112, 97, 116, 105, 98, 108, 101]⟩,
  .int .u32 100925511, .int .i64 3, .string ⟨#[105, 110, 116, 101, 114, 110, 97, 108, 32, 105, 110, 99, 111, 109, 112, 97, 116, 105, 98, 105, 108, 105, 116, 121]⟩,
  .int .u32 101056512, .int .i64 5, .string ⟨#[104, 97, 114, 100, 119, 97, 114, 101, 32, 101, 114, 114, 111, 114]⟩,
  .int .u32 101122064, .int .i64 3, .string ⟨#[108, 101, 110, 103, 116, 104, 32, 100, 111, 101, 115, 32, 110, 111, 116, 32, 109, 97, 116, 99, 104]⟩,
  .int .u32 101122066, .int .i64 3, .string ⟨#[116, 111, 111, 32, 108, 111, 110, 103]⟩,
  .int .u32 101122067, .int .i64 3, .string ⟨#[116, 111, 111, 32, 115, 104, 111, 114, 116]⟩,
  .int .u32 101253137, .int .i64 2, .string ⟨#[110, 111, 32, 115, 117, 99, 104, 32, 115, 117, 98, 45, 105, 110, 100, 101, 120]⟩,
  .int .u32 101253168, .int .i64 4, .string ⟨#[118, 97, 108, 117, 101, 32, 111, 117, 116, 32, 111, 102, 32, 114, 97, 110, 103, 101]⟩,
  .int .u32 101253169, .int .i64 4, .string ⟨#[118, 97, 108, 117, 101, 32, 116, 111, 111, 32, 104, 105, 103, 104]⟩,
  .int .u32 101253170, .int .i64 4, .string ⟨#[118, 97, 108, 117, 101, 32, 116, 111, 111, 32, 108, 111, 119]⟩,
  .int .u32 134217728, .int .i64 5, .string ⟨#[103, 101, 110, 101, 114, 97, 108, 32, 101, 114, 114, 111, 114]⟩,
  .int .u32 134217760, .int .i64 5, .string ⟨#[99, 97, 110, 32, 110, 111, 116, 32, 98, 101, 32, 115, 116, 111, 114, 101, 100]⟩,
  .int .u32 134217761, .int .i64 5, .string ⟨#[108, 111, 99, 97, 108, 32, 99, 111, 110, 116, 114, 111, 108]⟩,
  .int .u32 134217762, .int .i64 5, .string ⟨#[100, 101, 118, 105, 99, 101, 32, 115, 116, 97, 116, 101]⟩,
  .int .u32 134217764, .int .i64 5, .string ⟨#[110, 111, 32, 100, 97, 116, 97]⟩]
theorem rowCells_at (k : Nat) (hk : k < 28) : rowCells[k * 3]? = some (.int .u32 (Flt.codes.getD k 0)) ∧ rowCells[k * 3 + 1]? = some (.int .i64 (Flt.fams.getD k 0 : Nat)) ∧ rowCells[k * 3 + 2]? = some (.string ⟨(Flt.says.getD k []).toArray⟩) :=
  match k, hk with
  | 0, _ => ⟨rfl, rfl, rfl⟩
  | 1, _ => ⟨rfl, rfl, rfl⟩
  | 2, _ => ⟨rfl, rfl, rfl⟩
  | 3, _ => ⟨rfl, rfl, rfl⟩
  | 4, _ => ⟨rfl, rfl, rfl⟩
  | 5, _ => ⟨rfl, rfl, rfl⟩
  | 6, _ => ⟨rfl, rfl, rfl⟩
  | 7, _ => ⟨rfl, rfl, rfl⟩
  | 8, _ => ⟨rfl, rfl, rfl⟩
  | 9, _ => ⟨rfl, rfl, rfl⟩
  | 10, _ => ⟨rfl, rfl, rfl⟩
  | 11, _ => ⟨rfl, rfl, rfl⟩
  | 12, _ => ⟨rfl, rfl, rfl⟩
  | 13, _ => ⟨rfl, rfl, rfl⟩
  | 14, _ => ⟨rfl, rfl, rfl⟩
  | 15, _ => ⟨rfl, rfl, rfl⟩
  | 16, _ => ⟨rfl, rfl, rfl⟩
  | 17, _ => ⟨rfl, rfl, rfl⟩
  | 18, _ => ⟨rfl, rfl, rfl⟩
  | 19, _ => ⟨rfl, rfl, rfl⟩
  | 20, _ => ⟨rfl, rfl, rfl⟩
  | 21, _ => ⟨rfl, rfl, rfl⟩
  | 22, _ => ⟨rfl, rfl, rfl⟩
  | 23, _ => ⟨rfl, rfl, rfl⟩
  | 24, _ => ⟨rfl, rfl, rfl⟩
  | 25, _ => ⟨rfl, rfl, rfl⟩
  | 26, _ => ⟨rfl, rfl, rfl⟩
  | 27, _ => ⟨rfl, rfl, rfl⟩
  | n + 28, h => absurd h (by omega)
/-- The rows lie in block g. -/
def IsRows (w : World) (g : Nat) : Prop := ∀ k, k < 28 → w.cell? ⟨g, k * 3, none⟩ = some (.int .u32 (Flt.codes.getD k 0)) ∧ w.cell? ⟨g, k * 3 + 1, none⟩ = some (.int .i64 (Flt.fams.getD k 0 : Nat)) ∧ w.cell? ⟨g, k * 3 + 2, none⟩ = some (.string ⟨(Flt.says.getD k []).toArray⟩)
theorem IsRows.new (w : World) (t : TypeId) : IsRows (w.alloc (.cells rowCells t)) w.heap.size := by
  intro k hk
  obtain ⟨h1, h2, h3⟩ := rowCells_at k hk
  refine ⟨?_, ?_, ?_⟩
  · rw [World.cell?_alloc_at _ _ _ _ (by simp)]; exact h1
  · rw [World.cell?_alloc_at _ _ _ _ (by simp)]; exact h2
  · rw [World.cell?_alloc_at _ _ _ _ (by simp)]; exact h3

set_option maxRecDepth 100000 in
set_option maxHeartbeats 1000000 in
theorem rows_any (w : World) :
    Calls Tryd.prog 38 #[] w fun e w' => e = .returned (.slice (some ⟨w.heap.size, 0, none⟩) 28 28) ∧ w' = w.alloc (.cells rowCells 48) := by
  go_enter Tryd.func38, Tryd.ntmps38
  go_wp2_with fail
  go_ret
  exact ⟨rfl, rfl⟩

theorem fams_fam {c : Int} {k : Nat} (hk : k < 28) (h : Flt.codes.getD k 0 = c) : Flt.fams.getD k 0 = Flt.fam c := by
  unfold Flt.fam
  rw [Flt.idx_at hk h]
theorem rowText_at {c : Int} {k : Nat} (hk : k < 28) (h : Flt.codes.getD k 0 = c) : Flt.says.getD k [] = Flt.rowText c := by
  unfold Flt.rowText
  rw [Flt.idx_at hk h]
theorem rowText_no {c : Int} (h : ∀ k, k < 28 → Flt.codes.getD k 0 ≠ c) : Flt.rowText c = [] := by
  unfold Flt.rowText
  rw [Flt.idx_no h]
  rfl
theorem known_at {c : Int} {k : Nat} (hk : k < 28) (h : Flt.codes.getD k 0 = c) : Flt.known c = true := by
  unfold Flt.known
  rw [Flt.idx_at hk h]
  simpa using hk
/-- The row of a code, 0 ahead if there is none. -/
def rowC (c : Int) : Int := if Flt.known c then c else 0
def rowV (c : Int) : Value := .agg #[.int .u32 (rowC c), .int .i64 (Flt.fam c : Nat), .string ⟨(Flt.rowText c).toArray⟩]

set_option maxRecDepth 100000 in
set_option maxHeartbeats 1000000 in
theorem find_any (c : Int) (w : World) :
    Calls Tryd.prog 28 #[.int .u32 c] w fun e w' => e = .returned (rowV c) ∧ Below w.heap.size w w' := by
  go_enter Tryd.func28, Tryd.ntmps28
  go_wp2_with (go_at_call 38; refine (rows_any _).mono ?_; rintro e w' ⟨rfl, rfl⟩)
  have hI := IsRows.new (w.alloc (.cells #[.int .u32 0, .int .i64 0, .string { data := #[] }] 48)) 48
  have hb : Below w.heap.size w ((w.alloc (.cells #[.int .u32 0, .int .i64 0, .string { data := #[] }] 48)).alloc (.cells rowCells 48)) := ((Below.refl _ _).alloc (Nat.le_refl _) _).alloc (by simp) _
  have c0 : ((w.alloc (.cells #[.int .u32 0, .int .i64 0, .string { data := #[] }] 48)).alloc (.cells rowCells 48)).cell? ⟨w.heap.size, 0, none⟩ = some (.int .u32 0) := by simp
  have c1 : ((w.alloc (.cells #[.int .u32 0, .int .i64 0, .string { data := #[] }] 48)).alloc (.cells rowCells 48)).cell? ⟨w.heap.size, 1, none⟩ = some (.int .i64 0) := by simp
  have c2 : ((w.alloc (.cells #[.int .u32 0, .int .i64 0, .string { data := #[] }] 48)).alloc (.cells rowCells 48)).cell? ⟨w.heap.size, 2, none⟩ = some (.string { data := #[] }) := by simp
  have f0 : ∀ j, ((w.alloc (.cells #[.int .u32 0, .int .i64 0, .string { data := #[] }] 48)).alloc (.cells rowCells 48)).frozen? ⟨w.heap.size, j, none⟩ = false := by intro j; simp
  rw [World.size_alloc] at hI
  generalize hW : (w.alloc (.cells #[.int .u32 0, .int .i64 0, .string { data := #[] }] 48)).alloc (.cells rowCells 48) = W at *
  clear hW
  have HI := Lib.hid hI
  clear hI
  go_loop [4] (fun i => ∃ k : Nat, k ≤ 28 ∧ i = .int .i64 k ∧ (∀ j, j < k → Flt.codes.getD j 0 ≠ c)) (fun i => 28 - (intOf i).toNat)
  case atStart => exact ⟨0, by omega, rfl, fun j hj => by omega⟩
  case round =>
    obtain ⟨k, hk, rfl, hno⟩ := hrel
    have HN := Lib.hid hno
    clear hno
    by_cases hlt : k < 28
    · obtain ⟨h1, h2, h3⟩ := HI.out k hlt
      by_cases he : Flt.codes.getD k 0 = c
      · have HE := Lib.hid (And.intro (fams_fam hlt he) (rowText_at hlt he))
        have HK := Lib.hid (known_at hlt he)
        have hh1 := fams_fam hlt he
        have hh2 := rowText_at hlt he
        rw [he] at h1
        rw [hh1] at h2
        rw [hh2] at h3
        clear he hh1 hh2
        go_wp2_with fail
        refine bodyPost_ret (v := rowV c) ?_ rfl ⟨rfl, ((hb.setCell (p := ⟨w.heap.size, 0, none⟩) (Nat.le_refl _) _).setCell (p := ⟨w.heap.size, 1, none⟩) (Nat.le_refl _) _).setCell (p := ⟨w.heap.size, 2, none⟩) (Nat.le_refl _) _⟩
        unfold rowV rowC
        rw [if_pos HK.out]
        simp [results, Tryd.results28, go_sem, c0, c1, c2]
      · have he' : (Flt.codes.getD k 0 == c) = false := by simpa using he
        have HE := Lib.hid he
        clear he h2 h3
        generalize hx : Flt.codes.getD k 0 = x at *
        have HX := Lib.hid hx
        clear hx
        go_wp2_with fail
        go_round
        case rel =>
          refine ⟨k + 1, by omega, by go_num, fun j hj => ?_⟩
          by_cases hjk : j = k
          · subst hjk; rw [HX.out]; exact HE.out
          · exact HN.out j (by omega)
        case measure => simp [intOf]; omega
    · obtain rfl : k = 28 := by omega
      have HF := Lib.hid (fam_none HN.out)
      have HT := Lib.hid (rowText_no HN.out)
      go_wp2_with fail
      refine bodyPost_ret (v := rowV c) ?_ rfl ⟨rfl, ((hb.setCell (p := ⟨w.heap.size, 0, none⟩) (Nat.le_refl _) _).setCell (p := ⟨w.heap.size, 1, none⟩) (Nat.le_refl _) _).setCell (p := ⟨w.heap.size, 2, none⟩) (Nat.le_refl _) _⟩
      unfold rowV rowC
      rw [if_neg (fun h => by have := (Flt.fam_known c).1 HF.out; rw [h] at this; cases this), HF.out, HT.out]
      simp [results, Tryd.results28, go_sem, c0, c1, c2]

theorem find_at {c : Int} {r : Int} {y : Nat} {z : List UInt8} (hr : Hid (rowC c = r)) (hy : Hid (Flt.fam c = y)) (hz : Hid (Flt.rowText c = z)) (w : World) :
    Calls Tryd.prog 28 #[.int .u32 c] w fun e w' => e = .returned (.agg #[.int .u32 r, .int .i64 (y : Nat), .string ⟨z.toArray⟩]) ∧ Below w.heap.size w w' := by
  have := find_any c w
  unfold rowV at this
  rw [hr.out, hy.out, hz.out] at this
  exact this

theorem known_ne (c : Int) : (((Flt.fam c : Nat) : Int) != 0) = Flt.known c := by
  cases h : Flt.known c with
  | false => rw [(Flt.fam_known c).2 h]; rfl
  | true =>
    have : Flt.fam c ≠ 0 := fun e => by rw [(Flt.fam_known c).1 e] at h; cases h
    simpa using this
theorem bool_ret {a b : Bool} (h : a = b) : Ending.returned (.bool a) = .returned (.bool b) := by rw [h]
theorem int_ret {k : IntKind} {a b : Int} (h : a = b) : Ending.returned (.int k a) = .returned (.int k b) := by rw [h]

end Go.Proofs.YtielbmhaidjioaaDoor
