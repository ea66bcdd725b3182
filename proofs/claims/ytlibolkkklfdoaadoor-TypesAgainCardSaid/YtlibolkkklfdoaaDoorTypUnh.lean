/-
  unhexed.
-/
import Derived.Test.YtlibolkkklfdoaaDoorTypKnown
import Derived.Test.YtlibolkkklfdoaaDoorOctHex
namespace Go.Proofs.YtlibolkkklfdoaaDoor
open Go.RowKit Mem
set_option linter.unusedVariables false

/-- unhexed: the bytes, if the text has the form. -/
def unhB (l : List UInt8) : Option (List UInt8) := match l with
  | 35 :: r => Oct.unhex r
  | _ => none
theorem unh_cases (l : List UInt8) : (∃ r, l = 35 :: r ∧ unhB l = Oct.unhex r ∧ Lib.hasPrefix l [35] = true ∧ Lib.trimPrefix l [35] = r) ∨ (unhB l = none ∧ Lib.hasPrefix l [35] = false ∧ Lib.trimPrefix l [35] = l ∧ ∀ r, l ≠ 35 :: r) := by
  cases l with
  | nil => right; exact ⟨rfl, rfl, rfl, fun r => by simp⟩
  | cons c r =>
    by_cases h : c = 35
    · subst h; left; exact ⟨r, rfl, rfl, by simp [Lib.hasPrefix, List.isPrefixOf], by simp [Lib.trimPrefix, Lib.hasPrefix, List.isPrefixOf]⟩
    · have h0 : Lib.hasPrefix (c :: r) [35] = false := by simp [Lib.hasPrefix, List.isPrefixOf]; exact fun e => h e.symm
      right
      refine ⟨?_, h0, by unfold Lib.trimPrefix; rw [h0]; rfl, fun r' e => h (by cases e; rfl)⟩
      unfold unhB
      split
      · rename_i e; cases e; exact absurd rfl h
      · rfl
/-- What unhexed and unquoted answer. -/
def Maybe (t : TypeId) (w : World) (o : Option (List UInt8)) (e : Ending) (w' : World) : Prop :=
  (∀ bs, o = some bs → ∃ v, e = .returned (.tuple #[v, .bool true]) ∧ Own w' w.heap.size t v bs) ∧
  (o = none → ∃ v, e = .returned (.tuple #[v, .bool false])) ∧ Below w.heap.size w w'

set_option maxRecDepth 100000 in
set_option maxHeartbeats 1000000 in
theorem unhexed_any (l : List UInt8) (w : World) (hle : l.length ≤ 1000000) :
    Calls Tryd.prog 58 #[.string ⟨l.toArray⟩] w (Maybe 5 w (unhB l)) := by
  have HC := Lib.hid (fun W => Tryd.strings_CutPrefix ⟨l.toArray⟩ ⟨#[35]⟩ W)
  rw [show (⟨l.toArray⟩ : ByteArray).data.toList = l from rfl, show (⟨#[35]⟩ : ByteArray).data.toList = [35] from rfl] at HC
  rcases unh_cases l with ⟨r, hl, h1, h2, h3⟩ | ⟨h1, h2, h3, _⟩
  · rw [h2, h3] at HC
    have hr : r.length ≤ 1000000 := by rw [hl] at hle; simp at hle; omega
    have HU := Lib.hid (fun W => unhex_any r W (by omega))
    rw [h1]
    clear h1 h2 h3 hl
    go_enter Tryd.func58, Tryd.ntmps58
    go_wp2_with fail
    refine (HC.out _).mono ?_
    rintro e w1 ⟨rfl, rfl⟩
    go_wp2_with fail
    refine (HU.out _).mono ?_
    rintro e w2 ⟨u1, u2, u3⟩
    cases hu : Oct.unhex r with
    | none =>
      have := u2 hu
      subst this
      have HO := Lib.hid hu
      clear u1 u2 hu
      go_wp2_with fail
      go_ret2
      exact ⟨fun _ h => (by rw [HO.out] at h; cases h), fun _ => ⟨_, rfl⟩, u3⟩
    | some bs =>
      obtain ⟨v, rfl, ho⟩ := u1 bs hu
      have HO := Lib.hid hu
      clear u1 u2 hu
      unfold pairOk
      go_wp2_with fail
      go_ret2
      exact ⟨fun _ h => (by rw [HO.out] at h; cases h; exact ⟨_, rfl, ho⟩), fun h => (by rw [HO.out] at h; cases h), u3⟩
  · rw [h2] at HC
    rw [h1]
    generalize Lib.trimPrefix l [35] = L at *
    clear h1 h2
    go_enter Tryd.func58, Tryd.ntmps58
    go_wp2_with fail
    refine (HC.out _).mono ?_
    rintro e w1 ⟨rfl, rfl⟩
    go_wp2_with fail
    go_ret2
    exact ⟨fun _ h => (by cases h), fun _ => ⟨_, rfl⟩, Below.refl _ _⟩
end Go.Proofs.YtlibolkkklfdoaaDoor
