/-
  An entry as a value; what package entry and the document say of it, as functions.
  Name, here and in the document.
-/
import Derived.Test.YtpdnfdpoebhjoaaDoorTypCheck
namespace Go.Proofs.YtpdnfdpoebhjoaaDoor
namespace Ent
open Go.RowKit Mem
set_option linter.unusedVariables false

/-- A letter; a letter, a digit or '_'. -/
def letB (x : Int) : Bool := decide (97 ≤ x) && decide (x ≤ 122)
def digB (x : Int) : Bool := decide (48 ≤ x) && decide (x ≤ 57)
def chB (x : Int) : Bool := letB x || digB x || x == 95
def nameB (l : List UInt8) : Bool := decide (1 ≤ l.length ∧ l.length ≤ 16) && letB (byt l 0) && (List.range l.length).all fun j => chB (byt l j)
theorem name_len {l : List UInt8} (h : ¬ (1 ≤ l.length ∧ l.length ≤ 16)) : nameB l = false := by unfold nameB; rw [decide_eq_false h]; rfl
theorem name_first {l : List UInt8} (h : letB (byt l 0) = false) : nameB l = false := by unfold nameB; rw [h]; simp
theorem name_no {l : List UInt8} {j : Nat} (hj : j < l.length) (h : chB (byt l j) = false) : nameB l = false := by
  unfold nameB
  have : ((List.range l.length).all fun j => chB (byt l j)) = false := by
    cases hp : (List.range l.length).all fun j => chB (byt l j) with
    | false => rfl
    | true =>
      exfalso
      have := List.all_eq_true.1 hp j (List.mem_range.2 hj)
      rw [h] at this
      cases this
  rw [this]
  simp
theorem name_yes {l : List UInt8} (h0 : 1 ≤ l.length ∧ l.length ≤ 16) (h1 : letB (byt l 0) = true) (h2 : ∀ j, j < l.length → chB (byt l j) = true) : nameB l = true := by
  unfold nameB
  rw [decide_eq_true h0, h1]
  simpa using h2

/-- Why bytes are no value: of a type, a greatest length, limits. -/
def byd (t lo hi : Int) (bs : List UInt8) : Int := if (decA t bs).2 ≠ 0 then 0 else if (decA t bs).1 < lo then 101253170 else if hi < (decA t bs).1 then 101253169 else 0
def valN (t mx lo hi : Int) (bs : List UInt8) : Int :=
  if chkA t mx bs = 15 then 100925511 else if chkA t mx bs = 2 then 101122067 else if chkA t mx bs = 3 then 101122066 else if chkA t mx bs = 9 ∨ chkA t mx bs = 4 then 101253168 else byd t lo hi bs
theorem byd_bd (t lo hi : Int) (bs : List UInt8) : 0 ≤ byd t lo hi bs ∧ byd t lo hi bs ≤ 4294967295 := by unfold byd; repeat' split <;> omega
theorem val_bd (t mx lo hi : Int) (bs : List UInt8) : 0 ≤ valN t mx lo hi bs ∧ valN t mx lo hi bs ≤ 4294967295 := by
  have := byd_bd t lo hi bs
  unfold valN
  repeat' split <;> omega

/-- What an error of Decode can be. -/
theorem dec_codes (t : Int) (bs : List UInt8) : (decA t bs).2 = 15 ∧ Typ.isNum t = false ∧ (decA t bs).1 = 0 ∨ Typ.isNum t = true ∧ ((decA t bs).2 = 2 ∨ (decA t bs).2 = 3 ∨ (decA t bs).2 = 9 ∨ (decA t bs).2 = 0) := by
  unfold decA
  cases h : Typ.isNum t with
  | false => left; simp
  | true =>
    right
    refine ⟨rfl, ?_⟩
    rw [if_neg (by decide)]
    split
    · simp
    · split
      · simp
      · split
        · simp
        · split <;> simp
/-- What an error of Check can be, of a type that is no number's. -/
theorem chk_codes (t mx : Int) (bs : List UInt8) (hk : Typ.known t = true) (hi : Typ.isNum t = false) : chkA t mx bs = 3 ∨ chkA t mx bs = 4 ∨ chkA t mx bs = 0 := by
  unfold chkA
  rw [if_neg (by rw [hk]; decide), if_neg (by rw [hi]; decide)]
  split
  · simp
  · split <;> simp
theorem chk_num (t mx : Int) (bs : List UInt8) (hk : Typ.known t = true) (hi : Typ.isNum t = true) : chkA t mx bs = (decA t bs).2 := by
  unfold chkA
  rw [if_neg (by rw [hk]; decide), if_pos hi]
theorem chk_none (t mx : Int) (bs : List UInt8) (hk : Typ.known t = false) : chkA t mx bs = 15 := by
  unfold chkA
  rw [if_pos hk]
theorem num_known {t : Int} (h : Typ.isNum t = true) : Typ.known t = true := (Typ.num_facts t h).2.1
/-- Value, by its ways: as the document takes them. -/
theorem val_ways (t mx lo hi : Int) (bs : List UInt8) :
    (Typ.known t = false ∧ valN t mx lo hi bs = 100925511) ∨
    (Typ.known t = true ∧ Typ.isNum t = true ∧ (decA t bs).2 = 2 ∧ valN t mx lo hi bs = 101122067) ∨
    (Typ.known t = true ∧ Typ.isNum t = true ∧ (decA t bs).2 = 3 ∧ valN t mx lo hi bs = 101122066) ∨
    (Typ.known t = true ∧ Typ.isNum t = true ∧ (decA t bs).2 = 9 ∧ valN t mx lo hi bs = 101253168) ∨
    (Typ.known t = true ∧ Typ.isNum t = true ∧ (decA t bs).2 = 0 ∧ (decA t bs).1 < lo ∧ valN t mx lo hi bs = 101253170) ∨
    (Typ.known t = true ∧ Typ.isNum t = true ∧ (decA t bs).2 = 0 ∧ ¬ (decA t bs).1 < lo ∧ hi < (decA t bs).1 ∧ valN t mx lo hi bs = 101253169) ∨
    (Typ.known t = true ∧ Typ.isNum t = true ∧ (decA t bs).2 = 0 ∧ ¬ (decA t bs).1 < lo ∧ ¬ hi < (decA t bs).1 ∧ valN t mx lo hi bs = 0) ∨
    (Typ.known t = true ∧ Typ.isNum t = false ∧ chkA t mx bs = 3 ∧ valN t mx lo hi bs = 101122066) ∨
    (Typ.known t = true ∧ Typ.isNum t = false ∧ chkA t mx bs = 4 ∧ valN t mx lo hi bs = 101253168) ∨
    (Typ.known t = true ∧ Typ.isNum t = false ∧ chkA t mx bs = 0 ∧ valN t mx lo hi bs = 0) := by
  have hc := dec_codes t bs
  cases hk : Typ.known t with
  | false =>
    left
    have := chk_none t mx bs hk
    unfold valN
    simp [this]
  | true =>
    right
    cases hi' : Typ.isNum t with
    | true =>
      have h0 := chk_num t mx bs hk hi'
      unfold valN byd
      rw [h0]
      rw [hi'] at hc
      rcases hc with ⟨_, h, _⟩ | ⟨_, h | h | h | h⟩
      · cases h
      · left; simp [h]
      · right; left; simp [h]
      · right; right; left; simp [h]
      · right; right; right
        rcases (by omega : (decA t bs).1 < lo ∨ (¬ (decA t bs).1 < lo ∧ hi < (decA t bs).1) ∨ (¬ (decA t bs).1 < lo ∧ ¬ hi < (decA t bs).1)) with h1 | ⟨h1, h2⟩ | ⟨h1, h2⟩
        · left; simp [h, h1]
        · right; left; simp only [h, h1, h2]; simp
        · right; right; left; simp only [h, h1, h2]; simp
    | false =>
      right; right; right; right; right; right
      have h0 := chk_codes t mx bs hk hi'
      rw [hi'] at hc
      have h15 : (decA t bs).2 = 15 := by
        rcases hc with ⟨h, _, _⟩ | ⟨h, _⟩
        · exact h
        · cases h
      unfold valN byd
      rcases h0 with h | h | h
      · left; simp [h]
      · right; left; simp [h]
      · right; right; simp [h, h15]

/-- What is wrong of an entry. -/
def placeB (ix sub : Int) : Bool := decide (1 ≤ ix) && decide (ix ≤ 65535) && decide (0 ≤ sub) && decide (sub ≤ 255)
def allowB (ac : Int) (mp st : Bool) : Bool := if ac = 1 then !mp && !st else if ac = 2 then !st else decide (ac = 3 ∨ ac = 4)
def boundB (t mx lo hi : Int) (mp : Bool) : Bool :=
  if Typ.isNum t = true then decide (mx = 0 ∧ Typ.low t ≤ lo ∧ lo ≤ hi ∧ hi ≤ Typ.high t) else decide (lo = 0 ∧ hi = 0 ∧ 1 ≤ mx ∧ mx ≤ 256) && !mp
def rightN (ix sub : Int) (nm : List UInt8) (t ac : Int) (mp st : Bool) (mx lo hi : Int) (d : List UInt8) : Int :=
  if placeB ix sub = false then 9 else if nameB nm = false then 14 else if Typ.known t = false then 15 else if allowB ac mp st = false ∨ boundB t mx lo hi mp = false then 1 else if valN t mx lo hi d ≠ 0 then 4 else 0
def readN (ac : Int) : Int := if ac = 3 then 100728833 else 0
def writeN (ac : Int) : Int := if ac = 1 ∨ ac = 2 then 100728834 else 0
def groupN (ix : Int) : Int := if ix < 4096 ∨ 40960 ≤ ix then 1 else if ix < 8192 then 2 else if ix < 24576 then 4 else 3
def befB (i s j u : Int) : Bool := decide (i < j) || (i == j && decide (s < u))
end Ent
end Go.Proofs.YtpdnfdpoebhjoaaDoor

namespace Go.Proofs.YtpdnfdpoebhjoaaDoor
namespace Ent
open Go.RowKit Mem
set_option linter.unusedVariables false
set_option linter.unusedSimpArgs false

theorem isLetter_any (x : Int) (w : World) : Calls Tryd.prog 67 #[.int .u8 x] w fun e w' => e = .returned (.bool (letB x)) ∧ w = w' := by
  obtain ⟨B, hB⟩ : ∃ B, letB x = B := ⟨_, rfl⟩
  rw [hB]
  have HB : Hid (letB x = B) := Lib.hid hB
  clear hB
  by_cases h : 97 ≤ x
  · have d : decide (97 ≤ x) = true := by simpa using h
    go_enter Tryd.func67, Tryd.ntmps67
    go_wp2_with fail
    go_ret
    exact ⟨by rw [← HB.out]; unfold letB; simp [d], rfl⟩
  · have d : decide (97 ≤ x) = false := by simpa using h
    go_enter Tryd.func67, Tryd.ntmps67
    go_wp2_with fail
    go_ret
    exact ⟨by rw [← HB.out]; unfold letB; simp [d], rfl⟩
theorem isDigit_any (x : Int) (w : World) : Calls Tryd.prog 68 #[.int .u8 x] w fun e w' => e = .returned (.bool (digB x)) ∧ w = w' := by
  obtain ⟨B, hB⟩ : ∃ B, digB x = B := ⟨_, rfl⟩
  rw [hB]
  have HB : Hid (digB x = B) := Lib.hid hB
  clear hB
  by_cases h : 48 ≤ x
  · have d : decide (48 ≤ x) = true := by simpa using h
    go_enter Tryd.func68, Tryd.ntmps68
    go_wp2_with fail
    go_ret
    exact ⟨by rw [← HB.out]; unfold digB; simp [d], rfl⟩
  · have d : decide (48 ≤ x) = false := by simpa using h
    go_enter Tryd.func68, Tryd.ntmps68
    go_wp2_with fail
    go_ret
    exact ⟨by rw [← HB.out]; unfold digB; simp [d], rfl⟩

theorem siz (l : List UInt8) : (⟨l.toArray⟩ : ByteArray).size = l.length := by simp [ByteArray.size]

set_option maxRecDepth 100000 in
set_option maxHeartbeats 1000000 in
theorem name_any (l : List UInt8) (w : World) (hle : l.length ≤ 1099511627776) :
    Calls Tryd.prog 47 #[.string ⟨l.toArray⟩] w fun e w' => e = .returned (.bool (nameB l)) ∧ w = w' := by
  have HS := siz l
  have KL := Lib.hid (fun x W => isLetter_any x W)
  have KD := Lib.hid (fun x W => isDigit_any x W)
  rcases Nat.eq_zero_or_pos l.length with h0 | h0
  · obtain rfl : l = [] := List.length_eq_zero_iff.1 h0
    have HN := Lib.hid (name_len (l := []) (by simp))
    clear HS
    go_enter Tryd.func47, Tryd.ntmps47
    go_wp2_with fail
    go_ret
    exact ⟨by rw [HN.out]; rfl, rfl⟩
  have hne : (l == []) = false := by cases l with
    | nil => simp at h0
    | cons a r => rfl
  by_cases h16 : 16 < l.length
  · have HN := Lib.hid (name_len (l := l) (by omega))
    go_enter Tryd.func47, Tryd.ntmps47
    go_wp2_with fail
    go_ret
    exact ⟨by rw [HN.out]; rfl, rfl⟩
  have g0 : 0 < (⟨l.toArray⟩ : ByteArray).size := by rw [HS]; exact h0
  have e0 : ((((⟨l.toArray⟩ : ByteArray)[0]'g0).toNat : Nat) : Int) = byt l 0 := str_at l 0 g0
  cases hF : letB (byt l 0) with
  | false =>
    have HN := Lib.hid (name_first hF)
    have KL := Lib.hid (KL.out (byt l 0))
    rw [hF] at KL
    clear hF
    generalize byt l 0 = x at *
    go_enter Tryd.func47, Tryd.ntmps47
    go_wp2_with fail
    refine (KL.out _).mono ?_
    rintro e w' ⟨rfl, rfl⟩
    go_wp2_with fail
    go_ret
    exact ⟨by rw [HN.out]; rfl, rfl⟩
  | true =>
    have HF := Lib.hid hF
    have KF := Lib.hid (KL.out (byt l 0))
    rw [hF] at KF
    clear hF
    have HN := Lib.hid (fun h => name_yes (l := l) ⟨h0, by omega⟩ HF.out h)
    have HX := Lib.hid (fun j (hj : j < l.length) h => name_no (l := l) hj h)
    obtain ⟨x0, hx0⟩ : ∃ x, byt l 0 = x := ⟨_, rfl⟩
    rw [hx0] at KF e0
    clear hx0
    go_enter Tryd.func47, Tryd.ntmps47
    go_wp2_with fail
    refine (KF.out _).mono ?_
    rintro e w' ⟨rfl, rfl⟩
    clear e0 KF
    go_wp2_with fail
    go_loop [3, 19] (fun _ i => ∃ k : Nat, k ≤ l.length ∧ i = .int .i64 (k : Int) ∧ ∀ j, j < k → chB (byt l j) = true) (fun _ i => l.length - (intOf i).toNat)
    case atStart => exact ⟨0, by omega, rfl, fun j hj => by omega⟩
    case round =>
      obtain ⟨k, hk, rfl, hok⟩ := hrel
      have HOK := Lib.hid hok
      clear hok
      by_cases hlt : k < l.length
      · have gk : k < (⟨l.toArray⟩ : ByteArray).size := by rw [HS]; exact hlt
        have ek : ((((⟨l.toArray⟩ : ByteArray)[k]'gk).toNat : Nat) : Int) = byt l k := str_at l k gk
        have hC : chB (byt l k) = (letB (byt l k) || digB (byt l k) || byt l k == 95) := rfl
        have HXk := Lib.hid (HX.out k hlt)
        have HOK' : Hid (chB (byt l k) = true → ∀ j, j < k + 1 → chB (byt l j) = true) := Lib.hid (fun h j hj => by
          rcases Nat.lt_or_ge j k with h2 | h2
          · exact HOK.out j h2
          · obtain rfl : j = k := by omega
            exact h)
        clear HOK
        obtain ⟨x, hx⟩ : ∃ x, byt l k = x := ⟨_, rfl⟩
        rw [hx] at ek hC HXk HOK'
        clear hx
        have KLx := Lib.hid (KL.out x)
        have KDx := Lib.hid (KD.out x)
        clear KL KD
        cases hl : letB x with
        | true =>
          rw [hl] at KLx
          have HO := Lib.hid (HOK'.out (by rw [hC, hl]; rfl))
          clear hC HOK' HXk hl
          go_wp2_with fail
          refine (KLx.out _).mono ?_
          rintro e w' ⟨rfl, rfl⟩
          go_wp2_with fail
          go_round
          case rel => exact ⟨k + 1, by omega, by go_num, HO.out⟩
          case measure => simp [intOf]; omega
        | false =>
          rw [hl] at KLx
          cases hd : digB x with
          | true =>
            rw [hd] at KDx
            have HO := Lib.hid (HOK'.out (by rw [hC, hl, hd]; rfl))
            clear hC HOK' HXk hl hd
            go_wp2_with fail
            refine (KLx.out _).mono ?_
            rintro e w' ⟨rfl, rfl⟩
            go_wp2_with fail
            refine (KDx.out _).mono ?_
            rintro e w' ⟨rfl, rfl⟩
            go_wp2_with fail
            go_round
            case rel => exact ⟨k + 1, by omega, by go_num, HO.out⟩
            case measure => simp [intOf]; omega
          | false =>
            rw [hd] at KDx
            by_cases h9 : x = 95
            · subst h9
              have HO := Lib.hid (HOK'.out (by rw [hC]; rfl))
              clear hC HOK' HXk hl hd
              go_wp2_with fail
              refine (KLx.out _).mono ?_
              rintro e w' ⟨rfl, rfl⟩
              go_wp2_with fail
              refine (KDx.out _).mono ?_
              rintro e w' ⟨rfl, rfl⟩
              go_wp2_with fail
              go_round
              case rel => exact ⟨k + 1, by omega, by go_num, HO.out⟩
              case measure => simp [intOf]; omega
            · have h9' : (x == 95) = false := by simpa using h9
              have HNk := Lib.hid (HXk.out (by rw [hC, hl, hd, h9']; rfl))
              clear hC HOK' HXk hl hd
              go_wp2_with fail
              refine (KLx.out _).mono ?_
              rintro e w' ⟨rfl, rfl⟩
              go_wp2_with fail
              refine (KDx.out _).mono ?_
              rintro e w' ⟨rfl, rfl⟩
              go_wp2_with fail
              go_ret
              exact ⟨by rw [HNk.out]; rfl, rfl⟩
      · have HNk := Lib.hid (HN.out (fun j hj => HOK.out j (by omega)))
        go_wp2_with fail
        go_ret
        exact ⟨by rw [HNk.out]; rfl, rfl⟩

set_option maxRecDepth 100000 in
set_option maxHeartbeats 1000000 in
theorem rname_any (l : List UInt8) (w : World) (hle : l.length ≤ 1099511627776) :
    Calls Tryd.prog 53 #[.string ⟨l.toArray⟩] w fun e w' => e = .returned (.bool (nameB l)) ∧ w = w' := by
  have HS := siz l
  by_cases hL : 1 ≤ l.length ∧ l.length ≤ 16
  · obtain ⟨h0, h16⟩ := hL
    have g0 : 0 < (⟨l.toArray⟩ : ByteArray).size := by rw [HS]; exact h0
    have e0 : ((((⟨l.toArray⟩ : ByteArray)[0]'g0).toNat : Nat) : Int) = byt l 0 := str_at l 0 g0
    have hB : letB (byt l 0) = (decide (97 ≤ byt l 0) && decide (byt l 0 ≤ 122)) := rfl
    have HNF := Lib.hid (fun h => name_first (l := l) h)
    have HNY := Lib.hid (fun h1 h => name_yes (l := l) ⟨h0, h16⟩ h1 h)
    have HX := Lib.hid (fun j (hj : j < l.length) h => name_no (l := l) hj h)
    obtain ⟨x0, hx0⟩ : ∃ x, byt l 0 = x := ⟨_, rfl⟩
    rw [hx0] at e0 hB HNF HNY
    clear hx0
    rcases (by omega : x0 < 97 ∨ (97 ≤ x0 ∧ 122 < x0) ∨ (97 ≤ x0 ∧ x0 ≤ 122)) with h | ⟨h, h'⟩ | ⟨h, h'⟩
    · have HN := Lib.hid (HNF.out (by rw [hB]; simp; omega))
      have d : decide (x0 < 97) = true := by simpa using h
      clear hB HNF HNY HX
      go_enter Tryd.func53, Tryd.ntmps53
      go_wp2_with fail
      go_ret
      exact ⟨by rw [HN.out]; rfl, rfl⟩
    · have HN := Lib.hid (HNF.out (by rw [hB]; simp; omega))
      have d : decide (x0 < 97) = false := by simp; omega
      have d' : decide (122 < x0) = true := by simpa using h'
      clear hB HNF HNY HX
      go_enter Tryd.func53, Tryd.ntmps53
      go_wp2_with fail
      go_ret
      exact ⟨by rw [HN.out]; rfl, rfl⟩
    · have HN := Lib.hid (HNY.out (by rw [hB]; simp; omega))
      have d : decide (x0 < 97) = false := by simp; omega
      have d' : decide (122 < x0) = false := by simp; omega
      clear hB HNF HNY
      go_enter Tryd.func53, Tryd.ntmps53
      go_wp2_with fail
      clear e0 d d' h h'
      go_loop [3, 4] (fun i _ => ∃ k : Nat, k ≤ l.length ∧ i = .int .i64 (k : Int) ∧ ∀ j, j < k → chB (byt l j) = true) (fun i _ => l.length - (intOf i).toNat)
      case atStart => exact ⟨0, by omega, rfl, fun j hj => by omega⟩
      case round =>
        obtain ⟨k, hk, rfl, hok⟩ := hrel
        have HOK := Lib.hid hok
        clear hok
        by_cases hlt : k < l.length
        · have gk : k < (⟨l.toArray⟩ : ByteArray).size := by rw [HS]; exact hlt
          have ek : ((((⟨l.toArray⟩ : ByteArray)[k]'gk).toNat : Nat) : Int) = byt l k := str_at l k gk
          have hC : Hid (chB (byt l k) = ((decide (97 ≤ byt l k) && decide (byt l k ≤ 122)) || (decide (48 ≤ byt l k) && decide (byt l k ≤ 57)) || byt l k == 95)) := Lib.hid rfl
          have HXk := Lib.hid (HX.out k hlt)
          have HOK' : Hid (chB (byt l k) = true → ∀ j, j < k + 1 → chB (byt l j) = true) := Lib.hid (fun h j hj => by
            rcases Nat.lt_or_ge j k with h2 | h2
            · exact HOK.out j h2
            · obtain rfl : j = k := by omega
              exact h)
          clear HOK
          obtain ⟨x, hx⟩ : ∃ x, byt l k = x := ⟨_, rfl⟩
          rw [hx] at ek hC HXk HOK'
          clear hx
          by_cases hc : chB x = true
          · have HO := Lib.hid (HOK'.out hc)
            have h3 : (97 ≤ x ∧ x ≤ 122) ∨ (¬ (97 ≤ x ∧ x ≤ 122) ∧ (48 ≤ x ∧ x ≤ 57)) ∨ x = 95 := by
              have := hC.out
              rw [hc] at this
              simp at this
              omega
            clear hC HOK' HXk hc
            rcases h3 with ⟨h, h'⟩ | ⟨h, h', h2⟩ | rfl
            · have d : decide (97 ≤ x) = true := by simpa using h
              have d' : decide (x ≤ 122) = true := by simpa using h'
              go_wp2_with fail
              go_round
              case rel => exact ⟨k + 1, by omega, by go_num, HO.out⟩
              case measure => simp [intOf]; omega
            · have d : decide (97 ≤ x) = false := by simp; omega
              have d1 : decide (48 ≤ x) = true := by simpa using h'
              have d' : decide (x ≤ 57) = true := by simpa using h2
              clear h
              go_wp2_with fail
              go_round
              case rel => exact ⟨k + 1, by omega, by go_num, HO.out⟩
              case measure => simp [intOf]; omega
            · go_wp2_with fail
              go_round
              case rel => exact ⟨k + 1, by omega, by go_num, HO.out⟩
              case measure => simp [intOf]; omega
          · have hc' : chB x = false := by simpa using hc
            have HNk := Lib.hid (HXk.out hc')
            have h3 : (x < 48 ∨ (57 < x ∧ x < 97 ∧ x ≠ 95) ∨ 122 < x) := by
              have := hC.out
              rw [hc'] at this
              simp at this
              omega
            clear hC HOK' HXk hc hc'
            rcases h3 with h | ⟨h, h', h2⟩ | h
            · have d : decide (97 ≤ x) = false := by simp; omega
              have d1 : decide (48 ≤ x) = false := by simp; omega
              have d2 : (x != 95) = true := by simp; omega
              go_wp2_with fail
              go_ret
              exact ⟨by rw [HNk.out]; rfl, rfl⟩
            · have d : decide (97 ≤ x) = false := by simp; omega
              have d1 : decide (48 ≤ x) = true := by simp; omega
              have d' : decide (x ≤ 57) = false := by simp; omega
              have d2 : (x != 95) = true := by simpa using h2
              go_wp2_with fail
              go_ret
              exact ⟨by rw [HNk.out]; rfl, rfl⟩
            · have d : decide (97 ≤ x) = true := by simp; omega
              have d3 : decide (x ≤ 122) = false := by simp; omega
              have d1 : decide (48 ≤ x) = true := by simp; omega
              have d' : decide (x ≤ 57) = false := by simp; omega
              have d2 : (x != 95) = true := by simp; omega
              go_wp2_with fail
              go_ret
              exact ⟨by rw [HNk.out]; rfl, rfl⟩
        · have HNk := Lib.hid (HN.out (fun j hj => HOK.out j (by omega)))
          go_wp2_with fail
          go_ret
          exact ⟨by rw [HNk.out]; rfl, rfl⟩
  · have HN := Lib.hid (name_len (l := l) hL)
    rcases (by omega : l.length = 0 ∨ 16 < l.length) with h | h
    · clear hL
      have e : ((l.length : Nat) : Int) = 0 := by omega
      have d : decide (((l.length : Nat) : Int) < 1) = true := by rw [e]; rfl
      go_enter Tryd.func53, Tryd.ntmps53
      go_wp2_with fail
      go_ret
      exact ⟨by rw [HN.out]; rfl, rfl⟩
    · clear hL
      have d : decide (((l.length : Nat) : Int) < 1) = false := by simp; omega
      have d' : decide (16 < ((l.length : Nat) : Int)) = true := by simp; omega
      go_enter Tryd.func53, Tryd.ntmps53
      go_wp2_with fail
      go_ret
      exact ⟨by rw [HN.out]; rfl, rfl⟩
end Ent
end Go.Proofs.YtpdnfdpoebhjoaaDoor
