/-
  Is a text a number in digits? (isDecimal)
-/
import Derived.Test.YtlibolkkklfdoaaDoorTypNum
import Derived.Test.YtlibolkkklfdoaaDoorTypKnown
namespace Go.Proofs.YtlibolkkklfdoaaDoor
open Go.RowKit Mem
set_option linter.unusedVariables false

theorem cut_split (l : List UInt8) : Lib.hasPrefix l [45] = (Dec.splitNeg l).1 ∧ Lib.trimPrefix l [45] = (Dec.splitNeg l).2 := by
  rcases Dec.split_neg l with ⟨r, rfl, hs⟩ | ⟨hs, hne⟩
  · rw [hs]
    exact ⟨by simp [Lib.hasPrefix, List.isPrefixOf], by simp [Lib.trimPrefix, Lib.hasPrefix, List.isPrefixOf]⟩
  · rw [hs]
    have h0 : Lib.hasPrefix l [45] = false := by
      cases l with
      | nil => rfl
      | cons c r =>
        by_cases h : c = 45
        · subst h; exact absurd rfl (hne r)
        · simp [Lib.hasPrefix, List.isPrefixOf]; exact fun e => h e.symm
    exact ⟨h0, by unfold Lib.trimPrefix; rw [h0]; rfl⟩

theorem form_one (neg : Bool) : Dec.form neg [48] = !neg := rfl
theorem form_nil (neg : Bool) : Dec.form neg [] = false := rfl

set_option maxRecDepth 100000 in
set_option maxHeartbeats 1000000 in
theorem isdec_any (l : List UInt8) (w : World) (hle : l.length ≤ 1000000) :
    Calls Tryd.prog 71 #[.string ⟨l.toArray⟩] w fun e w' => e = .returned (.bool (Dec.decB l)) ∧ w = w' := by
  have HC := Lib.hid (fun W => Tryd.strings_CutPrefix ⟨l.toArray⟩ ⟨#[45]⟩ W)
  rw [show (⟨l.toArray⟩ : ByteArray).data.toList = l from rfl, show (⟨#[45]⟩ : ByteArray).data.toList = [45] from rfl, (cut_split l).1, (cut_split l).2] at HC
  have HD : Hid (Dec.decB l = Dec.form (Dec.splitNeg l).1 (Dec.splitNeg l).2) := Lib.hid rfl
  have hD : (Dec.splitNeg l).2.length ≤ l.length := by
    rcases Dec.split_neg l with ⟨r, rfl, hs⟩ | ⟨hs, hne⟩ <;> rw [hs] <;> simp
  generalize (Dec.splitNeg l).1 = neg at *
  generalize (Dec.splitNeg l).2 = D at *
  have hDl : D.length ≤ 1000000 := by omega
  clear hD
  go_enter Tryd.func71, Tryd.ntmps71
  go_wp2_with fail
  refine (HC.out _).mono ?_
  rintro e w1 ⟨rfl, rfl⟩
  by_cases h0 : D = [48]
  · subst h0
    cases neg <;> (go_wp2_with fail; go_ret; exact ⟨by rw [HD.out]; rfl, rfl⟩)
  · cases D with
    | nil =>
      go_wp2_with fail
      go_ret
      exact ⟨by rw [HD.out]; rfl, rfl⟩
    | cons c r =>
      have hp : 0 < (⟨(c :: r).toArray⟩ : ByteArray).size := by simp [ByteArray.size]
      by_cases hc : c = 48
      · subst hc
        have hre : r.isEmpty = false := by cases r with | nil => exact absurd rfl h0 | cons a b => rfl
        have e48 : ((((⟨(48 :: r).toArray⟩ : ByteArray)[0]'hp).toNat : Nat) : Int) = 48 := by rw [str_at]; rfl
        have HF : Hid (Dec.form neg (48 :: r) = false) := Lib.hid (by unfold Dec.form; rw [if_neg h0]; rfl)
        clear h0
        go_wp2_with fail
        go_ret
        exact ⟨by rw [HD.out, HF.out]; rfl, rfl⟩
      · have HF : Hid (Dec.form neg (c :: r) = (c :: r).all Dec.isD) := Lib.hid (by unfold Dec.form; rw [if_neg h0]; simp only [show decide (c.toNat ≠ 48) = true from by simp; exact fun e => hc (UInt8.toNat_inj.1 e), Bool.true_and])
        have e48 : ((((⟨(c :: r).toArray⟩ : ByteArray)[0]'hp).toNat : Nat) : Int) = (c.toNat : Int) := by rw [str_at]; rfl
        have n48 : ((c.toNat : Int) == 48) = false := by simp; exact fun e => hc (UInt8.toNat_inj.1 (by simpa using Int.ofNat_inj.1 e))
        have hcb : (c == 48) = false := by simpa using hc
        clear h0 hc
        go_wp2_with fail
        clear e48 n48 hcb hp
        have HD : Hid (Dec.decB l = (c :: r).all Dec.isD) := Lib.hid (HD.out.trans HF.out)
        clear HF HC
        have hL : ((r.length : Int) + 1) = ((c :: r).length : Int) := by simp
        rw [hL]
        clear hL
        generalize hDD : (c :: r) = D at *
        clear hDD
        go_loopw [24] (fun i wr => ∃ k : Nat, k ≤ D.length ∧ i = .int .i64 (k : Int) ∧ (∀ x ∈ D.take k, Dec.isD x = true) ∧ w1 = wr) (fun i _ => D.length - (intOf i).toNat)
        case atStart => exact ⟨0, by omega, rfl, by simp, rfl⟩
        case round =>
          obtain ⟨k, hk, rfl, hall, rfl⟩ := hrel
          have HA := Lib.hid hall
          clear hall
          by_cases hlt : k < D.length
          · have hsz : k < (⟨D.toArray⟩ : ByteArray).size := by simpa [ByteArray.size] using hlt
            have e0 := str_at D k hsz
            have hcx : Dec.isD D[k] = decide (48 ≤ byt D k ∧ byt D k ≤ 57) := by
              unfold Dec.isD
              rw [byt_at hlt]
              congr 1
              apply propext
              omega
            have HCX := Lib.hid hcx
            clear hcx
            obtain ⟨x0, x1⟩ := byt_bd D k
            by_cases hlo : byt D k < 48
            · have HN : Hid (D.all Dec.isD = false) := Lib.hid (by
                rw [List.all_eq_false]
                exact ⟨D[k], List.getElem_mem hlt, by rw [HCX.out]; simp; omega⟩)
              go_wp2_with fail
              go_ret
              exact ⟨by rw [HD.out, HN.out]; rfl, rfl⟩
            · by_cases hhi : 57 < byt D k
              · have HN : Hid (D.all Dec.isD = false) := Lib.hid (by
                  rw [List.all_eq_false]
                  exact ⟨D[k], List.getElem_mem hlt, by rw [HCX.out]; simp; omega⟩)
                go_wp2_with fail
                go_ret
                exact ⟨by rw [HD.out, HN.out]; rfl, rfl⟩
              · have HA' : Hid (∀ x ∈ D.take (k + 1), Dec.isD x = true) := Lib.hid (by
                  rw [List.take_succ_eq_append_getElem hlt]
                  intro x hx
                  rcases List.mem_append.1 hx with h | h
                  · exact HA.out x h
                  · simp at h
                    rw [h, HCX.out]
                    simp
                    omega)
                go_wp2_with fail
                go_roundw
                case rel => exact ⟨k + 1, by omega, by go_num, HA'.out, trivial⟩
                case measure => simp [intOf]; omega
          · obtain rfl : k = D.length := by omega
            have HA' : Hid (D.all Dec.isD = true) := Lib.hid (List.all_eq_true.2 (by have := HA.out; rwa [List.take_length] at this))
            go_wp2_with fail
            go_ret
            exact ⟨by rw [HD.out, HA'.out]; rfl, rfl⟩
end Go.Proofs.YtlibolkkklfdoaaDoor
