/-
  Blank of package record and the document's, and the document's Same.
-/
import Derived.Test.YtkkbjngjjeajoaaProg
import Derived.Test.YtkkbjngjjeajoaaRecFns
namespace Go.Proofs.Ytkkbjngjjeajoaa
namespace Rec
open Go.RowKit Mem
set_option linter.unusedVariables false

/-- Are all bytes ones? -/
def blankB (bs : List UInt8) : Bool := bs.all fun x => x == 255
theorem blank_take {bs : List UInt8} {k : Nat} (h : k < bs.length) (hb : blankB (bs.take k) = true) (hx : byt bs k = 255) : blankB (bs.take (k + 1)) = true := by
  unfold blankB at *
  rw [List.take_succ_eq_append_getElem h, List.all_append, hb]
  rw [Oct.byt_get h] at hx
  have : bs[k] = 255 := UInt8.toNat_inj.1 (by rw [show (255 : UInt8).toNat = 255 from rfl]; omega)
  simp [this]
theorem blank_no {bs : List UInt8} {k : Nat} (h : k < bs.length) (hx : byt bs k ≠ 255) : blankB bs = false := by
  unfold blankB
  rw [List.all_eq_false]
  refine ⟨bs[k], List.getElem_mem h, ?_⟩
  rw [Oct.byt_get h] at hx
  intro e
  simp at e
  exact hx (by rw [e]; rfl)

set_option maxHeartbeats 400000 in
theorem blank_any (A : Option Addr) (n c B : Nat) (bs : List UInt8) (w : World) (hr : Rd w B A bs) (hn : n = bs.length) (hle : n ≤ 1099511627776) :
    Calls Try.prog 112 #[.slice A n c] w fun e w' => e = .returned (.bool (blankB bs)) ∧ w = w' := by
  subst hn
  go_enter Try.func112, Try.ntmps112
  go_wp2_with fail
  go_loop [7] (fun i => ∃ k : Nat, k ≤ bs.length ∧ i = .int .i64 k ∧ blankB (bs.take k) = true) (fun i => bs.length - (intOf i).toNat)
  case atStart => exact ⟨0, by omega, rfl, rfl⟩
  case round =>
    obtain ⟨k, hk, rfl, hbl⟩ := hrel
    by_cases hlt : k < bs.length
    · obtain ⟨g, off, rfl, hg, hc⟩ := hr.at_ (k := k) hlt
      have hx := byt_bd bs k
      have hN := Lib.hid (fun h => blank_no (bs := bs) hlt h)
      have hY := Lib.hid (fun h => blank_take (bs := bs) hlt hbl h)
      by_cases hq : byt bs k = 255
      · have hq' : (byt bs k != 255) = false := by simp [hq]
        clear hbl
        go_wp2_with fail
        go_round
        case rel => exact ⟨k + 1, by omega, by go_num, hY.out hq⟩
        case measure => simp [intOf]; omega
      · have hq' : (byt bs k != 255) = true := by simp [hq]
        clear hbl
        go_wp2_with fail
        go_ret
        exact ⟨by rw [hN.out hq]; rfl, rfl⟩
    · obtain rfl : k = bs.length := by omega
      rw [List.take_length] at hbl
      go_wp2_with fail
      go_ret
      exact ⟨rfl, rfl⟩

set_option maxHeartbeats 400000 in
theorem rblank_any (A : Option Addr) (n c B : Nat) (bs : List UInt8) (w : World) (hr : Rd w B A bs) (hn : n = bs.length) (hle : n ≤ 1099511627776) :
    Calls Try.prog 127 #[.slice A n c] w fun e w' => e = .returned (.bool (blankB bs)) ∧ w = w' := by
  subst hn
  go_enter Try.func127, Try.ntmps127
  go_wp2_with fail
  go_loop [3] (fun i => ∃ k : Nat, k ≤ bs.length ∧ i = .int .i64 k ∧ blankB (bs.take k) = true) (fun i => bs.length - (intOf i).toNat)
  case atStart => exact ⟨0, by omega, rfl, rfl⟩
  case round =>
    obtain ⟨k, hk, rfl, hbl⟩ := hrel
    by_cases hlt : k < bs.length
    · obtain ⟨g, off, rfl, hg, hc⟩ := hr.at_ (k := k) hlt
      have hx := byt_bd bs k
      have hN := Lib.hid (fun h => blank_no (bs := bs) hlt h)
      have hY := Lib.hid (fun h => blank_take (bs := bs) hlt hbl h)
      by_cases hq : byt bs k = 255
      · have hq' : (byt bs k != 255) = false := by simp [hq]
        clear hbl
        go_wp2_with fail
        go_round
        case rel => exact ⟨k + 1, by omega, by go_num, hY.out hq⟩
        case measure => simp [intOf]; omega
      · have hq' : (byt bs k != 255) = true := by simp [hq]
        clear hbl
        go_wp2_with fail
        go_ret
        exact ⟨by rw [hN.out hq]; rfl, rfl⟩
    · obtain rfl : k = bs.length := by omega
      rw [List.take_length] at hbl
      go_wp2_with fail
      go_ret
      exact ⟨rfl, rfl⟩

end Rec
end Go.Proofs.Ytkkbjngjjeajoaa
