/-
  What the document's functions for digits do: Hex, digit, Unhex.
-/
import Derived.Test.YtkkbjngjjeajoaaProg
import Derived.Test.YtkkbjngjjeajoaaOctHex
import Derived.Deep.QuietTactic
import Derived.BigQuiet
namespace Go.Proofs.Ytkkbjngjjeajoaa
open Go.RowKit Mem
set_option linter.unusedVariables false

set_option maxRecDepth 100000 in
set_option maxHeartbeats 400000 in
theorem rdigit_any (x : Int) (w : World) :
    Calls Try.prog 93 #[.int .u8 x] w fun e w' => e = .returned (.int .i64 (Oct.digI x)) ∧ w = w' := by
  go_enter Try.func93, Try.ntmps93
  go_wp2_with fail
  go_loop [3] (fun i => ∃ k : Nat, k ≤ 16 ∧ i = .int .i64 k ∧ Oct.NoDig x k) (fun i => 16 - (intOf i).toNat)
  case atStart => exact ⟨0, by omega, rfl, fun j hj => by omega⟩
  case round =>
    obtain ⟨k, hk, rfl, hno⟩ := hrel
    by_cases hlt : k < 16
    · by_cases hq : (((Oct.hexd k).toNat : Nat) : Int) = x
      · have hf : ∀ h, (((((⟨#[48, 49, 50, 51, 52, 53, 54, 55, 56, 57, 97, 98, 99, 100, 101, 102]⟩ : ByteArray)[k]'h).toNat : Nat) : Int) == x) = true := fun h => by rw [Oct.hexd_at k hlt h, hq]; simp
        have hI := Lib.hid (Oct.digI_at hlt hq)
        clear hq
        go_wp2_with fail
        go_ret
        exact ⟨by rw [hI.out]; rfl, rfl⟩
      · have hf : ∀ h, (((((⟨#[48, 49, 50, 51, 52, 53, 54, 55, 56, 57, 97, 98, 99, 100, 101, 102]⟩ : ByteArray)[k]'h).toNat : Nat) : Int) == x) = false := fun h => by rw [Oct.hexd_at k hlt h]; simpa using hq
        have hN := Oct.NoDig.succ hno hq
        clear hq
        go_wp2_with fail
        go_round
        case rel => exact ⟨k + 1, by omega, by go_num, hN⟩
        case measure => simp [intOf]; omega
    · obtain rfl : k = 16 := by omega
      have hI := Lib.hid (Oct.digI_no hno)
      go_wp2_with fail
      go_ret
      exact ⟨by rw [hI.out]; rfl, rfl⟩

set_option maxRecDepth 100000 in
set_option maxHeartbeats 400000 in
theorem rhex_any (A : Option Addr) (n c : Nat) (bs : List UInt8) (w : World) (hr : Rd w w.heap.size A bs) (hn : n = bs.length) (hle : n ≤ 1099511627776) :
    Calls Try.prog 63 #[.slice A n c] w fun e w' => e = .returned (.string ⟨(Oct.hex bs).toArray⟩) ∧ Below w.heap.size w w' := by
  subst hn
  go_enter Try.func63, Try.ntmps63
  go_wp2_with fail
  go_loopw [3, 4] (fun v i wr => ∃ k : Nat, k ≤ bs.length ∧ i = .int .i64 k ∧ v = .string (Oct.hexS (bs.take k)) ∧ Below w.heap.size w wr) (fun _ i _ => bs.length - (intOf i).toNat)
  case atStart => exact ⟨0, by omega, rfl, rfl, Below.refl _ _⟩
  case round =>
    obtain ⟨k, hk, rfl, rfl, hb⟩ := hrel
    by_cases hlt : k < bs.length
    · obtain ⟨g, off, rfl, hg, hc⟩ := (hr.below hb).at_ hlt
      have hx := byt_bd bs k
      obtain ⟨q, r, hq16, hr16, e1, e2, e3, e4, hstep⟩ := Oct.hex_round hlt
      have f1 := fun W => Oct.slice_hex (P := Try.prog) (w := W) 9 Try.underlying9 hq16
      have f2 := fun W => Oct.slice_hex (P := Try.prog) (w := W) 9 Try.underlying9 hr16
      obtain ⟨X1, hX1⟩ : ∃ X1, X1 = Oct.hexS (bs.take k) ++ Oct.digS q := ⟨_, rfl⟩
      obtain ⟨X2, hX2⟩ : ∃ X2, X2 = X1 ++ Oct.digS r := ⟨_, rfl⟩
      have hs0 : (Oct.hexS (bs.take k)).size ≤ 2199023255552 := by rw [Oct.hexS_size, List.length_take]; omega
      have hs1 : X1.size ≤ 2199023255553 := by rw [hX1, ByteArray.size_append, Oct.digS_size]; omega
      have a1 : ∀ W, (Op.stringOp .add (Oct.hexS (bs.take k)) (Oct.digS q)).run Try.prog W = .ok (.string X1) W := fun W => by rw [hX1]; exact run_string_add_sum W _ _ (by rw [Oct.digS_size]; omega)
      have a2 : ∀ W, (Op.stringOp .add X1 (Oct.digS r)).run Try.prog W = .ok (.string X2) W := fun W => by rw [hX2]; exact run_string_add_sum W _ _ (by rw [Oct.digS_size]; omega)
      have H1 := Lib.hid hX1
      have H2 := Lib.hid hX2
      have H3 := Lib.hid hstep
      clear hX1 hX2 hs0 hs1 hstep
      go_wp2_with fail
      go_quiet (fail)
      clear f1 f2 a1 a2 e1 e2 e3 e4
      go_wp2_with fail
      go_roundw
      case rel => exact ⟨k + 1, by omega, by go_num, by rw [H3.out, H2.out, H1.out], below_drewN hb nq⟩
      case measure => simp [intOf]; omega
    · obtain rfl : k = bs.length := by omega
      have hT := Lib.hid (show Oct.hexS (bs.take bs.length) = ⟨(Oct.hex bs).toArray⟩ by rw [List.take_length]; rfl)
      go_wp2_with fail
      go_ret
      exact ⟨by rw [← hT.out]; rfl, hb⟩

set_option maxRecDepth 100000 in
set_option maxHeartbeats 400000 in
theorem runhex_any (l : List UInt8) (w : World) (hle : l.length ≤ 1099511627776) :
    Calls Try.prog 65 #[.string ⟨l.toArray⟩] w (Undone 5 w l) := by
  obtain ⟨i0, hi, hz0, hz1, hz2⟩ := info_parts info_u8
  by_cases hodd : l.length % 2 = 0
  · have hd : ((l.length : Int) % 2 != 0) = false := by simp; omega
    go_enter Try.func65, Try.ntmps65
    go_wp2_with fail
    go_loopw [4, 5] (fun v i wr => ∃ k : Nat, 2 * k ≤ l.length ∧ i = .int .i64 (2 * (k : Int)) ∧ (∃ bs, Oct.unhex (l.take (2 * k)) = some bs ∧ bs.length = k ∧ Own wr w.heap.size 5 v bs) ∧ Below w.heap.size w wr) (fun _ i _ => l.length - (intOf i).toNat)
    case atStart => exact ⟨0, by omega, rfl, ⟨[], rfl, rfl, Own.nil _ _ _⟩, Below.refl _ _⟩
    case round =>
      obtain ⟨k, hk, rfl, ⟨bs, hu, hl, hown⟩, hb⟩ := hrel
      have hU := Lib.hid hu
      have hL := Lib.hid hl
      clear hu hl
      by_cases hlt : 2 * k < l.length
      · go_wp2_with fail
        rw [str_at]
        refine (rdigit_any _ _).mono ?_
        rintro e w' ⟨rfl, rfl⟩
        go_wp2_with fail
        rw [str_at]
        refine (rdigit_any _ _).mono ?_
        rintro e w' ⟨rfl, rfl⟩
        by_cases hd1 : Oct.digB (byt l (2 * k)) = true
        · have D1 := Lib.hid hd1
          rw [Oct.digI_yes hd1]
          have v1 := Oct.digV_bd hd1
          clear hd1
          by_cases hd2 : Oct.digB (byt l (2 * k + 1)) = true
          · have D2 := Lib.hid hd2
            rw [Oct.digI_yes hd2]
            have v2 := Oct.digV_bd hd2
            clear hd2
            have q1 : decide (Oct.digV (byt l (2 * k)) < 0) = false := by simp; omega
            have q2 : decide (Oct.digV (byt l (2 * k + 1)) < 0) = false := by simp; omega
            go_wp2_with (at_builtin; refine wpList_app _ rfl _ _ 22 rfl w.heap.size 5 i0 Try.underlying22 hi hz0 hz1 hz2 _ bs rfl (hown.alloc _) (some ⟨wr.heap.size, 0, none⟩) 1 1 [UInt8.ofNat (16 * Oct.digV (byt l (2 * k)) + Oct.digV (byt l (2 * k + 1))).toNat] rfl rfl (wr.heap.size + 1) (Rd.new1 _ _ ?c1) ?c2 ?c3 ?_)
            case c1 => exact Oct.nib_byte v1.1 v1.2 v2.1 v2.2
            case c2 => rw [hL.out]; simp; omega
            case c3 => exact alloc_le hb.size _
            intro v' w1 hown' hgrow hat
            have hb' : Below w.heap.size w w1 := (hb.alloc hb.size _).grown hgrow (alloc_le hb.size _) (fun g hg => (hown.lt g hg).1)
            clear hgrow hat
            have R := Lib.hid (Oct.unhex_step hlt hodd hU.out D1.out D2.out)
            clear hown hb
            go_wp2_with fail
            go_roundw
            case rel => exact ⟨k + 1, by omega, Oct.vi (by omega), ⟨_, R.out, by simp [hL.out], hown'⟩, hb'⟩
            case measure => simp [intOf]; omega
          · have hd2' : Oct.digB (byt l (2 * k + 1)) = false := by simpa using hd2
            have hN := Lib.hid (Oct.unhex_stop hlt hodd hU.out (.inr hd2'))
            rw [Oct.digI_nil hd2']
            clear hd2 hd2'
            have q1 : decide (Oct.digV (byt l (2 * k)) < 0) = false := by simp; omega
            go_wp2_with fail
            go_ret2
            exact ⟨fun bs' hb' => absurd hb' (by rw [hN.out]; simp), fun _ => rfl, hb⟩
        · have hd1' : Oct.digB (byt l (2 * k)) = false := by simpa using hd1
          have hN := Lib.hid (Oct.unhex_stop hlt hodd hU.out (.inl hd1'))
          rw [Oct.digI_nil hd1']
          clear hd1 hd1'
          go_wp2_with fail
          go_ret2
          exact ⟨fun bs' hb' => absurd hb' (by rw [hN.out]; simp), fun _ => rfl, hb⟩
      · have hN := Lib.hid hU.out
        rw [List.take_of_length_le (by omega)] at hN
        go_wp2_with fail
        go_ret2
        exact ⟨fun bs' hb' => ⟨_, rfl, by rw [hN.out] at hb'; cases hb'; exact hown⟩, fun h => absurd h (by rw [hN.out]; simp), hb⟩
  · have hd : ((l.length : Int) % 2 != 0) = true := by simp; omega
    have hN := Lib.hid (Oct.unhex_odd l (by omega))
    clear hodd
    go_enter Try.func65, Try.ntmps65
    go_wp2_with fail
    go_ret2
    exact ⟨fun bs' hb' => absurd hb' (by rw [hN.out]; simp), fun _ => rfl, Below.refl _ _⟩

theorem undone_ans {t : TypeId} {w w' : World} {l : List UInt8} {e : Ending} (h : Undone t w l e w') : Ans t w (Oct.unhexA l) e w' := by
  unfold Oct.unhexA
  cases hu : Oct.unhex l with
  | none => exact ⟨_, h.2.1 hu, Own.nil _ _ _, h.2.2⟩
  | some bs =>
    obtain ⟨v, he, ho⟩ := h.1 bs hu
    exact ⟨v, he, ho, h.2.2⟩

end Go.Proofs.Ytkkbjngjjeajoaa
