/-
  What the document's Show does.
-/
import Derived.Test.YtkkbjngjjeajoaaFrmShow
namespace Go.Proofs.Ytkkbjngjjeajoaa
namespace Frm
open Go.RowKit Mem
set_option linter.unusedVariables false
set_option linter.unusedSimpArgs false
set_option maxRecDepth 100000

theorem hex_two (n : Nat) (h : n ≤ 4095) : (Oct.hex [UInt8.ofNat (n / 256), UInt8.ofNat (n % 256)]).drop 1 = idL n := by
  have e1 : (UInt8.ofNat (n / 256)).toNat = n / 256 := by rw [UInt8.toNat_ofNat', Nat.mod_eq_of_lt (by omega)]
  have e2 : (UInt8.ofNat (n % 256)).toNat = n % 256 := by rw [UInt8.toNat_ofNat', Nat.mod_eq_of_lt (by omega)]
  simp only [Oct.hex, e1, e2, idL, List.drop_succ_cons, List.drop_zero]
  rw [show n / 256 % 16 = n / 256 by omega, show n % 256 / 16 = n / 16 % 16 by omega, show n % 256 % 16 = n % 16 by omega]

theorem two_rd (w : World) (n : Nat) (h : n ≤ 4095) (t : TypeId) : Rd (w.alloc (.cells #[.int .u8 ((n : Int) / 256), .int .u8 ((n : Int) % 256)] t)) (w.alloc (.cells #[.int .u8 ((n : Int) / 256), .int .u8 ((n : Int) % 256)] t)).heap.size (some ⟨w.heap.size, 0, none⟩) [UInt8.ofNat (n / 256), UInt8.ofNat (n % 256)] := by
  refine (Rd.new2 w t ?_ ?_).mono (by simp)
  · rw [UInt8.toNat_ofNat', Nat.mod_eq_of_lt (by omega)]; omega
  · rw [UInt8.toNat_ofNat', Nat.mod_eq_of_lt (by omega)]; omega

set_option maxHeartbeats 1000000 in
theorem rshow_any (id : Int) (r : Bool) (A : Option Addr) (c : Nat) (d : List UInt8) (w : World) (hr : Rd w w.heap.size A d) (k1 : -9223372036854775808 ≤ id) (k2 : id ≤ 9223372036854775807) (hl : d.length ≤ 140737488355328) :
    Calls Try.prog 29 #[frm id r (.slice A d.length c)] w fun e w' => e = .returned (showV id r d) ∧ Below w.heap.size w w' := by
  have CK := Lib.hid (fun W => rcheck_any id r A d.length c W k1 k2 (by omega))
  by_cases he : err id r d.length = 0
  · obtain ⟨e1, e2, e3, e4⟩ := err_ok he
    rw [showV_yes he]
    rw [he] at CK
    obtain ⟨n, rfl⟩ : ∃ n : Nat, id = n := ⟨id.toNat, by omega⟩
    have hn : n ≤ 2047 := by omega
    have T := Lib.hid (show text (n : Int) r d = idL n ++ 35 :: tail r d from by unfold text; rw [Int.toNat_natCast])
    have HX := Lib.hid (fun (W : World) (b : Below w.heap.size w W) => rhex_any A d.length c d W ((hr.below b).mono b.size) rfl (by omega))
    have H2 := Lib.hid (fun (W : World) => rhex_any (some ⟨W.heap.size, 0, none⟩) 2 2 _ _ (two_rd W n (by omega) 5) rfl (by simp))
    have f1 : ∀ W, (Instr.slice 9 (.string ⟨(Oct.hex [UInt8.ofNat (n / 256), UInt8.ofNat (n % 256)]).toArray⟩) (some (.int .i64 1)) none none).run Try.prog W = .ok (.string ⟨(idL n).toArray⟩) W := by
      intro W
      rw [run_slice_string_from_if (P := Try.prog) W 9 _ .i64 _ Try.underlying9, if_pos ⟨by omega, by simp [ByteArray.size, Oct.hex_length]⟩, ← hex_two n (by omega)]
      congr 2
    have F1 := Lib.hid f1
    clear f1
    rw [T.out]
    clear T he e1 hr e2
    have HA := Lib.hid (show (⟨(idL n).toArray⟩ : ByteArray) = bA (idL n) from rfl)
    have HB := Lib.hid (bA_three n r d)
    have HC := Lib.hid (show (⟨(idL n ++ 35 :: tail r d).toArray⟩ : ByteArray) = bA (idL n ++ 35 :: tail r d) from rfl)
    rw [HC.out, ← HB.out, ← HA.out]
    have S1 := Lib.hid (fun W => run_string_add_sum (P := Try.prog) W ⟨(idL n).toArray⟩ ⟨#[35]⟩ (by simp [idL, ByteArray.size]))
    have S2 := Lib.hid (fun W => run_string_add_sum (P := Try.prog) W (⟨(idL n).toArray⟩ ++ ⟨#[35]⟩) ⟨(Oct.hex d).toArray⟩ (by rw [ByteArray.size_append]; simp [idL, ByteArray.size, Oct.hex_length]; omega))
    have S3 := Lib.hid (fun W => run_string_add_sum (P := Try.prog) W (⟨(idL n).toArray⟩ ++ ⟨#[35]⟩) ⟨#[82]⟩ (by rw [ByteArray.size_append]; simp [idL, ByteArray.size]))
    clear HA HB HC e4
    generalize hO : Oct.hex [UInt8.ofNat (n / 256), UInt8.ofNat (n % 256)] = O at H2 F1
    clear hO
    cases r
    all_goals
      go_enter Try.func29, Try.ntmps29
      go_wp2_with fail
      refine (CK.out _).mono ?_
      rintro e w1 ⟨rfl, b1⟩
      have pa := (b1.block w.heap.size (by simp)).trans (one_new w _)
      have HZ := Lib.hid (show w.heap.size < w1.heap.size by have := b1.size; simp at this; omega)
      have q0 := cellof pa 0
      have PA := Lib.hid pa
      have B1 := Lib.hid ((one_below w _).trans (b1.mono (one_below w _).size))
      clear pa b1
      go_wp2_with fail
      refine (H2.out _).mono ?_
      rintro e w2 ⟨rfl, b2⟩
      have B2 := Lib.hid ((B1.out.alloc B1.out.size _).trans (b2.mono (by have := B1.out.size; simp; omega)))
      have pa := (b2.block w.heap.size (by have := HZ.out; simp; omega)).trans ((heap_alloc_old w1 _ HZ.out).trans PA.out)
      have q1 := cellof pa 1
      have q2 := cellof pa 2
      have f1 := F1.out
      have s1 := S1.out
      clear pa b2 q0
      go_wp2_with fail
    · refine (HX.out _ B2.out).mono ?_
      rintro e w3 ⟨rfl, b3⟩
      have B3 := Lib.hid (B2.out.trans (b3.mono B2.out.size))
      have s2 := S2.out
      clear b3 f1 s1 q1 q2
      go_wp2_with fail
      go_ret2
      exact ⟨rfl, B3.out⟩
    · go_ret2
      exact ⟨rfl, B2.out⟩
  · have H := Lib.hid (showV_no rfl he)
    have he' : (err id r d.length != 0) = true := by simp [he]
    generalize err id r d.length = E at *
    rw [H.out]
    clear hr
    go_enter Try.func29, Try.ntmps29
    go_wp2_with fail
    refine (CK.out _).mono ?_
    rintro e w2 ⟨rfl, b2⟩
    have B2 := Lib.hid ((one_below w _).trans (b2.mono (one_below w _).size))
    clear b2
    go_wp2_with fail
    go_ret2
    exact ⟨rfl, B2.out⟩
end Frm
end Go.Proofs.Ytkkbjngjjeajoaa
