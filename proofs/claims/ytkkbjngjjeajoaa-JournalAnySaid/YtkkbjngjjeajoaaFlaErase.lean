/-
  Erase.
-/
import Derived.Test.YtkkbjngjjeajoaaFlaOp
namespace Go.Proofs.Ytkkbjngjjeajoaa
namespace Fla
open Go.RowKit Mem
set_option linter.unusedVariables false

section
variable {w W : World} {p D c : Nat} {s : Fl}
theorem IsF.setWear (h : IsF W p D c s) {n : Nat} (hn : n < 8) (hl : s.wearAt n < s.most) : IsF (W.setCell ⟨p, 1 + n, none⟩ (.int .i64 (s.wearAt n + 1))) p D c (s.wearUp n) :=
  h.set (1 + n) _ _ rfl (set_wear D c n _ h.ok.w8 hn) (h.ok.wearUp hn hl)
theorem erase_off {n : Int} (h : s.on = false) : s.erase n = s ∧ s.eraseC n = 7 := by unfold Fl.erase Fl.eraseC; rw [h]; exact ⟨rfl, rfl⟩
theorem erase_has {n : Int} (h : s.on = true) (h1 : s.has n = false) : s.erase n = s ∧ s.eraseC n = 9 := by unfold Fl.erase Fl.eraseC; rw [h, h1]; exact ⟨rfl, rfl⟩
theorem erase_worn {n : Int} (h : s.on = true) (h1 : s.has n = true) (h2 : s.left n = 0) : s.erase n = s ∧ s.eraseC n = 10 := by unfold Fl.erase Fl.eraseC; rw [h, h1, if_pos h2, if_pos h2]; exact ⟨rfl, rfl⟩
theorem erase_go {n : Int} (h : s.on = true) (h1 : s.has n = true) (h2 : ¬ s.left n = 0) : s.eraseC n = (if s.cuts then 7 else 0) ∧
    s.erase n = (if (s.wearUp n.toNat).cuts then ((s.wearUp n.toNat).with_ (ones (s.wearUp n.toNat).bs (n.toNat * 1024) ((s.wearUp n.toNat).mask.toNat % 1025))).fell else ((s.wearUp n.toNat).with_ (ones (s.wearUp n.toNat).bs (n.toNat * 1024) 1024)).past) := by
  unfold Fl.erase Fl.eraseC; rw [h, h1, if_neg h2, if_neg h2]; exact ⟨rfl, rfl⟩

set_option maxHeartbeats 1000000 in
theorem erase_any (n : Int) (n0 : -9223372036854775808 ≤ n) (n1 : n ≤ 9223372036854775807) (h : IsF w p D c s) (ho : s.ops < 4611686018427387904) :
    Calls Try.prog 103 #[at_ p, .int .i64 n] w (Ends p D c w (s.eraseC n) (s.erase n)) := by
  have H0 := Lib.hid (fnone_any h)
  have h10 := h.c10
  cases hon : s.on with
  | false =>
    obtain ⟨e1, e2⟩ := erase_off (n := n) hon
    rw [e1, e2]
    rw [hon] at h10
    have H := Lib.hid h
    clear hon h e1 e2
    go_enter Try.func103, Try.ntmps103
    go_wp2_with fail
    refine H0.out.mono ?_
    rintro e w1 ⟨rfl, rfl⟩
    go_wp2_with fail
    go_ret
    exact ⟨rfl, H.out, Far.refl _ _ _⟩
  | true =>
    have H1 := Lib.hid (fhas_any n h)
    rw [hon] at h10
    cases hh : s.has n with
    | false =>
      obtain ⟨e1, e2⟩ := erase_has (n := n) hon hh
      rw [e1, e2]
      rw [hh] at H1
      have H := Lib.hid h
      clear hon hh h e1 e2
      go_enter Try.func103, Try.ntmps103
      go_wp2_with fail
      refine H0.out.mono ?_
      rintro e w1 ⟨rfl, rfl⟩
      go_wp2_with fail
      refine H1.out.mono ?_
      rintro e w1 ⟨rfl, rfl⟩
      go_wp2_with fail
      go_ret
      exact ⟨rfl, H.out, Far.refl _ _ _⟩
    | true =>
      rw [hh] at H1
      have H2 := Lib.hid (fleft_any n h)
      by_cases hl : s.left n = 0
      · obtain ⟨e1, e2⟩ := erase_worn (n := n) hon hh hl
        rw [e1, e2]
        rw [hl] at H2
        have H := Lib.hid h
        clear hon hh hl h e1 e2
        go_enter Try.func103, Try.ntmps103
        go_wp2_with fail
        refine H0.out.mono ?_
        rintro e w1 ⟨rfl, rfl⟩
        go_wp2_with fail
        refine H1.out.mono ?_
        rintro e w1 ⟨rfl, rfl⟩
        go_wp2_with fail
        refine H2.out.mono ?_
        rintro e w1 ⟨rfl, b1⟩
        have B1 := Lib.hid b1
        clear b1
        go_wp2_with fail
        go_ret
        exact ⟨rfl, H.out.below B1.out (Nat.le_refl _), .of_below B1.out (Nat.le_refl _)⟩
      · obtain ⟨e2, e1⟩ := erase_go (n := n) hon hh hl
        obtain ⟨m0, m1, m2⟩ := h.ok.has_lt hh
        obtain ⟨k, rfl⟩ : ∃ k : Nat, n = (k : Int) := ⟨n.toNat, by omega⟩
        rw [Int.toNat_natCast] at m1 m2 e1
        rw [e1, e2]
        have hlv : s.left k = s.most - s.wearAt k := by unfold Fl.left; rw [hh]; rfl
        have hwb := h.ok.wear_bd k m1
        have hmm := h.ok.m1
        have hwl : s.wearAt k < s.most := by omega
        have hl' : (s.left (k : Int) == 0) = false := by simpa using hl
        have hlen := h.ok.len1
        have hcap := h.cap
        have hge := h.ge
        have hk8 : (k : Int) < 8 := by omega
        have HS : Hid (∀ W, w.heap.size ≤ W.heap.size → IsF W p D c s → IsF (W.setCell ⟨p, 1 + k, none⟩ (.int .i64 (s.wearAt k + 1))) p D c (s.wearUp k)) := Lib.hid fun W _ hW => hW.setWear m1 hwl
        have HO : Hid (∀ (W : World) (cc : Nat), 1024 ≤ cc → cc ≤ maxLen → IsF W p D c (s.wearUp k) → Calls Try.prog 104 #[at_ p, .func (.func 69) #[.agg #[.slice (some ⟨D, k * 1024, none⟩) 1024 cc]] #[], .func (.func 123) #[.agg #[.slice (some ⟨D, k * 1024, none⟩) 1024 cc]] #[]] W (Ends p D c W (if (s.wearUp k).cuts then 7 else 0) (if (s.wearUp k).cuts then ((s.wearUp k).with_ (ones (s.wearUp k).bs (k * 1024) ((s.wearUp k).mask.toNat % 1025))).fell else ((s.wearUp k).with_ (ones (s.wearUp k).bs (k * 1024) 1024)).past))) :=
          Lib.hid fun W cc h1 h2 hi => operate_e (k * 1024) cc hi (by show k * 1024 + 1024 ≤ s.bs.length; exact m2) h1 h2 (by show s.ops < _; exact ho)
        generalize (if (s.wearUp k).cuts then ((s.wearUp k).with_ (ones (s.wearUp k).bs (k * 1024) ((s.wearUp k).mask.toNat % 1025))).fell else ((s.wearUp k).with_ (ones (s.wearUp k).bs (k * 1024) 1024)).past) = s2 at *
        rw [show (if s.cuts = true then (7 : Int) else 0) = (if (s.wearUp k).cuts = true then (7 : Int) else 0) from rfl]
        generalize (if (s.wearUp k).cuts = true then (7 : Int) else 0) = code at *
        have H := Lib.hid h
        have hk1 : (0 : Int) ≤ (k : Int) := by omega
        clear hlv hl hon hh h e1 e2 m0 n0 n1
        go_enter Try.func103, Try.ntmps103
        go_wp2_with fail
        refine H0.out.mono ?_
        rintro e w1 ⟨rfl, rfl⟩
        go_wp2_with fail
        refine H1.out.mono ?_
        rintro e w1 ⟨rfl, rfl⟩
        go_wp2_with fail
        refine H2.out.mono ?_
        rintro e w1 ⟨rfl, b1⟩
        have B1 := Lib.hid b1
        have i1 := H.out.below b1 (Nat.le_refl _)
        have hcw := i1.cw m1
        have hfw := i1.free (1 + k)
        have c0 := i1.c0
        have I1 := Lib.hid i1
        clear b1 i1 h10
        go_wp2_with fail
        go_region
        have i2 := (I1.out.setWear m1 hwl).drew
        have F2 := Lib.hid ((((Far.of_below (p := p) (D := D) B1.out (Nat.le_refl _)).set_p (1 + k) (.int .i64 (s.wearAt k + 1)))).drew)
        generalize (w1.setCell ⟨p, 1 + k, none⟩ (.int .i64 (s.wearAt k + 1))).drew = w2 at *
        have d0 := i2.c0
        have I2 := Lib.hid i2
        clear i2 c0 hcw hfw B1 I1
        go_wp2_with fail
        refine (HO.out _ _ (by omega) (by omega) (I2.out.alloc _)).mono ?_
        rintro e w3 ⟨rfl, i3, f3⟩
        have I3 := Lib.hid i3
        have F3 := Lib.hid ((F2.out.alloc _).trans f3)
        clear i3 f3 d0
        go_wp2_with fail
        go_ret
        exact ⟨rfl, I3.out, F3.out⟩
end
end Fla
end Go.Proofs.Ytkkbjngjjeajoaa
