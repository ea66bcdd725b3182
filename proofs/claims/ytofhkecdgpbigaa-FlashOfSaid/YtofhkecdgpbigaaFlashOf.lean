/-
  Proved: FlashOf, for any bytes and any endurance: they are taken as a flash just where the document says so, and are the flash's own: what is done to the bytes afterwards is not seen in it; all that is seen of it is as the document says.
-/
import Derived.Test.YtofhkecdgpbigaaRows
import Derived.Test.YtofhkecdgpbigaaLift
import Derived.Test.YtofhkecdgpbigaaFlaAlike
namespace Go.Proofs.Ytofhkecdgpbigaa.flashOf
open Go.ChangeShapes Go.WideShapes Go.ChangeAt Go.RowKit Mem Fla
open Go.ChangeMaps (open_string shut_string)
set_option linter.unusedVariables false

theorem lent_own {w : World} {base : Nat} {t : TypeId} {g cap : Nat} {bs : List UInt8} (h : LentAt w base t g cap bs) : Own w base t (.slice (some ⟨g, 0, none⟩) bs.length cap) bs := by
  obtain ⟨ho, hc, hm, hb, hg⟩ := h
  refine ⟨by simp [u8s], .inr ?_⟩
  rcases ho.2 with ⟨h1, h2⟩ | ⟨g', cap', cur, e, hb', hh, hn, hcm, hcs, ht⟩
  · cases h1
  · injection e with e1 e2 e3
    injection e1 with e1
    injection e1 with e1
    subst e1
    subst e3
    refine ⟨g, cap, cur, rfl, hb, hh, by omega, hcm, hcs, ?_⟩
    have h1 := congrArg (List.take bs.length) ht
    rw [List.take_take] at h1
    simp only [List.length_append, List.length_cons, List.length_nil, Nat.mul_one, Nat.zero_add] at h1 ⊢
    rw [Nat.min_eq_left (by omega)] at h1
    rw [h1]
    simp [u8s]
theorem isf_grown {W W' : World} {p D c k lo : Nat} {s : Fl} (h : IsF W p D c s) (hp : lo ≤ p) (hD : lo ≤ D) (g : W.grownBy W' (some k)) (hk : k < lo) : IsF W' p D c s :=
  h.keep (g.block p h.lt (by simp; omega)) (g.block D h.ltD (by simp; omega))

set_option maxRecDepth 100000 in
set_option maxHeartbeats 4000000 in
theorem walk (A : Option Addr) (c : Nat) (bs : List UInt8) (m : Int) (w : World)
    (hr : Rd w w.heap.size A bs) (hl : bs.length ≤ maxLen) (hm : -9223372036854775808 ≤ m ∧ m ≤ 9223372036854775807) :
    Calls Try.prog 3 #[.slice A bs.length c, .int .i64 m] w fun e w' => e = .returned (.bool true) ∧ Below w.heap.size w w' := by
  have KN := Lib.hid (fun W => known_any W)
  have HR := Lib.hid hr
  unfold maxLen at hl
  by_cases h5 : 20000 < bs.length
  · have h5' : 20000 < (bs.length : Int) := by omega
    clear hr h5
    go_enter Try.func3, Try.ntmps3
    go_wp2_with fail
    refine (KN.out _).mono ?_
    rintro e w2 ⟨rfl, b2⟩
    have B2 := Lib.hid b2
    clear b2
    go_wp2_with fail
    go_ret
    exact ⟨rfl, B2.out⟩
  · have h5' : (bs.length : Int) ≤ 20000 := by omega
    have HL := Lib.hid (lent_any A bs.length c bs w hr rfl (by omega))
    clear hr
    by_cases hok : ofB bs.length m = true
    · have HO := Lib.hid (fun W A c (h : Rd W W.heap.size A bs) => of_yes A bs.length c m bs W h rfl (by omega) hm.2 hok)
      have HF := Lib.hid (fun W A c (h : Rd W W.heap.size A bs) => rof_yes A bs.length c m bs W h rfl hm.2 hok)
      have hb8 : bs.length ≤ 8192 ∧ 0 ≤ m := by simp [ofB, canB] at hok; omega
      have HS := Lib.hid (fun W v (h : Own W w.heap.size 5 v bs) (hs : w.heap.size ≤ W.heap.size) => spoil_any v w.heap.size bs W h hs (by omega))
      have HA := Lib.hid (fun W p D c r AB cB AW cW (i : IsF W p D c (Fl.new bs m)) (h : IsR W r bs (bs.length / 1024) m AB cB AW cW) => alike_any p D c bs m r AB cB AW cW W i h hb8.1 hb8.2 hm.2)
      clear hok hb8 h5
      go_enter Try.func3, Try.ntmps3
      go_wp2_with fail
      refine HL.out.mono ?_
      rintro e w1 ⟨g, cap, rfl, L1, b1⟩
      have L1 := Lib.hid L1
      have B1 := Lib.hid b1
      clear b1
      go_wp2_with fail
      refine (HO.out _ _ _ L1.out.rd).mono ?_
      rintro e w2 ⟨p, D, cc, rfl, S⟩
      have L2 := Lib.hid (L1.out.below S.b (Nat.le_refl _))
      have B2 := Lib.hid (B1.out.trans (S.b.mono B1.out.size))
      have S2 := Lib.hid S
      clear S
      go_wp2_with fail
      refine (HF.out _ _ _ ((HR.out.below B2.out).mono B2.out.size)).mono ?_
      rintro e w3 ⟨r, AB, cB, AW, cW, rfl, i3, b3, f3⟩
      have L3 := Lib.hid (L2.out.below b3 (Nat.le_refl _))
      have B3 := Lib.hid (B2.out.trans (b3.mono B2.out.size))
      have S3 := Lib.hid (S2.out.next b3)
      have R3 := Lib.hid i3
      have F3 := Lib.hid f3
      have HG : Hid (g < w1.heap.size ∧ g < w2.heap.size) := Lib.hid ⟨L1.out.2.2.2.2, L2.out.2.2.2.2⟩
      clear b3 i3 f3 S2 B2 B1 L1 L2 HO HF HL
      go_wp2_with fail
      refine (HS.out _ _ (lent_own L3.out) B3.out.size).mono ?_
      rintro e w4 ⟨rfl, b4, g4⟩
      have S4 := Lib.hid (isf_grown S3.out.i S3.out.hp S3.out.hD g4 HG.out.1)
      have R4 := Lib.hid (R3.out.grown F3.out g4 HG.out.2)
      have B4 := Lib.hid (B3.out.trans b4)
      clear b4 g4 S3 R3 F3 HG B3 L3 HS
      go_wp2_with fail
      refine (HA.out _ _ _ _ _ _ _ _ _ S4.out R4.out).mono ?_
      rintro e w5 ⟨rfl, b5⟩
      have B5 := Lib.hid (B4.out.trans (b5.mono B4.out.size))
      clear b5 B4 S4 R4
      go_wp2_with fail
      refine (KN.out _).mono ?_
      rintro e w6 ⟨rfl, b6⟩
      have B6 := Lib.hid (B5.out.trans (b6.mono B5.out.size))
      clear b6 B5
      go_wp2_with fail
      go_ret
      exact ⟨rfl, B6.out⟩
    · have hno : ofB bs.length m = false := by simpa using hok
      have HO := Lib.hid (fun W A c => of_no A bs.length c m W (by omega) hno)
      have HF := Lib.hid (fun W A c => rof_no A bs.length c m W (by omega) hno)
      clear hok hno h5
      go_enter Try.func3, Try.ntmps3
      go_wp2_with fail
      refine HL.out.mono ?_
      rintro e w1 ⟨g, cap, rfl, L1, b1⟩
      have B1 := Lib.hid b1
      clear b1 L1
      go_wp2_with fail
      refine (HO.out _ _ _).mono ?_
      rintro e w2 ⟨rfl, rfl⟩
      go_wp2_with fail
      refine (HF.out _ _ _).mono ?_
      rintro e w2 ⟨⟨r, rfl⟩, b2⟩
      have B2 := Lib.hid (B1.out.trans (b2.mono B1.out.size))
      clear b2 B1
      go_wp2_with fail
      refine (KN.out _).mono ?_
      rintro e w6 ⟨rfl, b6⟩
      have B6 := Lib.hid (B2.out.trans (b6.mono B2.out.size))
      clear b6 B2
      go_wp2_with fail
      go_ret
      exact ⟨rfl, B6.out⟩

theorem own : ownKnob Try.prog.godebug = none := by kernel_rfl
theorem laidOut : laidOutB Try.prog = true := by kernel_rfl

set_option maxRecDepth 100000 in
theorem lifted (os : Os) (started : os.Started) (H : Type) (enc : TypeId × Value → H) :
    ReturnsInHanded {} Try.checked os 3 .any (Rows.flashOfSpec.pre6 enc Try.prog Try.f3 Rows.flashOfRow.domain false) (Rows.flashOfSpec.post enc Try.prog Try.f3 false true false false) := by
  refine returnsInHanded_of_change (C := Try.checked) own started (by kernel_rfl) Try.func3
    (ChangeSpec.witness6 (enc := enc) (C := Try.checked) false ⟨#[], #[.slice none 0 0, .int .i64 0], []⟩ 8 (by kernel_rfl) (by kernel_rfl) (by kernel_rfl) (by kernel_rfl)) ?_
  intro W base args ds gs before hval0 hW hcnd _
  have hval : ∀ (j : Nat) t v, Try.f3.params[j]? = some t → args[j]? = some v → Value.okWide Try.prog W .any base t v := hval0
  have hW' := hW
  obtain ⟨p, q, hA0, hV, rfl, hfz, hnd⟩ := hW
  have hA : DataW.TrodAll enc Try.prog W 0 (fun _ => true) true Try.f3.params.toList args.toList ds p := hA0
  rw [Try.params3] at hA hval
  obtain ⟨v0, vs0, d0, ds0, p0, q0, hargs, rfl, rfl, h0, r0⟩ := trodAll_cons hA
  obtain ⟨v1, vs1, d1, ds1, p1, q1, rfl, rfl, rfl, h1, r1⟩ := trodAll_cons r0
  obtain ⟨rfl, rfl, rfl⟩ := trodAll_nil r1
  obtain rfl : args = #[v0, v1] := by cases args; simp_all
  obtain ⟨rfl, rfl⟩ := trodVars_none hV
  have k0 := h0
  have lt0 : ∀ x ∈ p0, x.block < W.heap.size := by obtain ⟨m, hm⟩ := k0; exact DataW.trod_lt m _ _ _ hm
  obtain ⟨A0, c0, b0, rfl, w0, l0⟩ := Mem.open_bytes Try.underlying22 Try.underlying5 (by kernel_rfl) (hval 0 22 v0 rfl rfl) h0
  obtain ⟨a1, rfl, rfl, rfl, w1⟩ := open_int Try.underlying3 (hval 1 3 v1 rfl rfl) h1
  clear hA0 hval0
  refine (walk A0 c0 b0 a1 W w0 l0 (Mem.wf_i64 w1)).mono fun e W' ⟨he, bel⟩ => ?_
  subst he
  exact ⟨_, rfl, _, _, _, [], _, [], hW', trodAll_mk1 (shut_bool Try.underlying4 _), (trodAll_cons_mk (Below.trod laidOut (by kernel_rfl) (of_decide_eq_true (by kernel_rfl)) k0 bel lt0) (trodAll_cons_mk (shut_int Try.underlying3 w1) trodAll_mk0)), rfl, bel.frame _, fun h => by cases h⟩

theorem over : Rows.flashOfRow.holds Try.pinned (OpenSpec.ofChange Rows.flashOfSpec) :=
  OpenClaim.holds_of_wide 3 Try.f3 rfl rfl rfl rfl rfl rfl rfl ⟨rfl, rfl, rfl, rfl, rfl⟩ rfl rfl rfl rfl rfl (by kernel_rfl) Try.func3 (by kernel_rfl)
    (of_decide_eq_true (by kernel_rfl)) (by unfold Func.isWrapper; first | (rw [if_pos (by decide +kernel)]; kernel_rfl) | (rw [if_neg (by decide +kernel)]; exact ⟨rfl, rfl⟩))
    (fun os started H enc _ => lifted os started H enc)

/-- The given statement. -/
theorem proved : Rows.FlashOfSaid := over

end Go.Proofs.Ytofhkecdgpbigaa.flashOf
