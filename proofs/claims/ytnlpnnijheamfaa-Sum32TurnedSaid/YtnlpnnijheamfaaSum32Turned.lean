/-
  Proved: Sum32Turned, for any bytes, any place and any 32 bits: what was sealed, and has some bits turned within 32 that follow one another, is not opened; with none turned it is opened as it was.
-/
import Derived.Test.YtnlpnnijheamfaaRows
import Derived.Test.YtnlpnnijheamfaaLift
import Derived.Test.YtnlpnnijheamfaaSumSeal
import Derived.Test.YtnlpnnijheamfaaSumKnown
import Derived.Test.YtnlpnnijheamfaaOctCount
namespace Go.Proofs.Ytnlpnnijheamfaa.sum32Turned
open Go.ChangeShapes Go.WideShapes Go.ChangeAt Go.RowKit Mem
open Go.ChangeMaps (open_string shut_string)
set_option linter.unusedVariables false

/-- What the loop has done behind j rounds. -/
def Done (wr : World) (base : Nat) (t : TypeId) (g cap : Nat) (T : List UInt8) (k u j : Nat) : Prop :=
  ∃ bs', bs'.length = T.length ∧ Own wr base t (.slice (some ⟨g, 0, none⟩) T.length cap) bs' ∧ Sum.val bs' = Sum.val T ^^^ 2 ^ k * (u % 2 ^ j) ∧ (u % 2 ^ j = 0 → bs' = T)

theorem bit_at {u : Nat} (h : u < 4294967296) (j : Nat) : bits .and .u32 ((u : Int) / 2 ^ j) 1 = ((u / 2 ^ j % 2 : Nat) : Int) := by
  rw [show ((u : Int) / 2 ^ j) = ((u / 2 ^ j : Nat) : Int) by simp, Sum.and_one]
  exact Nat.lt_of_le_of_lt (Nat.div_le_self _ _) h
theorem mod_yes {u j : Nat} (h : u / 2 ^ j % 2 = 1) : u % 2 ^ (j + 1) = u % 2 ^ j ^^^ 2 ^ j ∧ u % 2 ^ (j + 1) ≠ 0 := by
  refine ⟨by rw [Sum.mod_succ, h, Nat.mul_one], ?_⟩
  rw [Nat.mod_pow_succ, h]
  have := Nat.two_pow_pos j
  omega
theorem mod_no {u j : Nat} (h : ¬ u / 2 ^ j % 2 = 1) : u % 2 ^ (j + 1) = u % 2 ^ j := by
  rw [Nat.mod_pow_succ, show u / 2 ^ j % 2 = 0 by omega]
  omega
theorem turn_byte {bs : List UInt8} {p : Nat} (h : p < bs.length) (q : Nat) (hq : q < 8) : bits .xor .u8 (byt bs p) ((2 : Int) ^ q % 256) = (((bs[p] ^^^ UInt8.ofNat (2 ^ q)).toNat : Nat) : Int) := by
  have hx := byt_bd bs p
  have h2 : 2 ^ q < 256 := Nat.pow_lt_pow_right (a := 2) (n := 8) (by decide) hq
  have e : ((2 : Int) ^ q % 256) = ((2 ^ q : Nat) : Int) := by
    have : ((2 : Int) ^ q) = ((2 ^ q : Nat) : Int) := by simp
    rw [this]
    exact Int.emod_eq_of_lt (Int.natCast_nonneg _) (Int.ofNat_lt.2 h2)
  have h1 := (bs[p]).toNat_lt
  rw [e, u8_xor _ _ hx.1 (by omega) (by omega) (by omega), UInt8.toNat_xor, UInt8.toNat_ofNat', Nat.mod_eq_of_lt (by omega), Int.toNat_natCast]
  simp [byt, h]
theorem Done.yes {wr : World} {base : Nat} {t : TypeId} {g cap : Nat} {T bs' : List UInt8} {k u j : Nat} (hl : bs'.length = T.length) (ho : Own wr base t (.slice (some ⟨g, 0, none⟩) T.length cap) bs') (hv : Sum.val bs' = Sum.val T ^^^ 2 ^ k * (u % 2 ^ j))
    (hb : u / 2 ^ j % 2 = 1) (hk : (k + j) / 8 < T.length) :
    Done (wr.setCell ⟨g, (k + j) / 8, none⟩ (.int .u8 (bits .xor .u8 (byt bs' ((k + j) / 8)) ((2 : Int) ^ ((k + j) % 8) % 256)))) base t g cap T k u (j + 1) := by
  have hp : (k + j) / 8 < bs'.length := by rw [hl]; exact hk
  refine ⟨_, ?_, ho.store hl.symm _ (turn_byte hp _ (Nat.mod_lt _ (by decide))), ?_, fun h => absurd h (mod_yes hb).2⟩
  · rw [List.length_set, hl]
  · have h2 : 2 ^ ((k + j) % 8) < 256 := Nat.pow_lt_pow_right (a := 2) (n := 8) (by decide) (by omega)
    rw [Sum.val_set bs' _ hp _ h2, hv, (mod_yes hb).1, Sum.pow_mul_xor, Nat.xor_assoc, ← Nat.pow_add, ← Nat.pow_add, show 8 * ((k + j) / 8) + (k + j) % 8 = k + j by omega]
theorem Done.no {wr : World} {base : Nat} {t : TypeId} {g cap : Nat} {T : List UInt8} {k u j : Nat} (h : Done wr base t g cap T k u j) (hb : ¬ u / 2 ^ j % 2 = 1) : Done wr base t g cap T k u (j + 1) := by
  unfold Done at h ⊢
  rw [mod_no hb]
  exact h

set_option maxRecDepth 100000 in
set_option maxHeartbeats 800000 in
theorem walk (A : Option Addr) (c : Nat) (bs : List UInt8) (at_ u_ : Int) (w : World) (hr : Rd w w.heap.size A bs) (hm : bs.length ≤ maxLen)
    (ha : -9223372036854775808 ≤ at_ ∧ at_ ≤ 9223372036854775807) (hu : 0 ≤ u_ ∧ u_ ≤ 4294967295) :
    Calls Try.prog 6 #[.slice A bs.length c, .int .i64 at_, .int .u32 u_] w fun e w' => e = .returned (.bool true) ∧ Below w.heap.size w w' := by
  unfold maxLen at hm
  obtain ⟨u, rfl⟩ := Int.eq_ofNat_of_zero_le hu.1
  by_cases h20 : 16384 < bs.length
  · go_enter Try.func6, Try.ntmps6
    go_wp2_with fail
    refine (known_any _).mono ?_
    rintro e w' ⟨rfl, hb⟩
    go_wp2_with fail
    go_ret
    exact ⟨rfl, hb⟩
  · have hS := Sum.seal_length bs
    have hO := Lib.hid (Sum.open_seal bs)
    have hTn := Lib.hid (fun bs' k v => Sum.open_turned (bs := bs) (bs' := bs') (k := k) (v := v))
    generalize hT : Sum.seal_ bs = T at hS hO hTn
    have HT := Lib.hid hT
    clear hT
    have hT4 : T.length ≤ 16388 := by omega
    have hT0 : 4 ≤ T.length := by omega
    obtain ⟨k, hk⟩ : ∃ k : Nat, at_ % (8 * (T.length : Int)) = k := Int.eq_ofNat_of_zero_le (Int.emod_nonneg _ (by omega))
    have hkl : k < 8 * T.length := by
      have := Int.emod_lt_of_pos at_ (show (0 : Int) < 8 * (T.length : Int) by omega)
      omega
    have HK := Lib.hid hk
    clear hk
    go_enter Try.func6, Try.ntmps6
    go_wp2_with fail
    refine (seal_any A _ c bs w hr rfl (by omega)).mono ?_
    rw [HT.out]
    rintro e w1 ⟨v1, rfl, o1, b1⟩
    obtain ⟨g, cap, rfl, hg, _, hcap, hcm⟩ := o1.some_ (by omega)
    unfold id
    have hSn : ((T.length : Int) != (bs.length : Int) + 4) = false := by simp; omega
    have hS' := Lib.hid hS
    clear hS
    go_wp2_with fail
    refine (count_any _ _ w1 (by omega) (by omega)).mono ?_
    rw [HK.out]
    rintro e w' ⟨rfl, rfl⟩
    have hcap' := Lib.hid (And.intro hcap hcm)
    clear hcap hcm
    go_wp2_with fail
    go_loopw [10, 11] (fun b i wr => ∃ j : Nat, j ≤ 32 ∧ k + j ≤ 8 * T.length ∧ i = .int .i64 j ∧ b = .bool (!decide (u % 2 ^ j = 0)) ∧ Done wr w.heap.size 5 g cap T k u j ∧ Below w.heap.size w wr) (fun _ i _ => 32 - (intOf i).toNat)
    case atStart => exact ⟨0, by omega, by omega, rfl, by simp [Nat.mod_one], ⟨T, rfl, o1, by simp [Nat.mod_one], fun _ => rfl⟩, b1⟩
    case round =>
      obtain ⟨j, hj, hkj, rfl, rfl, hdone, hb⟩ := hrel
      clear o1 b1
      by_cases hgo : j < 32 ∧ k + j < 8 * T.length
      · obtain ⟨hj32, hkj8⟩ := hgo
        have hg1 : (j : Int) < 32 := by omega
        have hg2 : (k : Int) + (j : Int) < 8 * (T.length : Int) := by omega
        obtain ⟨bs', hl', hown, hval, hsame⟩ := hdone
        have hL := Lib.hid hl'
        have hV := Lib.hid hval
        have hE := Lib.hid hsame
        clear hl' hval hsame
        have hi8 : (k + j) / 8 < T.length := by omega
        have hcell := hown.cell hL.out.symm (j := (k + j) / 8) (by rw [hL.out]; exact hi8)
        have hfree := hown.free hL.out.symm ((k + j) / 8)
        have hul : u < 4294967296 := by omega
        by_cases hbit : u / 2 ^ j % 2 = 1
        · have hq : (bits .and .u32 ((u : Int) / 2 ^ j) 1 == 1) = true := by rw [bit_at hul, hbit]; rfl
          go_wp2_with fail
          refine ⟨⟨j + 1, by omega, by omega, by go_num, by simp [(mod_yes hbit).2], Done.yes hL.out hown hV.out hbit hi8, hb.setCell hg _⟩, by simp [intOf]; omega⟩
        · have hq : (bits .and .u32 ((u : Int) / 2 ^ j) 1 == 1) = false := by rw [bit_at hul, show u / 2 ^ j % 2 = 0 by omega]; rfl
          go_wp2_with fail
          refine ⟨⟨j + 1, by omega, by omega, by go_num, by rw [mod_no hbit], Done.no ⟨bs', hL.out, hown, hV.out, hE.out⟩ hbit, hb⟩, by simp [intOf]; omega⟩
      · have hguard : (decide ((j : Int) < 32) = false) ∨ ((j : Int) < 32 ∧ decide ((k : Int) + (j : Int) < 8 * (T.length : Int)) = false) := by
          rcases Nat.lt_or_ge j 32 with h | h
          · exact .inr ⟨by omega, by simp; omega⟩
          · exact .inl (by simp; omega)
        obtain ⟨bs', hl', hown, hval, hsame⟩ := hdone
        have hrd : Rd wr wr.heap.size (some ⟨g, 0, none⟩) bs' := by
          obtain ⟨A', c', hv', hr'⟩ := hown.form_n hl'
          injection hv' with q1 q2 q3
          rw [q1]; exact hr'
        have hul : u % 2 ^ j < 4294967296 := Nat.lt_of_le_of_lt (Nat.mod_le _ _) (by omega)
        have hL := Lib.hid hl'
        clear hown hgo hj hkj hl'
        by_cases hz : u % 2 ^ j = 0
        · obtain rfl := hsame hz
          have hz' : decide (u % 2 ^ j = 0) = true := by simp [hz]
          clear hval hsame hz
          rcases hguard with h1 | ⟨h1, h2⟩
          all_goals
            go_wp2_with fail
            refine (open_any _ _ cap _ wr hrd rfl (by omega) hcap'.out.1 hcap'.out.2).mono ?_
            rw [hO.out]
            rintro e w4 ⟨v4, rfl, o4, b4⟩
            obtain ⟨A4, c4, rfl, r4⟩ := o4.form
            have B4 := Lib.hid (hb.trans (b4.mono hb.size))
            have s4 := run_str r4 _ c4 rfl 23 5 9 Try.underlying23 Try.underlying5 Try.underlying9
            have s0 := run_str (hr.below B4.out) _ c rfl 23 5 9 Try.underlying23 Try.underlying5 Try.underlying9
            clear o4 b4 r4 hrd
            go_wp2_with fail
            refine (known_any _).mono ?_
            rintro e w5 ⟨rfl, b5⟩
            have B5 := Lib.hid (B4.out.trans (b5.mono B4.out.size))
            clear b5 s4 s0
            go_wp2_with fail
            go_ret
            exact ⟨rfl, B5.out⟩
        · have hO5 := Lib.hid (hTn.out bs' k (u % 2 ^ j) hL.out hval hul hz)
          have hz' : decide (u % 2 ^ j = 0) = false := by simp [hz]
          clear hval hsame hz
          rcases hguard with h1 | ⟨h1, h2⟩
          all_goals
            go_wp2_with fail
            refine (open_any _ _ cap bs' wr hrd hL.out.symm (by omega) hcap'.out.1 hcap'.out.2).mono ?_
            rw [hO5.out]
            rintro e w4 ⟨v4, rfl, o4, b4⟩
            obtain ⟨A4, c4, rfl, r4⟩ := o4.form
            have B4 := Lib.hid (hb.trans (b4.mono hb.size))
            clear o4 b4 r4 hrd
            go_wp2_with fail
            refine (known_any _).mono ?_
            rintro e w5 ⟨rfl, b5⟩
            have B5 := Lib.hid (B4.out.trans (b5.mono B4.out.size))
            clear b5
            go_wp2_with fail
            go_ret
            exact ⟨rfl, B5.out⟩

theorem own : ownKnob Try.prog.godebug = none := by kernel_rfl
theorem laidOut : laidOutB Try.prog = true := by kernel_rfl

set_option maxRecDepth 100000 in
theorem lifted (os : Os) (started : os.Started) (H : Type) (enc : TypeId × Value → H) :
    ReturnsInHanded {} Try.checked os 6 .any (Rows.sum32TurnedSpec.pre6 enc Try.prog Try.f6 Rows.sum32TurnedRow.domain false) (Rows.sum32TurnedSpec.post enc Try.prog Try.f6 false true false false) := by
  refine returnsInHanded_of_change (C := Try.checked) own started (by kernel_rfl) Try.func6
    (ChangeSpec.witness6 (enc := enc) (C := Try.checked) false ⟨#[], #[.slice none 0 0, .int .i64 0, .int .u32 0], []⟩ 8 (by kernel_rfl) (by kernel_rfl) (by kernel_rfl) (by kernel_rfl)) ?_
  intro W base args ds gs before hval0 hW hcnd _
  have hval : ∀ (j : Nat) t v, Try.f6.params[j]? = some t → args[j]? = some v → Value.okWide Try.prog W .any base t v := hval0
  have hW' := hW
  obtain ⟨p, q, hA0, hV, rfl, hfz, hnd⟩ := hW
  have hA : DataW.TrodAll enc Try.prog W 0 (fun _ => true) true Try.f6.params.toList args.toList ds p := hA0
  rw [Try.params6] at hA hval
  obtain ⟨v0, vs0, d0, ds0, p0, q0, hargs, rfl, rfl, h0, r0⟩ := trodAll_cons hA
  obtain ⟨v1, vs1, d1, ds1, p1, q1, rfl, rfl, rfl, h1, r1⟩ := trodAll_cons r0
  obtain ⟨v2, vs2, d2, ds2, p2, q2, rfl, rfl, rfl, h2, r2⟩ := trodAll_cons r1
  obtain ⟨rfl, rfl, rfl⟩ := trodAll_nil r2
  obtain rfl : args = #[v0, v1, v2] := by cases args; simp_all
  obtain ⟨rfl, rfl⟩ := trodVars_none hV
  have k0 := h0
  have lt0 : ∀ x ∈ p0, x.block < W.heap.size := by obtain ⟨m, hm⟩ := k0; exact DataW.trod_lt m _ _ _ hm
  obtain ⟨A0, c0, b0, rfl, w0, l0⟩ := Mem.open_bytes Try.underlying23 Try.underlying5 (by kernel_rfl) (hval 0 23 v0 rfl rfl) h0
  obtain ⟨a1, rfl, rfl, rfl, w1⟩ := open_int Try.underlying3 (hval 1 3 v1 rfl rfl) h1
  obtain ⟨a2, rfl, rfl, rfl, w2⟩ := open_int Try.underlying22 (hval 2 22 v2 rfl rfl) h2
  clear hA0 hval0
  refine (walk A0 c0 b0 a1 a2 W w0 l0 (Mem.wf_i64 w1) (Mem.wf_u32 w2)).mono fun e W' ⟨he, bel⟩ => ?_
  subst he
  exact ⟨_, rfl, _, _, _, [], _, [], hW', trodAll_mk1 (shut_bool Try.underlying4 _), (trodAll_cons_mk (Below.trod laidOut (by kernel_rfl) (of_decide_eq_true (by kernel_rfl)) k0 bel lt0) (trodAll_cons_mk (shut_int Try.underlying3 w1) (trodAll_cons_mk (shut_int Try.underlying22 w2) trodAll_mk0))), rfl, bel.frame _, fun h => by cases h⟩

theorem over : Rows.sum32TurnedRow.holds Try.pinned (OpenSpec.ofChange Rows.sum32TurnedSpec) :=
  OpenClaim.holds_of_wide 6 Try.f6 rfl rfl rfl rfl rfl rfl rfl ⟨rfl, rfl, rfl, rfl, rfl⟩ rfl rfl rfl rfl rfl (by kernel_rfl) Try.func6 (by kernel_rfl)
    (of_decide_eq_true (by kernel_rfl)) (by unfold Func.isWrapper; first | (rw [if_pos (by decide +kernel)]; kernel_rfl) | (rw [if_neg (by decide +kernel)]; exact ⟨rfl, rfl⟩))
    (fun os started H enc _ => lifted os started H enc)

/-- The given statement. -/
theorem proved : Rows.Sum32TurnedSaid := over

end Go.Proofs.Ytnlpnnijheamfaa.sum32Turned
