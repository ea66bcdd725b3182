/-
  Proved: Sum16Turned, for any bytes, any place and any 16 bits: a text of which some bits are turned, all within 16 that follow one another, has another sum; with none turned it has the same.
-/
import Derived.Test.YtcecekmeopbgjaaRows
import Derived.Test.YtcecekmeopbgjaaLift
import Derived.Test.YtcecekmeopbgjaaS16On
import Derived.Test.YtcecekmeopbgjaaS16Known
import Derived.Test.YtcecekmeopbgjaaOctRef
import Derived.Test.YtcecekmeopbgjaaOctCount
namespace Go.Proofs.Ytcecekmeopbgjaa.sum16Turned
open Go.ChangeShapes Go.WideShapes Go.ChangeAt Go.RowKit Mem
open Go.ChangeMaps (open_string shut_string)
set_option linter.unusedVariables false

/-- What the loop has done behind j rounds: m says which bits are turned. -/
def Done (wr : World) (base : Nat) (t : TypeId) (g cap : Nat) (T : List UInt8) (k j m : Nat) : Prop :=
  ∃ bs', bs'.length = T.length ∧ Own wr base t (.slice (some ⟨g, 0, none⟩) T.length cap) bs' ∧ S16.on 0 bs' = S16.on 0 T ^^^ S16.Ln (2 ^ (16 - j) * m) (8 * T.length - k)

theorem bit_at {u : Nat} (h : u < 65536) (j : Nat) : bits .and .u16 ((u : Int) / 2 ^ j) 1 = ((u / 2 ^ j % 2 : Nat) : Int) := by
  rw [show ((u : Int) / 2 ^ j) = ((u / 2 ^ j : Nat) : Int) by simp, S16.and_one]
  exact Nat.lt_of_le_of_lt (Nat.div_le_self _ _) h
theorem turn_byte {bs : List UInt8} {p : Nat} (h : p < bs.length) (q : Nat) (hq : q < 8) : bits .xor .u8 (byt bs p) ((128 : Int) / 2 ^ q) = (((bs[p] ^^^ UInt8.ofNat (2 ^ (7 - q))).toNat : Nat) : Int) := by
  have hx := byt_bd bs p
  have h2 : 2 ^ (7 - q) < 256 := Nat.pow_lt_pow_right (a := 2) (n := 8) (by decide) (by omega)
  have e : ((128 : Int) / 2 ^ q) = ((2 ^ (7 - q) : Nat) : Int) := by
    have : ((128 : Int) / 2 ^ q) = ((128 / 2 ^ q : Nat) : Int) := by simp
    rw [this, show (128 : Nat) = 2 ^ 7 from rfl, Nat.pow_div (by omega) (by decide)]
  have h1 := (bs[p]).toNat_lt
  rw [e]
  generalize 2 ^ (7 - q) = y at h2 ⊢
  rw [u8_xor _ _ hx.1 (by omega) (by omega) (by omega), UInt8.toNat_xor, UInt8.toNat_ofNat', Nat.mod_eq_of_lt (by omega), Int.toNat_natCast]
  simp [byt, h]
theorem Done.yes {wr : World} {base : Nat} {t : TypeId} {g cap : Nat} {T bs' : List UInt8} {k j m : Nat} (hl : bs'.length = T.length) (ho : Own wr base t (.slice (some ⟨g, 0, none⟩) T.length cap) bs')
    (hv : S16.on 0 bs' = S16.on 0 T ^^^ S16.Ln (2 ^ (16 - j) * m) (8 * T.length - k)) (hj : j ≤ 15) (hk : k + j < 8 * T.length) :
    Done (wr.setCell ⟨g, (k + j) / 8, none⟩ (.int .u8 (bits .xor .u8 (byt bs' ((k + j) / 8)) ((128 : Int) / 2 ^ ((k + j) % 8))))) base t g cap T k (j + 1) (2 * m + 1) := by
  have hp : (k + j) / 8 < bs'.length := by rw [hl]; omega
  have hq : (k + j) % 8 < 8 := Nat.mod_lt _ (by decide)
  refine ⟨_, ?_, ho.store hl.symm _ (turn_byte hp _ hq), ?_⟩
  · rw [List.length_set, hl]
  · rw [S16.on_set 0 bs' _ hp hq, hv, Nat.xor_assoc, hl, show 8 * (T.length - (k + j) / 8) - (k + j) % 8 = 8 * T.length - (k + j) by omega, S16.turn_yes hj hk]
theorem Done.no {wr : World} {base : Nat} {t : TypeId} {g cap : Nat} {T : List UInt8} {k j m : Nat} (h : Done wr base t g cap T k j m) (hj : j ≤ 15) : Done wr base t g cap T k (j + 1) (2 * m) := by
  unfold Done at h ⊢
  rw [← S16.turn_no j m hj]
  exact h

set_option maxRecDepth 100000 in
set_option maxHeartbeats 800000 in
theorem walk (A : Option Addr) (c : Nat) (bs : List UInt8) (at_ u_ : Int) (w : World) (hr : Rd w w.heap.size A bs) (hm : bs.length ≤ maxLen)
    (ha : -9223372036854775808 ≤ at_ ∧ at_ ≤ 9223372036854775807) (hu : 0 ≤ u_ ∧ u_ ≤ 65535) :
    Calls Try.prog 5 #[.slice A bs.length c, .int .i64 at_, .int .u16 u_] w fun e w' => e = .returned (.bool true) ∧ Below w.heap.size w w' := by
  unfold maxLen at hm
  obtain ⟨u, rfl⟩ := Int.eq_ofNat_of_zero_le hu.1
  by_cases h20 : 16384 < bs.length ∨ bs.length = 0
  · have hcase : (16384 < bs.length) ∨ (decide (16384 < (bs.length : Int)) = false ∧ ((bs.length : Int) == 0) = true) := by
      rcases h20 with h | h
      · exact .inl h
      · exact .inr ⟨by simp; omega, by simp [h]⟩
    clear h20
    rcases hcase with h | ⟨h1, h⟩
    all_goals
      go_enter Try.func5, Try.ntmps5
      go_wp2_with fail
      refine (S16.known_any _).mono ?_
      rintro e w' ⟨rfl, hb⟩
      go_wp2_with fail
      go_ret
      exact ⟨rfl, hb⟩
  · have hT4 : bs.length ≤ 16384 := by omega
    have hT0 : 1 ≤ bs.length := by omega
    have h1 : decide (16384 < (bs.length : Int)) = false := by simp; omega
    have h2 : ((bs.length : Int) == 0) = false := by rw [beq_eq_false_iff_ne]; omega
    clear h20
    obtain ⟨k, hk⟩ : ∃ k : Nat, at_ % (8 * (bs.length : Int)) = k := Int.eq_ofNat_of_zero_le (Int.emod_nonneg _ (by omega))
    have hkl : k < 8 * bs.length := by
      have := Int.emod_lt_of_pos at_ (show (0 : Int) < 8 * (bs.length : Int) by omega)
      omega
    have HK := Lib.hid hk
    clear hk
    have hul : u < 65536 := by omega
    go_enter Try.func5, Try.ntmps5
    go_wp2_with fail
    refine (join_any A none _ 0 c 0 0 bs [] w hr Rd.nil rfl rfl (by omega) (by omega)).mono ?_
    rw [List.append_nil]
    rintro e w1 ⟨v1, rfl, o1, b1⟩
    obtain ⟨g, cap, rfl, hg, _, hcap, hcm⟩ := o1.some_ (by omega)
    unfold id
    go_wp2_with fail
    refine (count_any _ _ w1 (by omega) (by omega)).mono ?_
    rw [HK.out]
    rintro e w' ⟨rfl, rfl⟩
    clear hcap hcm
    go_wp2_with fail
    go_loopw [10, 11] (fun b i wr => ∃ j m : Nat, j ≤ 16 ∧ k + j ≤ 8 * bs.length ∧ i = .int .i64 j ∧ b = .bool (!decide (m = 0)) ∧ m < 2 ^ j ∧ Done wr w.heap.size 5 g cap bs k j m ∧ Below w.heap.size w wr) (fun _ i _ => 16 - (intOf i).toNat)
    case atStart => exact ⟨0, 0, by omega, by omega, rfl, rfl, by decide, ⟨bs, rfl, o1, by rw [Nat.mul_zero, S16.Ln_nil, Nat.xor_zero]⟩, b1⟩
    case round =>
      obtain ⟨j, m, hj, hkj, rfl, rfl, hmj, hdone, hb⟩ := hrel
      clear o1 b1
      by_cases hgo : j < 16 ∧ k + j < 8 * bs.length
      · obtain ⟨hj16, hkj8⟩ := hgo
        have hg1 : (j : Int) < 16 := by omega
        have hg2 : (k : Int) + (j : Int) < 8 * (bs.length : Int) := by omega
        by_cases hbit : u / 2 ^ j % 2 = 1
        · have hq : (bits .and .u16 ((u : Int) / 2 ^ j) 1 == 1) = true := by rw [bit_at hul, hbit]; rfl
          obtain ⟨bs', hl', hown, hval⟩ := hdone
          have hL := Lib.hid hl'
          have hV := Lib.hid hval
          clear hl' hval
          have hi8 : (k + j) / 8 < bs.length := by omega
          have hcell := hown.cell hL.out.symm (j := (k + j) / 8) (by rw [hL.out]; exact hi8)
          have hfree := hown.free hL.out.symm ((k + j) / 8)
          have hm2 := Lib.hid (show 2 * m + 1 < 2 ^ (j + 1) by rw [Nat.pow_succ]; omega)
          clear hmj
          go_wp2_with fail
          refine ⟨⟨j + 1, 2 * m + 1, by omega, by omega, by go_num, by simp, hm2.out, Done.yes hL.out hown hV.out (by omega) hkj8, hb.setCell hg _⟩, by simp [intOf]; omega⟩
        · have hq : (bits .and .u16 ((u : Int) / 2 ^ j) 1 == 1) = false := by rw [bit_at hul, show u / 2 ^ j % 2 = 0 by omega]; rfl
          have hm2 := Lib.hid (show 2 * m < 2 ^ (j + 1) by rw [Nat.pow_succ]; omega)
          clear hmj
          go_wp2_with fail
          refine ⟨⟨j + 1, 2 * m, by omega, by omega, by go_num, by simp; omega, hm2.out, hdone.no (by omega), hb⟩, by simp [intOf]; omega⟩
      · have hguard : (decide ((j : Int) < 16) = false) ∨ ((j : Int) < 16 ∧ decide ((k : Int) + (j : Int) < 8 * (bs.length : Int)) = false) := by
          rcases Nat.lt_or_ge j 16 with h | h
          · exact .inr ⟨by omega, by simp; omega⟩
          · exact .inl (by simp; omega)
        obtain ⟨bs', hl', hown, hval⟩ := hdone
        have hrd : Rd wr wr.heap.size (some ⟨g, 0, none⟩) bs' := by
          obtain ⟨A', c', hv', hr'⟩ := hown.form_n hl'
          injection hv' with q1 q2 q3
          rw [q1]; exact hr'
        have hL := Lib.hid hl'
        have hne : (!decide (S16.on 0 bs' = S16.on 0 bs)) = !decide (m = 0) := by
          have h3 := S16.turn_ne (x := S16.on 0 bs) (t := 8 * bs.length - k) hj hmj
          rw [← hval] at h3
          simp only [h3]
        have hq : ((((S16.on 0 bs' : Nat) : Int) != ((S16.on 0 bs : Nat) : Int)) == !decide (m = 0)) = true := by
          rw [← hne]
          by_cases h : S16.on 0 bs' = S16.on 0 bs
          · simp [h]
          · have h' : ¬ ((S16.on 0 bs' : Nat) : Int) = ((S16.on 0 bs : Nat) : Int) := by omega
            simp [h, h']
        clear hown hgo hj hkj hl' hval hne hmj
        rcases hguard with h1 | ⟨h1, h2⟩
        all_goals
          go_wp2_with fail
          refine (S16.sum_any _ _ cap bs' wr hrd hL.out.symm (by omega)).mono ?_
          rintro e w4 ⟨rfl, b4⟩
          have B4 := Lib.hid (hb.trans (b4.mono hb.size))
          have r4 := (hr.below B4.out).mono B4.out.size
          clear b4 hrd
          go_wp2_with fail
          refine (S16.sum_any A _ c bs w4 r4 rfl (by omega)).mono ?_
          rintro e w5 ⟨rfl, b5⟩
          have B5 := Lib.hid (B4.out.trans (b5.mono B4.out.size))
          clear b5 r4
          go_wp2_with fail
          refine (S16.known_any _).mono ?_
          rintro e w6 ⟨rfl, b6⟩
          have B6 := Lib.hid (B5.out.trans (b6.mono B5.out.size))
          clear b6
          go_wp2_with fail
          go_ret
          exact ⟨rfl, B6.out⟩

theorem own : ownKnob Try.prog.godebug = none := by kernel_rfl
theorem laidOut : laidOutB Try.prog = true := by kernel_rfl

set_option maxRecDepth 100000 in
theorem lifted (os : Os) (started : os.Started) (H : Type) (enc : TypeId × Value → H) :
    ReturnsInHanded {} Try.checked os 5 .any (Rows.sum16TurnedSpec.pre6 enc Try.prog Try.f5 Rows.sum16TurnedRow.domain false) (Rows.sum16TurnedSpec.post enc Try.prog Try.f5 false true false false) := by
  refine returnsInHanded_of_change (C := Try.checked) own started (by kernel_rfl) Try.func5
    (ChangeSpec.witness6 (enc := enc) (C := Try.checked) false ⟨#[], #[.slice none 0 0, .int .i64 0, .int .u16 0], []⟩ 8 (by kernel_rfl) (by kernel_rfl) (by kernel_rfl) (by kernel_rfl)) ?_
  intro W base args ds gs before hval0 hW hcnd _
  have hval : ∀ (j : Nat) t v, Try.f5.params[j]? = some t → args[j]? = some v → Value.okWide Try.prog W .any base t v := hval0
  have hW' := hW
  obtain ⟨p, q, hA0, hV, rfl, hfz, hnd⟩ := hW
  have hA : DataW.TrodAll enc Try.prog W 0 (fun _ => true) true Try.f5.params.toList args.toList ds p := hA0
  rw [Try.params5] at hA hval
  obtain ⟨v0, vs0, d0, ds0, p0, q0, hargs, rfl, rfl, h0, r0⟩ := trodAll_cons hA
  obtain ⟨v1, vs1, d1, ds1, p1, q1, rfl, rfl, rfl, h1, r1⟩ := trodAll_cons r0
  obtain ⟨v2, vs2, d2, ds2, p2, q2, rfl, rfl, rfl, h2, r2⟩ := trodAll_cons r1
  obtain ⟨rfl, rfl, rfl⟩ := trodAll_nil r2
  obtain rfl : args = #[v0, v1, v2] := by cases args; simp_all
  obtain ⟨rfl, rfl⟩ := trodVars_none hV
  have k0 := h0
  have lt0 : ∀ x ∈ p0, x.block < W.heap.size := by obtain ⟨m, hm⟩ := k0; exact DataW.trod_lt m _ _ _ hm
  obtain ⟨A0, c0, b0, rfl, w0, l0⟩ := Mem.open_bytes Try.underlying23 Try.underlying5 (by kernel_rfl) (hval 0 23 v0 rfl rfl) h0
  obtain ⟨a1, rfl, rfl, rfl, w1⟩ := open_int Try.underlying3 (hval 1 3 v1 rfl rfl) h1
  obtain ⟨a2, rfl, rfl, rfl, w2⟩ := open_int Try.underlying22 (hval 2 22 v2 rfl rfl) h2
  clear hA0 hval0
  refine (walk A0 c0 b0 a1 a2 W w0 l0 (Mem.wf_i64 w1) (Mem.wf_u16 w2)).mono fun e W' ⟨he, bel⟩ => ?_
  subst he
  exact ⟨_, rfl, _, _, _, [], _, [], hW', trodAll_mk1 (shut_bool Try.underlying4 _), (trodAll_cons_mk (Below.trod laidOut (by kernel_rfl) (of_decide_eq_true (by kernel_rfl)) k0 bel lt0) (trodAll_cons_mk (shut_int Try.underlying3 w1) (trodAll_cons_mk (shut_int Try.underlying22 w2) trodAll_mk0))), rfl, bel.frame _, fun h => by cases h⟩

theorem over : Rows.sum16TurnedRow.holds Try.pinned (OpenSpec.ofChange Rows.sum16TurnedSpec) :=
  OpenClaim.holds_of_wide 5 Try.f5 rfl rfl rfl rfl rfl rfl rfl ⟨rfl, rfl, rfl, rfl, rfl⟩ rfl rfl rfl rfl rfl (by kernel_rfl) Try.func5 (by kernel_rfl)
    (of_decide_eq_true (by kernel_rfl)) (by unfold Func.isWrapper; first | (rw [if_pos (by decide +kernel)]; kernel_rfl) | (rw [if_neg (by decide +kernel)]; exact ⟨rfl, rfl⟩))
    (fun os started H enc _ => lifted os started H enc)

/-- The given statement. -/
theorem proved : Rows.Sum16TurnedSaid := over

end Go.Proofs.Ytcecekmeopbgjaa.sum16Turned
