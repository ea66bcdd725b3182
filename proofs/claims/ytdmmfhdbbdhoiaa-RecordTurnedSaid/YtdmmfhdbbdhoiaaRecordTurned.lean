/-
  Proved: RecordTurned, for any record, any place and any 32 bits: a record of whose data and sum bits are turned, all of them within 32 that follow one another, is none; with none turned it is read.
-/
import Derived.Test.YtdmmfhdbbdhoiaaRows
import Derived.Test.YtdmmfhdbbdhoiaaRecLift
import Derived.Test.YtdmmfhdbbdhoiaaRecKnown
import Derived.Test.YtdmmfhdbbdhoiaaRecLaid
import Derived.Test.YtdmmfhdbbdhoiaaOctCount
import Derived.Test.YtdmmfhdbbdhoiaaRecRParse
namespace Go.Proofs.Ytdmmfhdbbdhoiaa.recordTurned
open Go.ChangeShapes Go.WideShapes Go.ChangeAt Go.RowKit Mem Rec
open Go.ChangeMaps (open_string shut_string)
set_option linter.unusedVariables false

/-- What the loop has done behind j rounds. -/
def Done (wr : World) (base : Nat) (t : TypeId) (g cap : Nat) (T : List UInt8) (k u j : Nat) : Prop :=
  ∃ bs', bs'.length = T.length ∧ Own wr base t (.slice (some ⟨g, 0, none⟩) T.length cap) bs' ∧ Sum.val bs' = Sum.val T ^^^ 2 ^ k * (u % 2 ^ j) ∧ (u % 2 ^ j = 0 → bs' = T)

theorem bit_at {u : Nat} (h : u < 4294967296) (j : Nat) : bits .and .u32 ((u : Int) / 2 ^ j) 1 = ((u / 2 ^ j % 2 : Nat) : Int) := by
  rw [show ((u : Int) / 2 ^ j) = ((u / 2 ^ j : Nat) : Int) by simp, Sum.and_one]
  exact Nat.lt_of_le_of_lt (Nat.div_le_self _ _) h
theorem mod_yes {u j : Nat} (h : u / 2 ^ j % 2 = 1) : u % 2 ^ (j + 1) = u % 2 ^ j ^^^ 2 ^ j ∧ u % 2 ^ (j + 1) ≠ 0 := by
  refine ⟨by rw [Sum.mod_succ, h, Nat.mul_one], ?_⟩
  rw [Nat.mod_pow_succ, h]
  have := Nat.two_pow_pos j
  omega
theorem mod_no {u j : Nat} (h : ¬ u / 2 ^ j % 2 = 1) : u % 2 ^ (j + 1) = u % 2 ^ j := by
  rw [Nat.mod_pow_succ, show u / 2 ^ j % 2 = 0 by omega]
  omega
theorem turn_byte {bs : List UInt8} {p : Nat} (h : p < bs.length) (q : Nat) (hq : q < 8) : bits .xor .u8 (byt bs p) ((2 : Int) ^ q % 256) = (((bs[p] ^^^ UInt8.ofNat (2 ^ q)).toNat : Nat) : Int) := by
  have hx := byt_bd bs p
  have h2 : 2 ^ q < 256 := Nat.pow_lt_pow_right (a := 2) (n := 8) (by decide) hq
  have e : ((2 : Int) ^ q % 256) = ((2 ^ q : Nat) : Int) := by
    have : ((2 : Int) ^ q) = ((2 ^ q : Nat) : Int) := by simp
    rw [this]
    exact Int.emod_eq_of_lt (Int.natCast_nonneg _) (Int.ofNat_lt.2 h2)
  have h1 := (bs[p]).toNat_lt
  rw [e, u8_xor _ _ hx.1 (by omega) (by omega) (by omega), UInt8.toNat_xor, UInt8.toNat_ofNat', Nat.mod_eq_of_lt (by omega), Int.toNat_natCast]
  simp [byt, h]
theorem Done.yes {wr : World} {base : Nat} {t : TypeId} {g cap : Nat} {T bs' : List UInt8} {k u j : Nat} (hl : bs'.length = T.length) (ho : Own wr base t (.slice (some ⟨g, 0, none⟩) T.length cap) bs') (hv : Sum.val bs' = Sum.val T ^^^ 2 ^ k * (u % 2 ^ j))
    (hb : u / 2 ^ j % 2 = 1) (hk : (k + j) / 8 < T.length) :
    Done (wr.setCell ⟨g, (k + j) / 8, none⟩ (.int .u8 (bits .xor .u8 (byt bs' ((k + j) / 8)) ((2 : Int) ^ ((k + j) % 8) % 256)))) base t g cap T k u (j + 1) := by
  have hp : (k + j) / 8 < bs'.length := by rw [hl]; exact hk
  refine ⟨_, ?_, ho.store hl.symm _ (turn_byte hp _ (Nat.mod_lt _ (by decide))), ?_, fun h => absurd h (mod_yes hb).2⟩
  · rw [List.length_set, hl]
  · have h2 : 2 ^ ((k + j) % 8) < 256 := Nat.pow_lt_pow_right (a := 2) (n := 8) (by decide) (by omega)
    rw [Sum.val_set bs' _ hp _ h2, hv, (mod_yes hb).1, Sum.pow_mul_xor, Nat.xor_assoc, ← Nat.pow_add, ← Nat.pow_add, show 8 * ((k + j) / 8) + (k + j) % 8 = k + j by omega]
theorem Done.no {wr : World} {base : Nat} {t : TypeId} {g cap : Nat} {T : List UInt8} {k u j : Nat} (h : Done wr base t g cap T k u j) (hb : ¬ u / 2 ^ j % 2 = 1) : Done wr base t g cap T k u (j + 1) := by
  unfold Done at h ⊢
  rw [mod_no hb]
  exact h

set_option maxRecDepth 100000 in
set_option maxHeartbeats 1000000 in
theorem walk (k n : Int) (D : Option Addr) (cd : Nat) (d : List UInt8) (at_ u_ : Int) (w : World)
    (hk : -9223372036854775808 ≤ k ∧ k ≤ 9223372036854775807) (hn : 0 ≤ n ∧ n ≤ 4294967295) (rd : Rd w w.heap.size D d) (md : d.length ≤ maxLen) (zd : d.length ≤ cd ∧ cd ≤ maxLen)
    (ha : -9223372036854775808 ≤ at_ ∧ at_ ≤ 9223372036854775807) (hu : 0 ≤ u_ ∧ u_ ≤ 4294967295) :
    Calls Try.prog 7 #[rec_ k n (.slice D d.length cd), .int .i64 at_, .int .u32 u_] w fun e w' => e = .returned (.bool true) ∧ Below w.heap.size w w' := by
  have B1 := below1 w (.cells #[.int .i64 k, .int .u32 n, .slice D d.length cd] 25)
  have R1 := heap_alloc_new w (.cells #[.int .i64 k, .int .u32 n, .slice D d.length cd] 25)
  unfold maxLen at md
  obtain ⟨u, rfl⟩ := Int.eq_ofNat_of_zero_le hu.1
  by_cases h20 : 3000 < d.length
  · have BB := Lib.hid B1
    clear B1 R1 rd
    go_enter Try.func7, Try.ntmps7
    go_wp2_with fail
    refine (known_any _).mono ?_
    rintro e w' ⟨rfl, hb⟩
    have B2 := BB.out.trans (hb.mono BB.out.size)
    go_wp2_with fail
    go_ret
    exact ⟨rfl, B2⟩
  · have rd1 := (rd.below B1).mono B1.size
    have hsz : (w.alloc (.cells #[.int .i64 k, .int .u32 n, .slice D d.length cd] 25)).heap.size = w.heap.size + 1 := World.size_alloc _ _
    have HSZ := Lib.hid hsz
    clear hsz md
    have HR1 := Lib.hid R1
    have HB1 := Lib.hid B1
    clear R1 B1
    have q0 := cell_of HR1.out 0
    have q1 := cell_of HR1.out 1
    have q2 := cell_of HR1.out 2
    by_cases hE : err k n d.length = 0
    · have kb := Lib.hid (build_ok k n D cd d _ rd1 hk.1 hk.2 hn.1 hn.2 (by omega) hE)
      have HP := Lib.hid (parse_built [] d [] k n hE hn)
      have HT := Lib.hid (fun bs' q v hl hv hq h32 h0 hb => parse_turned (bs' := bs') (d := d) (k := k) (n := n) (q := q) (v := v) hE hn hl hv hq h32 h0 hb)
      have hbl := build_length k n d
      clear hE rd1
      generalize build k n d = X at *
      have hxl : X.length = d.length + 13 := hbl
      have HX := Lib.hid hxl
      have HX2 := Lib.hid hbl
      clear hbl hxl
      obtain ⟨N, hN⟩ : ∃ N : Nat, 8 * (d.length + 12) = N := ⟨_, rfl⟩
      have hNX : 8 * ((X.length : Int) - 1) = (N : Int) := by have := HX.out; omega
      obtain ⟨q, hq⟩ : ∃ q : Nat, (64 : Int) + at_ % ((N : Int) - 64) = (q : Int) := ⟨((64 : Int) + at_ % ((N : Int) - 64)).toNat, by have := Int.emod_nonneg at_ (show (N : Int) - 64 ≠ 0 by omega); omega⟩
      have hq1 : 64 ≤ q ∧ q < N := by
        have h1 := Int.emod_nonneg at_ (show (N : Int) - 64 ≠ 0 by omega)
        have h2 := Int.emod_lt_of_pos at_ (show 0 < (N : Int) - 64 by omega)
        omega
      have hNle : N + 8 = 8 * X.length ∧ N ≤ 24096 := by have := HX.out; omega
      have c1 : decide ((X.length : Int) < 13) = false := by have := HX.out; simp; omega
      have c2 : ((X.length : Int) != (d.length : Int) + 13) = false := by have := HX.out; simp; omega
      have HN := Lib.hid hN
      clear hN
      have hxl3 : X.length ≤ 3013 := by have := HX.out; omega
      have hxp : 0 < X.length := by have := HX.out; omega
      go_enter Try.func7, Try.ntmps7
      go_wp2_with fail
      refine kb.out.mono ?_
      rintro e w2 ⟨v2, rfl, o2, b2⟩
      obtain ⟨g, cap, rfl, hg, hgs, hcap, hcm⟩ := o2.some_ hxp
      have PA := (b2.block w.heap.size (by rw [HSZ.out]; omega)).trans HR1.out
      have B2 := HB1.out.trans (b2.mono HB1.out.size)
      have o2' := o2.lower HB1.out.size
      have hgw : w.heap.size < g := by rw [HSZ.out] at hg; omega
      have p0 := cell_of PA 0
      have p1 := cell_of PA 1
      have p2 := cell_of PA 2
      have hcap' := Lib.hid (And.intro hcap hcm)
      clear q0 q1 q2 b2 o2 hcap hcm hg
      go_wp2_with fail
      refine (count_any _ _ w2 (by omega) (by omega)).mono ?_
      rintro e w' ⟨rfl, rfl⟩
      have hem : 0 ≤ at_ % ((N : Int) - 64) ∧ at_ % ((N : Int) - 64) < 24096 := by omega
      clear c1 c2
      go_wp2_with fail
      go_loopw [11, 12] (fun b i wr => ∃ j : Nat, j ≤ 32 ∧ q + j ≤ N ∧ i = .int .i64 j ∧ b = .bool (!decide (u % 2 ^ j = 0)) ∧ Done wr w.heap.size 5 g cap X q u j ∧ Below w.heap.size w wr) (fun _ i _ => 32 - (intOf i).toNat)
      case atStart => exact ⟨0, by omega, by omega, rfl, by simp [Nat.mod_one], ⟨X, rfl, o2', by simp [Nat.mod_one], fun _ => rfl⟩, B2⟩
      case round =>
        obtain ⟨j, hj, hkj, rfl, rfl, hdone, hb⟩ := hrel
        clear o2' B2
        by_cases hgo : j < 32 ∧ q + j < N
        · obtain ⟨hj32, hkj8⟩ := hgo
          have hg1 : (j : Int) < 32 := by omega
          have hg2 : (q : Int) + (j : Int) < (N : Int) := by omega
          obtain ⟨bs', hl', hown, hval, hsame⟩ := hdone
          have hL := Lib.hid hl'
          have hV := Lib.hid hval
          have hE := Lib.hid hsame
          clear hl' hval hsame
          have hi8 : (q + j) / 8 < X.length := by omega
          have hcell := hown.cell hL.out.symm (j := (q + j) / 8) (by rw [hL.out]; exact hi8)
          have hfree := hown.free hL.out.symm ((q + j) / 8)
          have hul : u < 4294967296 := by omega
          by_cases hbit : u / 2 ^ j % 2 = 1
          · have hq' : (bits .and .u32 ((u : Int) / 2 ^ j) 1 == 1) = true := by rw [bit_at hul, hbit]; rfl
            go_wp2_with fail
            refine ⟨⟨j + 1, by omega, by omega, by go_num, by simp [(mod_yes hbit).2], Done.yes hL.out hown hV.out hbit hi8, hb.setCell (Nat.le_of_lt hgw) _⟩, by simp [intOf]; omega⟩
          · have hq' : (bits .and .u32 ((u : Int) / 2 ^ j) 1 == 1) = false := by rw [bit_at hul, show u / 2 ^ j % 2 = 0 by omega]; rfl
            go_wp2_with fail
            refine ⟨⟨j + 1, by omega, by omega, by go_num, by rw [mod_no hbit], Done.no ⟨bs', hL.out, hown, hV.out, hE.out⟩ hbit, hb⟩, by simp [intOf]; omega⟩
        · have hguard : (decide ((j : Int) < 32) = false) ∨ ((j : Int) < 32 ∧ decide ((q : Int) + (j : Int) < (N : Int)) = false) := by
            rcases Nat.lt_or_ge j 32 with h | h
            · exact .inr ⟨by omega, by simp; omega⟩
            · exact .inl (by simp; omega)
          obtain ⟨bs', hl', hown, hval, hsame⟩ := hdone
          have hrd : Rd wr wr.heap.size (some ⟨g, 0, none⟩) bs' := by
            obtain ⟨A', c', hv', hr'⟩ := hown.form_n hl'
            injection hv' with q1 q2 q3
            rw [q1]; exact hr'
          have hul : u % 2 ^ j < 4294967296 := Nat.lt_of_le_of_lt (Nat.mod_le _ _) (by omega)
          have hpw : 2 ^ q * (u % 2 ^ j) < 2 ^ (8 * (d.length + 12)) := by
            rw [HN.out]
            have h1 : u % 2 ^ j < 2 ^ j := Nat.mod_lt _ (Nat.two_pow_pos j)
            have h2 : 2 ^ q * (u % 2 ^ j) < 2 ^ q * 2 ^ j := Nat.mul_lt_mul_of_pos_left h1 (Nat.two_pow_pos q)
            rw [← Nat.pow_add] at h2
            exact Nat.lt_of_lt_of_le h2 (Nat.pow_le_pow_right (by decide) (by omega))
          have hL := Lib.hid hl'
          clear hown hgo hj hkj hl'
          by_cases hz : u % 2 ^ j = 0
          · obtain rfl := hsame hz
            have hz' : decide (u % 2 ^ j = 0) = true := by simp [hz]
            have HP' := HP.out
            simp only [List.nil_append, List.append_nil, List.length_nil] at HP'
            rw [show ((0 : Nat) : Int) = 0 from rfl, show 0 + (13 + d.length) = bs'.length by have := HX.out; omega] at HP'
            have HPh := Lib.hid HP'
            clear hval hsame hz HP'
            rcases hguard with h1 | ⟨h1, h2⟩
            all_goals
              go_wp2_with fail
              refine (parse_any _ _ cap 0 _ wr hrd rfl (by omega) hcap'.out.1 hcap'.out.2 (by omega) (by omega)).mono ?_
              rw [HPh.out]
              rintro e w4 ⟨v4, rfl, o4, b4⟩
              obtain ⟨A4, c4, rfl, r4⟩ := o4.form
              have B4 := Lib.hid (hb.trans (b4.mono hb.size))
              clear o4 b4 r4 hrd
              go_wp2_with fail
              refine (known_any _).mono ?_
              rintro e w5 ⟨rfl, b5⟩
              have B5 := Lib.hid ((B4.out.alloc B4.out.size _).trans (b5.mono (B4.out.alloc B4.out.size _).size))
              clear b5
              go_wp2_with fail
              go_ret
              exact ⟨rfl, B5.out⟩
          · have hO5 := Lib.hid (HT.out bs' q (u % 2 ^ j) hL.out hval hq1.1 hul hz hpw)
            have hz' : decide (u % 2 ^ j = 0) = false := by simp [hz]
            clear hval hsame hz hpw
            rcases hguard with h1 | ⟨h1, h2⟩
            all_goals
              go_wp2_with fail
              refine (parse_any _ _ cap 0 bs' wr hrd hL.out.symm (by omega) hcap'.out.1 hcap'.out.2 (by omega) (by omega)).mono ?_
              rw [hO5.out]
              rintro e w4 ⟨v4, rfl, o4, b4⟩
              obtain ⟨A4, c4, rfl, r4⟩ := o4.form
              have B4 := Lib.hid (hb.trans (b4.mono hb.size))
              clear o4 b4 r4 hrd
              go_wp2_with fail
              refine (known_any _).mono ?_
              rintro e w5 ⟨rfl, b5⟩
              have B5 := Lib.hid ((B4.out.alloc B4.out.size _).trans (b5.mono (B4.out.alloc B4.out.size _).size))
              clear b5
              go_wp2_with fail
              go_ret
              exact ⟨rfl, B5.out⟩
    · have kn := Lib.hid (fun W => build_no k n D cd d W hk.1 hk.2 hn.1 hn.2 (by omega) hE)
      have hEb : (err k n d.length != 0) = true := by simp [hE]
      clear rd1 hE
      generalize err k n d.length = E at *
      go_enter Try.func7, Try.ntmps7
      go_wp2_with fail
      refine (kn.out _).mono ?_
      rintro e w2 ⟨rfl, b2⟩
      have B2 := HB1.out.trans (b2.mono HB1.out.size)
      clear b2 q0 q1 q2
      go_wp2_with fail
      refine (known_any _).mono ?_
      rintro e w' ⟨rfl, hb⟩
      have B3 := B2.trans (hb.mono B2.size)
      go_wp2_with fail
      go_ret
      exact ⟨rfl, B3⟩

theorem own : ownKnob Try.prog.godebug = none := by kernel_rfl
theorem laidOut : laidOutB Try.prog = true := by kernel_rfl

set_option maxRecDepth 100000 in
theorem lifted (os : Os) (started : os.Started) (H : Type) (enc : TypeId × Value → H) :
    ReturnsInHanded {} Try.checked os 7 .any (Rows.recordTurnedSpec.pre6 enc Try.prog Try.f7 Rows.recordTurnedRow.domain false) (Rows.recordTurnedSpec.post enc Try.prog Try.f7 false true false false) := by
  refine returnsInHanded_of_change (C := Try.checked) own started (by kernel_rfl) Try.func7
    (ChangeSpec.witness6 (enc := enc) (C := Try.checked) false ⟨#[], #[.agg #[.int .i64 0, .int .u32 0, .slice none 0 0], .int .i64 0, .int .u32 0], []⟩ 8 (by kernel_rfl) (by kernel_rfl) (by kernel_rfl) (by kernel_rfl)) ?_
  intro W base args ds gs before hval0 hW hcnd _
  have hval : ∀ (j : Nat) t v, Try.f7.params[j]? = some t → args[j]? = some v → Value.okWide Try.prog W .any base t v := hval0
  have hW' := hW
  obtain ⟨p, q, hA0, hV, rfl, hfz, hnd⟩ := hW
  have hA : DataW.TrodAll enc Try.prog W 0 (fun _ => true) true Try.f7.params.toList args.toList ds p := hA0
  rw [Try.params7] at hA hval
  obtain ⟨v0, vs0, d0, ds0, p0, q0, hargs, rfl, rfl, h0, r0⟩ := trodAll_cons hA
  obtain ⟨v1, vs1, d1, ds1, p1, q1, rfl, rfl, rfl, h1, r1⟩ := trodAll_cons r0
  obtain ⟨v2, vs2, d2, ds2, p2, q2, rfl, rfl, rfl, h2, r2⟩ := trodAll_cons r1
  obtain ⟨rfl, rfl, rfl⟩ := trodAll_nil r2
  obtain rfl : args = #[v0, v1, v2] := by cases args; simp_all
  obtain ⟨rfl, rfl⟩ := trodVars_none hV
  have k0 := h0
  have lt0 : ∀ x ∈ p0, x.block < W.heap.size := by obtain ⟨m, hm⟩ := k0; exact DataW.trod_lt m _ _ _ hm
  obtain ⟨x0, y0, A0, c0, b0, rfl, wx0, wy0, w0, l0, z0⟩ := Rec.open_rec (hval 0 25 v0 rfl rfl) h0
  obtain ⟨a1, rfl, rfl, rfl, w1⟩ := open_int Try.underlying3 (hval 1 3 v1 rfl rfl) h1
  obtain ⟨a2, rfl, rfl, rfl, w2⟩ := open_int Try.underlying22 (hval 2 22 v2 rfl rfl) h2
  clear hA0 hval0
  refine (walk x0 y0 A0 c0 b0 a1 a2 W (Mem.wf_i64 wx0) (Mem.wf_u32 wy0) w0 l0 z0 (Mem.wf_i64 w1) (Mem.wf_u32 w2)).mono fun e W' ⟨he, bel⟩ => ?_
  subst he
  exact ⟨_, rfl, _, _, _, [], _, [], hW', trodAll_mk1 (shut_bool Try.underlying4 _), (trodAll_cons_mk (Below.trod laidOut (by kernel_rfl) (of_decide_eq_true (by kernel_rfl)) k0 bel lt0) (trodAll_cons_mk (shut_int Try.underlying3 w1) (trodAll_cons_mk (shut_int Try.underlying22 w2) trodAll_mk0))), rfl, bel.frame _, fun h => by cases h⟩

theorem over : Rows.recordTurnedRow.holds Try.pinned (OpenSpec.ofChange Rows.recordTurnedSpec) :=
  OpenClaim.holds_of_wide 7 Try.f7 rfl rfl rfl rfl rfl rfl rfl ⟨rfl, rfl, rfl, rfl, rfl⟩ rfl rfl rfl rfl rfl (by kernel_rfl) Try.func7 (by kernel_rfl)
    (of_decide_eq_true (by kernel_rfl)) (by unfold Func.isWrapper; first | (rw [if_pos (by decide +kernel)]; kernel_rfl) | (rw [if_neg (by decide +kernel)]; exact ⟨rfl, rfl⟩))
    (fun os started H enc _ => lifted os started H enc)

/-- The given statement. -/
theorem proved : Rows.RecordTurnedSaid := over

end Go.Proofs.Ytdmmfhdbbdhoiaa.recordTurned
