/-
  Proved: Sum16Linear, for any two pieces of bytes and any two sums: the sum of the exclusive or of the texts is the exclusive or of their sums; from two unlike sums the same bytes lead to unlike ones.
-/
import Derived.Test.YtcecekmeopbgjaaRows
import Derived.Test.YtcecekmeopbgjaaLift
import Derived.Test.YtcecekmeopbgjaaS16On
import Derived.Test.YtcecekmeopbgjaaS16Known
import Derived.StillTailTactics
import Derived.Deep.RegionHeld
namespace Go.Proofs.Ytcecekmeopbgjaa.sum16Linear
open Go.ChangeShapes Go.WideShapes Go.ChangeAt Go.RowKit Mem
open Go.ChangeMaps (open_string shut_string)
set_option linter.unusedVariables false

theorem run_min3 {P : Program} {w : World} (ts : Array TypeId) (t : TypeId) (x y : Nat) {N : Nat} (hN : N = min (min x y) 16384) :
    (Builtin.min_ ts t #[.int .i64 (x : Int), .int .i64 (y : Int), .int .i64 16384]).run P w = .ok (.int .i64 (N : Int)) w := by
  have h : (if (16384 : Int) < (if (y : Int) < x then (y : Int) else x) then (16384 : Int) else (if (y : Int) < x then (y : Int) else x)) = (N : Int) := by
    subst hN
    split <;> split <;> omega
  show ((.ok (.int .i64 (if (16384 : Int) < (if (y : Int) < x then (y : Int) else x) then (16384 : Int) else (if (y : Int) < x then (y : Int) else x))) w : Result Value)) = _
  rw [h]

/-- As far as k. -/
def part (D : List UInt8) (k : Nat) : List UInt8 := D.take k ++ List.replicate (D.length - k) 0
theorem part_length (D : List UInt8) {k : Nat} (h : k ≤ D.length) : (part D k).length = D.length := by
  simp [part]
  omega
theorem part_zero (D : List UInt8) : part D 0 = List.replicate D.length 0 := by simp [part]
theorem part_all (D : List UInt8) : part D D.length = D := by simp [part]
theorem part_set (D : List UInt8) {k : Nat} (h : k < D.length) : (part D k).set k D[k] = part D (k + 1) := by
  unfold part
  rw [List.set_append_right _ _ (by simp; omega), List.take_succ_eq_append_getElem h, List.append_assoc]
  congr 1
  rw [show k - (D.take k).length = 0 by simp; omega, show D.length - k = (D.length - (k + 1)) + 1 by omega, List.replicate_succ, List.set_cons_zero]
  rfl
theorem mix_length {xs ys : List UInt8} {N : Nat} (hx : N ≤ xs.length) (hy : N ≤ ys.length) : (Sum.zip (xs.take N) (ys.take N)).length = N := by
  simp [Sum.zip]
  omega
theorem mix_in {xs ys D : List UInt8} {N k : Nat} (hD : Sum.zip (xs.take N) (ys.take N) = D) (hx : N ≤ xs.length) (hy : N ≤ ys.length) (hk : k < N) (h : k < D.length) :
    bits .xor .u8 (byt xs k) (byt ys k) = (((D[k]'h).toNat : Nat) : Int) := by
  subst hD
  have h1 : k < xs.length := by omega
  have h2 : k < ys.length := by omega
  have b1 := byt_bd xs k
  have b2 := byt_bd ys k
  rw [u8_xor _ _ b1.1 (by omega) b2.1 (by omega)]
  simp [Sum.zip, byt, h1, h2]

theorem two_below {w w' : World} {g B : Nat} {u v : Value} (h : w.cell? ⟨g, 0, none⟩ = some u ∧ w.cell? ⟨g, 1, none⟩ = some v) (hb : Below B w w') (hB : w.heap.size ≤ B) : w'.cell? ⟨g, 0, none⟩ = some u ∧ w'.cell? ⟨g, 1, none⟩ = some v := by
  have hg := World.block_lt_of_cell? w _ h.1
  have hg' : g < B := by simp at hg; omega
  exact ⟨(hb.cell (p := ⟨g, 0, none⟩) hg').trans h.1, (hb.cell (p := ⟨g, 1, none⟩) hg').trans h.2⟩

set_option maxRecDepth 100000 in
set_option maxHeartbeats 4000000 in
theorem walk (A : Option Addr) (c : Nat) (xs : List UInt8) (B : Option Addr) (d : Nat) (ys : List UInt8) (s_ t_ : Int) (w : World)
    (ha : Rd w w.heap.size A xs) (hm : xs.length ≤ maxLen) (hca : xs.length ≤ c ∧ c ≤ maxLen) (hb_ : Rd w w.heap.size B ys) (hn : ys.length ≤ maxLen) (hcb : ys.length ≤ d ∧ d ≤ maxLen)
    (hs_ : 0 ≤ s_ ∧ s_ ≤ 65535) (ht_ : 0 ≤ t_ ∧ t_ ≤ 65535) :
    Calls Try.prog 6 #[.slice A xs.length c, .slice B ys.length d, .agg #[.int .u16 s_, .int .u16 t_]] w fun e w' => e = .returned (.bool true) ∧ Below w.heap.size w w' := by
  unfold maxLen at hm hn hca hcb
  obtain ⟨s, rfl⟩ := Int.eq_ofNat_of_zero_le hs_.1
  obtain ⟨t, rfl⟩ := Int.eq_ofNat_of_zero_le ht_.1
  have hs : s < 65536 := by omega
  have ht : t < 65536 := by omega
  obtain ⟨i0, hi, hz0, hz1, hz2⟩ := info_parts info_u8
  obtain ⟨N, hN⟩ : ∃ N, N = min (min xs.length ys.length) 16384 := ⟨_, rfl⟩
  have hmin := fun (w : World) => run_min3 (P := Try.prog) (w := w) #[3, 3, 3] 3 xs.length ys.length hN
  have hNx : N ≤ xs.length := by omega
  have hNy : N ≤ ys.length := by omega
  have hN16 : N ≤ 16384 := by omega
  clear hN
  go_enter Try.func6, Try.ntmps6
  have hb0 : Below w.heap.size w (w.alloc (.cells #[.int .u16 (s : Int), .int .u16 (t : Int)] 35)) := (Below.refl _ _).alloc (Nat.le_refl _) _
  have hc0 : (w.alloc (.cells #[.int .u16 (s : Int), .int .u16 (t : Int)] 35)).cell? ⟨w.heap.size, 0, none⟩ = some (.int .u16 (s : Int)) := by simp
  have hc1 : (w.alloc (.cells #[.int .u16 (s : Int), .int .u16 (t : Int)] 35)).cell? ⟨w.heap.size, 1, none⟩ = some (.int .u16 (t : Int)) := by simp
  have hsz : (w.alloc (.cells #[.int .u16 (s : Int), .int .u16 (t : Int)] 35)).heap.size = w.heap.size + 1 := by simp
  have H0 := Lib.hid (And.intro hb0 (And.intro hc0 (And.intro hc1 hsz)))
  clear hb0 hc0 hc1 hsz
  go_wp2_with (at_make; refine wpList_make_part _ rfl _ _ 23 rfl (w.heap.size + 1) 5 i0 Try.underlying23 hi hz0 hz1 hz2 _ _ _ _ N N rfl rfl rfl rfl (Nat.le_refl _) (by omega) (by simp) ?_; intro w1 hown1 hg1 hs1; have hb1 : Below (w.heap.size + 1) (w.alloc (.cells #[.int .u16 (s : Int), .int .u16 (t : Int)] 35)) w1 := (Below.refl _ _).grown hg1 (by simp) (by simp); clear hg1 hs1)
  have hD := mix_length hNx hNy
  generalize hDD : Sum.zip (xs.take N) (ys.take N) = D at hD
  have HD := Lib.hid hDD
  clear hDD
  replace hown1 : Own w1 (w.heap.size + 1) 5 (.slice (some ⟨w.heap.size + 1, 0, none⟩) N N) (List.replicate N 0) := by
    first
      | exact hown1
      | (rw [H0.out.2.2.2] at hown1; exact hown1)
  go_loopw [9] (fun i wr => ∃ k : Nat, k ≤ N ∧ i = .int .i64 k ∧ Own wr (w.heap.size + 1) 5 (.slice (some ⟨w.heap.size + 1, 0, none⟩) N N) (part D k) ∧ Below (w.heap.size + 1) (w.alloc (.cells #[.int .u16 (s : Int), .int .u16 (t : Int)] 35)) wr) (fun i _ => N - (intOf i).toNat)
  case atStart => exact ⟨0, by omega, rfl, by rw [part_zero, hD]; exact hown1, hb1⟩
  case round =>
    obtain ⟨k, hk, rfl, hown, hb1'⟩ := hrel
    have hb := H0.out.1.trans (hb1'.mono (by omega))
    have HB1 := Lib.hid hb1'
    clear hown1 hb1 hb1'
    by_cases hlt : k < N
    · obtain ⟨ga, oa, rfl, hga, hca'⟩ := (ha.below hb).at_ (k := k) (by omega)
      obtain ⟨gb, ob, rfl, hgb, hcb'⟩ := (hb_.below hb).at_ (k := k) (by omega)
      have hpl := Lib.hid (part_length D (k := k) (by omega))
      have hcell := hown.cell (hD.symm.trans hpl.out.symm) (j := k) (by rw [hpl.out]; omega)
      have hfree := hown.free (hD.symm.trans hpl.out.symm) k
      have k0 : (0 : Int) ≤ (k : Int) := by omega
      have kx : (k : Int) < (xs.length : Int) := by omega
      have ky : (k : Int) < (ys.length : Int) := by omega
      have kn : (k : Int) < (N : Int) := by omega
      clear hb
      go_wp2_with fail
      go_still_tail 11, (by kernel_rfl)
      change wpList _ _ _ _ _ wr.drew
      have hown2 := hown.drew
      have hb2 := below_drewN HB1.out 1
      have hcell2 : wr.drew.cell? ⟨w.heap.size + 1, k, none⟩ = _ := hcell
      have hfree2 : wr.drew.frozen? ⟨w.heap.size + 1, k, none⟩ = _ := hfree
      change Below (w.heap.size + 1) _ wr.drew at hb2
      clear hown HB1 hcell hfree hca' hcb'
      generalize wr.drew = w2 at *
      have hst := Lib.hid (hown2.store (hD.symm.trans hpl.out.symm) k (mix_in HD.out hNx hNy hlt (by omega)))
      have hb3 := Lib.hid hb2
      clear hown2 hb2
      go_wp2_with fail
      refine ⟨⟨k + 1, by omega, by go_num, ?_, hb3.out.setCell (Nat.le_refl _) _⟩, by simp [intOf]; omega⟩
      rw [← part_set D (by omega)]
      exact hst.out
    · obtain rfl : k = N := by omega
      have e1 : part D k = D := by rw [← hD]; exact part_all D
      rw [e1] at hown
      clear e1
      have hx' : (xs.take k).length = k := by simp; omega
      have hy' : (ys.take k).length = k := by simp; omega
      have HX := Lib.hid hx'
      have HY := Lib.hid hy'
      have h3 : S16.on 0 D = S16.on 0 (xs.take k) ^^^ S16.on 0 (ys.take k) := by
        rw [← HD.out]
        exact S16.on_zip 0 0 _ _ (by rw [hx', hy'])
      clear hx' hy'
      have rx := ha.take k
      have ry := hb_.take k
      have lx := S16.on_lt (r := 0) (xs.take k) (by decide)
      have ly := S16.on_lt (r := 0) (ys.take k) (by decide)
      have hin := S16.on_inj D hs ht
      generalize hX : S16.on 0 (xs.take k) = X at h3 lx
      generalize hY : S16.on 0 (ys.take k) = Y at h3 ly
      have hxor : bits .xor .u16 (X : Int) (Y : Int) = ((S16.on 0 D : Nat) : Int) := by
        rw [u16_xor_nat X Y lx ly, h3]
      have heq : (((S16.on s D : Nat) : Int) == ((S16.on t D : Nat) : Int)) = ((s : Int) == (t : Int)) := by
        by_cases h : s = t
        · rw [h]; simp
        · have h' : ¬ S16.on s D = S16.on t D := fun e => h (hin.1 e)
          have q1 : ¬ ((S16.on s D : Nat) : Int) = ((S16.on t D : Nat) : Int) := by omega
          have q2 : ¬ (s : Int) = (t : Int) := by omega
          rw [show (((S16.on s D : Nat) : Int) == ((S16.on t D : Nat) : Int)) = false by simpa using q1, show ((s : Int) == (t : Int)) = false by simpa using q2]
      have HXX := Lib.hid hX
      have HYY := Lib.hid hY
      clear hX hY h3 hin
      have rd : Rd wr wr.heap.size (some ⟨w.heap.size + 1, 0, none⟩) D := by
        obtain ⟨A', c', hv', hr'⟩ := hown.form_n hD
        injection hv' with q1 q2 q3
        rw [q1]; exact hr'
      have cs0 : wr.cell? ⟨w.heap.size, 0, none⟩ = some (.int .u16 (s : Int)) := (HB1.out.cell (p := ⟨w.heap.size, 0, none⟩) (by simp)).trans H0.out.2.1
      have cs1 : wr.cell? ⟨w.heap.size, 1, none⟩ = some (.int .u16 (t : Int)) := (HB1.out.cell (p := ⟨w.heap.size, 1, none⟩) (by simp)).trans H0.out.2.2.1
      clear hown ha hb_ H0 HB1
      have hk6 : k ≤ 1099511627776 := by omega
      have HB := Lib.hid hb
      have HDk := Lib.hid hD
      replace rx := (rx.below hb).mono hb.size
      replace ry := (ry.below hb).mono hb.size
      clear hb hD
      clear hmin hi hz0 hz1 hz2 hm hn HD
      have q0 : wr.drew.cell? ⟨w.heap.size, 0, none⟩ = some (.int .u16 (s : Int)) ∧ wr.drew.cell? ⟨w.heap.size, 1, none⟩ = some (.int .u16 (t : Int)) := ⟨cs0, cs1⟩
      clear cs0 cs1
      go_wp2_with fail
      generalize w.heap.size + 1 = g1 at rd ⊢
      have hk0 : (0 : Int) ≤ (k : Int) := by omega
      have hkc : (k : Int) ≤ (c : Int) := by omega
      have hkd : (k : Int) ≤ (d : Int) := by omega
      clear hca hcb hs_ ht_ hNx hNy hN16 hk hlt
      go_region_held (fun w' => w'.cell? ⟨w.heap.size, 0, none⟩ = some (.int .u16 (s : Int)) ∧ w'.cell? ⟨w.heap.size, 1, none⟩ = some (.int .u16 (t : Int))) (first | exact q0 | exact q5 | exact q6 | exact q7 | exact q8 | exact q9 | exact q10) (first
        | (go_at_call_of 11 (Value.slice (some ⟨g1, 0, none⟩) k k); refine (S16.sum_any _ _ _ D _ (rd.drewN 1) HDk.out.symm hk6).mono ?_; rintro e5 w5 ⟨rfl, b5⟩; have q5 := two_below q0 b5 (Nat.le_refl _); have rd5 := (rd.drew.below b5).mono b5.size; have rx5 := (rx.drew.below b5).mono b5.size; have ry5 := (ry.drew.below b5).mono b5.size)
        | (go_at_call_of 11 (Value.slice A k c); refine (S16.sum_any _ _ _ (xs.take k) _ rx5 HX.out.symm hk6).mono ?_; rw [HXX.out]; rintro e6 w6 ⟨rfl, b6⟩; have q6 := two_below q5 b6 (Nat.le_refl _); have rd6 := (rd5.below b6).mono b6.size; have ry6 := (ry5.below b6).mono b6.size)
        | (go_at_call_of 11 (Value.slice B k d); refine (S16.sum_any _ _ _ (ys.take k) _ ry6 HY.out.symm hk6).mono ?_; rw [HYY.out]; rintro e7 w7 ⟨rfl, b7⟩; have q7 := two_below q6 b7 (Nat.le_refl _); have rd7 := (rd6.below b7).mono b7.size)
        | (go_at_call_of 9 (Value.int .u16 (s : Int)); refine (S16.on_any _ _ _ D s _ hs rd7 HDk.out.symm hk6).mono ?_; rintro e8 w8 ⟨rfl, b8⟩; have q8 := two_below q7 b8 (Nat.le_refl _); have rd8 := (rd7.below b8).mono b8.size)
        | (go_at_call_of 9 (Value.int .u16 (t : Int)); refine (S16.on_any _ _ _ D t _ ht rd8 HDk.out.symm hk6).mono ?_; rintro e9 w9 ⟨rfl, b9⟩; have q9 := two_below q8 b9 (Nat.le_refl _))
        | (go_at_call 7; refine (S16.known_any _).mono ?_; rintro e10 w10 ⟨rfl, b10⟩; have q10 := two_below q9 b10 (Nat.le_refl _)))
      all_goals
        have b5' : Below wr.heap.size wr w5 := ⟨b5.os, b5.tape, b5.output, b5.size, b5.block⟩
        have B6 := b5'.trans (b6.mono b5'.size)
        have B7 := B6.trans (b7.mono B6.size)
        have B8 := B7.trans (b8.mono B7.size)
        have B9 := B8.trans (b9.mono B8.size)
        have B10 := B9.trans (b10.mono B9.size)
        have BB := Lib.hid (HB.out.trans (B10.mono HB.out.size))
        clear b5 b5' b6 b7 b8 b9 b10 B6 B7 B8 B9 B10 rd rx ry rd5 rx5 ry5 rd6 ry6 rd7 rd8 q0 q5 q6 q7 q8 q9 q10
        go_wp2_with fail
        go_ret
        exact ⟨rfl, BB.out⟩

theorem own : ownKnob Try.prog.godebug = none := by kernel_rfl
theorem laidOut : laidOutB Try.prog = true := by kernel_rfl

set_option maxRecDepth 100000 in
theorem lifted (os : Os) (started : os.Started) (H : Type) (enc : TypeId × Value → H) :
    ReturnsInHanded {} Try.checked os 6 .any (Rows.sum16LinearSpec.pre6 enc Try.prog Try.f6 Rows.sum16LinearRow.domain false) (Rows.sum16LinearSpec.post enc Try.prog Try.f6 false true false false) := by
  refine returnsInHanded_of_change (C := Try.checked) own started (by kernel_rfl) Try.func6
    (ChangeSpec.witness6 (enc := enc) (C := Try.checked) false ⟨#[], #[.slice none 0 0, .slice none 0 0, .agg #[.int .u16 0, .int .u16 0]], []⟩ 8 (by kernel_rfl) (by kernel_rfl) (by kernel_rfl) (by kernel_rfl)) ?_
  intro W base args ds gs before hval0 hW hcnd _
  have hval : ∀ (j : Nat) t v, Try.f6.params[j]? = some t → args[j]? = some v → Value.okWide Try.prog W .any base t v := hval0
  have hW' := hW
  obtain ⟨p, q, hA0, hV, rfl, hfz, hnd⟩ := hW
  have hA : DataW.TrodAll enc Try.prog W 0 (fun _ => true) true Try.f6.params.toList args.toList ds p := hA0
  rw [Try.params6] at hA hval
  obtain ⟨v0, vs0, d0, ds0, p0, q0, hargs, rfl, rfl, h0, r0⟩ := trodAll_cons hA
  obtain ⟨v1, vs1, d1, ds1, p1, q1, rfl, rfl, rfl, h1, r1⟩ := trodAll_cons r0
  obtain ⟨v2, vs2, d2, ds2, p2, q2, rfl, rfl, rfl, h2, r2⟩ := trodAll_cons r1
  obtain ⟨rfl, rfl, rfl⟩ := trodAll_nil r2
  obtain rfl : args = #[v0, v1, v2] := by cases args; simp_all
  obtain ⟨rfl, rfl⟩ := trodVars_none hV
  have k0 := h0
  have lt0 : ∀ x ∈ p0, x.block < W.heap.size := by obtain ⟨m, hm⟩ := k0; exact DataW.trod_lt m _ _ _ hm
  obtain ⟨A0, c0, b0, rfl, w0, l0, z0⟩ := Mem.open_bytesc Try.underlying23 Try.underlying5 (by kernel_rfl) (hval 0 23 v0 rfl rfl) h0
  have k1 := h1
  have lt1 : ∀ x ∈ p1, x.block < W.heap.size := by obtain ⟨m, hm⟩ := k1; exact DataW.trod_lt m _ _ _ hm
  obtain ⟨A1, c1, b1, rfl, w1, l1, z1⟩ := Mem.open_bytesc Try.underlying23 Try.underlying5 (by kernel_rfl) (hval 1 23 v1 rfl rfl) h1
  have k2 := h2
  have lt2 : ∀ x ∈ p2, x.block < W.heap.size := by obtain ⟨m, hm⟩ := k2; exact DataW.trod_lt m _ _ _ hm
  obtain ⟨x2, y2, rfl, wx2, wy2⟩ := Mem.open_iarr2 Try.underlying35 Try.underlying22 (by kernel_rfl) (by kernel_rfl) (hval 2 35 v2 rfl rfl) h2
  clear hA0 hval0
  refine (walk A0 c0 b0 A1 c1 b1 x2 y2 W w0 l0 z0 w1 l1 z1 (Mem.wf_u16 wx2) (Mem.wf_u16 wy2)).mono fun e W' ⟨he, bel⟩ => ?_
  subst he
  exact ⟨_, rfl, _, _, _, [], _, [], hW', trodAll_mk1 (shut_bool Try.underlying4 _), (trodAll_cons_mk (Below.trod laidOut (by kernel_rfl) (of_decide_eq_true (by kernel_rfl)) k0 bel lt0) (trodAll_cons_mk (Below.trod laidOut (by kernel_rfl) (of_decide_eq_true (by kernel_rfl)) k1 bel lt1) (trodAll_cons_mk (Below.trod laidOut (by kernel_rfl) (of_decide_eq_true (by kernel_rfl)) k2 bel lt2) trodAll_mk0))), rfl, bel.frame _, fun h => by cases h⟩

theorem over : Rows.sum16LinearRow.holds Try.pinned (OpenSpec.ofChange Rows.sum16LinearSpec) :=
  OpenClaim.holds_of_wide 6 Try.f6 rfl rfl rfl rfl rfl rfl rfl ⟨rfl, rfl, rfl, rfl, rfl⟩ rfl rfl rfl rfl rfl (by kernel_rfl) Try.func6 (by kernel_rfl)
    (of_decide_eq_true (by kernel_rfl)) (by unfold Func.isWrapper; first | (rw [if_pos (by decide +kernel)]; kernel_rfl) | (rw [if_neg (by decide +kernel)]; exact ⟨rfl, rfl⟩))
    (fun os started H enc _ => lifted os started H enc)

/-- The given statement. -/
theorem proved : Rows.Sum16LinearSaid := over

end Go.Proofs.Ytcecekmeopbgjaa.sum16Linear
