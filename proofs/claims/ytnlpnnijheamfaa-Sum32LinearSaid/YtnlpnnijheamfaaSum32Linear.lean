/-
  Proved: Sum32Linear, for any three pieces of bytes: the sum of their exclusive or is the exclusive or of their sums; from two unlike sums the same bytes lead to unlike ones.
-/
import Derived.Test.YtnlpnnijheamfaaRows
import Derived.Test.YtnlpnnijheamfaaLift
import Derived.Test.YtnlpnnijheamfaaSumSeal
import Derived.Test.YtnlpnnijheamfaaSumKnown
import Derived.StillTailTactics
import Derived.Deep.RegionHeld
namespace Go.Proofs.Ytnlpnnijheamfaa.sum32Linear
open Go.ChangeShapes Go.WideShapes Go.ChangeAt Go.RowKit Mem
open Go.ChangeMaps (open_string shut_string)
set_option linter.unusedVariables false

theorem run_min4 {P : Program} {w : World} (ts : Array TypeId) (t : TypeId) (x y z : Nat) {N : Nat} (hN : N = min (min (min x y) z) 16384) :
    (Builtin.min_ ts t #[.int .i64 (x : Int), .int .i64 (y : Int), .int .i64 (z : Int), .int .i64 16384]).run P w = .ok (.int .i64 (N : Int)) w := by
  have h : (if (16384 : Int) < (if (z : Int) < (if (y : Int) < x then (y : Int) else x) then (z : Int) else (if (y : Int) < x then (y : Int) else x)) then (16384 : Int) else (if (z : Int) < (if (y : Int) < x then (y : Int) else x) then (z : Int) else (if (y : Int) < x then (y : Int) else x))) = (N : Int) := by
    subst hN
    split <;> split <;> split <;> omega
  show ((.ok (.int .i64 (if (16384 : Int) < (if (z : Int) < (if (y : Int) < x then (y : Int) else x) then (z : Int) else (if (y : Int) < x then (y : Int) else x)) then (16384 : Int) else (if (z : Int) < (if (y : Int) < x then (y : Int) else x) then (z : Int) else (if (y : Int) < x then (y : Int) else x)))) w : Result Value)) = _
  rw [h]

/-- The exclusive or of three. -/
def mix (xs ys zs : List UInt8) : List UInt8 := Sum.zip (Sum.zip xs ys) zs
/-- As far as k. -/
def part (D : List UInt8) (k : Nat) : List UInt8 := D.take k ++ List.replicate (D.length - k) 0
theorem part_length (D : List UInt8) {k : Nat} (h : k ≤ D.length) : (part D k).length = D.length := by
  simp [part]
  omega
theorem part_zero (D : List UInt8) : part D 0 = List.replicate D.length 0 := by simp [part]
theorem part_all (D : List UInt8) : part D D.length = D := by simp [part]
theorem part_set (D : List UInt8) {k : Nat} (h : k < D.length) : (part D k).set k D[k] = part D (k + 1) := by
  unfold part
  rw [List.set_append_right _ _ (by simp; omega), List.take_succ_eq_append_getElem h, List.append_assoc]
  congr 1
  rw [show k - (D.take k).length = 0 by simp; omega, show D.length - k = (D.length - (k + 1)) + 1 by omega, List.replicate_succ, List.set_cons_zero]
  rfl
theorem mix_length {xs ys zs : List UInt8} {N : Nat} (hx : N ≤ xs.length) (hy : N ≤ ys.length) (hz : N ≤ zs.length) : (mix (xs.take N) (ys.take N) (zs.take N)).length = N := by
  simp [mix, Sum.zip]
  omega
theorem mix_at {xs ys zs : List UInt8} {N k : Nat} (hx : N ≤ xs.length) (hy : N ≤ ys.length) (hz : N ≤ zs.length) (hk : k < N) (h : k < (mix (xs.take N) (ys.take N) (zs.take N)).length) :
    bits .xor .u8 (bits .xor .u8 (byt xs k) (byt ys k)) (byt zs k) = ((((mix (xs.take N) (ys.take N) (zs.take N))[k]'h).toNat : Nat) : Int) := by
  have h1 : k < xs.length := by omega
  have h2 : k < ys.length := by omega
  have h3 : k < zs.length := by omega
  have b1 := byt_bd xs k
  have b2 := byt_bd ys k
  have b3 := byt_bd zs k
  have q := Nat.xor_lt_two_pow (n := 8) (show (byt xs k).toNat < 2 ^ 8 by omega) (show (byt ys k).toNat < 2 ^ 8 by omega)
  rw [u8_xor _ _ b1.1 (by omega) b2.1 (by omega), u8_xor _ _ (by omega) (by omega) b3.1 (by omega), Int.toNat_natCast]
  simp [mix, Sum.zip, byt, h1, h2, h3]

theorem mix_in {xs ys zs D : List UInt8} {N k : Nat} (hD : mix (xs.take N) (ys.take N) (zs.take N) = D) (hx : N ≤ xs.length) (hy : N ≤ ys.length) (hz : N ≤ zs.length) (hk : k < N) (h : k < D.length) :
    bits .xor .u8 (bits .xor .u8 (byt xs k) (byt ys k)) (byt zs k) = (((D[k]'h).toNat : Nat) : Int) := by
  subst hD
  exact mix_at hx hy hz hk h

set_option maxRecDepth 100000 in
set_option maxHeartbeats 4000000 in
theorem walk (A : Option Addr) (c : Nat) (xs : List UInt8) (B : Option Addr) (d : Nat) (ys : List UInt8) (C : Option Addr) (e : Nat) (zs : List UInt8) (w : World)
    (ha : Rd w w.heap.size A xs) (hm : xs.length ≤ maxLen) (hca : xs.length ≤ c ∧ c ≤ maxLen) (hb_ : Rd w w.heap.size B ys) (hn : ys.length ≤ maxLen) (hcb : ys.length ≤ d ∧ d ≤ maxLen)
    (hc : Rd w w.heap.size C zs) (ho : zs.length ≤ maxLen) (hcc : zs.length ≤ e ∧ e ≤ maxLen) :
    Calls Try.prog 7 #[.slice A xs.length c, .slice B ys.length d, .slice C zs.length e] w fun e w' => e = .returned (.bool true) ∧ Below w.heap.size w w' := by
  unfold maxLen at hm hn ho hca hcb hcc
  obtain ⟨i0, hi, hz0, hz1, hz2⟩ := info_parts info_u8
  obtain ⟨N, hN⟩ : ∃ N, N = min (min (min xs.length ys.length) zs.length) 16384 := ⟨_, rfl⟩
  have hmin := fun (w : World) => run_min4 (P := Try.prog) (w := w) #[3, 3, 3, 3] 3 xs.length ys.length zs.length hN
  have hNx : N ≤ xs.length := by omega
  have hNy : N ≤ ys.length := by omega
  have hNz : N ≤ zs.length := by omega
  have hN16 : N ≤ 16384 := by omega
  clear hN
  go_enter Try.func7, Try.ntmps7
  go_wp2_with (at_make; refine wpList_make_part _ rfl _ _ 23 rfl w.heap.size 5 i0 Try.underlying23 hi hz0 hz1 hz2 _ _ _ _ N N rfl rfl rfl rfl (Nat.le_refl _) (by omega) (Nat.le_refl _) ?_; intro w1 hown1 hg1 hs1; have hb1 : Below w.heap.size w w1 := (Below.refl _ _).grown hg1 (Nat.le_refl _) (by simp); clear hg1)
  have hD := mix_length hNx hNy hNz
  generalize hDD : mix (xs.take N) (ys.take N) (zs.take N) = D at hD
  have HD := Lib.hid hDD
  clear hDD
  go_loopw [9] (fun i wr => ∃ k : Nat, k ≤ N ∧ i = .int .i64 k ∧ Own wr w.heap.size 5 (.slice (some ⟨w.heap.size, 0, none⟩) N N) (part D k) ∧ Below w.heap.size w wr) (fun i _ => N - (intOf i).toNat)
  case atStart => exact ⟨0, by omega, rfl, by rw [part_zero, hD]; exact hown1, hb1⟩
  case round =>
    obtain ⟨k, hk, rfl, hown, hb⟩ := hrel
    clear hown1 hb1 hs1
    by_cases hlt : k < N
    · obtain ⟨ga, oa, rfl, hga, hca'⟩ := (ha.below hb).at_ (k := k) (by omega)
      obtain ⟨gb, ob, rfl, hgb, hcb'⟩ := (hb_.below hb).at_ (k := k) (by omega)
      obtain ⟨gc, oc, rfl, hgc, hcc'⟩ := (hc.below hb).at_ (k := k) (by omega)
      have hpl := Lib.hid (part_length D (k := k) (by omega))
      have hcell := hown.cell (hD.symm.trans hpl.out.symm) (j := k) (by rw [hpl.out]; omega)
      have hfree := hown.free (hD.symm.trans hpl.out.symm) k
      have k0 : (0 : Int) ≤ (k : Int) := by omega
      have kx : (k : Int) < (xs.length : Int) := by omega
      have ky : (k : Int) < (ys.length : Int) := by omega
      have kz : (k : Int) < (zs.length : Int) := by omega
      have kn : (k : Int) < (N : Int) := by omega
      go_wp2_with fail
      go_still_tail 16, (by kernel_rfl)
      change wpList _ _ _ _ _ wr.drew
      have hown2 := hown.drew
      have hb2 := below_drewN hb 1
      have hcell2 : wr.drew.cell? ⟨w.heap.size, k, none⟩ = _ := hcell
      have hfree2 : wr.drew.frozen? ⟨w.heap.size, k, none⟩ = _ := hfree
      change Below w.heap.size w wr.drew at hb2
      clear hown hb hcell hfree hca' hcb' hcc'
      generalize wr.drew = w2 at *
      have hst := Lib.hid (hown2.store (hD.symm.trans hpl.out.symm) k (mix_in HD.out hNx hNy hNz hlt (by omega)))
      clear hown2
      go_wp2_with fail
      refine ⟨⟨k + 1, by omega, by go_num, ?_, hb2.setCell (Nat.le_refl _) _⟩, by simp [intOf]; omega⟩
      rw [← part_set D (by omega)]
      exact hst.out
    · obtain rfl : k = N := by omega
      have e1 : part D k = D := by rw [← hD]; exact part_all D
      rw [e1] at hown
      clear e1
      have hx' : (xs.take k).length = k := by simp; omega
      have hy' : (ys.take k).length = k := by simp; omega
      have hz' : (zs.take k).length = k := by simp; omega
      have HX := Lib.hid hx'
      have HY := Lib.hid hy'
      have HZ := Lib.hid hz'
      have h3 : Sum.on 0 D = Sum.on 0 (xs.take k) ^^^ Sum.on 0 (ys.take k) ^^^ Sum.on 0 (zs.take k) := by
        rw [← HD.out]
        exact Sum.on_three _ _ _ (by rw [hx', hy']) (by rw [hx', hz'])
      clear hx' hy' hz'
      have rx := ha.take k
      have ry := hb_.take k
      have rz := hc.take k
      have lx := Sum.on_lt (s := 0) (xs.take k) (by decide)
      have ly := Sum.on_lt (s := 0) (ys.take k) (by decide)
      have lz := Sum.on_lt (s := 0) (zs.take k) (by decide)
      have hin := Sum.on_inj D lx ly
      generalize hX : Sum.on 0 (xs.take k) = X at h3 lx hin
      generalize hY : Sum.on 0 (ys.take k) = Y at h3 ly hin
      generalize hZ : Sum.on 0 (zs.take k) = Z at h3 lz
      have hxor : bits .xor .u32 (bits .xor .u32 (X : Int) (Y : Int)) (Z : Int) = ((Sum.on 0 D : Nat) : Int) := by
        rw [u32_xor_nat X Y lx ly, u32_xor_nat _ Z (Nat.xor_lt_two_pow (n := 32) lx ly) lz, h3]
      have heq : (((Sum.on X D : Nat) : Int) == ((Sum.on Y D : Nat) : Int)) = ((X : Int) == (Y : Int)) := by
        by_cases h : X = Y
        · rw [h]; simp
        · have h' : ¬ Sum.on X D = Sum.on Y D := fun e => h (hin.1 e)
          have q1 : ¬ ((Sum.on X D : Nat) : Int) = ((Sum.on Y D : Nat) : Int) := by omega
          have q2 : ¬ (X : Int) = (Y : Int) := by omega
          rw [show (((Sum.on X D : Nat) : Int) == ((Sum.on Y D : Nat) : Int)) = false by simpa using q1, show ((X : Int) == (Y : Int)) = false by simpa using q2]
      have HXX := Lib.hid hX
      have HYY := Lib.hid hY
      have HZZ := Lib.hid hZ
      clear hX hY hZ h3 hin
      have rd : Rd wr wr.heap.size (some ⟨w.heap.size, 0, none⟩) D := by
        obtain ⟨A', c', hv', hr'⟩ := hown.form_n hD
        injection hv' with q1 q2 q3
        rw [q1]; exact hr'
      clear hown ha hb_ hc
      have hk6 : k ≤ 1099511627776 := by omega
      go_wp2_with fail
      refine (sum_any A _ c (xs.take k) wr ((rx.below hb).mono hb.size) HX.out.symm hk6).mono ?_
      rw [HXX.out]
      rintro e1 w3 ⟨rfl, b3⟩
      replace rd := (rd.below b3).mono b3.size
      replace hb := hb.trans (b3.mono hb.size)
      clear b3 rx
      go_wp2_with fail
      refine (sum_any B _ d (ys.take k) w3 ((ry.below hb).mono hb.size) HY.out.symm hk6).mono ?_
      rw [HYY.out]
      rintro e2 w4 ⟨rfl, b4⟩
      replace rd := (rd.below b4).mono b4.size
      replace hb := hb.trans (b4.mono hb.size)
      clear b4 ry
      replace rz := (rz.below hb).mono hb.size
      have HB := Lib.hid hb
      have HDk := Lib.hid hD
      clear hb hD
      clear hmin hi hz0 hz1 hz2 hm hn ho HX HY HXX HYY HD
      go_wp2_with fail
      go_region_held (fun _ => True) (exact True.intro) (first
        | (go_at_call_of 12 (Value.slice (some ⟨w.heap.size, 0, none⟩) k k); refine (sum_any _ _ _ D _ (rd.drewN 1) HDk.out.symm hk6).mono ?_; rintro e5 w5 ⟨rfl, b5⟩; have rd5 := (rd.drew.below b5).mono b5.size; have rz5 := (rz.drew.below b5).mono b5.size)
        | (go_at_call_of 12 (Value.slice C k e); refine (sum_any _ _ _ (zs.take k) _ rz5 HZ.out.symm hk6).mono ?_; rw [HZZ.out]; rintro e6 w6 ⟨rfl, b6⟩; have rd6 := (rd5.below b6).mono b6.size)
        | (go_at_call_of 10 (Value.int .u32 (X : Int)); refine (on_any _ _ _ D X _ lx rd6 HDk.out.symm hk6).mono ?_; rintro e7 w7 ⟨rfl, b7⟩; have rd7 := (rd6.below b7).mono b7.size)
        | (go_at_call_of 10 (Value.int .u32 (Y : Int)); refine (on_any _ _ _ D Y _ ly rd7 HDk.out.symm hk6).mono ?_; rintro e8 w8 ⟨rfl, b8⟩)
        | (go_at_call 8; refine (known_any _).mono ?_; rintro e9 w9 ⟨rfl, b9⟩))
      all_goals
        have b5' : Below w4.heap.size w4 w5 := ⟨b5.os, b5.tape, b5.output, b5.size, b5.block⟩
        have z1 := HB.out.size
        have B9 := Lib.hid (HB.out.trans ((((b5'.trans (b6.mono b5'.size)).trans (b7.mono (Nat.le_trans b5'.size b6.size))).trans (b8.mono (Nat.le_trans b5'.size (Nat.le_trans b6.size b7.size)))).trans (b9.mono (Nat.le_trans b5'.size (Nat.le_trans b6.size (Nat.le_trans b7.size b8.size)))) |>.mono z1))
        clear b5 b5' b6 b7 b8 b9 rd rz rd5 rz5 rd6 rd7
        go_wp2_with fail
        go_ret
        exact ⟨rfl, B9.out⟩

theorem own : ownKnob Try.prog.godebug = none := by kernel_rfl
theorem laidOut : laidOutB Try.prog = true := by kernel_rfl

set_option maxRecDepth 100000 in
theorem lifted (os : Os) (started : os.Started) (H : Type) (enc : TypeId × Value → H) :
    ReturnsInHanded {} Try.checked os 7 .any (Rows.sum32LinearSpec.pre6 enc Try.prog Try.f7 Rows.sum32LinearRow.domain false) (Rows.sum32LinearSpec.post enc Try.prog Try.f7 false true false false) := by
  refine returnsInHanded_of_change (C := Try.checked) own started (by kernel_rfl) Try.func7
    (ChangeSpec.witness6 (enc := enc) (C := Try.checked) false ⟨#[], #[.slice none 0 0, .slice none 0 0, .slice none 0 0], []⟩ 8 (by kernel_rfl) (by kernel_rfl) (by kernel_rfl) (by kernel_rfl)) ?_
  intro W base args ds gs before hval0 hW hcnd _
  have hval : ∀ (j : Nat) t v, Try.f7.params[j]? = some t → args[j]? = some v → Value.okWide Try.prog W .any base t v := hval0
  have hW' := hW
  obtain ⟨p, q, hA0, hV, rfl, hfz, hnd⟩ := hW
  have hA : DataW.TrodAll enc Try.prog W 0 (fun _ => true) true Try.f7.params.toList args.toList ds p := hA0
  rw [Try.params7] at hA hval
  obtain ⟨v0, vs0, d0, ds0, p0, q0, hargs, rfl, rfl, h0, r0⟩ := trodAll_cons hA
  obtain ⟨v1, vs1, d1, ds1, p1, q1, rfl, rfl, rfl, h1, r1⟩ := trodAll_cons r0
  obtain ⟨v2, vs2, d2, ds2, p2, q2, rfl, rfl, rfl, h2, r2⟩ := trodAll_cons r1
  obtain ⟨rfl, rfl, rfl⟩ := trodAll_nil r2
  obtain rfl : args = #[v0, v1, v2] := by cases args; simp_all
  obtain ⟨rfl, rfl⟩ := trodVars_none hV
  have k0 := h0
  have lt0 : ∀ x ∈ p0, x.block < W.heap.size := by obtain ⟨m, hm⟩ := k0; exact DataW.trod_lt m _ _ _ hm
  obtain ⟨A0, c0, b0, rfl, w0, l0, z0⟩ := Mem.open_bytesc Try.underlying23 Try.underlying5 (by kernel_rfl) (hval 0 23 v0 rfl rfl) h0
  have k1 := h1
  have lt1 : ∀ x ∈ p1, x.block < W.heap.size := by obtain ⟨m, hm⟩ := k1; exact DataW.trod_lt m _ _ _ hm
  obtain ⟨A1, c1, b1, rfl, w1, l1, z1⟩ := Mem.open_bytesc Try.underlying23 Try.underlying5 (by kernel_rfl) (hval 1 23 v1 rfl rfl) h1
  have k2 := h2
  have lt2 : ∀ x ∈ p2, x.block < W.heap.size := by obtain ⟨m, hm⟩ := k2; exact DataW.trod_lt m _ _ _ hm
  obtain ⟨A2, c2, b2, rfl, w2, l2, z2⟩ := Mem.open_bytesc Try.underlying23 Try.underlying5 (by kernel_rfl) (hval 2 23 v2 rfl rfl) h2
  clear hA0 hval0
  refine (walk A0 c0 b0 A1 c1 b1 A2 c2 b2 W w0 l0 z0 w1 l1 z1 w2 l2 z2).mono fun e W' ⟨he, bel⟩ => ?_
  subst he
  exact ⟨_, rfl, _, _, _, [], _, [], hW', trodAll_mk1 (shut_bool Try.underlying4 _), (trodAll_cons_mk (Below.trod laidOut (by kernel_rfl) (of_decide_eq_true (by kernel_rfl)) k0 bel lt0) (trodAll_cons_mk (Below.trod laidOut (by kernel_rfl) (of_decide_eq_true (by kernel_rfl)) k1 bel lt1) (trodAll_cons_mk (Below.trod laidOut (by kernel_rfl) (of_decide_eq_true (by kernel_rfl)) k2 bel lt2) trodAll_mk0))), rfl, bel.frame _, fun h => by cases h⟩

theorem over : Rows.sum32LinearRow.holds Try.pinned (OpenSpec.ofChange Rows.sum32LinearSpec) :=
  OpenClaim.holds_of_wide 7 Try.f7 rfl rfl rfl rfl rfl rfl rfl ⟨rfl, rfl, rfl, rfl, rfl⟩ rfl rfl rfl rfl rfl (by kernel_rfl) Try.func7 (by kernel_rfl)
    (of_decide_eq_true (by kernel_rfl)) (by unfold Func.isWrapper; first | (rw [if_pos (by decide +kernel)]; kernel_rfl) | (rw [if_neg (by decide +kernel)]; exact ⟨rfl, rfl⟩))
    (fun os started H enc _ => lifted os started H enc)

/-- The given statement. -/
theorem proved : Rows.Sum32LinearSaid := over

end Go.Proofs.Ytnlpnnijheamfaa.sum32Linear
