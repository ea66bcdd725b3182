/-
  errors.Is, and what package fault asks by it: Family, Says.
-/
import Derived.Test.YtielbmhaidjioaaDoorFltIs
namespace Go.Proofs.YtielbmhaidjioaaDoor
open Go.RowKit Mem Go.Extern.Stop Go.Stop Go.Extern
set_option linter.unusedVariables false

theorem chain_iface (cs : List Int) (U : TypeId) (bv : Value) : ∃ V v, chainV cs (.iface U bv) = .iface V v := by
  cases cs with
  | nil => exact ⟨_, _, rfl⟩
  | cons c r => exact ⟨_, _, rfl⟩

/-- A type whose values errors.Is may compare. -/
structure Comp (T : TypeId) : Prop where
  ne : T ≠ 26
  ty : ∀ v w, (Extern.ReflectliteType.typeOf #[.iface T v]).run Tryd.prog w = .ok (.iface 104 (.agg #[.pointer (some ⟨10, T, none⟩)])) w
  co : ∀ w, (callFunc 99 #[.agg #[.pointer (some ⟨10, T, none⟩)]]).run Tryd.prog w = .ok (.value (.bool true)) w
theorem findComp (args : Array Value) (w : World) : (callFunc 99 args).run Tryd.prog w = (((Extern.ReflectliteType.method fun t => do Go.Extern.Rtype.noPackHeld "Comparable" t; pure (.bool (← typeInfo t).comparable)) args).run Tryd.prog w).andThen fun v w' => .ok (.value v) w' :=
  @run_callFunc_extern Tryd.prog 99 _ _ Tryd.func99 (by kernel_rfl) (by kernel_rfl) (by kernel_rfl) (by kernel_rfl) args w
theorem runCompP (w : World) : ((Extern.ReflectliteType.method fun t => do Go.Extern.Rtype.noPackHeld "Comparable" t; pure (.bool (← typeInfo t).comparable)) #[.agg #[.pointer (some ⟨10, 129, none⟩)]]).run Tryd.prog w = .ok (.bool true) w := by kernel_rfl
theorem runCompS (w : World) : ((Extern.ReflectliteType.method fun t => do Go.Extern.Rtype.noPackHeld "Comparable" t; pure (.bool (← typeInfo t).comparable)) #[.agg #[.pointer (some ⟨10, 56, none⟩)]]).run Tryd.prog w = .ok (.bool true) w := by kernel_rfl
theorem compP : Comp 129 := ⟨by decide, isTypeOfP, fun w => by rw [findComp, runCompP]; rfl⟩
theorem compS : Comp 56 := ⟨by decide, isTypeOfS, fun w => by rw [findComp, runCompS]; rfl⟩

set_option maxHeartbeats 1000000 in
theorem is_any (cs : List Int) (U : TypeId) (bv : Value) (T : TypeId) (tv : Value) (r : Bool) (w : World) (hU : Bare U)
    (hT : Comp T) (hB : ∀ W, Below w.heap.size w W → (binOp .eql 24 (.iface U bv) (.iface T tv)).run Tryd.prog W = .ok (.bool r) W) :
    Calls Tryd.prog 33 #[chainV cs (.iface U bv), .iface T tv] w fun e w' => e = .returned (.bool r) ∧ Below w.heap.size w w' := by
  have hin := is_in cs U bv T tv r w hU hT.ne hB
  obtain ⟨V, v, hV⟩ := chain_iface cs U bv
  rw [hV] at hin ⊢
  have h1 := @run_callFunc_extern Tryd.prog 46 _ Extern.ReflectliteType.typeOf Tryd.func46 (by kernel_rfl) (by kernel_rfl) (by kernel_rfl) (by kernel_rfl)
  have tT := hT.ty
  have cT := hT.co
  have mR := isMethodComp
  have hn1 := fun (v : Value) => run_eql_iface_nil_left (P := Tryd.prog) w V v Tryd.underlying24
  have HI := Lib.hid hin
  clear hB hU hT hin hV
  go_enter Tryd.func33, Tryd.ntmps33
  go_wp2_with (go_at_call 47; refine HI.out.mono ?_; rintro e w' ⟨rfl, hb⟩)
  go_ret
  exact ⟨rfl, hb⟩

set_option maxHeartbeats 1000000 in
theorem is_none (c : Int) (T : TypeId) (tv : Value) (w : World) (hT : Comp T) :
    Calls Tryd.prog 33 #[.iface 26 (.agg #[.int .u32 c, .nilIface]), .iface T tv] w fun e w' => e = .returned (.bool false) ∧ Below w.heap.size w w' := by
  have h26 := fun v W => run_eql_iface_types (P := Tryd.prog) 26 T v tv Tryd.underlying24 (Ne.symm hT.ne) W
  have nI := linkNoIs
  have uL := linkUn
  have mU := isMethodUnwrap
  have h1 := @run_callFunc_extern Tryd.prog 46 _ Extern.ReflectliteType.typeOf Tryd.func46 (by kernel_rfl) (by kernel_rfl) (by kernel_rfl) (by kernel_rfl)
  have tT := hT.ty
  have cT := hT.co
  have mR := isMethodComp
  clear hT
  go_enter Tryd.func33, Tryd.ntmps33
  go_wp2
  refine wp_loop_rounds 1 ?_
  rw [rounds_succ]
  go_wp2
  go_ret
  exact ⟨rfl, (Below.refl _ _).alloc (Nat.le_refl _) _⟩

/-! Which errors are equal. -/
theorem eq_same (p : Addr) (W : World) : (binOp .eql 24 (errV p) (errV p)).run Tryd.prog W = .ok (.bool true) W := by
  obtain ⟨i, hi, hcmp⟩ := Option.map_eq_some_iff.1 infoP
  obtain ⟨j, hj, hjs⟩ := Option.map_eq_some_iff.1 infoE
  exact run_eql_iface_ptr_same (P := Tryd.prog) W p Tryd.underlying24 Tryd.underlying129 hi hcmp hj
theorem eq_other {a : Nat → Addr} {W : World} (hg : Glob W a) {j k : Nat} (hj1 : 1 ≤ j) (hj5 : j ≤ 5) (hk1 : 1 ≤ k) (hk5 : k ≤ 5) (hne : j ≠ k) : (binOp .eql 24 (errV (a j)) (errV (a k))).run Tryd.prog W = .ok (.bool false) W := by
  obtain ⟨i, hi, hcmp⟩ := Option.map_eq_some_iff.1 infoP
  obtain ⟨i2, hi2, hjs⟩ := Option.map_eq_some_iff.1 infoE
  obtain ⟨c1, t1, h1⟩ := hg.lies j hj1 hj5
  obtain ⟨c2, t2, h2⟩ := hg.lies k hk1 hk5
  have hd : a j ≠ a k := by
    rcases Nat.lt_or_gt_of_ne hne with h | h
    · exact hg.apart j k hj1 h hk5
    · exact (hg.apart k j hk1 h hj5).symm
  exact run_eql_iface_ptr_other (P := Tryd.prog) W Tryd.underlying24 Tryd.underlying129 hi hcmp hi2 (by rw [hjs]; decide) hd h1 h2
theorem eq_fam {a : Nat → Addr} {W : World} (hg : Glob W a) {j k : Nat} (hj1 : 1 ≤ j) (hj5 : j ≤ 5) (hk1 : 1 ≤ k) (hk5 : k ≤ 5) : (binOp .eql 24 (errV (a j)) (errV (a k))).run Tryd.prog W = .ok (.bool (decide (j = k))) W := by
  by_cases h : j = k
  · subst h; rw [eq_same]; simp
  · rw [eq_other hg hj1 hj5 hk1 hk5 h]; simp [h]
theorem infoSd : (Tryd.prog.info? 56).map (·.comparable) = some true := by kernel_rfl
theorem eq_said (s t : ByteArray) (W : World) : (binOp .eql 24 (saidI s) (saidI t)).run Tryd.prog W = .ok (.bool (s == t)) W := by
  obtain ⟨i, hi, hcmp⟩ := Option.map_eq_some_iff.1 infoSd
  have h : ∀ d : Nat, (Op.equalIn (d + 2) 24 (saidI s) (saidI t)).run Tryd.prog W = .ok (s == t) W := fun d => by
    simp [saidI, Op.equalIn, run_underlying Tryd.underlying24, run_underlying Tryd.underlying56, typeInfo, hi, hcmp]
  have h' := h 9998
  unfold saidI at h' ⊢
  simp only [binOp]
  simp [Op.equal, Op.maxDepth, h']

theorem rdecide (j k : Nat) (h : j = k) : decide (j = k) = true := by simp [h]

set_option maxHeartbeats 4000000 in
theorem fam_core (c : Int) (x : Value) (a : Nat → Addr) (k : Nat) (w : World) (hg : Glob w a) (hc : (c == 0) = false) (hk1 : 1 ≤ k) (hk5 : k ≤ 5)
    (hI : ∀ W, Below w.heap.size w W → ∀ j, 1 ≤ j → j ≤ 4 → Calls Tryd.prog 33 #[.iface 26 (.agg #[.int .u32 c, x]), .iface 129 (.pointer (some (a j)))] W fun e w' => e = .returned (.bool (decide (k = j))) ∧ Below W.heap.size W w') :
    Calls Tryd.prog 15 #[.agg #[.int .u32 c, x]] w fun e w' => e = .returned (.int .i64 (k : Nat)) ∧ Below w.heap.size w w' := by
  have HI := Lib.hid hI
  have lt1 := cell_lt hg.c1
  have lt2 := cell_lt hg.c2
  have lt3 := cell_lt hg.c3
  have lt4 := cell_lt hg.c4
  have ce1 := hg.c1
  have ce2 := hg.c2
  have ce3 := hg.c3
  have ce4 := hg.c4
  clear hI hg
  go_enter Tryd.func15, Tryd.ntmps15
  go_wp2_with (go_at_call 32; refine (none_any _ _ _).mono ?_; rw [hc]; rintro e w' ⟨rfl, rfl⟩)
  refine (HI.out _ ?_ 1 (by omega) (by omega)).mono ?_
  · exact ((Below.refl _ _).alloc (Nat.le_refl _) _).alloc (by simp) _
  rintro e w1 ⟨rfl, b1⟩
  have s0 : w1.cell? ⟨w.heap.size, 0, none⟩ = some (.int .u32 c) := below_cell b1 (Nat.le_refl _) (by simp)
  have s1 : w1.cell? ⟨w.heap.size, 1, none⟩ = some x := below_cell b1 (Nat.le_refl _) (by simp)
  have B1 := Lib.hid ((((Below.refl w.heap.size w).alloc (Nat.le_refl _) _).alloc (by simp) _).trans (b1.mono (by simp; omega)))
  replace ce2 := below_cell B1.out (Nat.le_refl _) ce2
  replace ce3 := below_cell B1.out (Nat.le_refl _) ce3
  replace ce4 := below_cell B1.out (Nat.le_refl _) ce4
  clear b1 ce1
  rcases (by omega : k = 1 ∨ k = 2 ∨ k = 3 ∨ k = 4 ∨ k = 5) with rfl | rfl | rfl | rfl | rfl
  · go_wp2_with fail
    go_ret
    exact ⟨rfl, B1.out⟩
  · go_wp2_with fail
    refine (HI.out _ B1.out 2 (by omega) (by omega)).mono ?_
    rintro e w2 ⟨rfl, b2⟩
    replace s0 := below_cell b2 (Nat.le_refl _) s0
    replace s1 := below_cell b2 (Nat.le_refl _) s1
    replace ce3 := below_cell b2 (Nat.le_refl _) ce3
    replace ce4 := below_cell b2 (Nat.le_refl _) ce4
    have B2 := Lib.hid (B1.out.trans (b2.mono (B1.out.size)))
    clear b2
    go_wp2_with fail
    go_ret
    exact ⟨rfl, B2.out⟩
  · go_wp2_with fail
    refine (HI.out _ B1.out 2 (by omega) (by omega)).mono ?_
    rintro e w2 ⟨rfl, b2⟩
    replace s0 := below_cell b2 (Nat.le_refl _) s0
    replace s1 := below_cell b2 (Nat.le_refl _) s1
    replace ce3 := below_cell b2 (Nat.le_refl _) ce3
    replace ce4 := below_cell b2 (Nat.le_refl _) ce4
    have B2 := Lib.hid (B1.out.trans (b2.mono (B1.out.size)))
    clear b2
    go_wp2_with fail
    refine (HI.out _ B2.out 3 (by omega) (by omega)).mono ?_
    rintro e w3 ⟨rfl, b3⟩
    replace s0 := below_cell b3 (Nat.le_refl _) s0
    replace s1 := below_cell b3 (Nat.le_refl _) s1
    replace ce3 := below_cell b3 (Nat.le_refl _) ce3
    replace ce4 := below_cell b3 (Nat.le_refl _) ce4
    have B3 := Lib.hid (B2.out.trans (b3.mono (B2.out.size)))
    clear b3
    go_wp2_with fail
    go_ret
    exact ⟨rfl, B3.out⟩
  · go_wp2_with fail
    refine (HI.out _ B1.out 2 (by omega) (by omega)).mono ?_
    rintro e w2 ⟨rfl, b2⟩
    replace s0 := below_cell b2 (Nat.le_refl _) s0
    replace s1 := below_cell b2 (Nat.le_refl _) s1
    replace ce3 := below_cell b2 (Nat.le_refl _) ce3
    replace ce4 := below_cell b2 (Nat.le_refl _) ce4
    have B2 := Lib.hid (B1.out.trans (b2.mono (B1.out.size)))
    clear b2
    go_wp2_with fail
    refine (HI.out _ B2.out 3 (by omega) (by omega)).mono ?_
    rintro e w3 ⟨rfl, b3⟩
    replace s0 := below_cell b3 (Nat.le_refl _) s0
    replace s1 := below_cell b3 (Nat.le_refl _) s1
    replace ce3 := below_cell b3 (Nat.le_refl _) ce3
    replace ce4 := below_cell b3 (Nat.le_refl _) ce4
    have B3 := Lib.hid (B2.out.trans (b3.mono (B2.out.size)))
    clear b3
    go_wp2_with fail
    refine (HI.out _ B3.out 4 (by omega) (by omega)).mono ?_
    rintro e w4 ⟨rfl, b4⟩
    replace s0 := below_cell b4 (Nat.le_refl _) s0
    replace s1 := below_cell b4 (Nat.le_refl _) s1
    replace ce3 := below_cell b4 (Nat.le_refl _) ce3
    replace ce4 := below_cell b4 (Nat.le_refl _) ce4
    have B4 := Lib.hid (B3.out.trans (b4.mono (B3.out.size)))
    clear b4
    go_wp2_with fail
    go_ret
    exact ⟨rfl, B4.out⟩
  · go_wp2_with fail
    refine (HI.out _ B1.out 2 (by omega) (by omega)).mono ?_
    rintro e w2 ⟨rfl, b2⟩
    replace s0 := below_cell b2 (Nat.le_refl _) s0
    replace s1 := below_cell b2 (Nat.le_refl _) s1
    replace ce3 := below_cell b2 (Nat.le_refl _) ce3
    replace ce4 := below_cell b2 (Nat.le_refl _) ce4
    have B2 := Lib.hid (B1.out.trans (b2.mono (B1.out.size)))
    clear b2
    go_wp2_with fail
    refine (HI.out _ B2.out 3 (by omega) (by omega)).mono ?_
    rintro e w3 ⟨rfl, b3⟩
    replace s0 := below_cell b3 (Nat.le_refl _) s0
    replace s1 := below_cell b3 (Nat.le_refl _) s1
    replace ce3 := below_cell b3 (Nat.le_refl _) ce3
    replace ce4 := below_cell b3 (Nat.le_refl _) ce4
    have B3 := Lib.hid (B2.out.trans (b3.mono (B2.out.size)))
    clear b3
    go_wp2_with fail
    refine (HI.out _ B3.out 4 (by omega) (by omega)).mono ?_
    rintro e w4 ⟨rfl, b4⟩
    replace s0 := below_cell b4 (Nat.le_refl _) s0
    replace s1 := below_cell b4 (Nat.le_refl _) s1
    replace ce3 := below_cell b4 (Nat.le_refl _) ce3
    replace ce4 := below_cell b4 (Nat.le_refl _) ce4
    have B4 := Lib.hid (B3.out.trans (b4.mono (B3.out.size)))
    clear b4
    go_wp2_with fail
    go_ret
    exact ⟨rfl, B4.out⟩

theorem fam_top (c : Int) (r : List Int) (a : Nat → Addr) (k : Nat) (w : World) (hg : Glob w a) (hc : (c == 0) = false) (hk1 : 1 ≤ k) (hk5 : k ≤ 5) :
    Calls Tryd.prog 15 #[topV (c :: r) (errV (a k))] w fun e w' => e = .returned (.int .i64 (k : Nat)) ∧ Below w.heap.size w w' :=
  fam_core c (chainV r (errV (a k))) a k w hg hc hk1 hk5 fun W h j hj1 hj4 =>
    is_any (c :: r) _ _ _ (.pointer (some (a j))) _ W bareP compP (fun W' h' => eq_fam (hg.below (h.trans (h'.mono h.size)) (Nat.le_refl _)) hk1 hk5 (k := j) hj1 (by omega))

theorem fam_said (c : Int) (r : List Int) (s : ByteArray) (a : Nat → Addr) (w : World) (hg : Glob w a) (hc : (c == 0) = false) :
    Calls Tryd.prog 15 #[topV (c :: r) (saidI s)] w fun e w' => e = .returned (.int .i64 5) ∧ Below w.heap.size w w' :=
  fam_core c (chainV r (saidI s)) a 5 w hg hc (by omega) (by omega) fun W h j hj1 hj4 => by
    have hd : decide (5 = j) = false := by simp; omega
    rw [hd]
    exact is_any (c :: r) _ _ _ (.pointer (some (a j))) _ W bareS compP (fun W' h' => run_eql_iface_types 56 129 _ _ Tryd.underlying24 (by decide) W')
end Go.Proofs.YtielbmhaidjioaaDoor
