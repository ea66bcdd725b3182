/-
  Proved: TxqNil, for any frame: a queue that is not there has nothing, and takes nothing.
-/
import Derived.Test.YticlncdkcfdimaaRows
import Derived.Test.YticlncdkcfdimaaFrmLift
import Derived.Test.YticlncdkcfdimaaTxqKnown
namespace Go.Proofs.Yticlncdkcfdimaa.txqNil
open Go.ChangeShapes Go.WideShapes Go.ChangeAt Go.RowKit Mem Frm Txq
open Go.ChangeMaps (open_string shut_string)
set_option linter.unusedVariables false
set_option linter.unusedSimpArgs false
set_option maxRecDepth 100000

/-- What the law holds in memory: the frame that came in, what Take gave, the empty queue. -/
structure N3 (w : World) (x y z : Value) (g q : Nat) (W : World) : Prop where
  o : One w w.heap.size x y z W
  t : W.heap[g]? = some (.cells #[.int .i64 0, .bool false, .slice none 0 0] 34)
  z : W.heap[q]? = some (.cells #[.slice none 0 0, .int .i64 0, .int .i64 0, .bool false] 56)
theorem N3.next {w W W' : World} {x y z : Value} {g q : Nat} (h : N3 w x y z g q W) (b : Below W.heap.size W W') : N3 w x y z g q W' :=
  ⟨h.o.next b, (b.block _ (lt_of h.t)).trans h.t, (b.block _ (lt_of h.z)).trans h.z⟩
theorem N3.start {w W : World} {x y z : Value} (h : One w w.heap.size x y z W) : N3 w x y z W.heap.size (W.heap.size + 1) ((W.alloc (.cells #[.int .i64 0, .bool false, .slice none 0 0] 34)).alloc (.cells #[.slice none 0 0, .int .i64 0, .int .i64 0, .bool false] 56)) :=
  ⟨(h.alloc _).alloc _, heap_alloc2_old W _ _, heap_alloc2_new W _ _⟩

set_option maxHeartbeats 4000000 in
theorem walk (id : Int) (r : Bool) (A : Option Addr) (c : Nat) (d : List UInt8) (w : World)
    (hi : -9223372036854775808 ≤ id ∧ id ≤ 9223372036854775807) (hr : Rd w w.heap.size A d) (hm : d.length ≤ maxLen) :
    Calls Try.prog 6 #[frm id r (.slice A d.length c)] w fun e w' => e = .returned (.bool true) ∧ Below w.heap.size w w' := by
  have O1 := Lib.hid (One.start w (.int .i64 id) (.bool r) (.slice A d.length c))
  obtain ⟨x0, x1, x2⟩ := O1.out.c
  unfold maxLen at hm
  have KN := Lib.hid known_any
  clear hr hi
  by_cases hbig : 1000 < d.length
  · go_enter Try.func6, Try.ntmps6
    go_wp2_with fail
    refine (KN.out _).mono ?_
    rintro e w1 ⟨rfl, b⟩
    have B := Lib.hid (O1.out.next b)
    clear b
    go_wp2_with fail
    go_ret
    exact ⟨rfl, B.out.b⟩
  · have d1 : decide (1000 < d.length) = false := by simpa using hbig
    have C1 := Lib.hid (fun W => clear_nil W)
    have C2 := Lib.hid (fun W => take_nil W)
    have C3 := Lib.hid (fun W => put_nil (.slice A d.length c) id r W)
    have C5 := Lib.hid (fun W => len_nil W)
    have C6 := Lib.hid (fun W => lost_nil W)
    have C7 := Lib.hid (fun W => spilt_nil W)
    have C8 := Lib.hid (fun W => list_nil W)
    have C9 := Lib.hid (fun W => copy_nil W)
    have e1 : d.length ≤ 1000 := by omega
    clear hbig
    go_enter Try.func6, Try.ntmps6
    go_wp2_with fail
    refine (C1.out _).mono ?_
    rintro e w1 ⟨rfl, rfl⟩
    go_wp2_with fail
    refine (C2.out _).mono ?_
    rintro e w2 ⟨rfl, b2⟩
    have O2 := Lib.hid (O1.out.next b2)
    clear b2 O1 x0 x1 x2
    unfold zeroF
    have N1 := Lib.hid (N3.start O2.out)
    obtain ⟨x0, x1, x2⟩ := N1.out.o.c
    have P4 := Lib.hid (fun W g q (n : N3 w (.int .i64 id) (.bool r) (.slice A d.length c) g q W) => put_zero (.slice A d.length c) id r q W (by simp [World.cell?, n.z]))
    have RS := Lib.hid (show ∀ W, Calls Try.prog 18 #[frm 0 false (.slice none 0 0), frm 0 false (.slice none 0 0)] W fun e w' => e = .returned (.bool true) ∧ Below W.heap.size W w' from fun W => rsame_any 0 false none 0 [] 0 false none 0 [] W.heap.size W.heap.size W .nil .nil (Nat.le_refl _) (Nat.le_refl _))
    clear O2
    go_wp2_with fail
    refine (C3.out _).mono ?_
    rintro e w3 ⟨rfl, b3⟩
    have N2 := Lib.hid (N1.out.next b3)
    obtain ⟨y0, y1, y2⟩ := N2.out.o.c
    clear b3 x0 x1 x2 N1
    go_wp2_with fail
    refine (P4.out _ _ _ N2.out).mono ?_
    rintro e w4 ⟨rfl, b4⟩
    have N3_ := Lib.hid (N2.out.next b4)
    obtain ⟨z0, z1, z2, _⟩ := cell3 N3_.out.t
    clear b4 y0 y1 y2 N2
    go_wp2_with fail
    refine (RS.out _).mono ?_
    rintro e w5 ⟨rfl, b5⟩
    have N5 := Lib.hid (N3_.out.next b5)
    clear b5 z0 z1 z2 N3_
    go_wp2_with fail
    refine (C5.out _).mono ?_
    rintro e w6 ⟨rfl, rfl⟩
    go_wp2_with fail
    refine (C6.out _).mono ?_
    rintro e w6 ⟨rfl, rfl⟩
    go_wp2_with fail
    refine (C7.out _).mono ?_
    rintro e w6 ⟨rfl, rfl⟩
    go_wp2_with fail
    refine (C8.out _).mono ?_
    rintro e w6 ⟨rfl, rfl⟩
    go_wp2_with fail
    refine (C9.out _).mono ?_
    rintro e w10 ⟨rfl, b10⟩
    have N10 := Lib.hid (N5.out.next b10)
    clear b10
    go_wp2_with fail
    refine (KN.out _).mono ?_
    rintro e w11 ⟨rfl, b11⟩
    have N11 := Lib.hid (N10.out.next b11)
    clear b11
    go_wp2_with fail
    go_ret
    exact ⟨rfl, N11.out.o.b⟩

theorem own : ownKnob Try.prog.godebug = none := by kernel_rfl
theorem laidOut : laidOutB Try.prog = true := by kernel_rfl

set_option maxRecDepth 100000 in
theorem lifted (os : Os) (started : os.Started) (H : Type) (enc : TypeId × Value → H) :
    ReturnsInHanded {} Try.checked os 6 .any (Rows.txqNilSpec.pre6 enc Try.prog Try.f6 Rows.txqNilRow.domain false) (Rows.txqNilSpec.post enc Try.prog Try.f6 false true false false) := by
  refine returnsInHanded_of_change (C := Try.checked) own started (by kernel_rfl) Try.func6
    (ChangeSpec.witness6 (enc := enc) (C := Try.checked) false ⟨#[], #[.agg #[.int .i64 0, .bool false, .slice none 0 0]], []⟩ 8 (by kernel_rfl) (by kernel_rfl) (by kernel_rfl) (by kernel_rfl)) ?_
  intro W base args ds gs before hval0 hW hcnd _
  have hval : ∀ (j : Nat) t v, Try.f6.params[j]? = some t → args[j]? = some v → Value.okWide Try.prog W .any base t v := hval0
  have hW' := hW
  obtain ⟨p, q, hA0, hV, rfl, hfz, hnd⟩ := hW
  have hA : DataW.TrodAll enc Try.prog W 0 (fun _ => true) true Try.f6.params.toList args.toList ds p := hA0
  rw [Try.params6] at hA hval
  obtain ⟨v0, vs0, d0, ds0, p0, q0, hargs, rfl, rfl, h0, r0⟩ := trodAll_cons hA
  obtain ⟨rfl, rfl, rfl⟩ := trodAll_nil r0
  obtain rfl : args = #[v0] := by cases args; simp_all
  obtain ⟨rfl, rfl⟩ := trodVars_none hV
  have k0 := h0
  have lt0 : ∀ x ∈ p0, x.block < W.heap.size := by obtain ⟨m, hm⟩ := k0; exact DataW.trod_lt m _ _ _ hm
  obtain ⟨x0, y0, A0, c0, b0, rfl, wx0, w0, l0⟩ := Frm.open_frm (hval 0 34 v0 rfl rfl) h0
  clear hA0 hval0
  refine (walk x0 y0 A0 c0 b0 W wx0 w0 l0).mono fun e W' ⟨he, bel⟩ => ?_
  subst he
  exact ⟨_, rfl, _, _, _, [], _, [], hW', trodAll_mk1 (shut_bool Try.underlying4 _), (trodAll_cons_mk (Below.trod laidOut (by kernel_rfl) (of_decide_eq_true (by kernel_rfl)) k0 bel lt0) trodAll_mk0), rfl, bel.frame _, fun h => by cases h⟩

theorem over : Rows.txqNilRow.holds Try.pinned (OpenSpec.ofChange Rows.txqNilSpec) :=
  OpenClaim.holds_of_wide 6 Try.f6 rfl rfl rfl rfl rfl rfl rfl ⟨rfl, rfl, rfl, rfl, rfl⟩ rfl rfl rfl rfl rfl (by kernel_rfl) Try.func6 (by kernel_rfl)
    (of_decide_eq_true (by kernel_rfl)) (by unfold Func.isWrapper; first | (rw [if_pos (by decide +kernel)]; kernel_rfl) | (rw [if_neg (by decide +kernel)]; exact ⟨rfl, rfl⟩))
    (fun os started H enc _ => lifted os started H enc)

/-- The given statement. -/
theorem proved : Rows.TxqNilSaid := over

end Go.Proofs.Yticlncdkcfdimaa.txqNil
