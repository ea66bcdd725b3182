/-
  Proved: JournalNil, for any kind and any bytes: without a flash there is no journal, and one that is not there takes nothing.
-/
import Derived.Test.YtppjjdaejhilkaaRows
import Derived.Test.YtppjjdaejhilkaaLift
import Derived.Test.YtppjjdaejhilkaaJouNil
namespace Go.Proofs.Ytppjjdaejhilkaa.journalNil
open Go.ChangeShapes Go.WideShapes Go.ChangeAt Go.RowKit Mem Fla Rec Jou
open Go.ChangeMaps (open_string shut_string)
set_option linter.unusedVariables false

/-- What stands while the law answers. -/
structure NSt (w W : World) (gx gz gy : Nat) : Prop where
  b : Below w.heap.size w W
  x : W.heap[gx]? = some (.cells #[.int .i64 0, .int .u32 0, .slice none 0 0] 32 (0, 0))
  y : W.heap[gy]? = some (.cells #[.int .i64 0, .int .u32 0, .slice none 0 0] 32 (0, 0))
  z : NoJ W (at_ gz)
theorem NSt.next {w W W' : World} {gx gz gy : Nat} (S : NSt w W gx gz gy) (h : Below W.heap.size W W') : NSt w W' gx gz gy :=
  ⟨S.b.trans (h.mono S.b.size), (h.block _ (Array.getElem?_eq_some_iff.1 S.x).1).trans S.x, (h.block _ (Array.getElem?_eq_some_iff.1 S.y).1).trans S.y, S.z.below h (Nat.le_refl _)⟩

set_option maxRecDepth 100000 in
set_option maxHeartbeats 4000000 in
theorem walk (k : Int) (A : Option Addr) (c : Nat) (bs : List UInt8) (w : World)
    (hk : -9223372036854775808 ≤ k ∧ k ≤ 9223372036854775807) (hr : Rd w w.heap.size A bs) (hm : bs.length ≤ maxLen) :
    Calls Try.prog 7 #[.int .i64 k, .slice A bs.length c] w fun e w' => e = .returned (.bool true) ∧ Below w.heap.size w w' := by
  have HO := Lib.hid (fun W => Jou.open_nil W)
  have HN := Lib.hid (fun W => Fla.new_yes 2 1 (by omega) (by omega) (by omega) (by omega) W)
  have e0 : List.replicate (2 * 1024) (255 : UInt8) = blankN 2 := rfl
  rw [e0] at HN
  have HF := Lib.hid (fun W p D c (S : LS w W p D c (Fl.new (blankN 2) 1)) => open_few S.i rfl (by show nsec (blankN 2) < 3; rw [nsec_blank]; omega))
  have HK := Lib.hid (fun W => Jou.known_any W)
  have H1 := Lib.hid (fun W v (h : NoJ W v) => nolast v W h)
  have H2 := Lib.hid (fun W v (h : NoJ W v) => noappend v (.slice A bs.length c) k W h)
  have H3 := Lib.hid (fun W v (h : NoJ W v) => noat v W h)
  have HS := Lib.hid (fun W => Rec.same_any 0 0 0 0 none none 0 0 W.heap.size [] [] W (.inl rfl) (.inl rfl) (Nat.le_refl _))
  clear e0
  go_enter Try.func7, Try.ntmps7
  go_wp2_with fail
  refine (HO.out _).mono ?_
  rintro e w1 ⟨rfl, rfl⟩
  go_wp2_with fail
  refine (HN.out _).mono ?_
  intro e w1 h1
  obtain ⟨p, rfl, S⟩ := ls_new h1
  have S := Lib.hid S
  clear h1
  generalize w.heap.size = D at S
  go_wp2_with fail
  refine (HF.out _ _ _ _ S.out).mono ?_
  rintro e w2 ⟨rfl, rfl⟩
  have B1 := Lib.hid S.out.b
  clear S
  go_wp2_with fail
  refine (H1.out _ _ (.inl rfl)).mono ?_
  rintro e w2 ⟨rfl, b2⟩
  have B2 := Lib.hid (B1.out.trans (b2.mono B1.out.size))
  clear b2
  have rx := heap_alloc2_old w2 (.cells #[.int .i64 0, .int .u32 0, .slice none 0 0] 32) (.cells #[.slice none 0 0, .pointer none, .bool false] 63)
  have rz := heap_alloc2_new w2 (.cells #[.int .i64 0, .int .u32 0, .slice none 0 0] 32) (.cells #[.slice none 0 0, .pointer none, .bool false] 63)
  have b3 := below2 w2 (.cells #[.int .i64 0, .int .u32 0, .slice none 0 0] 32) (.cells #[.slice none 0 0, .pointer none, .bool false] 63)
  have H1' := Lib.hid (H1.out _ (at_ (w2.heap.size + 1)) (.inr ⟨_, _, rfl, rz, rfl⟩))
  go_wp2_with fail
  refine H1'.out.mono ?_
  rintro e w3 ⟨rfl, b4⟩
  have ry := heap_alloc_new w3 (.cells #[.int .i64 0, .int .u32 0, .slice none 0 0] 32)
  have b5 := below1 w3 (.cells #[.int .i64 0, .int .u32 0, .slice none 0 0] 32)
  have b35 := b4.trans (b5.mono b4.size)
  have S : Hid (NSt w (w3.alloc (.cells #[.int .i64 0, .int .u32 0, .slice none 0 0] 32)) w2.heap.size (w2.heap.size + 1) w3.heap.size) := Lib.hid ⟨B2.out.trans ((b3.trans (b35.mono b3.size)).mono B2.out.size), (b35.block _ (by simp only [World.size_alloc]; omega)).trans rx, ry, .inr ⟨_, _, rfl, (b35.block _ (by simp)).trans rz, rfl⟩⟩
  clear rx rz ry b3 b4 b5 b35 H1' B1 B2 HO HN HF H1
  go_wp2_with fail
  refine (H2.out _ _ (.inl rfl)).mono ?_
  rintro e w4 ⟨rfl, b⟩
  have S := Lib.hid (S.out.next b)
  clear b
  go_wp2_with fail
  refine (H2.out _ _ S.out.z).mono ?_
  rintro e w5 ⟨rfl, b⟩
  have S := Lib.hid (S.out.next b)
  clear b
  have x0 := cell_of S.out.x 0
  have x1 := cell_of S.out.x 1
  have x2 := cell_of S.out.x 2
  have y0 := cell_of S.out.y 0
  have y1 := cell_of S.out.y 1
  have y2 := cell_of S.out.y 2
  go_wp2_with fail
  refine (HS.out _ ).mono ?_
  rintro e w6 ⟨rfl, b⟩
  have S := Lib.hid (S.out.next b)
  clear b
  clear x0 x1 x2 y0 y1 y2
  go_wp2_with fail
  refine (H3.out _ _ (.inl rfl)).mono ?_
  rintro e w7 ⟨rfl, b⟩
  have S := Lib.hid (S.out.next b)
  clear b
  go_wp2_with fail
  refine (HK.out _ ).mono ?_
  rintro e w8 ⟨rfl, b⟩
  have S := Lib.hid (S.out.next b)
  clear b
  have B := S.out.b
  clear S
  go_wp2_with fail
  go_ret
  exact ⟨rfl, B⟩

theorem own : ownKnob Try.prog.godebug = none := by kernel_rfl
theorem laidOut : laidOutB Try.prog = true := by kernel_rfl

set_option maxRecDepth 100000 in
theorem lifted (os : Os) (started : os.Started) (H : Type) (enc : TypeId × Value → H) :
    ReturnsInHanded {} Try.checked os 7 .any (Rows.journalNilSpec.pre6 enc Try.prog Try.f7 Rows.journalNilRow.domain false) (Rows.journalNilSpec.post enc Try.prog Try.f7 false true false false) := by
  refine returnsInHanded_of_change (C := Try.checked) own started (by kernel_rfl) Try.func7
    (ChangeSpec.witness6 (enc := enc) (C := Try.checked) false ⟨#[], #[.int .i64 0, .slice none 0 0], []⟩ 8 (by kernel_rfl) (by kernel_rfl) (by kernel_rfl) (by kernel_rfl)) ?_
  intro W base args ds gs before hval0 hW hcnd _
  have hval : ∀ (j : Nat) t v, Try.f7.params[j]? = some t → args[j]? = some v → Value.okWide Try.prog W .any base t v := hval0
  have hW' := hW
  obtain ⟨p, q, hA0, hV, rfl, hfz, hnd⟩ := hW
  have hA : DataW.TrodAll enc Try.prog W 0 (fun _ => true) true Try.f7.params.toList args.toList ds p := hA0
  rw [Try.params7] at hA hval
  obtain ⟨v0, vs0, d0, ds0, p0, q0, hargs, rfl, rfl, h0, r0⟩ := trodAll_cons hA
  obtain ⟨v1, vs1, d1, ds1, p1, q1, rfl, rfl, rfl, h1, r1⟩ := trodAll_cons r0
  obtain ⟨rfl, rfl, rfl⟩ := trodAll_nil r1
  obtain rfl : args = #[v0, v1] := by cases args; simp_all
  obtain ⟨rfl, rfl⟩ := trodVars_none hV
  obtain ⟨a0, rfl, rfl, rfl, w0⟩ := open_int Try.underlying3 (hval 0 3 v0 rfl rfl) h0
  have k1 := h1
  have lt1 : ∀ x ∈ p1, x.block < W.heap.size := by obtain ⟨m, hm⟩ := k1; exact DataW.trod_lt m _ _ _ hm
  obtain ⟨A1, c1, b1, rfl, w1, l1⟩ := Mem.open_bytes Try.underlying30 Try.underlying5 (by kernel_rfl) (hval 1 30 v1 rfl rfl) h1
  clear hA0 hval0
  refine (walk a0 A1 c1 b1 W (Mem.wf_i64 w0) w1 l1).mono fun e W' ⟨he, bel⟩ => ?_
  subst he
  exact ⟨_, rfl, _, _, _, [], _, [], hW', trodAll_mk1 (shut_bool Try.underlying4 _), (trodAll_cons_mk (shut_int Try.underlying3 w0) (trodAll_cons_mk (Below.trod laidOut (by kernel_rfl) (of_decide_eq_true (by kernel_rfl)) k1 bel lt1) trodAll_mk0)), rfl, bel.frame _, fun h => by cases h⟩

theorem over : Rows.journalNilRow.holds Try.pinned (OpenSpec.ofChange Rows.journalNilSpec) :=
  OpenClaim.holds_of_wide 7 Try.f7 rfl rfl rfl rfl rfl rfl rfl ⟨rfl, rfl, rfl, rfl, rfl⟩ rfl rfl rfl rfl rfl (by kernel_rfl) Try.func7 (by kernel_rfl)
    (of_decide_eq_true (by kernel_rfl)) (by unfold Func.isWrapper; first | (rw [if_pos (by decide +kernel)]; kernel_rfl) | (rw [if_neg (by decide +kernel)]; exact ⟨rfl, rfl⟩))
    (fun os started H enc _ => lifted os started H enc)

/-- The given statement. -/
theorem proved : Rows.JournalNilSaid := over

end Go.Proofs.Ytppjjdaejhilkaa.journalNil
