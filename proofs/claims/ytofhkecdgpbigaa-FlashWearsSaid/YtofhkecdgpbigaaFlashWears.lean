/-
  Proved: FlashWears, for any endurance and any bytes: however often its sectors are erased, each is so at most as often as it bears, and what is refused changes nothing.
-/
import Derived.Test.YtofhkecdgpbigaaRows
import Derived.Test.YtofhkecdgpbigaaLift
import Derived.Test.YtofhkecdgpbigaaFlaWear
import Derived.Test.YtofhkecdgpbigaaText
import Derived.IntWalk
namespace Go.Proofs.Ytofhkecdgpbigaa.flashWears
open Go.ChangeShapes Go.WideShapes Go.ChangeAt Go.RowKit Mem Fla
open Go.ChangeMaps (open_string shut_string)
set_option linter.unusedVariables false

/-- The array of what was erased, beside the flash. -/
def row (g : Nat → Int) : List Value := [.int .i64 (g 0), .int .i64 (g 1), .int .i64 (g 2)]
structure WS (w W : World) (p D c b : Nat) (s : Fl) (g : Nat → Int) : Prop where
  l : LS w W p D c s
  a : W.heap[b]? = some (.cells (row g).toArray 46 (0, 0))
  h : w.heap.size ≤ b
  np : b ≠ p
  nD : b ≠ D
section
variable {w W W' : World} {p D c b : Nat} {s s' : Fl} {g : Nat → Int} {f : Nat} {args : Array Value} {x : Int} {v : Value}
theorem WS.ends (S : WS w W p D c b s g) (h : Calls Try.prog f args W (Fla.Ends p D c W x s')) : Calls Try.prog f args W fun e w' => e = .returned (.int .i64 x) ∧ WS w w' p D c b s' g :=
  (S.l.endsF h).mono (by rintro e w' ⟨rfl, l, F⟩; exact ⟨rfl, l, (F.block b (Array.getElem?_eq_some_iff.1 S.a).1 S.np S.nD).trans S.a, S.h, S.np, S.nD⟩)
theorem WS.next (S : WS w W p D c b s g) (h : Below W.heap.size W W') : WS w W' p D c b s g :=
  ⟨S.l.next h, (h.block b (Array.getElem?_eq_some_iff.1 S.a).1).trans S.a, S.h, S.np, S.nD⟩
theorem WS.alloc (S : WS w W p D c b s g) (o : Obj) : WS w (W.alloc o) p D c b s g := S.next ((Below.refl _ _).alloc (Nat.le_refl _) o)
theorem WS.drew (S : WS w W p D c b s g) : WS w W.drew p D c b s g := S.next (below_drewN (Below.refl _ _) 1)
theorem WS.same (S : WS w W p D c b s g) (h : Calls Try.prog f args W fun e w' => e = .returned v ∧ W = w') : Calls Try.prog f args W fun e w' => e = .returned v ∧ WS w w' p D c b s g :=
  h.mono (by rintro e w' ⟨rfl, rfl⟩; exact ⟨rfl, S⟩)
theorem WS.call (S : WS w W p D c b s g) (h : Calls Try.prog f args W fun e w' => e = .returned v ∧ Below W.heap.size W w') : Calls Try.prog f args W fun e w' => e = .returned v ∧ WS w w' p D c b s g :=
  h.mono (by rintro e w' ⟨rfl, b⟩; exact ⟨rfl, S.next b⟩)
theorem WS.cell (S : WS w W p D c b s g) {q : Nat} (hq : q < 3) : W.cell? ⟨b, q, none⟩ = some (.int .i64 (g q)) := by
  refine cell_of S.a ?_
  rcases (by omega : q = 0 ∨ q = 1 ∨ q = 2) with rfl | rfl | rfl <;> rfl
theorem WS.free (S : WS w W p D c b s g) (q : Nat) : W.frozen? ⟨b, q, none⟩ = false := frozen_of_row W b q _ _ S.a
theorem WS.up (S : WS w W p D c b s g) {q : Nat} (hq : q < 3) {g' : Nat → Int} (h : ∀ j, g' j = if j = q then g q + 1 else g j) : WS w (W.setCell ⟨b, q, none⟩ (.int .i64 (g q + 1))) p D c b s g' := by
  refine ⟨⟨S.l.b.setCell S.h _, S.l.i.keep (Below.heap_setCell _ _ _ _ (fun e => S.np e.symm)) (Below.heap_setCell _ _ _ _ (fun e => S.nD e.symm)), S.l.hp, S.l.hD⟩, set_of S.a ?_, S.h, S.np, S.nD⟩
  unfold row
  rw [h 0, h 1, h 2]
  rcases (by omega : q = 0 ∨ q = 1 ∨ q = 2) with rfl | rfl | rfl <;> rfl
theorem WS.same_g (S : WS w W p D c b s g) {g' : Nat → Int} (h : ∀ j, g' j = g j) : WS w W p D c b s g' := by
  have : g' = g := funext h
  subst this
  exact S
theorem WS.ans {a : List UInt8 × Int} (S : WS w W p D c b s g) (h : Calls Try.prog f args W (Ans E W a)) : Calls Try.prog f args W fun e w' => ∃ A c', e = .returned (.tuple #[.slice A a.1.length c', .int .i64 a.2]) ∧ RdN w' p D A a.1 ∧ WS w w' p D c b s g :=
  h.mono (by
    rintro e w' ⟨v, rfl, o, b⟩
    obtain ⟨A, c', rfl, hr⟩ := rdN_own o S.l.i.lt S.l.i.ltD
    exact ⟨A, c', rfl, hr, S.next b⟩)
/-- And a byte that was read. -/
structure WX (w W : World) (p D c b : Nat) (s : Fl) (g : Nat → Int) (a : Addr) (x : Int) : Prop where
  s : WS w W p D c b s g
  x : W.cell? a = some (.int .u8 x)
theorem WX.drew {a : Addr} {y : Int} (S : WX w W p D c b s g a y) : WX w W.drew p D c b s g a y := ⟨S.s.drew, S.x⟩
theorem WX.same {a : Addr} {y : Int} (S : WX w W p D c b s g a y) (h : Calls Try.prog f args W fun e w' => e = .returned v ∧ W = w') : Calls Try.prog f args W fun e w' => e = .returned v ∧ WX w w' p D c b s g a y :=
  h.mono (by rintro e w' ⟨rfl, rfl⟩; exact ⟨rfl, S⟩)
theorem WX.call {a : Addr} {y : Int} (S : WX w W p D c b s g a y) (h : Calls Try.prog f args W fun e w' => e = .returned v ∧ Below W.heap.size W w') : Calls Try.prog f args W fun e w' => e = .returned v ∧ WX w w' p D c b s g a y :=
  h.mono (by rintro e w' ⟨rfl, b⟩; exact ⟨rfl, S.s.next b, (b.cell (cell_lt' S.x)).trans S.x⟩)
end

set_option maxRecDepth 100000 in
set_option maxHeartbeats 8000000 in
theorem walk (m : Int) (A : Option Addr) (c : Nat) (bs : List UInt8) (w : World)
    (hm : 0 ≤ m ∧ m ≤ 255) (hr : Rd w w.heap.size A bs) (hl : bs.length ≤ maxLen) :
    Calls Try.prog 6 #[.int .u8 m, .slice A bs.length c] w fun e w' => e = .returned (.bool true) ∧ Below w.heap.size w w' := by
  obtain ⟨m0, m1⟩ := hm
  unfold maxLen at hl
  have HN := Lib.hid (fun W => new_yes 3 (1 + m % 9) (by omega) (by omega) (by omega) (by omega) W)
  have KN := Lib.hid (fun W => known_any W)
  have HR := Lib.hid hr
  have hn0 : 1 ≤ 1 + m % 9 := by omega
  have hn1 : 1 + m % 9 ≤ 9 := by omega
  clear hr
  go_enter Try.func6, Try.ntmps6
  go_wp2_with fail
  generalize 1 + m % 9 = n at *
  refine (HN.out _).mono ?_
  intro e w1 h1
  obtain ⟨p, D, cc, rfl, S⟩ := ls_new' h1 rfl
  have S := Lib.hid S
  clear h1
  have hI : WI n 0 (Fl.new (List.replicate (3 * 1024) 255) n) := ⟨rfl, rfl, by simp [Fl.new], rfl, by simp [Fl.new]⟩
  have HI := Lib.hid hI
  clear hI
  have hg0 : ∀ j, j < 3 → (Fl.new (List.replicate (3 * 1024) 255) n).wearAt j = 0 := fun j hj => by
    rcases (by omega : j = 0 ∨ j = 1 ∨ j = 2) with rfl | rfl | rfl <;> rfl
  have HG := Lib.hid hg0
  clear hg0
  obtain ⟨s0, hs0⟩ : ∃ s0, Fl.new (List.replicate (3 * 1024) 255) n = s0 := ⟨_, rfl⟩
  rw [hs0] at HI HG S
  clear hs0
  go_wp2_with fail
  have HS0 : Hid (WS w (w1.alloc (.cells #[.int .i64 0, .int .i64 0, .int .i64 0] 46)) p D cc w1.heap.size s0 s0.wearAt) := Lib.hid
    ⟨S.out.alloc _, by rw [heap_alloc_new]; unfold row; rw [HG.out 0 (by decide), HG.out 1 (by decide), HG.out 2 (by decide)], S.out.b.size, by have := S.out.i.lt; omega, by have := S.out.i.ltD; omega⟩
  obtain ⟨b, hb⟩ : ∃ b, w1.heap.size = b := ⟨_, rfl⟩
  rw [hb] at HS0 ⊢
  clear hb
  go_loopw [8] (fun i wr => ∃ (k : Nat) (s : Fl), i = .int .i64 (k : Int) ∧ k ≤ bs.length ∧ k ≤ 60 ∧ WI n k s ∧ WS w wr p D cc b s s.wearAt) (fun i _ => 60 - (intOf i).toNat)
  case atStart => exact ⟨0, s0, rfl, Nat.zero_le _, Nat.zero_le _, HI.out, HS0.out⟩
  case round =>
    obtain ⟨k, s, rfl, hkl, hk60, hI, hS⟩ := hrel
    by_cases hlt : k < bs.length
    · by_cases h60 : k < 60
      · obtain ⟨g, off, rfl, hgB, hcx⟩ := (HR.out.below hS.l.b).at_ hlt
        have hbd := byt_bd bs k
        obtain ⟨q, hq⟩ : ∃ q : Nat, byt bs k % 3 = (q : Int) := ⟨(byt bs k % 3).toNat, by omega⟩
        have hq3 : q < 3 := by omega
        have hq3' : (q : Int) < 3 := by omega
        have hq0 : (0 : Int) ≤ (q : Int) := by omega
        obtain ⟨s1, s2, R⟩ := hI.round hS.l.i.ok hq3
        have R := Lib.hid R
        have hso := hI.ops
        have K1 := Lib.hid (fun W A c' (S : WS w W p D cc b s s.wearAt) (hx : RdN W p D A [0]) => S.ends (program_any (A := A) 1 c' (1024 * (q : Int)) [0] (by omega) (by omega) hx rfl (by omega) S.l.i (by omega)))
        rw [R.out.p] at K1
        have hso1 := R.out.o
        have K2 := Lib.hid (fun W (S : WS w W p D cc b s1 s.wearAt) => S.ends (erase_any (q : Int) (by omega) (by omega) S.l.i (by omega)))
        rw [R.out.e] at K2
        have K3 := Lib.hid (fun W g (S : WS w W p D cc b s2 g) => S.ans (read_any (1024 * (q : Int)) 1 (by omega) (by omega) (by omega) (by omega) S.l.i))
        have K4 := Lib.hid (fun W g a x (S : WX w W p D cc b s2 g a x) => S.same (fworn_any (q : Int) S.s.l.i))
        have K5 := Lib.hid (fun W g a x (S : WX w W p D cc b s2 g a x) => S.call (fleft_any (q : Int) S.s.l.i))
        have HS := Lib.hid hS
        have HQ := Lib.hid hq3
        have hwb := hS.l.i.ok.wear_bd q (by omega)
        rw [hI.most] at hwb
        clear hS hI hso hso1
        rcases R.out.c with ⟨c1, c2, c3, c4, c5, c6⟩ | ⟨c1, c2, c3, c4, c5, c6⟩
        · skip
          rw [c2] at K2
          rw [c4] at K3
          rw [c5] at K4
          rw [c6] at K5
          have C3 := Lib.hid c3
          have C3q : Hid (s2.wearAt q = s.wearAt q + 1) := Lib.hid (by have := c3 q; simpa using this)
          clear c2 c3 c4 c5 c6
          go_wp2_with fail
          refine (K1.out _ _ _ (HS.out.alloc _) (RdN.new (cs := #[.int .u8 0]) wr 5 [0] rfl HS.out.l.i.lt HS.out.l.i.ltD)).mono ?_
          clear HS K1
          rintro e w2 ⟨rfl, S⟩
          have S := Lib.hid S
          clear hcx
          go_wp2_with fail
          refine (K2.out _ S.out).mono ?_
          clear S K2
          rintro e w3 ⟨rfl, S⟩
          have S := Lib.hid S
          have hcell := S.out.cell HQ.out
          have hfree := S.out.free q
          have c1' : decide (s.wearAt q < n) = true := by simpa using c1
          go_wp2_with fail
          have S2 := Lib.hid (S.out.up HQ.out C3.out)
          clear S hcell hfree c1'
          refine (K3.out _ _ S2.out).mono ?_
          clear S2 K3
          rintro e w4 ⟨A4, c4, rfl, r4, S⟩
          obtain ⟨gx, ox, rfl, hx⟩ := r4.at_ (k := 0) (by decide)
          have SX : Hid (WX w w4 p D cc b s2 s2.wearAt ⟨gx, ox, none⟩ 255) := Lib.hid ⟨S, hx⟩
          clear S r4 hx
          go_wp2_with fail
          have hwr : IntKind.i64.wrap (n - (s.wearAt q + 1)) = n - (s.wearAt q + 1) := IntWalk.i64_in _ (by omega)
          refine Txt.wp_region_textN 36 (fun W => WX w W p D cc b s2 s2.wearAt ⟨gx, ox, none⟩ 255) (by kernel_rfl) (by kernel_rfl) (by kernel_rfl) (by kernel_rfl) (fun _ _ _ _ _ h => h) SX.out.drew ?_
          clear SX
          repeat (
            apply Txt.step rfl
            · intro W hS K hK
              have q0 := hS.x
              have q1 := hS.s.cell HQ.out
              rw [C3q.out] at q1
              go_simp
              try (go_wp2_with (first
                | (go_at_call 19; refine (K4.out _ _ _ _ hS).mono ?_; rintro e w' ⟨rfl, S⟩; have S := Lib.hid S)
                | (go_at_call 25; refine (K5.out _ _ _ _ hS).mono ?_; rintro e w' ⟨rfl, S⟩; have S := Lib.hid S)))
              first | exact hK.out _ hS | exact hK.out _ S.out
            · first | exact ⟨_, rfl⟩ | exact ⟨undef, rfl⟩)
          refine Txt.last fun W hS => ?_
          have S := Lib.hid hS.s
          clear hS
          clear hwr
          go_wp2_with fail
          refine ⟨⟨k + 1, s2, by go_num, by omega, by omega, R.out.i, S.out⟩, ?_⟩
          show 60 - ((k : Int) + 1).toNat < 60 - ((k : Int)).toNat
          omega
        · skip
          rw [c2] at K2
          rw [c4] at K3
          rw [c5] at K4
          rw [c6] at K5
          have C3 := Lib.hid c3
          have C3q : Hid (s2.wearAt q = s.wearAt q) := Lib.hid (by have := c3 q; simpa using this)
          clear c2 c3 c4 c5 c6
          go_wp2_with fail
          refine (K1.out _ _ _ (HS.out.alloc _) (RdN.new (cs := #[.int .u8 0]) wr 5 [0] rfl HS.out.l.i.lt HS.out.l.i.ltD)).mono ?_
          clear HS K1
          rintro e w2 ⟨rfl, S⟩
          have S := Lib.hid S
          clear hcx
          go_wp2_with fail
          refine (K2.out _ S.out).mono ?_
          clear S K2
          rintro e w3 ⟨rfl, S⟩
          have S := Lib.hid S
          have hcell := S.out.cell HQ.out
          have c1' : decide (s.wearAt q < n) = false := by simp [c1]
          go_wp2_with fail
          have S2 := Lib.hid (S.out.same_g C3.out)
          clear S hcell c1'
          refine (K3.out _ _ S2.out).mono ?_
          clear S2 K3
          rintro e w4 ⟨A4, c4, rfl, r4, S⟩
          obtain ⟨gx, ox, rfl, hx⟩ := r4.at_ (k := 0) (by decide)
          have SX : Hid (WX w w4 p D cc b s2 s2.wearAt ⟨gx, ox, none⟩ 0) := Lib.hid ⟨S, hx⟩
          clear S r4 hx
          go_wp2_with fail
          refine Txt.wp_region_textN 36 (fun W => WX w W p D cc b s2 s2.wearAt ⟨gx, ox, none⟩ 0) (by kernel_rfl) (by kernel_rfl) (by kernel_rfl) (by kernel_rfl) (fun _ _ _ _ _ h => h) SX.out.drew ?_
          clear SX
          repeat (
            apply Txt.step rfl
            · intro W hS K hK
              have q0 := hS.x
              have q1 := hS.s.cell HQ.out
              rw [C3q.out] at q1
              go_simp
              try (go_wp2_with (first
                | (go_at_call 19; refine (K4.out _ _ _ _ hS).mono ?_; rintro e w' ⟨rfl, S⟩; have S := Lib.hid S)
                | (go_at_call 25; refine (K5.out _ _ _ _ hS).mono ?_; rintro e w' ⟨rfl, S⟩; have S := Lib.hid S)))
              first | exact hK.out _ hS | exact hK.out _ S.out
            · first | exact ⟨_, rfl⟩ | exact ⟨undef, rfl⟩)
          refine Txt.last fun W hS => ?_
          have S := Lib.hid hS.s
          clear hS
          go_wp2_with fail
          refine ⟨⟨k + 1, s2, by go_num, by omega, by omega, R.out.i, S.out⟩, ?_⟩
          show 60 - ((k : Int) + 1).toNat < 60 - ((k : Int)).toNat
          omega
      · have S := Lib.hid hS.l.b
        clear hS hI
        go_wp2_with fail
        refine (KN.out _).mono ?_
        rintro e w2 ⟨rfl, b2⟩
        have B := Lib.hid (S.out.trans (b2.mono S.out.size))
        clear b2
        go_wp2_with fail
        go_ret
        exact ⟨rfl, B.out⟩
    · have S := Lib.hid hS.l.b
      clear hS hI
      go_wp2_with fail
      refine (KN.out _).mono ?_
      rintro e w2 ⟨rfl, b2⟩
      have B := Lib.hid (S.out.trans (b2.mono S.out.size))
      clear b2
      go_wp2_with fail
      go_ret
      exact ⟨rfl, B.out⟩
theorem own : ownKnob Try.prog.godebug = none := by kernel_rfl
theorem laidOut : laidOutB Try.prog = true := by kernel_rfl

set_option maxRecDepth 100000 in
theorem lifted (os : Os) (started : os.Started) (H : Type) (enc : TypeId × Value → H) :
    ReturnsInHanded {} Try.checked os 6 .any (Rows.flashWearsSpec.pre6 enc Try.prog Try.f6 Rows.flashWearsRow.domain false) (Rows.flashWearsSpec.post enc Try.prog Try.f6 false true false false) := by
  refine returnsInHanded_of_change (C := Try.checked) own started (by kernel_rfl) Try.func6
    (ChangeSpec.witness6 (enc := enc) (C := Try.checked) false ⟨#[], #[.int .u8 0, .slice none 0 0], []⟩ 8 (by kernel_rfl) (by kernel_rfl) (by kernel_rfl) (by kernel_rfl)) ?_
  intro W base args ds gs before hval0 hW hcnd _
  have hval : ∀ (j : Nat) t v, Try.f6.params[j]? = some t → args[j]? = some v → Value.okWide Try.prog W .any base t v := hval0
  have hW' := hW
  obtain ⟨p, q, hA0, hV, rfl, hfz, hnd⟩ := hW
  have hA : DataW.TrodAll enc Try.prog W 0 (fun _ => true) true Try.f6.params.toList args.toList ds p := hA0
  rw [Try.params6] at hA hval
  obtain ⟨v0, vs0, d0, ds0, p0, q0, hargs, rfl, rfl, h0, r0⟩ := trodAll_cons hA
  obtain ⟨v1, vs1, d1, ds1, p1, q1, rfl, rfl, rfl, h1, r1⟩ := trodAll_cons r0
  obtain ⟨rfl, rfl, rfl⟩ := trodAll_nil r1
  obtain rfl : args = #[v0, v1] := by cases args; simp_all
  obtain ⟨rfl, rfl⟩ := trodVars_none hV
  obtain ⟨a0, rfl, rfl, rfl, w0⟩ := open_int Try.underlying5 (hval 0 5 v0 rfl rfl) h0
  have k1 := h1
  have lt1 : ∀ x ∈ p1, x.block < W.heap.size := by obtain ⟨m, hm⟩ := k1; exact DataW.trod_lt m _ _ _ hm
  obtain ⟨A1, c1, b1, rfl, w1, l1⟩ := Mem.open_bytes Try.underlying22 Try.underlying5 (by kernel_rfl) (hval 1 22 v1 rfl rfl) h1
  clear hA0 hval0
  refine (walk a0 A1 c1 b1 W (Mem.wf_u8 w0) w1 l1).mono fun e W' ⟨he, bel⟩ => ?_
  subst he
  exact ⟨_, rfl, _, _, _, [], _, [], hW', trodAll_mk1 (shut_bool Try.underlying4 _), (trodAll_cons_mk (shut_int Try.underlying5 w0) (trodAll_cons_mk (Below.trod laidOut (by kernel_rfl) (of_decide_eq_true (by kernel_rfl)) k1 bel lt1) trodAll_mk0)), rfl, bel.frame _, fun h => by cases h⟩

theorem over : Rows.flashWearsRow.holds Try.pinned (OpenSpec.ofChange Rows.flashWearsSpec) :=
  OpenClaim.holds_of_wide 6 Try.f6 rfl rfl rfl rfl rfl rfl rfl ⟨rfl, rfl, rfl, rfl, rfl⟩ rfl rfl rfl rfl rfl (by kernel_rfl) Try.func6 (by kernel_rfl)
    (of_decide_eq_true (by kernel_rfl)) (by unfold Func.isWrapper; first | (rw [if_pos (by decide +kernel)]; kernel_rfl) | (rw [if_neg (by decide +kernel)]; exact ⟨rfl, rfl⟩))
    (fun os started H enc _ => lifted os started H enc)

/-- The given statement. -/
theorem proved : Rows.FlashWearsSaid := over

end Go.Proofs.Ytofhkecdgpbigaa.flashWears
