/-
  What read and Parse of package frame do.
-/
import Derived.Test.YtkkbjngjjeajoaaFrmRShow
import Derived.Laws.Rows
namespace Go.Proofs.Ytkkbjngjjeajoaa
namespace Frm
open Go.RowKit Mem
set_option linter.unusedVariables false
set_option linter.unusedSimpArgs false
set_option maxRecDepth 100000

theorem cut_split (l : List UInt8) (c : UInt8) (h : l.contains c = true) : l = cutL l c ++ c :: cutR l c := by
  induction l with
  | nil => simp at h
  | cons b l ih =>
    unfold cutL cutR at *
    by_cases e : b = c
    · subst e
      simp
    · have hn : (b != c) = true := by simpa using e
      have hc : (c == b) = false := by simpa using fun e' => e e'.symm
      simp only [List.contains_cons, hc, Bool.false_or] at h
      simp only [List.takeWhile_cons, List.dropWhile_cons, hn, if_true, List.cons_append]
      rw [← ih h]
theorem cutL_append (a : List UInt8) (c : UInt8) (r : List UInt8) (h : ∀ x ∈ a, x ≠ c) : cutL (a ++ c :: r) c = a ∧ cutR (a ++ c :: r) c = r ∧ (a ++ c :: r).contains c = true := by
  unfold cutL cutR
  induction a with
  | nil => simp
  | cons b a ih =>
    have hb : (b != c) = true := by simpa using h b (by simp)
    have := ih (fun x hx => h x (by simp [hx]))
    simp only [List.cons_append, List.takeWhile_cons, List.dropWhile_cons, hb, if_true, List.contains_cons]
    exact ⟨by rw [this.1], this.2.1, by rw [this.2.2]; simp⟩
theorem head_cut (l : List UInt8) : isHead l = (l.contains 35 && isId (cutL l 35)) ∧ (isHead l = true → cutR l 35 = l.drop 4 ∧ idV (cutL l 35) = idV l) := by
  have key : isHead l = true → l.contains 35 = true ∧ cutL l 35 = l.take 3 ∧ cutR l 35 = l.drop 4 := by
    intro h
    obtain ⟨h4, h3, hi⟩ := isHead_yes h
    obtain ⟨_, d0, d1, d2⟩ := isId_yes hi
    match l, h4, h3, d0, d1, d2 with
    | a :: b :: c :: e :: r, _, h3, d0, d1, d2 =>
      have he : e = 35 := UInt8.toNat_inj.1 (show e.toNat = 35 by simp [byt] at h3; omega)
      subst he
      have n0 : ∀ x : UInt8, Oct.digB ((x.toNat : Nat) : Int) = true → x ≠ 35 := fun x hx e => by subst e; revert hx; decide
      have := cutL_append [a, b, c] 35 r (fun x hx => by
        simp at hx
        rcases hx with rfl | rfl | rfl
        · exact n0 _ (by simpa [byt] using d0)
        · exact n0 _ (by simpa [byt] using d1)
        · exact n0 _ (by simpa [byt] using d2))
      exact ⟨this.2.2, this.1, this.2.1⟩
  refine ⟨?_, fun h => ⟨(key h).2.2, by rw [(key h).2.1, idV_take]⟩⟩
  by_cases h : isHead l = true
  · rw [h, (key h).1, (key h).2.1, (isHead_yes h).2.2]
    rfl
  · have hf : isHead l = false := by simpa using h
    rw [hf]
    cases hc : l.contains 35 with
    | false => rfl
    | true =>
      cases hi : isId (cutL l 35) with
      | false => rfl
      | true =>
        exfalso
        apply h
        have h3 := (isId_yes hi).1
        have hs := cut_split l 35 hc
        have e3 : l.take 3 = cutL l 35 := by
          rcases index_in l 35 with ⟨_, _, _, h4, _⟩ | ⟨hf, _⟩
          · rw [h3] at h4
            exact h4
          · rw [hc] at hf
            cases hf
        have e4 : l[3]? = some 35 := by
          rw [hs, List.getElem?_append_right (by omega), h3]
          rfl
        have e5 : l.length = 4 + (cutR l 35).length := by
          conv => lhs; rw [hs]
          simp
          omega
        unfold isHead
        rw [e3, hi]
        simp [byt, List.getD_eq_getElem?_getD, e4]
        omega

set_option maxHeartbeats 400000 in
theorem cut_any (l : List UInt8) (c : UInt8) (w : World) (hl : l.length ≤ 1099511627776) :
    Calls Try.prog 68 #[.string ⟨l.toArray⟩, .string ⟨#[c]⟩] w fun e w' => e = .returned (.tuple #[.string ⟨(cutL l c).toArray⟩, .string ⟨(cutR l c).toArray⟩, .bool (l.contains c)]) ∧ ∃ n, w' = w.drewN n := by
  have K := Lib.hid (fun W => cut0_any l c W hl)
  unfold cutV at K
  generalize cutL l c = a at *
  generalize cutR l c = b at *
  generalize l.contains c = f at *
  go_enter Try.func68, Try.ntmps68
  go_wp2_with (go_at_call 95; refine (K.out _).mono ?_; rintro e w' ⟨rfl, n, rfl⟩)
  go_ret3
  exact ⟨rfl, n, rfl⟩

theorem readId_all (l : List UInt8) (w : World) (hle : l.length ≤ 1099511627776) :
    Calls Try.prog 91 #[.string ⟨l.toArray⟩] w fun e w' => ∃ x, e = .returned (.tuple #[.int .i64 x, .bool (isId l)]) ∧ (isId l = true → x = idV l) ∧ Below w.heap.size w w' := by
  by_cases h : l.length = 3
  · refine (readId_any l w h).mono ?_
    rintro e w' ⟨rfl, b⟩
    exact ⟨_, rfl, fun h => by rw [if_pos h], b⟩
  · refine (readId_len l w h hle).mono ?_
    rintro e w' ⟨rfl, rfl⟩
    have hf : isId l = false := by unfold isId; simp [h]
    exact ⟨0, by rw [hf], fun h => by rw [hf] at h; simp at h, Below.refl _ _⟩

/-- What a call returns whose first result, a struct, lives in memory. -/
theorem results_row2 {P : Program} {fn : Func} {p u : Tmp} {ty : TypeId} (h : fn.results = #[.cell p ty, .tmp u]) (tmps : Array Value) (w : World) (g : Nat) (t : TypeId) (cs : Array Value) (fr : Nat × Nat) (d : TypeDesc)
    (hp : tmps.getD p undef = .pointer (some ⟨g, 0, none⟩)) (hg : w.heap[g]? = some (.cells cs t fr))
    (hu : P.underlying ty = some d) (hd : (match d with | .struct _ | .array _ _ => true | _ => false) = true) (hi : (P.info? ty).map (·.size) = some cs.size) :
    (results fn tmps).run P w = .ok (.tuple #[.agg cs, tmps.getD u undef]) w := by
  have hp' : tmps[p]?.getD undef = .pointer (some ⟨g, 0, none⟩) := by simpa using hp
  simp [results, h, hp', asAddr, run_loadVar_row w g t ty cs fr d hg hu hd hi, Result.andThen]
theorem size_frm : (Try.prog.info? 50).map (·.size) = some 3 := by kernel_rfl
def put3 (w : World) (g : Nat) (a b c : Value) : World := ((w.setCell ⟨g, 0, none⟩ a).setCell ⟨g, 1, none⟩ b).setCell ⟨g, 2, none⟩ c
/-- Block g, at or above w's end, is a frame's. -/
structure Row (w W : World) (g : Nat) (x y z : Value) : Prop where
  r : W.heap[g]? = some (.cells #[x, y, z] 50)
  b : Below w.heap.size w W
  l : w.heap.size ≤ g
theorem Row.new (w : World) (x y z : Value) : Row w (w.alloc (.cells #[x, y, z] 50)) w.heap.size x y z := ⟨one_new _ _, one_below _ _, Nat.le_refl _⟩
theorem Row.lt {w W : World} {g : Nat} {x y z : Value} (h : Row w W g x y z) : g < W.heap.size := (Array.getElem?_eq_some_iff.1 h.r).1
theorem Row.below {w W W' : World} {g : Nat} {x y z : Value} (h : Row w W g x y z) (b : Below W.heap.size W W') : Row w W' g x y z :=
  ⟨(b.block _ h.lt).trans h.r, h.b.trans (b.mono h.b.size), h.l⟩
theorem Row.drewN {w W : World} {g : Nat} {x y z : Value} (h : Row w W g x y z) (n : Nat) : Row w (W.drewN n) g x y z := ⟨h.r, below_drewN h.b n, h.l⟩
theorem Row.put {w W : World} {g : Nat} {x y z : Value} (h : Row w W g x y z) (x' y' z' : Value) : Row w (put3 W g x' y' z') g x' y' z' :=
  ⟨heap_setCell_same _ g 2 _ _ _ (heap_setCell_same _ g 1 _ _ _ (heap_setCell_same _ g 0 _ _ _ h.r)), ((h.b.setCell h.l _).setCell h.l _).setCell h.l _, h.l⟩
theorem put3_other (W : World) (g k : Nat) (x y z : Value) (h : k ≠ g) : (put3 W g x y z).heap[k]? = W.heap[k]? := by
  unfold put3
  rw [heap_setCell_other _ _ _ _ h, heap_setCell_other _ _ _ _ h, heap_setCell_other _ _ _ _ h]
theorem put3_size (W : World) (g : Nat) (x y z : Value) : (put3 W g x y z).heap.size = W.heap.size := by simp [put3, World.setCell]
theorem ownPut {W : World} {b g : Nat} {e : TypeId} {v : Value} {d : List UInt8} (o : Own W b e v d) (h : g < b) {b' : Nat} (hb : b' ≤ b) (x y z : Value) : Own (put3 W g x y z) b' e v d := by
  refine ⟨o.1, ?_⟩
  rcases o.2 with h1 | ⟨g1, cap, cur, hu, hg1, hh, hr⟩
  · exact .inl h1
  · exact .inr ⟨g1, cap, cur, hu, by omega, (put3_other W g g1 x y z (by omega)).trans hh, hr⟩
theorem fro (w : World) (g j : Nat) (t : TypeId) (cs : Array Value) (h : w.heap[g]? = some (.cells cs t)) : w.frozen? ⟨g, j, none⟩ = false := frozen_of_row _ _ _ _ _ h

/-- What read ends with. -/
def ReadEnds (w : World) (l : List UInt8) (e : Ending) (w' : World) : Prop :=
  ∃ i r v d, e = .returned (.tuple #[frm i r v, .int .i64 (readA l).2]) ∧ Own w' w.heap.size 5 v d ∧ -9223372036854775808 ≤ i ∧ i ≤ 9223372036854775807 ∧ ((readA l).2 = 0 → (readA l).1 = ⟨i, r, d⟩) ∧ Below w.heap.size w w'
theorem readA_not {l : List UInt8} (h : isHead l = false) : (readA l).2 = 4 := by unfold readA; rw [h]; rfl
theorem readA_rem {l : List UInt8} (h : isHead l = true) (h2 : l.drop 4 = [82]) : readA l = (⟨idV l, true, []⟩, 0) := by unfold readA; rw [if_pos h, if_pos h2]
theorem readA_dat {l : List UInt8} (h : isHead l = true) (h2 : l.drop 4 ≠ [82]) : (readA l).2 = (Oct.unhexA (l.drop 4)).2 ∧ ((readA l).2 = 0 → (readA l).1 = ⟨idV l, false, (Oct.unhexA (l.drop 4)).1⟩) := by
  unfold readA Oct.unhexA
  rw [if_pos h, if_neg h2]
  cases Oct.unhex (l.drop 4) with
  | none => exact ⟨rfl, fun h => by simp at h⟩
  | some bs => exact ⟨rfl, fun _ => rfl⟩

set_option maxHeartbeats 1000000 in
theorem read_any (l : List UInt8) (w : World) (hle : l.length ≤ 1099511627776) :
    Calls Try.prog 64 #[.string ⟨l.toArray⟩] w (ReadEnds w l) := by
  have hcl : (cutL l 35).length ≤ 1099511627776 := by
    have := (List.takeWhile_prefix (fun x : UInt8 => x != 35) (l := l)).length_le
    unfold cutL
    omega
  have CU := Lib.hid (fun W => cut_any l 35 W hle)
  have RI := Lib.hid (fun W => readId_all (cutL l 35) W hcl)
  have RN := Lib.hid (Row.new w (.int .i64 0) (.bool false) (.slice none 0 0))
  by_cases hh : isHead l = true
  · obtain ⟨hr, hv⟩ := (head_cut l).2 hh
    have hbb : l.contains 35 = true ∧ isId (cutL l 35) = true := by simpa [hh] using (head_cut l).1.symm
    rw [hr, hbb.1] at CU
    rw [hbb.2, hv] at RI
    have hb := idV_bd hbb.2
    rw [hv] at hb
    clear hr hv hbb
    by_cases h82 : l.drop 4 = [82]
    · have RA := Lib.hid (readA_rem hh h82)
      rw [h82] at CU
      generalize cutL l 35 = L at *
      clear h82 hh
      go_enter Try.func64, Try.ntmps64
      go_wp2_with fail
      refine (CU.out _).mono ?_
      rintro e w1 ⟨rfl, n, rfl⟩
      go_wp2_with fail
      refine (RI.out _).mono ?_
      rintro e w2 ⟨x, rfl, hx, b2⟩
      obtain rfl := hx trivial
      have R2 := Lib.hid ((RN.out.drewN n).below b2)
      have q0 := cellof R2.out.r 0
      have q1 := cellof R2.out.r 1
      have q2 := cellof R2.out.r 2
      have f0 := fro _ _ 0 _ _ R2.out.r
      have f1 := fro _ _ 1 _ _ R2.out.r
      have f2 := fro _ _ 2 _ _ R2.out.r
      clear b2
      go_wp2_with fail
      refine bodyPost_ret (results_row2 rfl _ _ w.heap.size _ #[.int .i64 (idV l), .bool true, .slice none 0 0] _ _ rfl (R2.out.put _ _ _).r Try.underlying50 rfl size_frm) rfl ?_
      exact ⟨idV l, true, .slice none 0 0, [], by rw [RA.out]; rfl, Own.nil _ _ _, by omega, by omega, fun _ => by rw [RA.out], (R2.out.put _ _ _).b⟩
    · obtain ⟨d1, d2⟩ := readA_dat hh h82
      have D1 := Lib.hid d1
      have D2 := Lib.hid d2
      have hd4 : (l.drop 4).length ≤ 1099511627776 := by simp; omega
      have UX := Lib.hid (fun W => unhex_any (l.drop 4) W hd4)
      have hne : (l.drop 4 == [82]) = false := by simpa using h82
      generalize cutL l 35 = L at *
      generalize l.drop 4 = T at *
      clear h82 hh d1 d2
      go_enter Try.func64, Try.ntmps64
      go_wp2_with fail
      refine (CU.out _).mono ?_
      rintro e w1 ⟨rfl, n, rfl⟩
      go_wp2_with fail
      refine (RI.out _).mono ?_
      rintro e w2 ⟨x, rfl, hx, b2⟩
      obtain rfl := hx trivial
      have R2 := Lib.hid ((RN.out.drewN n).below b2)
      clear b2
      go_wp2_with fail
      refine (UX.out _).mono ?_
      rintro e w3 hans
      obtain ⟨v3, rfl, o3, b3⟩ := undone_ans hans
      have R3 := Lib.hid (R2.out.below b3)
      have HL := Lib.hid R2.out.lt
      have HM := Lib.hid R2.out.b.size
      have q0 := cellof R3.out.r 0
      have q1 := cellof R3.out.r 1
      have q2 := cellof R3.out.r 2
      have f0 := fro _ _ 0 _ _ R3.out.r
      have f1 := fro _ _ 1 _ _ R3.out.r
      have f2 := fro _ _ 2 _ _ R3.out.r
      obtain ⟨A3, c3, hv3, _⟩ := o3.form
      have O3 := Lib.hid o3
      subst hv3
      rw [← D1.out]
      clear b3 hans o3
      generalize (Oct.unhexA T).1 = X at *
      go_wp2_with fail
      refine bodyPost_ret (results_row2 rfl _ _ w.heap.size _ #[.int .i64 (idV l), .bool false, .slice A3 X.length c3] _ _ rfl (R3.out.put _ _ _).r Try.underlying50 rfl size_frm) rfl ?_
      exact ⟨idV l, false, .slice A3 X.length c3, X, rfl, ownPut O3.out HL.out HM.out _ _ _, by omega, by omega, D2.out, (R3.out.put _ _ _).b⟩
  · have hf : isHead l = false := by simpa using hh
    have RA := Lib.hid (readA_not hf)
    have hbb : (l.contains 35 && isId (cutL l 35)) = false := by rw [← (head_cut l).1, hf]
    generalize l.contains 35 = bc at *
    generalize isId (cutL l 35) = bi at *
    clear hh hf
    cases bc <;> cases bi
    all_goals first | (simp at hbb; done) | skip
    all_goals
      go_enter Try.func64, Try.ntmps64
      go_wp2_with fail
      refine (CU.out _).mono ?_
      rintro e w1 ⟨rfl, n, rfl⟩
      go_wp2_with fail
      refine (RI.out _).mono ?_
      rintro e w2 ⟨x, rfl, hx, b2⟩
      have R2 := Lib.hid ((RN.out.drewN n).below b2)
      have q0 := cellof R2.out.r 0
      have q1 := cellof R2.out.r 1
      have q2 := cellof R2.out.r 2
      have f0 := fro _ _ 0 _ _ R2.out.r
      have f1 := fro _ _ 1 _ _ R2.out.r
      have f2 := fro _ _ 2 _ _ R2.out.r
      clear b2 hx
      go_wp2_with fail
      refine bodyPost_ret (results_row2 rfl _ _ w.heap.size _ #[.int .i64 0, .bool false, .slice none 0 0] _ _ rfl (R2.out.put _ _ _).r Try.underlying50 rfl size_frm) rfl ?_
      exact ⟨0, false, .slice none 0 0, [], by rw [RA.out]; rfl, Own.nil _ _ _, by omega, by omega, fun h => absurd h (by rw [RA.out]; decide), (R2.out.put _ _ _).b⟩
/-- What Parse ends with. -/
def ParseEnds (w : World) (a : Fr × Int) (e : Ending) (w' : World) : Prop :=
  ∃ v, e = .returned (.tuple #[frm a.1.id a.1.r v, .int .i64 a.2]) ∧ Own w' w.heap.size 5 v a.1.d ∧ Below w.heap.size w w'
theorem parseA_form {l : List UInt8} (h : (readA l).2 ≠ 0) : parseA l = (Fr.zero, (readA l).2) := by unfold parseA; rw [if_neg h]
theorem parseA_err {l : List UInt8} {i : Int} {r : Bool} {d : List UInt8} (h : (readA l).2 = 0) (h1 : (readA l).1 = ⟨i, r, d⟩) (h2 : err i r d.length ≠ 0) : parseA l = (Fr.zero, err i r d.length) := by
  unfold parseA; rw [if_pos h, h1, if_neg (show ¬ Fr.err ⟨i, r, d⟩ = 0 from h2)]; rfl
theorem parseA_ok {l : List UInt8} {i : Int} {r : Bool} {d : List UInt8} (h : (readA l).2 = 0) (h1 : (readA l).1 = ⟨i, r, d⟩) (h2 : err i r d.length = 0) : parseA l = (⟨i, r, d⟩, 0) := by
  unfold parseA; rw [if_pos h, h1, if_pos (show Fr.err ⟨i, r, d⟩ = 0 from h2)]

set_option maxHeartbeats 1000000 in
theorem parse_any (l : List UInt8) (w : World) (hle : l.length ≤ 1099511627776) :
    Calls Try.prog 30 #[.string ⟨l.toArray⟩] w (ParseEnds w (parseA l)) := by
  have RD := Lib.hid (fun W => read_any l W hle)
  have RN := Lib.hid (Row.new w (.int .i64 0) (.bool false) (.slice none 0 0))
  rcases readA_cases l with h0 | h4
  · go_enter Try.func30, Try.ntmps30
    go_wp2_with fail
    refine (RD.out _).mono ?_
    rintro e w1 ⟨i, r, v, d, rfl, o1, i1, i2, hrd, b1⟩
    rw [h0]
    have hq := hrd h0
    have R1 := Lib.hid (RN.out.below b1)
    have HB := Lib.hid (show w.heap.size ≤ (w.alloc (Obj.cells #[Value.int IntKind.i64 0, Value.bool false, Value.slice none 0 0] 50)).heap.size by simp)
    obtain ⟨A, c, rfl, rd1⟩ := o1.form
    have HLe := Lib.hid (show d.length ≤ 1099511627776 by have := read_len l; rw [hq] at this; exact Nat.le_trans this hle)
    have CK := Lib.hid (fun W => check_any i r A d.length c W i1 i2 (by have := HLe.out; omega))
    have KN := Lib.hid (fun h2 => parseA_err (l := l) h0 hq h2)
    have KY := Lib.hid (fun h2 => parseA_ok (l := l) h0 hq h2)
    have RW := Lib.hid (Row.new w1 (.int .i64 i) (.bool r) (.slice A d.length c))
    have O1 := Lib.hid o1
    have HLT := Lib.hid (show w.heap.size < w1.heap.size from R1.out.lt)
    clear o1 hrd b1 rd1 hq h0
    go_wp2_with fail
    refine (CK.out _).mono ?_
    rintro e w2 ⟨rfl, b2⟩
    have B2 := Lib.hid ((one_below w1 _).trans (b2.mono (one_below w1 _).size))
    have R2 := Lib.hid (R1.out.below B2.out)
    have RW2 := Lib.hid (RW.out.below b2)
    have O2 := Lib.hid (O1.out.below B2.out (Nat.le_refl _))
    have HL2 := Lib.hid (Nat.lt_of_lt_of_le HLT.out B2.out.size)
    have q0 := cellof R2.out.r 0
    have q1 := cellof R2.out.r 1
    have q2 := cellof R2.out.r 2
    have f0 := fro _ _ 0 _ _ R2.out.r
    have f1 := fro _ _ 1 _ _ R2.out.r
    have f2 := fro _ _ 2 _ _ R2.out.r
    have u0 := cellof RW2.out.r 0
    have u1 := cellof RW2.out.r 1
    have u2 := cellof RW2.out.r 2
    clear b2
    by_cases he : err i r d.length = 0
    · have Y := Lib.hid (KY.out he)
      rw [he]
      clear he
      go_wp2_with fail
      refine bodyPost_ret (results_row2 rfl _ _ w.heap.size _ #[.int .i64 i, .bool r, .slice A d.length c] _ _ rfl (R2.out.put _ _ _).r Try.underlying50 rfl size_frm) rfl ?_
      rw [Y.out]
      exact ⟨.slice A d.length c, rfl, ownPut O2.out (by have := HLT.out; simp) HB.out _ _ _, (R2.out.put _ _ _).b⟩
    · have Y := Lib.hid (KN.out he)
      have he' : (err i r d.length != 0) = true := by simp [he]
      generalize err i r d.length = E at *
      clear he
      go_wp2_with fail
      refine bodyPost_ret (results_row2 rfl _ _ w.heap.size _ #[.int .i64 0, .bool false, .slice none 0 0] _ _ rfl (R2.out.put _ _ _).r Try.underlying50 rfl size_frm) rfl ?_
      rw [Y.out]
      exact ⟨.slice none 0 0, rfl, Own.nil _ _ _, (R2.out.put _ _ _).b⟩
  · have Y := Lib.hid (parseA_form (l := l) (by rw [h4]; decide))
    rw [h4] at Y
    go_enter Try.func30, Try.ntmps30
    go_wp2_with fail
    refine (RD.out _).mono ?_
    rintro e w1 ⟨i, r, v, d, rfl, o1, i1, i2, hrd, b1⟩
    rw [h4]
    have R1 := Lib.hid (RN.out.below b1)
    have RW := Lib.hid (one_below w1 (Obj.cells #[.int .i64 i, .bool r, v] 50))
    have R2 := Lib.hid (R1.out.below RW.out)
    have q0 := cellof R2.out.r 0
    have q1 := cellof R2.out.r 1
    have q2 := cellof R2.out.r 2
    have f0 := fro _ _ 0 _ _ R2.out.r
    have f1 := fro _ _ 1 _ _ R2.out.r
    have f2 := fro _ _ 2 _ _ R2.out.r
    obtain ⟨A, c, rfl, rd1⟩ := o1.form
    clear o1 hrd b1 rd1 h4
    go_wp2_with fail
    refine bodyPost_ret (results_row2 rfl _ _ w.heap.size _ #[.int .i64 0, .bool false, .slice none 0 0] _ _ rfl (R2.out.put _ _ _).r Try.underlying50 rfl size_frm) rfl ?_
    rw [Y.out]
    exact ⟨.slice none 0 0, rfl, Own.nil _ _ _, (R2.out.put _ _ _).b⟩
end Frm
end Go.Proofs.Ytkkbjngjjeajoaa
