/-
  The document's Take and List.
-/
import Derived.Test.YticlncdkcfdimaaTxqRFirst
import Derived.Test.YticlncdkcfdimaaTxqRTake
namespace Go.Proofs.Yticlncdkcfdimaa
namespace Txq
open Go.RowKit Mem Frm
set_option linter.unusedVariables false
set_option linter.unusedSimpArgs false
set_option maxRecDepth 100000

section
variable {W W' : World} {r : Nat} {K : Nat → Prop} {v : Value} {fs : List Fv} {room lost : Nat} {sp : Bool}
set_option maxHeartbeats 1000000 in
theorem rtake_none (hq : IsR W r K v [] room lost sp) :
    Calls Try.prog 17 #[at_ r] W fun e w' => e = .returned (.tuple #[zeroF, .bool false]) ∧ Below W.heap.size W w' := by
  have O1 := Lib.hid (One.start W (.int .i64 0) (.bool false) (.slice none 0 0))
  obtain ⟨A, c, rfl, _⟩ := hq.rdf
  have c1 := (O1.out.toR hq).c1
  clear hq
  go_enter Try.func17, Try.ntmps17
  obtain ⟨x0, x1, x2, xf⟩ := cell3 O1.out.box
  go_wp2_with fail
  (try simp only [Exit.inBlock, Exit.then])
  refine bodyPost_ret (results_row2 rfl _ _ W.heap.size _ _ _ _ rfl O1.out.box Try.underlying34 rfl size_frm) rfl ⟨rfl, O1.out.b⟩
/-- What Take ends with when there is one. -/
def ROut (W : World) (r : Nat) (K : Nat → Prop) (fs : List Fv) (room lost : Nat) (sp : Bool) (e : Ending) (w' : World) : Prop :=
  ∃ (k : Nat) (v' : Value), e = .returned (.tuple #[frm (fs.getD k Fv.zero).id (fs.getD k Fv.zero).r (.slice (fs.getD k Fv.zero).A (fs.getD k Fv.zero).d.length (fs.getD k Fv.zero).c), .bool true]) ∧ First key (fs.map Fv.fr) fs.length k ∧
    RdB (fun g => g < W.heap.size) w' (fs.getD k Fv.zero).A (fs.getD k Fv.zero).d ∧ IsR w' r K v' (fs.take k ++ fs.drop (k + 1)) room lost sp ∧ (∀ g, v'.ownBlock = some g → W.heap.size ≤ g) ∧ Ch r none W w'

set_option maxHeartbeats 4000000 in
theorem rtake_one (hq : IsR W r K v fs room lost sp) (hK : ∀ g, K g → g < W.heap.size) (h0 : 0 < fs.length) :
    Calls Try.prog 17 #[at_ r] W (ROut W r K fs room lost sp) := by
  have HQ := Lib.hid hq
  have n64 : fs.length ≤ 64 := by have := hq.len; have := hq.r64; omega
  obtain ⟨A, c, rfl, hcap, hcm, hat, hrd⟩ := hq.rdf
  obtain ⟨g, rfl⟩ : ∃ g, A = some ⟨g, 0, none⟩ := by
    rcases hat with ⟨h, h'⟩ | h
    · omega
    · exact h
  have O1 := Lib.hid (One.start W (.int .i64 0) (.bool false) (.slice none 0 0))
  have RF := Lib.hid (fun W' (b : Below W.heap.size W W') => (hrd.below b).mono b.size)
  have FI := Lib.hid (fun W' (b : Below W.heap.size W W') => rfirst_any (some ⟨g, 0, none⟩) c fs W' (RF.out W' b) n64 h0)
  have WI := Lib.hid (fun k hk W' (b : Below W.heap.size W W') => rwithout_any g c fs k hk W' (RF.out W' b) n64 hcap hcm)
  have KEEP := Lib.hid (fun W' (b : Below W.heap.size W W') => (hq.below b).c1)
  have HS := Lib.hid hq.lt
  have c1 := KEEP.out _ O1.out.b
  have ln : ((fs.length : Int) == 0) = false := beq_eq_false_iff_ne.2 (by omega)
  clear hq hrd hat
  unfold maxLen at hcm
  go_enter Try.func17, Try.ntmps17
  go_wp2_with fail
  refine (FI.out _ O1.out.b).mono ?_
  rintro e w1 ⟨k, rfl, hF, b1⟩
  have hk : k < fs.length := hF.1
  have HF := Lib.hid hF
  have O2 := Lib.hid (O1.out.next b1)
  have c2 := KEEP.out _ O2.out.b
  obtain ⟨g', off, hA, hg, q0, q1, q2, _⟩ := (RF.out _ O2.out.b).three hk rfl
  injection hA with hA
  injection hA with hA hA2
  subst hA
  subst hA2
  simp only [Nat.zero_add] at q0 q1 q2
  have i0 : (0 : Int) ≤ (k : Int) := by omega
  have i1 : (k : Int) < (fs.length : Int) := by omega
  unfold ROut
  have DT := Lib.hid (HQ.out.data (fs.getD k Fv.zero) (getD_mem hk))
  generalize hFk : fs.getD k Fv.zero = F at *
  have S2 := One.start w1 (.int .i64 F.id) (.bool F.r) (.slice F.A F.d.length F.c)
  have O3 := Lib.hid (O2.out.next S2.b)
  have c3 := KEEP.out _ O3.out.b
  have T3 := Lib.hid S2.box
  have L3 := Lib.hid (show W.heap.size < w1.heap.size from lt_of O2.out.box)
  clear S2 hF b1 O1 c1
  go_wp2_with fail
  refine (WI.out k hk _ O3.out.b).mono ?_
  rintro e w3 ⟨v3, rfl, o3, b3⟩
  have HFk := Lib.hid hFk
  have O4 := Lib.hid (O3.out.next b3)
  have hf := (O4.out.toR HQ.out).free 1
  have cp := KEEP.out _ O4.out.b
  have hKp := Lib.hid (show IsR W r (fun g => K g ∨ g = W.heap.size) _ fs room lost sp from HQ.out.keep (Nat.le_refl _) (fun _ _ _ => rfl) (fun g hg h => h.elim id (fun e => by omega)))
  have lo : ∀ q, v3.ownBlock = some q → W.heap.size + 1 ≤ q := fun q hq => Nat.le_trans (lt_of O3.out.box) (o3.lt q hq).1
  have Q4 := Lib.hid (hKp.out.row (w := w3) (O4.out.b.block r HS.out) O4.out.b.size (v' := v3) (fs' := fs.take k ++ fs.drop (k + 1)) (own_keep ⟨o3.1, o3.2.imp id (fun ⟨g, cap, cur, a, b, d⟩ => ⟨g, cap, cur, a, Nat.zero_le _, d⟩)⟩ (fun _ _ => rfl)) (M := W.heap.size + 1) (by omega) (fun q hq => .inr (lo q hq)) (fun q h => h.elim (fun h => by have := hK q h; omega) (fun h => by omega)) (fun f hf => by
      have hm : f ∈ fs := (List.mem_append.1 hf).elim List.mem_of_mem_take List.mem_of_mem_drop
      refine ((hKp.out.data f hm).keep fun q hq => O4.out.b.block q hq.1).mono fun q hq => ⟨Nat.lt_of_lt_of_le hq.1 O4.out.b.size, fun n => ?_⟩
      rcases n with n | n | n
      · exact hq.2 (.inl n)
      · exact hq.2 (.inr (.inl n))
      · have := lo q n; have := hq.1; omega) (fun f hf => HQ.out.ok f ((List.mem_append.1 hf).elim List.mem_of_mem_take List.mem_of_mem_drop)) (by have := HQ.out.len; simp; omega))
  have LO := Lib.hid lo
  obtain ⟨A3, c3', rfl⟩ := row_form o3 rfl
  have T4 := Lib.hid ((b3.block _ (lt_of T3.out)).trans T3.out)
  have hpn : r ≠ w1.heap.size := by have := L3.out; have := HS.out; omega
  have hpw : r ≠ W.heap.size := by have := HS.out; omega
  have T5 := Lib.hid ((Below.heap_setCell w3 ⟨r, 1, none⟩ (.slice A3 (fs.take k ++ fs.drop (k + 1)).length c3') w1.heap.size hpn.symm).trans T4.out)
  have R5 := Lib.hid ((Below.heap_setCell w3 ⟨r, 1, none⟩ (.slice A3 (fs.take k ++ fs.drop (k + 1)).length c3') W.heap.size hpw.symm).trans O4.out.box)
  have C5 := Lib.hid (((Ch.refl r none W).next O4.out.b).set 1 (.slice A3 (fs.take k ++ fs.drop (k + 1)).length c3'))
  clear o3 b3 c2 c3 T3 T4 O4 lo q0 q1 q2 hFk
  obtain ⟨z0, z1, z2, _⟩ := cell3 T5.out
  obtain ⟨u0, u1, u2, uf⟩ := cell3 R5.out
  have R := Lib.hid (set3 R5.out (.int .i64 F.id) (.bool F.r) (.slice F.A F.d.length F.c))
  have X3 := fun (w : World) (x y z : Value) => (Ch.set (Ch.set (Ch.set (Ch.refl W.heap.size none w) 0 x) 1 y) 2 z : Ch W.heap.size none w _)
  have X := Lib.hid (X3 (w3.setCell ⟨r, 1, none⟩ (.slice A3 (fs.take k ++ fs.drop (k + 1)).length c3')) (.int .i64 F.id) (.bool F.r) (.slice F.A F.d.length F.c))
  have QF := Lib.hid (Q4.out.keep (K' := K) X.out.size (fun q hq hn => X.out.block q hq (fun e => hn (.inr e)) (by simp)) (fun _ _ h => .inl h))
  have CF := Lib.hid (show Ch r none W _ from ⟨X.out.os.trans C5.out.os, X.out.tape.trans C5.out.tape, X.out.output.trans C5.out.output, Nat.le_trans C5.out.size X.out.size, fun q hq h3 h4 => (X.out.block q (Nat.lt_of_lt_of_le hq C5.out.size) (by omega) (by simp)).trans (C5.out.block q hq h3 h4)⟩)
  have DF := Lib.hid ((DT.out.keep fun q hq => CF.out.block q hq.1 (fun e => hq.2 (.inr (.inl e))) (by simp)).mono (G' := fun q => q < W.heap.size) fun q hq => hq.1)
  clear X3 Q4 hKp
  generalize hm : (fs.take k ++ fs.drop (k + 1)).length = m at *
  go_wp2_with fail
  (try simp only [Exit.inBlock, Exit.then])
  refine bodyPost_ret (results_row2 rfl _ _ W.heap.size _ _ _ _ rfl R.out Try.underlying34 rfl size_frm) rfl ⟨k, _, ?_, HF.out, ?_, QF.out, fun q hq => by have := LO.out q hq; omega, CF.out⟩
  · rw [HFk.out]
    rfl
  · rw [HFk.out]
    exact DF.out
end
end Txq
end Go.Proofs.Yticlncdkcfdimaa
