/-
  The document's first.
-/
import Derived.Test.YticlncdkcfdimaaTxqRPut
namespace Go.Proofs.Yticlncdkcfdimaa
namespace Txq
open Go.RowKit Mem Frm
set_option linter.unusedVariables false
set_option linter.unusedSimpArgs false
set_option maxRecDepth 100000

/-- What first ends with. -/
def FirstEnds (w : World) (fs : List Fv) (e : Ending) (w' : World) : Prop := ∃ k : Nat, e = .returned (.int .i64 (k : Int)) ∧ First key (fs.map Fv.fr) fs.length k ∧ Below w.heap.size w w'
theorem fr_get {fs : List Fv} {j : Nat} (h : j < fs.length) : (fs.map Fv.fr)[j]'(by simpa using h) = (fs.getD j Fv.zero).fr := by
  simp [List.getD_eq_getElem?_getD, h]

set_option maxHeartbeats 2000000 in
theorem rfirst_any (A : Option Addr) (c : Nat) (fs : List Fv) (w : World) (hr : RdF w w.heap.size A fs) (hn : fs.length ≤ 64) (h0 : 0 < fs.length) :
    Calls Try.prog 38 #[.slice A fs.length c] w (FirstEnds w fs) := by
  have START := Lib.hid (First.one key (l := fs.map Fv.fr) (by intro h; rw [List.map_eq_nil_iff] at h; subst h; simp at h0))
  go_enter Try.func38, Try.ntmps38
  go_wp2_with fail
  go_loopw [3, 4] (fun kv iv wr => ∃ i k : Nat, 1 ≤ i ∧ i ≤ fs.length ∧ k < i ∧ kv = .int .i64 (k : Int) ∧ iv = .int .i64 (i : Int) ∧ Hid (First key (fs.map Fv.fr) i k) ∧ Hid (Below w.heap.size w wr)) (fun kv iv _ => fs.length - (intOf iv).toNat)
  case atStart => exact ⟨1, 0, by omega, by omega, by omega, rfl, rfl, START, Lib.hid (Below.refl _ _)⟩
  case round =>
    obtain ⟨i, k, hi1, hi, hki, rfl, rfl, hF, hb⟩ := hrel
    clear START
    by_cases hlt : i < fs.length
    · have hk : k < fs.length := by omega
      obtain ⟨g, off, rfl, hg, _⟩ := hr.three hlt rfl
      have C1 := Lib.hid (fun (W : World) (b : Below w.heap.size w W) => (hr.below b).three hlt rfl)
      have C2 := Lib.hid (fun (W : World) (b : Below w.heap.size w W) => (hr.below b).three hk rfl)
      have j1 : (0 : Int) ≤ (i : Int) := by omega
      have j2 : (i : Int) < (fs.length : Int) := by omega
      have j3 : (0 : Int) ≤ (k : Int) := by omega
      have j4 : (k : Int) < (fs.length : Int) := by omega
      have KEEP := Lib.hid (fun h => First.keep key hF.out (by simpa using hlt) (m := (fs.getD k Fv.zero).fr) (by rw [List.getElem?_eq_getElem (by simpa using hk), fr_get hk]) (by rw [fr_get hlt]; exact h))
      have TURN := Lib.hid (fun h => First.turn key hF.out (by simpa using hlt) (m := (fs.getD k Fv.zero).fr) (by rw [List.getElem?_eq_getElem (by simpa using hk), fr_get hk]) (by rw [fr_get hlt]; exact h))
      generalize fs.getD i Fv.zero = F at *
      generalize fs.getD k Fv.zero = G at *
      have BF := Lib.hid (fun W => rbefore_any F.id F.r F.A F.d.length F.c G.id G.r G.A G.d.length G.c W)
      have KB := Lib.hid (key_before F G)
      have HB := hb
      clear hb hr hF
      go_wp2_with fail
      refine Txt.wp_region_textN 9 (fun W => Below wr.heap.size wr W) (by kernel_rfl) (by kernel_rfl) (by kernel_rfl) (by kernel_rfl) (fun _ _ _ _ _ h => h) (Below.refl _ _).drew ?_
      repeat (
        apply Txt.step rfl
        · intro W hS K hK
          have BW := Lib.hid (HB.out.trans (hS.mono HB.out.size))
          obtain ⟨g1, o1, e1, _, q0, q1, q2, R1⟩ := C1.out W BW.out
          injection e1 with e1
          injection e1 with e1 e2
          subst e1
          subst e2
          obtain ⟨g2, o2, e1, _, u0, u1, u2, R2⟩ := C2.out W BW.out
          injection e1 with e1
          injection e1 with e1 e2
          subst e1
          subst e2
          have HS := Lib.hid hS
          clear hS R1 R2
          go_simp
          first
            | exact hK.out _ HS.out
            | (go_wp2_with (go_at_call 28; refine (BF.out W).mono ?_; rintro e w' ⟨rfl, b⟩; have T := Lib.hid (HS.out.trans (b.mono HS.out.size)); clear b)
               first | exact hK.out _ HS.out | exact hK.out _ T.out)
        · first | exact ⟨_, rfl⟩ | exact ⟨undef, rfl⟩)
      refine Txt.last fun W hS => ?_
      have B4 := Lib.hid (HB.out.trans (hS.mono HB.out.size))
      clear hS C1 C2 HB
      cases hB : before F.id F.r G.id G.r with
      | true =>
        have T := Lib.hid (TURN.out (of_decide_eq_true (KB.out.symm.trans hB)))
        clear TURN KEEP KB
        go_wp2_with fail
        go_roundw
        case rel => exact ⟨i + 1, i, by omega, by omega, by omega, rfl, by go_num, T, B4⟩
        case measure => simp [intOf]; omega
      | false =>
        have hbf := of_decide_eq_false (KB.out.symm.trans hB)
        have T := Lib.hid (KEEP.out (by omega))
        clear TURN KEEP KB hbf
        go_wp2_with fail
        go_roundw
        case rel => exact ⟨i + 1, k, by omega, by omega, by omega, rfl, by go_num, T, B4⟩
        case measure => simp [intOf]; omega
    · obtain rfl : i = fs.length := by omega
      go_wp2_with fail
      go_ret
      exact ⟨k, rfl, hF.out, hb.out⟩

end Txq
end Go.Proofs.Yticlncdkcfdimaa
