/-
  Two lists of frames compared by the document's All.
-/
import Derived.Test.YticlncdkcfdimaaFrmLift
import Derived.Test.YticlncdkcfdimaaText
namespace Go.Proofs.Yticlncdkcfdimaa
namespace Frm
open Go.RowKit Mem
set_option linter.unusedVariables false
set_option linter.unusedSimpArgs false
set_option maxRecDepth 100000

theorem same_fr {f g : Fv} (h : f.fr = g.fr) : same f.id f.r f.d g.id g.r g.d = true := by
  unfold Fv.fr at h
  injection h with h1 h2 h3
  simp [same, h1, h2, h3]
theorem fr_at {fs gs : List Fv} (h : fs.map Fv.fr = gs.map Fv.fr) {k : Nat} (hk : k < fs.length) : (fs.getD k Fv.zero).fr = (gs.getD k Fv.zero).fr := by
  have hl : fs.length = gs.length := by simpa using congrArg List.length h
  have h1 : (fs.map Fv.fr)[k]? = (gs.map Fv.fr)[k]? := by rw [h]
  have hk2 : k < gs.length := by omega
  simp only [List.getElem?_map, List.getElem?_eq_getElem hk, List.getElem?_eq_getElem hk2, Option.map_some, Option.some.injEq] at h1
  simpa [List.getD_eq_getElem?_getD, hk, hk2] using h1

set_option maxHeartbeats 1000000 in
theorem all_any (A : Option Addr) (c : Nat) (fs : List Fv) (A' : Option Addr) (c' : Nat) (gs : List Fv) (w : World) (hr : RdF w w.heap.size A fs) (hr' : RdF w w.heap.size A' gs) (hm : fs.length ≤ 140737488355328) (he : fs.map Fv.fr = gs.map Fv.fr) :
    Calls Try.prog 24 #[.slice A fs.length c, .slice A' gs.length c'] w fun e w' => e = .returned (.bool true) ∧ Below w.heap.size w w' := by
  have hl : fs.length = gs.length := by simpa using congrArg List.length he
  have HE := Lib.hid (fun k hk => same_fr (fr_at he (k := k) hk))
  rw [← hl]
  have HL := Lib.hid hl
  clear he hl
  go_enter Try.func24, Try.ntmps24
  go_wp2_with fail
  go_loopw [5] (fun iv wr => ∃ k : Nat, k ≤ fs.length ∧ iv = .int .i64 (k : Int) ∧ Below w.heap.size w wr) (fun iv _ => fs.length - (intOf iv).toNat)
  case atStart => exact ⟨0, by omega, rfl, Below.refl _ _⟩
  case round =>
    obtain ⟨k, hk, rfl, hb⟩ := hrel
    by_cases hlt : k < fs.length
    · obtain ⟨g, off, rfl, hg, _⟩ := hr.three hlt rfl
      obtain ⟨g', off', rfl, hg', _⟩ := hr'.three (by rw [← HL.out]; exact hlt) rfl
      have E := Lib.hid (HE.out k hlt)
      have C1 := Lib.hid (fun (W : World) (b : Below w.heap.size w W) => (hr.below b).three hlt rfl)
      have C2 := Lib.hid (fun (W : World) (b : Below w.heap.size w W) => (hr'.below b).three (j := k) (by rw [← HL.out]; exact hlt) rfl)
      have i1 : (0 : Int) ≤ (k : Int) := by omega
      have i2 : (k : Int) < (fs.length : Int) := by omega
      have HB := Lib.hid hb
      generalize fs.getD k Fv.zero = F at E C1
      generalize gs.getD k Fv.zero = G at E C2
      clear hb hr hr'
      go_wp2_with fail
      refine Txt.wp_region_textN 10 (fun W => Below wr.heap.size wr W) (by kernel_rfl) (by kernel_rfl) (by kernel_rfl) (by kernel_rfl) (fun _ _ _ _ _ h => h) (Below.refl _ _).drew ?_
      repeat (
        apply Txt.step rfl
        · intro W hS K hK
          have BW := Lib.hid (HB.out.trans (hS.mono HB.out.size))
          obtain ⟨g1, o1, e1, _, q0, q1, q2, R1⟩ := C1.out W BW.out
          injection e1 with e1
          injection e1 with e1 e2
          subst e1
          subst e2
          obtain ⟨g2, o2, e1, _, u0, u1, u2, R2⟩ := C2.out W BW.out
          injection e1 with e1
          injection e1 with e1 e2
          subst e1
          subst e2
          have HS := Lib.hid hS
          have HR1 := Lib.hid R1
          have HR2 := Lib.hid R2
          clear hS R1 R2
          go_simp
          first
            | exact hK.out _ HS.out
            | (go_wp2_with (go_at_call 18; refine (rsame_any F.id F.r F.A F.c F.d G.id G.r G.A G.c G.d _ _ W HR1.out HR2.out BW.out.size BW.out.size).mono ?_; rw [E.out]; rintro e w' ⟨rfl, b⟩; have T := Lib.hid (HS.out.trans (b.mono HS.out.size)); clear b)
               first | exact hK.out _ HS.out | exact hK.out _ T.out)
        · first | exact ⟨_, rfl⟩ | exact ⟨undef, rfl⟩)
      refine Txt.last fun W hS => ?_
      have B4 := Lib.hid (HB.out.trans (hS.mono HB.out.size))
      clear hS C1 C2
      go_wp2_with fail
      go_roundw
      case rel => exact ⟨k + 1, by omega, by go_num, B4.out⟩
      case measure => simp [intOf]; omega
    · obtain rfl : k = fs.length := by omega
      go_wp2_with fail
      go_ret
      exact ⟨rfl, hb⟩
end Frm
end Go.Proofs.Yticlncdkcfdimaa
