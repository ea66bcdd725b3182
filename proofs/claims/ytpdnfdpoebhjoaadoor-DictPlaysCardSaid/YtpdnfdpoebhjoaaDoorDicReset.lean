/-
  Reset of a dictionary.
-/
import Derived.Test.YtpdnfdpoebhjoaaDoorDicApi
namespace Go.Proofs.YtpdnfdpoebhjoaaDoor
namespace Dic
open Go.RowKit Mem Ent
set_option linter.unusedVariables false
set_option linter.unusedSimpArgs false
set_option maxRecDepth 100000

def Rv.back (r : Rv) : Rv := { r with V := r.A, v := r.e.d, cV := r.cA }
/-- The rows of which the first k are their defaults. -/
def rsK (rs : List Rv) (k : Nat) : List Rv := (rs.take k).map Rv.back ++ rs.drop k
theorem rsK_zero (rs : List Rv) : rsK rs 0 = rs := by simp [rsK]
theorem rsK_len (rs : List Rv) (k : Nat) : (rsK rs k).length = rs.length := by simp [rsK]; omega
theorem rsK_get {rs : List Rv} {k : Nat} (hk : k < rs.length) : (rsK rs k).getD k Rv.zero = rs.getD k Rv.zero := by
  unfold rsK
  rw [List.getD_eq_getElem?_getD, List.getElem?_append_right (by simp; omega)]
  simp [List.getD_eq_getElem?_getD, Nat.min_eq_left (Nat.le_of_lt hk), hk]
theorem rsK_next {rs : List Rv} {k : Nat} (hk : k < rs.length) : (rsK rs k).set k (rs.getD k Rv.zero).back = rsK rs (k + 1) := by
  unfold rsK
  rw [List.set_append_right _ _ (by simp; omega), List.take_succ_eq_append_getElem hk, List.map_append, List.append_assoc]
  congr 1
  have e : k - ((rs.take k).map Rv.back).length = 0 := by simp; omega
  rw [e, List.drop_eq_getElem_cons hk, List.set_cons_zero]
  simp [List.getD_eq_getElem?_getD, hk]
theorem rsK_all (rs : List Rv) : rsK rs rs.length = rs.map Rv.back := by simp [rsK]
theorem back_evs (rs : List Rv) : evs (rs.map Rv.back) = evs rs := by simp [evs, Rv.back]
theorem back_vals (rs : List Rv) : (rs.map Rv.back).map (·.v) = (evs rs).map (·.d) := by simp [evs, Rv.back]

section
variable {W : World} {p : Nat} {v : Value} {N : Nat → Prop} {rs : List Rv}
/-- A value is its entry's default again. -/
theorem IsD.back {g c : Nat} (h : IsD W p (.slice (some ⟨g, 0, none⟩) rs.length c) N rs) {k : Nat} (hk : k < rs.length) {r : Rv} (hr : rs.getD k Rv.zero = r) :
    IsD (W.setCell ⟨g, k * 12 + 11, none⟩ (.slice r.A r.e.d.length r.cA)) p (.slice (some ⟨g, 0, none⟩) rs.length c) N (rs.set k r.back) := by
  have hgp : g ≠ p := fun e => h.ne (by rw [← e]; rfl)
  have hm : r ∈ rs := by rw [← hr]; exact getD_mem hk
  have stay : ∀ q, q ≠ g → (W.setCell ⟨g, k * 12 + 11, none⟩ (.slice r.A r.e.d.length r.cA)).heap[q]? = W.heap[q]? := fun q hq => Below.heap_setCell W ⟨g, k * 12 + 11, none⟩ _ q hq
  have sz : (W.setCell ⟨g, k * 12 + 11, none⟩ (.slice r.A r.e.d.length r.cA)).heap.size = W.heap.size := by simp [World.setCell]
  have mv : ∀ {A : Option Addr} {bs : List UInt8}, RdB (Clear W (DN N (.slice (some ⟨g, 0, none⟩) rs.length c))) W A bs → RdB (Clear (W.setCell ⟨g, k * 12 + 11, none⟩ (.slice r.A r.e.d.length r.cA)) (DN N (.slice (some ⟨g, 0, none⟩) rs.length c))) (W.setCell ⟨g, k * 12 + 11, none⟩ (.slice r.A r.e.d.length r.cA)) A bs := fun hb =>
    (hb.keep fun q hq => stay q fun e => hq.2 (.inr (by rw [e]; rfl))).mono fun q hq => ⟨by rw [sz]; exact hq.1, hq.2⟩
  refine ⟨(stay p (Ne.symm hgp)).trans h.blk, ?_, h.np, h.ne, h.nk, fun x hx => ?_, fun x hx => ?_, by simpa using h.few⟩
  · have o1 := (World.ownsRow.stored h.own (k * 12 + 11) (.slice r.A r.e.d.length r.cA)).1
    rw [flat_set rv_len Rv.zero rs k 11 _ r.back hk (by omega) (by rw [hr]; rfl)] at o1
    simpa using o1
  · rcases List.mem_or_eq_of_mem_set hx with hx | rfl
    · exact ⟨mv (h.data x hx).1, mv (h.data x hx).2⟩
    · exact ⟨mv (h.data r hm).1, mv (h.data r hm).1⟩
  · rcases List.mem_or_eq_of_mem_set hx with hx | rfl
    · exact h.ok x hx
    · exact ⟨(h.ok r hm).1, (h.ok r hm).1.d⟩
theorem frozen_of_row' {A : Option Addr} {c : Nat} {g : Nat} {n : Nat} (h : IsD W p (.slice A n c) N rs) (hA : A = some ⟨g, 0, none⟩) (j : Nat) : W.frozen? ⟨g, j, none⟩ = false := by
  subst hA
  rcases h.own.2 with ⟨e, _⟩ | ⟨g1, cap, cur, e, _, hh, _⟩
  · cases e
  · cases e
    exact frozen_of_row W g j _ _ hh
/-- What Reset ends with. -/
def ResetEnds (W : World) (p : Nat) (v : Value) (N : Nat → Prop) (s : Ds) (e : Ending) (w' : World) : Prop := e = .returned (.tuple #[]) ∧ HasD w' p v N s.reset ∧ Upd (fun q => v.ownBlock = some q) W w'

set_option maxHeartbeats 4000000 in
theorem reset_any {s : Ds} (h : HasD W p v N s) : Calls Tryd.prog 36 #[ptr p] W (ResetEnds W p v N s) := by
  obtain ⟨rs, h, e1, e2⟩ := h
  have few := h.few
  have HN := none_any h
  have c0 := h.c0
  obtain ⟨A, c, rfl, _⟩ := h.form
  have HQ := Lib.hid h
  have DONE := Lib.hid (fun w' (q : IsD w' p (.slice A rs.length c) N (rsK rs rs.length)) => show HasD w' p (.slice A rs.length c) N s.reset from by
    refine ⟨_, q, ?_, ?_⟩
    · rw [rsK_all, back_evs, e1]
      rfl
    · rw [rsK_all, back_vals, e1]
      rfl)
  clear h e1 e2
  go_enter Tryd.func36, Tryd.ntmps36
  go_wp2_with fail
  refine HN.mono ?_
  rintro e w' ⟨rfl, rfl⟩
  go_wp2_with fail
  go_loopw [10] (fun iv wr => ∃ k : Nat, k ≤ rs.length ∧ iv = .int .i64 (k : Int) ∧ Hid (IsD wr p (.slice A rs.length c) N (rsK rs k)) ∧ Hid (Upd (fun q => (Value.slice A rs.length c).ownBlock = some q) W wr)) (fun iv _ => rs.length - (intOf iv).toNat)
  case atStart => exact ⟨0, by omega, rfl, by rw [rsK_zero]; exact HQ, Lib.hid (Upd.refl _ _)⟩
  case round =>
    obtain ⟨k, hk, rfl, hD, hU⟩ := hrel
    clear HN c0
    by_cases hlt : k < rs.length
    · have hD' := hD.out
      have hl := rsK_len rs k
      obtain ⟨g, c', e1, hg, z1, z2, QQ, z3⟩ := hD'.at (k := k) (by rw [hl]; exact hlt) (rsK_get hlt)
      injection e1 with e1 e2 e3
      subst e1
      clear e2 e3 z1 z2 z3
      rw [← hl] at hD'
      have BK := Lib.hid (fun X (b : Below wr.heap.size wr X) => show IsD (X.setCell ⟨g, k * 12 + 11, none⟩ (.slice (rs.getD k Rv.zero).A (rs.getD k Rv.zero).e.d.length (rs.getD k Rv.zero).cA)) p (.slice (some ⟨g, 0, none⟩) rs.length c) N (rsK rs (k + 1)) from by
        have := (hD'.below b).back (k := k) (by rw [hl]; exact hlt) (rsK_get hlt)
        rw [rsK_next hlt, hl] at this
        exact this)
      have C := Lib.hid (fun X (b : Below wr.heap.size wr X) => (hD.out.below b).c0)
      have F := Lib.hid (fun X (b : Below wr.heap.size wr X) (j : Nat) => frozen_of_row' (hD.out.below b) rfl j)
      have E := Lib.hid (fun X (b : Below wr.heap.size wr X) => QQ.below hg b)
      have j1 : (0 : Int) ≤ (k : Int) := by omega
      have j2 : (k : Int) < (rs.length : Int) := by omega
      have UP := Lib.hid (fun X (b : Below wr.heap.size wr X) (u : Value) => show Upd (fun q => (Value.slice (some ⟨g, 0, none⟩) rs.length c).ownBlock = some q) W (X.setCell ⟨g, k * 12 + 11, none⟩ u) from (hU.out.next b).set (.inl rfl) _ _)
      have MEAS := Lib.hid hlt
      clear QQ hD hD' hl hU HQ hlt
      generalize rs.getD k Rv.zero = r at *
      have c0 := C.out wr (Below.refl _ _)
      go_wp2_with fail
      clear c0
      refine Txt.wp_region_tail 16 (fun X => Below wr.heap.size wr X) (by kernel_rfl) (by kernel_rfl) (by kernel_rfl) (by kernel_rfl) (by kernel_rfl) (fun _ _ _ _ _ h => h) (Below.refl _ _).drew ?_
      iterate 16 (
        apply Txt.stepR rfl
        · intro X hS K hK
          have c0 := C.out X hS
          obtain ⟨q0, q1, q2, q3, q4, q5, q6, q7, q8, q9, q10, q11⟩ := E.out X hS
          have HS := Lib.hid hS
          clear hS
          go_simp
          exact hK.out _ HS.out
        · first | exact ⟨_, rfl⟩ | exact ⟨undef, rfl⟩)
      refine Txt.lastR rfl ?_
      intro X hS K hK
      have D2 := Lib.hid (BK.out X hS)
      have U2 := Lib.hid (UP.out X hS (.slice r.A r.e.d.length r.cA))
      obtain ⟨q0, q1, q2, q3, q4, q5, q6, q7, q8, q9, q10, q11⟩ := E.out X hS
      have f11 := F.out X hS (k * 12 + 11)
      clear hS BK UP C F E q0 q1 q2 q3 q4 q5 q6 q7 q8 q9 q10
      go_simp
      refine hK.out _ _ ?_
      clear hK K q11 f11
      go_wp2_with fail
      go_roundw
      case rel => exact ⟨k + 1, by have := MEAS.out; omega, by go_num, D2, U2⟩
      case measure => have := MEAS.out; simp [intOf]; omega
    · have hE : k = rs.length := by omega
      have D1 := hD.out
      rw [hE] at D1
      have D2 := Lib.hid (DONE.out wr D1)
      clear D1
      clear hD DONE
      go_wp2_with fail
      go_end0
      exact ⟨rfl, D2.out, hU.out⟩
end
end Dic
end Go.Proofs.YtpdnfdpoebhjoaaDoor
