/-
  Copy of a dictionary.
-/
import Derived.Test.YtpdnfdpoebhjoaaDoorDicNew
namespace Go.Proofs.YtpdnfdpoebhjoaaDoor
namespace Dic
open Go.RowKit Mem Ent
set_option linter.unusedVariables false
set_option linter.unusedSimpArgs false
set_option maxRecDepth 100000

theorem own_row0 (w : World) (t : TypeId) (k : Nat) : (w.alloc (.cells #[] t)).ownsRow w.heap.size t k (.slice (some ⟨w.heap.size, 0, none⟩) 0 0) 0 [] :=
  ⟨by simp, .inr ⟨w.heap.size, 0, #[], rfl, Nat.le_refl _, heap_alloc_new w _, Nat.le_refl _, by simp, by simp, by simp⟩⟩
/-- A call that answers a row of its own. -/
def RowEnds (w : World) (rs : List Rv) (e : Ending) (w' : World) : Prop := ∃ v, e = .returned v ∧ w'.ownsRow w.heap.size RT 12 v rs.length (flat Rv.vals rs) ∧ Below w.heap.size w w'

set_option maxHeartbeats 1000000 in
theorem clones_any (A : Option Addr) (c : Nat) (rs : List Rv) (w : World) (hA : (A = none ∧ rs = [] ∧ c = 0) ∨ ∃ g, A = some ⟨g, 0, none⟩ ∧ ∀ W, Below w.heap.size w W → ∀ j u, (flat Rv.vals rs)[j]? = some u → W.cell? ((⟨g, 0, none⟩ : Addr).add j) = some u) (hn : rs.length ≤ 96) :
    Calls Tryd.prog 61 #[.slice A rs.length c] w (RowEnds w rs) := by
  obtain ⟨i0, hi, hz0, hz1, hz2⟩ := info_parts info_row
  have q : ∀ (w : World) (a : Option Addr) (n c n' c' : Nat), (binOp .eql 60 (.slice a n c) (.slice none n' c')).run Tryd.prog w = .ok (.bool a.isNone) w := fun w a n c n' c' => Lib.run_eql_slice_nil w _ _ a n c n' c' Tryd.underlying60
  rcases hA with ⟨rfl, rfl, rfl⟩ | ⟨g, rfl, hc⟩
  · go_enter Tryd.func61, Tryd.ntmps61
    go_wp2_with fail
    go_ret
    exact ⟨_, rfl, World.ownsRow_nil _ _ _ _, Below.refl _ _⟩
  · have B1 := Lib.hid ((Below.refl w.heap.size w).alloc (Nat.le_refl _) (.cells #[] 66))
    have o1 := own_row0 w 66 12
    have HC := Lib.hid hc
    have HO := Lib.hid (flat_one rv_one rs)
    have HL := Lib.hid (flat_len rv_len rs)
    clear hc
    go_enter Tryd.func61, Tryd.ntmps61
    go_wp2_with (at_builtin; refine wpList_appX _ rfl (.tmp 5) (.tmp 6) 60 rfl w.heap.size 66 i0 _ 12 128 Tryd.underlying60 hi hz0 hz1 hz2 rfl (by decide) _ 0 [] rfl o1 (some ⟨g, 0, none⟩) rs.length c (flat Rv.vals rs) rfl HL.out (.inr ⟨_, rfl, HC.out _ B1.out⟩) HO.out (by unfold maxLen; omega) (by omega) B1.out.size ?_; intro v2 w2 o2 g2 t2)
    go_ret
    rw [Nat.zero_add] at o2
    exact ⟨v2, rfl, o2, B1.out.grown g2 B1.out.size (fun q hq => (o1.lt q hq).1)⟩
/-- What Copy ends with. -/
def CopyEnds (W : World) (v : Value) (N : Nat → Prop) (s : Ds) (e : Ending) (w' : World) : Prop :=
  ∃ p' v', e = .returned (ptr p') ∧ HasD w' p' v' (DN N v) s ∧ W.heap.size ≤ p' ∧ (∀ g, v'.ownBlock = some g → W.heap.size ≤ g) ∧ Below W.heap.size W w'
section
variable {W : World} {p : Nat} {v : Value} {N : Nat → Prop} {s : Ds}
/-- A row and a struct of one's own behind all that was there: the same dictionary once more. -/
theorem IsD.copy {rs : List Rv} (h : IsD W p v N rs) (hN : ∀ q, N q → q < W.heap.size) {w2 : World} {v2 : Value} (o : w2.ownsRow W.heap.size RT 12 v2 rs.length (flat Rv.vals rs)) (b : Below W.heap.size W w2) : IsD (w2.alloc (.cells #[v2, .bool true] DT)) w2.heap.size v2 (DN N v) rs := by
  have hlt : ∀ q, DN N v q → q < W.heap.size := fun q hq => hq.elim (hN q) fun e => h.vlt e
  have b3 := one_b w2 (.cells #[v2, .bool true] DT)
  have hv2 : ∀ g, v2.ownBlock = some g → W.heap.size ≤ g ∧ g < w2.heap.size := fun g hg => o.lt g hg
  have mv : ∀ {A : Option Addr} {bs : List UInt8}, RdB (Clear W (DN N v)) W A bs → RdB (Clear (w2.alloc (.cells #[v2, .bool true] DT)) (DN (DN N v) v2)) (w2.alloc (.cells #[v2, .bool true] DT)) A bs := fun hr =>
    (hr.keep fun g hg => (b3.block g (Nat.lt_of_lt_of_le hg.1 b.size)).trans (b.block g hg.1)).mono fun g hg => ⟨Nat.lt_of_lt_of_le hg.1 (Nat.le_trans b.size b3.size), fun n => n.elim hg.2 fun e => by have := (hv2 g e).1; have := hg.1; omega⟩
  have o3 := own_below o b3
  refine ⟨heap_alloc_new w2 _, ⟨o3.1, ?_⟩, fun n => by have := hlt _ n; have := b.size; omega, fun e => by have := (hv2 _ e).2; omega, fun g hg n => by have := hlt _ n; have := (hv2 g hg).1; omega, fun r hr => ⟨mv (h.data r hr).1, mv (h.data r hr).2⟩, h.ok, h.few⟩
  rcases o3.2 with h1 | ⟨g, cap, cur, e, hb, r⟩
  · exact .inl h1
  · exact .inr ⟨g, cap, cur, e, Nat.zero_le _, r⟩
set_option maxHeartbeats 1000000 in
theorem copy_any (h : HasD W p v N s) (hN : ∀ q, N q → q < W.heap.size) : Calls Tryd.prog 38 #[ptr p] W (CopyEnds W v N s) := by
  obtain ⟨rs, h, e1, e2⟩ := h
  have few := h.few
  have HN' := none_any h
  have c0 := h.c0
  have HQ := Lib.hid h
  obtain ⟨A, c, e, _, _, hA⟩ := own_form (z := Rv.zero) rv_len h.own
  have CL := clones_any A c rs W (by
    rcases hA with h1 | ⟨g, rfl, _, hg, _, hc⟩
    · exact .inl h1
    · refine .inr ⟨g, rfl, fun X b j u hu => ?_⟩
      rw [Addr.add_lit, Nat.zero_add]
      have hj : j < rs.length * 12 := by
        have h1 := (List.getElem?_eq_some_iff.1 hu).1
        rwa [flat_len rv_len] at h1
      have h2 := hc (j / 12) (by omega) (j % 12) (by omega)
      rw [← flat_get rv_len Rv.zero rs (j / 12) (j % 12) (by omega) (by omega), show j / 12 * 12 + j % 12 = j by omega, hu] at h2
      exact (b.cell (p := ⟨g, j, none⟩) hg).trans h2) few
  have CL := Lib.hid CL
  rw [e] at c0
  have CP := Lib.hid (fun w2 v2 o b => h.copy hN (w2 := w2) (v2 := v2) o b)
  have E1 := Lib.hid e1
  have E2 := Lib.hid e2
  clear h e e1 e2 hA
  go_enter Tryd.func38, Tryd.ntmps38
  go_wp2_with fail
  refine HN'.mono ?_
  rintro e w' ⟨rfl, rfl⟩
  go_wp2_with fail
  refine CL.out.mono ?_
  rintro e w2 ⟨v2, rfl, o, b⟩
  have C2 := Lib.hid (CP.out w2 v2 o b)
  have L2 := Lib.hid (fun g (hg : v2.ownBlock = some g) => (o.lt g hg).1)
  have B2 := Lib.hid b
  obtain ⟨A2, c2, rfl⟩ := row_form o
  clear o b CP CL HN'
  go_wp2_with fail
  go_ret
  exact ⟨_, _, rfl, ⟨rs, C2.out, E1.out, E2.out⟩, B2.out.size, L2.out, B2.out.trans ((one_b w2 _).mono B2.out.size)⟩
end
end Dic
end Go.Proofs.YtpdnfdpoebhjoaaDoor
