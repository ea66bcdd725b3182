/-
  What the helpers of the statements do: Lent (bytes with a mark behind them), Kept (are they as they were?), Spoil (writes over bytes, and behind them).
-/
import Derived.Test.YtedcjfgilpgpkaaDoorProg
import Derived.Test.YtedcjfgilpgpkaaDoorOctLay
namespace Go.Proofs.YtedcjfgilpgpkaaDoor
open Go.RowKit Mem
set_option linter.unusedVariables false

/-- Bytes that are lent: the slice reads bs, and a byte 77 stands behind them in the same block. -/
def LentAt (w : World) (base : Nat) (t : TypeId) (g cap : Nat) (bs : List UInt8) : Prop :=
  Own w base t (.slice (some ⟨g, 0, none⟩) (bs.length + 1) cap) (bs ++ [77]) ∧ bs.length + 1 ≤ cap ∧ cap ≤ maxLen ∧ base ≤ g ∧ g < w.heap.size
def LentEnds (t : TypeId) (w : World) (bs : List UInt8) (e : Ending) (w' : World) : Prop :=
  ∃ g cap, e = .returned (.slice (some ⟨g, 0, none⟩) bs.length cap) ∧ LentAt w' w.heap.size t g cap bs ∧ Below w.heap.size w w'

set_option maxRecDepth 100000 in
set_option maxHeartbeats 400000 in
theorem lent_any (A : Option Addr) (n c : Nat) (bs : List UInt8) (w : World) (hr : Rd w w.heap.size A bs) (hn : n = bs.length) (hle : n ≤ 1099511627776) :
    Calls Tryd.prog 10 #[.slice A n c] w (LentEnds 5 w bs) := by
  subst hn
  obtain ⟨i0, hi, hz0, hz1, hz2⟩ := info_parts info_u8
  go_enter Tryd.func10, Tryd.ntmps10
  go_wp2_with (first
    | (at_builtin; refine wpList_app _ rfl (.tmp 4) (.tmp 5) 22 rfl w.heap.size 5 i0 Tryd.underlying22 hi hz0 hz1 hz2 (.slice none 0 0) [] rfl (Own.nil _ _ _) A bs.length c bs rfl rfl w.heap.size hr (by simp; omega) (Nat.le_refl _) ?_; intro v1 w1 o1 g1 t1; have b1 : Below w.heap.size w w1 := (Below.refl _ _).grown g1 (Nat.le_refl _) (by simp [Value.ownBlock]); simp only [List.nil_append] at o1)
    | (at_builtin; refine wpList_app _ rfl (.tmp 7) (.tmp 8) 22 rfl w.heap.size 5 i0 Tryd.underlying22 hi hz0 hz1 hz2 v1 bs rfl (o1.alloc _) (some ⟨w1.heap.size, 0, none⟩) 1 1 [77] rfl rfl (w1.heap.size + 1) (Rd.new1 _ _ (by rfl)) (by simp; omega) (alloc_le b1.size _) ?_; intro v2 w2 o2 g2 t2; obtain ⟨g, cap, hv2, hg, hgs, hc, hcm⟩ := o2.some_ (by simp); have hl : (bs ++ [77]).length = bs.length + 1 := (by simp); rw [hl] at hv2 hc; subst hv2; have b2 : Below w.heap.size w w2 := (b1.alloc b1.size _).grown g2 (alloc_le b1.size _) (fun g hg => (o1.lt g hg).1); clear hl g1 g2 t1 t2 o1))
  go_ret
  exact ⟨g, cap, rfl, ⟨o2, hc, hcm, hg, hgs⟩, b2⟩

theorem LentAt.rd {w : World} {base : Nat} {t : TypeId} {g cap : Nat} {bs : List UInt8} (h : LentAt w base t g cap bs) : Rd w w.heap.size (some ⟨g, 0, none⟩) bs := by
  refine .inr ⟨g, 0, rfl, h.2.2.2.2, fun j hj => ?_⟩
  have h1 := h.1.cell (by simp) (j := j) (by simp; omega)
  rw [Nat.zero_add, h1]
  simp [byt, hj, List.getElem?_append_left]
theorem LentAt.below {w w' : World} {base : Nat} {t : TypeId} {g cap : Nat} {bs : List UInt8} (h : LentAt w base t g cap bs) {B : Nat} (hb : Below B w w') (hB : w.heap.size ≤ B) : LentAt w' base t g cap bs :=
  ⟨h.1.below hb hB, h.2.1, h.2.2.1, h.2.2.2.1, Nat.lt_of_lt_of_le h.2.2.2.2 hb.size⟩

theorem LentAt.keep {w w' : World} {base : Nat} {t : TypeId} {g cap : Nat} {bs : List UInt8} (h : LentAt w base t g cap bs) {B : Nat} (hb : Below B w w') (hg : g < B) : LentAt w' base t g cap bs :=
  ⟨h.1.kept_block (hb.block g hg), h.2.1, h.2.2.1, h.2.2.2.1, Nat.lt_of_lt_of_le h.2.2.2.2 hb.size⟩

set_option maxRecDepth 100000 in
set_option maxHeartbeats 400000 in
theorem kept_yes (A : Option Addr) (n c base B g cap : Nat) (bs : List UInt8) (w : World) (hl : LentAt w base 5 g cap bs) (hr : Rd w B A bs) (hn : n = bs.length) (hle : n ≤ 1099511627776) :
    Calls Tryd.prog 15 #[.slice (some ⟨g, 0, none⟩) n cap, .slice A n c] w fun e w' => e = .returned (.bool true) ∧ w = w' := by
  subst hn
  have s1 := run_str hl.rd bs.length cap rfl 22 5 9 Tryd.underlying22 Tryd.underlying5 Tryd.underlying9
  have s2 := run_str hr bs.length c rfl 22 5 9 Tryd.underlying22 Tryd.underlying5 Tryd.underlying9
  have hc : w.cell? ⟨g, bs.length, none⟩ = some (.int .u8 77) := by
    have h1 := hl.1.cell (by simp) (j := bs.length) (by simp)
    rw [h1]
    simp [byt]
  have hcap := hl.2.1
  have hcm := hl.2.2.1
  unfold maxLen at hcm
  clear hl hr
  go_enter Tryd.func15, Tryd.ntmps15
  go_wp2_with fail
  go_ret
  exact ⟨rfl, rfl⟩

end Go.Proofs.YtedcjfgilpgpkaaDoor
